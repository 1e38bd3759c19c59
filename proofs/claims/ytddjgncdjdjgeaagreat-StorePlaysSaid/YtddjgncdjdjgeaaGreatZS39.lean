/-
  S: PlayS4.
-/
import Derived.Test.YtddjgncdjdjgeaaGreatZS11
import Derived.Test.YtddjgncdjdjgeaaGreatZS32
import Derived.Test.YtddjgncdjdjgeaaGreatZS37
import Derived.Test.YtddjgncdjdjgeaaGreatZS38
namespace Go.Proofs.YtddjgncdjdjgeaaGreat
open Go.RowKit
theorem ChsD.sub' {T T' : List Nat} {w : World} {C : Option Addr} {ls : List ChV} (h : ChsD T w C ls) (hT : ∀ i ∈ T', i ∈ T) : ChsD T' w C ls := ⟨h.chs, fun h0 ad e hm => h.row h0 ad e (hT _ hm), fun a ha h0 ad e hm => h.els a ha h0 ad e (hT _ hm)⟩
def PSE (w0 w : World) (D : SD) (rL rN : List Value) (vs vx : Value) : Prop := ∃ g h ex1 gW gr gP gM ex2 s x v m us rP, vs = .pointer (some ⟨g, 0, none⟩) ∧ vx = .pointer (some ⟨gr, 0, none⟩) ∧ PS w0 w D rL rN g h ex1 gW gr gP gM ex2 s x v m us rP
/-- Behind both Crashes. -/
def CrX (w1 wx : World) (p bL bS bW q gL gN : Nat) (rL rN : List Value) : Prop := ∃ s4 gW4 m4, Sa s4 ∧ DskS wx p bL bS bW s4 ∧ Rfd wx q gL gN gW4 rL rN m4 s4 ∧ w1.heap.size ≤ gW4 ∧ Chg [bL, bS, bW, q, gL, gN] w1 wx
def CmX (w0 w1 wx : World) (D : SD) (rL rN : List Value) (g h gW gr gP gM : Nat) (ex2 : List Nat) (rP : List Value) : Prop := ∃ ex4 s4 x4 v4 m4 us4, PS w0 wx D rL rN g h ex4 gW gr gP gM ex2 s4 x4 v4 m4 us4 rP ∧ Chg (D.d1 g h ++ D.d2 gW gr gP gM) w1 wx
/-- The disks behind play's format. -/
def PX (w0 wx : World) (p bL bS bW q gL gN : Nat) (rL rN : List Value) : Prop := ∃ gW m s, Sa s ∧ DskS wx p bL bS bW s ∧ Rfd wx q gL gN gW rL rN m s ∧ w0.heap.size ≤ gW ∧ (∀ i ∈ [p, bL, bS, bW], i ∉ [q, gL, gN, gW]) ∧ Chg [] w0 wx
section
variable {w : World} {A0 A L : Option Addr} {n0 c0 n c na ca : Nat} {xs : List Int} {al : List AskSV}
set_option maxHeartbeats 32000000 in
set_option maxRecDepth 100000 in
theorem playS_any {l0 : List UInt8} (hb : Bs w A0 n0 c0 l0) (hn0 : n0 ≤ 10000) (lg pg : Int) (fm : Bool) (hl : xs.length = n) (hs : Src w A (nms xs)) (hsp : 0 < n → ∀ ad, A = some ad → ad.spot = none ∧ ad.block < w.heap.size) (hr : ∀ x ∈ xs, -9223372036854775808 ≤ x ∧ x ≤ 9223372036854775807) (hnm : n ≤ 9223372036854775807)
    (has : AsksS w L al) (hna : al.length = na) (hnam : na ≤ 9223372036854775807) :
    Calls Tryz.prog 15 #[.slice A0 n0 c0, .int .i64 lg, .int .i64 pg, .bool fm, .slice A n c, .slice L na ca] w (LawPost w) := by
  have HXL := Lib.hid hl
  have HSR := Lib.hid hs
  have HSP := Lib.hid hsp
  have HXR := Lib.hid hr
  have HAS := Lib.hid has
  have HNA := Lib.hid hna
  have HPR := Lib.hid (pairS_any hb hn0)
  clear hb hl hs hsp hr has hna
  go_enter Tryz.func15, Tryz.ntmps15
  go_wp2_with fail
  refine HPR.out.mono ?_
  rintro e w1 hP
  rcases hP with ⟨rfl, hc1⟩ | ⟨hok, p, bL, bS, bW, q, gL, gN, gW, rL, rN, m, rfl, hd1, hr1, hge, hsep, hc1⟩
  · have HC := Lib.hid hc1
    clear hc1
    go_wp2_with fail
    go_ret
    exact ⟨rfl, HC.out⟩
  have hvl : (St.mk l0 l0 (falses (n0 / 64))).V.length = n0 / 64 := falses_len _
  obtain ⟨s0, hs0⟩ : ∃ s0, s0 = (⟨l0, l0, falses (n0 / 64)⟩ : St) := ⟨_, rfl⟩
  rw [← hs0] at hd1 hr1 hvl
  have HSA0 := Lib.hid (show Sa s0 from by
    rw [hs0]
    refine Sa.of_len ?_
    have h1 := Dsk.lenL hd1
    rw [hs0] at h1
    rw [falses_len] at h1
    exact h1)
  have HD1 := Lib.hid hd1
  have HR1 := Lib.hid hr1
  have HF1 := Lib.hid hge
  have HSE := Lib.hid hsep
  have HC1 := Lib.hid hc1
  clear hd1 hr1 hge hsep hc1 hs0 hvl hok HPR
  go_upto_region 4 with fail
  go_cut [57] (fun v wx => v = .bool false ∧ Hid (PX w wx p bL bS bW q gL gN rL rN))
  case first =>
    cases fm with
    | false =>
      go_wp2_with fail
      refine (alikeS_yes HD1.out HR1.out).mono ?_
      rintro e w2 ⟨rfl, hc2⟩
      have HX := Lib.hid (show PX w w2 p bL bS bW q gL gN rL rN from ⟨gW, m, s0, HSA0.out, Dsk.keep HD1.out hc2, Rfx.keep HR1.out hc2, HF1.out _ (by simp), HSE.out, HC1.out.new hc2⟩)
      clear hc2
      go_wp2_with fail
      go_meet
      exact ⟨rfl, HX⟩
    | true =>
      go_wp2_with fail
      refine (format_any HD1.out lg pg).mono ?_
      rintro e w2 hF
      have hsz1 : ∀ i ∈ [p, bL, bS, bW], i < w1.heap.size := fun i hi => by
        have h1 := (Dsk.rec_ HD1.out).lt
        have h2 := (Dsk.last HD1.out).lt
        have h3 := (Dsk.seen HD1.out).lt
        have h4 := (Dsk.wait HD1.out).lt
        simp only [List.mem_cons, List.not_mem_nil, or_false] at hi
        rcases hi with rfl | rfl | rfl | rfl <;> omega
      have HSZ1 := Lib.hid hsz1
      clear hsz1
      rcases hF with ⟨hR, rfl, hd2, hc2⟩ | ⟨hR, rfl, hc2⟩
      · have HR := Lib.hid hR
        have key : ∀ j ∈ [q, gL, gN, gW], j ∉ [bL, bS, bW] := fun j hj hm => HSE.out j (List.mem_cons_of_mem _ hm) hj
        have HR2 := Lib.hid (Rfx.away HR1.out hc2 (key _ (by simp)) (key _ (by simp)) (key _ (by simp)) (key _ (by simp)))
        have HD2 := Lib.hid hd2
        have HC2 := Lib.hid (HC1.out.then_ hc2 (fun i hi hw => by have := HF1.out i (by simp only [List.mem_cons, List.not_mem_nil, or_false] at hi ⊢; rcases hi with h | h | h <;> simp [h]); omega))
        have HZ2 := Lib.hid hc2.size
        clear hR hd2 hc2 key
        go_wp2_with fail
        refine (rformat_any HR2.out lg pg).mono ?_
        rintro e w3 hG
        obtain ⟨rfl, gW3, m3, hr3, hg3, hc3⟩ : e = .returned (.int .i64 0) ∧ ∃ gW3 m3, Rfd w3 q gL gN gW3 rL rN m3 (fmt s0 lg.toNat pg.toNat) ∧ (gW3 = gW ∨ w2.heap.size ≤ gW3) ∧ Chg [q, gL, gN, gW] w2 w3 := by
          rcases hG with ⟨_, h1, ⟨gW3, m3, h2, h3⟩, h4⟩ | ⟨h0, _⟩
          · exact ⟨h1, gW3, m3, h2, h3, h4⟩
          · rw [HR.out] at h0; cases h0
        have HD3 := Lib.hid (Dsk.away HD2.out hc3 (HSE.out _ (by simp)) (HSE.out _ (by simp)) (HSE.out _ (by simp)) (HSE.out _ (by simp)))
        have HR3 := Lib.hid hr3
        have HC3 := Lib.hid (HC2.out.then_ hc3 (fun i hi hw => by have := HF1.out i (by simp only [List.mem_cons, List.not_mem_nil, or_false] at hi ⊢; rcases hi with h | h | h | h <;> simp [h]); omega))
        have HG3 := Lib.hid (show w.heap.size ≤ gW3 ∧ ∀ i ∈ [p, bL, bS, bW], i ∉ [q, gL, gN, gW3] from by
          have h1 := HZ2.out
          have h2 := HC2.out.size
          refine ⟨?_, fun i hi hm => ?_⟩
          · rcases hg3 with rfl | h
            · exact HF1.out _ (by simp)
            · omega
          · have h3 := HSE.out i hi
            have h4 := HSZ1.out i hi
            simp only [List.mem_cons, List.not_mem_nil, or_false] at hm h3
            rcases hm with e | e | e | e
            · exact h3 (.inl e)
            · exact h3 (.inr (.inl e))
            · exact h3 (.inr (.inr (.inl e)))
            · rcases hg3 with h | h
              · exact h3 (.inr (.inr (.inr (by rw [e, h]))))
              · omega)
        have HSA3 := Lib.hid (HSA0.out.fmt lg.toNat pg.toNat (by have := rightR_true.1 HR.out; omega))
        clear hG hr3 hg3 hc3
        go_wp2_with fail
        refine (alikeS_yes HD3.out HR3.out).mono ?_
        rintro e w4 ⟨rfl, hc4⟩
        have HX := Lib.hid (show PX w w4 p bL bS bW q gL gN rL rN from ⟨gW3, m3, _, HSA3.out, Dsk.keep HD3.out hc4, Rfx.keep HR3.out hc4, HG3.out.1, HG3.out.2, HC3.out.new hc4⟩)
        clear hc4
        go_wp2_with fail
        go_meet
        exact ⟨rfl, HX⟩
      · have HR := Lib.hid hR
        have HR2 := Lib.hid (Rfx.keep HR1.out hc2)
        have HD2 := Lib.hid (Dsk.keep HD1.out hc2)
        have HC2 := Lib.hid (HC1.out.new hc2)
        clear hR hc2
        go_wp2_with fail
        refine (rformat_any HR2.out lg pg).mono ?_
        rintro e w3 hG
        obtain ⟨rfl, hc3⟩ : e = .returned (.int .i64 25) ∧ Chg [] w2 w3 := by
          rcases hG with ⟨h0, _⟩ | ⟨_, h1, h2⟩
          · rw [HR.out] at h0; cases h0
          · exact ⟨h1, h2⟩
        have HD3 := Lib.hid (Dsk.keep HD2.out hc3)
        have HR3 := Lib.hid (Rfx.keep HR2.out hc3)
        have HC3 := Lib.hid (HC2.out.new hc3)
        clear hG hc3
        go_wp2_with fail
        refine (alikeS_yes HD3.out HR3.out).mono ?_
        rintro e w4 ⟨rfl, hc4⟩
        have HX := Lib.hid (show PX w w4 p bL bS bW q gL gN rL rN from ⟨gW, m, s0, HSA0.out, Dsk.keep HD3.out hc4, Rfx.keep HR3.out hc4, HF1.out _ (by simp), HSE.out, HC3.out.new hc4⟩)
        clear hc4
        go_wp2_with fail
        go_meet
        exact ⟨rfl, HX⟩
  case rest =>
  obtain ⟨rfl, HPX⟩ := hcut
  obtain ⟨w2, hw2⟩ : ∃ w2 : World, w2 = wc := ⟨_, rfl⟩
  subst hw2
  obtain ⟨gW2, m2, s, hsa, hd2, hr2, hgw2, hse2, hc2⟩ := HPX.out
  have HSA := Lib.hid hsa
  have HD2 := Lib.hid hd2
  have HR2 := Lib.hid hr2
  have HGW := Lib.hid hgw2
  have HSE2 := Lib.hid hse2
  have HC2 := Lib.hid hc2
  have HFR := Lib.hid (show ∀ i ∈ [p, bL, bS, bW, q, gL, gN], w.heap.size ≤ i from fun i hi => HF1.out i (by simp only [List.mem_cons, List.not_mem_nil, or_false] at hi ⊢; rcases hi with h | h | h | h | h | h | h <;> simp [h]))
  clear HPX hsa hd2 hr2 hgw2 hse2 hc2 HD1 HR1 HC1 HSA0 HF1 HSE
  go_wp2_with fail
  refine (open_ex (ex := [q, gL, gN, gW2]) HD2.out (fun i hi => by
    have h1 := (Rfx.rec_ HR2.out).lt
    have h2 := (Rfx.last HR2.out).lt
    have h3 := (Rfx.now HR2.out).lt
    have h4 := (Rfx.wait HR2.out).lt
    simp only [List.mem_cons, List.not_mem_nil, or_false] at hi
    rcases hi with rfl | rfl | rfl | rfl <;> omega)).mono ?_
  rintro e w3 hO
  rcases hO with ⟨hen, rfl, hc3⟩ | ⟨hen, rfl, hc3⟩ | ⟨h0, h1, hO2⟩
  · have hO := True.intro
    have HH := Lib.hid (show (bestK s.V.length s.S 2).epoch = 0 from hen)
    have HE := Lib.hid (And.intro hen hc3)
    have key : ∀ j ∈ [q, gL, gN, gW2], j < w3.heap.size := fun j hj => by
      have h1 := (Rfx.rec_ HR2.out).lt
      have h2 := (Rfx.last HR2.out).lt
      have h3 := (Rfx.now HR2.out).lt
      have h4 := (Rfx.wait HR2.out).lt
      have h5 := hc3.size
      simp only [List.mem_cons, List.not_mem_nil, or_false] at hj
      rcases hj with rfl | rfl | rfl | rfl <;> omega
    have HD3 := Lib.hid (Dsk.keep HD2.out hc3)
    have HR3 := Lib.hid (Rfx.keep HR2.out hc3)
    have HC3 := Lib.hid (HC2.out.new hc3)
    clear hO hen hc3 key HE
    go_wp2_with fail
    refine (ropen_any (d := ⟨s, -1, m2⟩) HR3.out (ex := []) (fun i hi => by cases hi)).mono ?_
    rintro e w4 hG
    obtain ⟨rfl, hc4⟩ : e = .returned (.tuple #[.pointer none, .int .i64 22]) ∧ Chg [] w3 w4 := by
      have hh := HH.out
      unfold ROpenPost at hG
      simp only at hG
      rcases hG with ⟨h0, h1, h2⟩ | ⟨h0, h1, h2⟩ | ⟨h0, h1, _⟩
      · first | exact ⟨h1, h2⟩ | (exfalso; omega)
      · first | exact ⟨h1, h2⟩ | (exfalso; omega)
      · exfalso; omega
    have HD4 := Lib.hid (Dsk.keep HD3.out hc4)
    have HR4 := Lib.hid (Rfx.keep HR3.out hc4)
    have HC4 := Lib.hid (HC3.out.new hc4)
    clear hG hc4
    go_wp2_with fail
    refine (alikeS_yes HD4.out HR4.out).mono ?_
    rintro e w5 ⟨rfl, hc5⟩
    have HC5 := Lib.hid (HC4.out.new hc5)
    clear hc5
    go_upto_region 11 with fail
    have hal := (Chg.refl [] w5).alloc (.cells #[.slice A n c, .int .i64 0] 63)
    have HC6 := Lib.hid (HC5.out.new hal)
    clear hal
    generalize w5.alloc (.cells #[.slice A n c, .int .i64 0] 63) = w6 at HC6 ⊢
    go_wp2_with fail
    go_loopw [15, 16, 17, 18, 20, 21, 22] (fun t15 _ _ _ i _ _ wr => t15 = .pointer none ∧ i = .int .i64 0 ∧ Hid (Chg [] w wr)) (fun _ _ _ _ _ _ _ _ => 0)
    case atStart => exact ⟨rfl, rfl, HC6⟩
    case round =>
      obtain ⟨rfl, rfl, HCr⟩ := hrel
      by_cases h0 : 0 < na
      · have hI : (0 : Int) < (na : Int) := by omega
        go_wp2_with fail
        go_ret
        exact ⟨rfl, HCr.out⟩
      · have hI : ¬ (0 : Int) < (na : Int) := by omega
        go_wp2_with fail
        go_ret
        exact ⟨rfl, HCr.out⟩
  · have hO := True.intro
    have HH := Lib.hid (show (bestK s.V.length s.S 2).epoch = 4294967295 from hen)
    have HE := Lib.hid (And.intro hen hc3)
    have key : ∀ j ∈ [q, gL, gN, gW2], j < w3.heap.size := fun j hj => by
      have h1 := (Rfx.rec_ HR2.out).lt
      have h2 := (Rfx.last HR2.out).lt
      have h3 := (Rfx.now HR2.out).lt
      have h4 := (Rfx.wait HR2.out).lt
      have h5 := hc3.size
      simp only [List.mem_cons, List.not_mem_nil, or_false] at hj
      rcases hj with rfl | rfl | rfl | rfl <;> omega
    have HD3 := Lib.hid (Dsk.keep HD2.out hc3)
    have HR3 := Lib.hid (Rfx.keep HR2.out hc3)
    have HC3 := Lib.hid (HC2.out.new hc3)
    clear hO hen hc3 key HE
    go_wp2_with fail
    refine (ropen_any (d := ⟨s, -1, m2⟩) HR3.out (ex := []) (fun i hi => by cases hi)).mono ?_
    rintro e w4 hG
    obtain ⟨rfl, hc4⟩ : e = .returned (.tuple #[.pointer none, .int .i64 24]) ∧ Chg [] w3 w4 := by
      have hh := HH.out
      unfold ROpenPost at hG
      simp only at hG
      rcases hG with ⟨h0, h1, h2⟩ | ⟨h0, h1, h2⟩ | ⟨h0, h1, _⟩
      · first | exact ⟨h1, h2⟩ | (exfalso; omega)
      · first | exact ⟨h1, h2⟩ | (exfalso; omega)
      · exfalso; omega
    have HD4 := Lib.hid (Dsk.keep HD3.out hc4)
    have HR4 := Lib.hid (Rfx.keep HR3.out hc4)
    have HC4 := Lib.hid (HC3.out.new hc4)
    clear hG hc4
    go_wp2_with fail
    refine (alikeS_yes HD4.out HR4.out).mono ?_
    rintro e w5 ⟨rfl, hc5⟩
    have HC5 := Lib.hid (HC4.out.new hc5)
    clear hc5
    go_upto_region 11 with fail
    have hal := (Chg.refl [] w5).alloc (.cells #[.slice A n c, .int .i64 0] 63)
    have HC6 := Lib.hid (HC5.out.new hal)
    clear hal
    generalize w5.alloc (.cells #[.slice A n c, .int .i64 0] 63) = w6 at HC6 ⊢
    go_wp2_with fail
    go_loopw [15, 16, 17, 18, 20, 21, 22] (fun t15 _ _ _ i _ _ wr => t15 = .pointer none ∧ i = .int .i64 0 ∧ Hid (Chg [] w wr)) (fun _ _ _ _ _ _ _ _ => 0)
    case atStart => exact ⟨rfl, rfl, HC6⟩
    case round =>
      obtain ⟨rfl, rfl, HCr⟩ := hrel
      by_cases h0 : 0 < na
      · have hI : (0 : Int) < (na : Int) := by omega
        go_wp2_with fail
        go_ret
        exact ⟨rfl, HCr.out⟩
      · have hI : ¬ (0 : Int) < (na : Int) := by omega
        go_wp2_with fail
        go_ret
        exact ⟨rfl, HCr.out⟩
  · have HH := Lib.hid (show 0 < (bestK s.V.length s.S 2).epoch ∧ (bestK s.V.length s.S 2).epoch < 4294967295 from ⟨h0, h1⟩)
    obtain ⟨g, h, v3, rfl, hg, hh, hst, hc3⟩ := hO2
    have hO := True.intro
    have hO2 : ∃ g' h' v', w2.heap.size ≤ g' ∧ w2.heap.size ≤ h' ∧ Sto w3 ⟨p, bL, bS, bW, g', h', [q, gL, gN, gW2]⟩ (ckS s (openV s (bestK s.V.length s.S 2))) (ckV (openV s (bestK s.V.length s.S 2))) v' ∧ Chg [bL, bS, bW] w2 w3 := ⟨g, h, v3, hg, hh, hst, hc3⟩
    clear h0 h1
    have HB2 := Lib.hid (show ∀ i ∈ [q, gL, gN, gW2], i < w2.heap.size from fun i hi => by
      have h1 := (Rfx.rec_ HR2.out).lt
      have h2 := (Rfx.last HR2.out).lt
      have h3 := (Rfx.now HR2.out).lt
      have h4 := (Rfx.wait HR2.out).lt
      simp only [List.mem_cons, List.not_mem_nil, or_false] at hi
      rcases hi with rfl | rfl | rfl | rfl <;> omega)
    have HGH := Lib.hid (And.intro hg hh)
    have HST3 := Lib.hid hst
    have hkey : ∀ j ∈ [q, gL, gN, gW2], j ∉ [bL, bS, bW] := fun j hj hm => HSE2.out j (List.mem_cons_of_mem _ hm) hj
    have HR3 := Lib.hid (Rfx.away HR2.out hc3 (hkey _ (by simp)) (hkey _ (by simp)) (hkey _ (by simp)) (hkey _ (by simp)))
    have HC3 := Lib.hid (HC2.out.then_ hc3 (fun i hi hw => by have := HFR.out i (by simp only [List.mem_cons, List.not_mem_nil, or_false] at hi ⊢; rcases hi with h | h | h <;> simp [h]); omega))
    have HL3 := Lib.hid (show ∀ i ∈ [p, bL, bS, bW, g, h], i < w3.heap.size from fun i hi => HST3.out.lts i (by
      simp only [SK.D, List.mem_cons, List.not_mem_nil, or_false] at hi ⊢
      rcases hi with h | h | h | h | h | h <;> simp [h]))
    clear hO hO2 hg hh hst hc3 hkey
    go_wp2_with fail
    refine (ropen_any (d := ⟨s, -1, m2⟩) HR3.out (ex := [p, bL, bS, bW, g, h]) HL3.out).mono ?_
    rintro e w4 hG
    obtain ⟨gr, gP, gM, gW4, us, rP, rfl, hgr, hgP, hgM, hg4, hrs, hc4⟩ : ∃ gr gP gM gW4 us rP, e = .returned (.tuple #[.pointer (some ⟨gr, 0, none⟩), .int .i64 0]) ∧ w3.heap.size ≤ gr ∧ w3.heap.size ≤ gP ∧ w3.heap.size ≤ gM ∧ (gW4 = gW2 ∨ w3.heap.size ≤ gW4) ∧ RSto w4 ⟨q, gL, gN, gr, gP, gM, [p, bL, bS, bW, g, h]⟩ gW4 rL rN (Dg.run ⟨s, -1, m2⟩ (ckDs (openV s (bestK s.V.length s.S 2)))) (ckV (openV s (bestK s.V.length s.S 2))) us rP ∧ Chg [q, gL, gN, gW2] w3 w4 := by
      have hh := HH.out
      unfold ROpenPost at hG
      simp only at hG
      rcases hG with ⟨h0, _⟩ | ⟨h0, _⟩ | ⟨_, _, gr, gP, gM, gW4, us, rP, h1, h2, h3, h4, h5, h6, h7⟩
      · omega
      · omega
      · exact ⟨gr, gP, gM, gW4, us, rP, h1, h2, h3, h4, h5, h6, h7⟩
    rw [Dg.run_all, doD_ck] at hrs
    have hsa3 : Sa (ckS s (openV s (bestK s.V.length s.S 2))) := by
      have hr := (bestK_right s.V.length s.S 2).resolve_left (by have := HH.out; omega)
      have t1 : (openV s (bestK s.V.length s.S 2)).L = (bestK s.V.length s.S 2).log := (turn_same _ _).1
      have t2 : (openV s (bestK s.V.length s.S 2)).P = (bestK s.V.length s.S 2).pages := (turn_same _ _).2.1
      have t3 : (openV s (bestK s.V.length s.S 2)).E = (bestK s.V.length s.S 2).epoch := (turn_same _ _).2.2.1
      exact HSA.out.ckS (by rw [t1, t2, t3]; exact hr) HST3.out.pl HST3.out.p64
    obtain ⟨ex4, hps⟩ := ps_open (w0 := w) (D := ⟨p, bL, bS, bW, q, gL, gN, []⟩) (gW := gW2) HC3.out.size HST3.out hsa3 (fun i hi => hi) (fun i hi => by cases hi) (fun i hi hm => by
        have h1 := HB2.out i hm
        have h2 := HGH.out
        simp only [SD.d1, List.mem_cons, List.not_mem_nil, or_false] at hi
        rcases hi with e | e | e | e | e | e
        · exact HSE2.out i (by simp [e]) hm
        · exact HSE2.out i (by simp [e]) hm
        · exact HSE2.out i (by simp [e]) hm
        · exact HSE2.out i (by simp [e]) hm
        · omega
        · omega) hc4 hrs hg4 hgr hgP hgM (fun i hi => by
        have h3 := HGW.out
        have h4 := HFR.out
        simp only [List.mem_cons, List.not_mem_nil, or_false] at hi h4
        rcases hi with e | e | e | e
        · exact h4 i (by simp [e])
        · exact h4 i (by simp [e])
        · exact h4 i (by simp [e])
        · omega) (fun i hi => by
        have h2 := HGH.out
        have h3 := HC2.out.size
        have h4 := HFR.out
        simp only [List.mem_cons, List.not_mem_nil, or_false] at hi h4
        rcases hi with e | e | e | e | e | e
        · exact h4 i (by simp [e])
        · exact h4 i (by simp [e])
        · exact h4 i (by simp [e])
        · exact h4 i (by simp [e])
        · omega
        · omega) (fun i hi => hi) (fun i hi => by cases hi) (fun i hi => ⟨by
        have h2 := HGH.out
        have h3 := HC2.out.size
        have h4 := HFR.out
        simp only [SD.d1, List.mem_cons, List.not_mem_nil, or_false] at hi h4
        rcases hi with e | e | e | e | e | e
        · exact h4 i (by simp [e])
        · exact h4 i (by simp [e])
        · exact h4 i (by simp [e])
        · exact h4 i (by simp [e])
        · omega
        · omega, by simp⟩) (fun i hi => ⟨by
        have h3 := HGW.out
        have h4 := HFR.out
        simp only [List.mem_cons, List.not_mem_nil, or_false] at hi h4
        rcases hi with e | e | e | e
        · exact h4 i (by simp [e])
        · exact h4 i (by simp [e])
        · exact h4 i (by simp [e])
        · omega, by simp⟩)
    have HPS4 := Lib.hid hps
    have HC4 := Lib.hid (HC3.out.then_ hc4 (fun i hi hw => by
      have h3 := HGW.out
      have h4 := HFR.out
      simp only [List.mem_cons, List.not_mem_nil, or_false] at hi h4
      rcases hi with e | e | e | e
      · have := h4 i (by simp [e]); omega
      · have := h4 i (by simp [e]); omega
      · have := h4 i (by simp [e]); omega
      · omega))
    clear hG hgr hgP hgM hg4 hrs hc4 hsa3 hps
    go_wp2_with fail
    refine (alikeS_yes HPS4.out.st.dsk HPS4.out.rs.dsk).mono ?_
    rintro e w5 ⟨rfl, hc5⟩
    have HPS5 := Lib.hid (HPS4.out.keep hc5)
    have HC5 := Lib.hid (HC4.out.new hc5)
    clear hc5
    go_upto_region 11 with fail
    have hal := (Chg.refl [] w5).alloc (.cells #[.slice A n c, .int .i64 0] 63)
    have hTW : Whole (w5.alloc (.cells #[.slice A n c, .int .i64 0] 63)) w5.heap.size 63 [.slice A n c, .int .i64 0] := Whole.new w5 63 [.slice A n c, .int .i64 0]
    obtain ⟨pt, hpt⟩ : ∃ g, g = w5.heap.size := ⟨_, rfl⟩
    have HPS6 := Lib.hid (HPS5.out.addpt HC5.out.size hal (pt := pt) (by omega) (by have := hTW.lt; omega))
    rw [← hpt] at hTW ⊢
    have HC6 := Lib.hid (HC5.out.new hal)
    have HPT := Lib.hid (show w.heap.size ≤ pt from by have := HC5.out.size; omega)
    generalize w5.alloc (.cells #[.slice A n c, .int .i64 0] 63) = w6 at hal hTW HPS6 HC6 ⊢
    have HT6 := Lib.hid (show ∃ a, Tp w6 pt A n c xs a from ⟨0, by simpa using hTW, HXL.out, HSR.out.keep HC6.out, fun h0 ad e => ⟨(HSP.out h0 ad e).1, by have h1 := (HSP.out h0 ad e).2; have h2 := HPT.out; omega⟩, HXR.out, Nat.zero_le _, hnm⟩)
    have HPE6 := Lib.hid (show PSE w w6 ⟨p, bL, bS, bW, q, gL, gN, [pt]⟩ rL rN (.pointer (some ⟨g, 0, none⟩)) (.pointer (some ⟨gr, 0, none⟩)) from ⟨_, _, _, _, _, _, _, _, _, _, _, _, _, _, rfl, rfl, HPS6.out⟩)
    have HTC := Lib.hid (show ∀ (u1 u2 : World) (T : List Nat), (∀ i ∈ T, w.heap.size ≤ i ∧ i ∉ (SD.mk p bL bS bW q gL gN [pt]).pts) → Chg T u1 u2 → (∃ a, Tp u1 pt A n c xs a) → ∃ a, Tp u2 pt A n c xs a from fun u1 u2 T hT hc ⟨a, ht⟩ => ⟨a, ht.chg hc (fun hm => (hT _ hm).2 (by simp)) (fun h0 ad e hm => by have h1 := (HSP.out h0 ad e).2; have h2 := (hT _ hm).1; omega)⟩)
    clear hal hTW hpt HPS4 HPS5 HPS6 HD2 HR2 HR3 HST3 HL3 HB2 HGH HSA HSE2 HGW HH
    go_wp2_with fail
    go_loopw [15, 16, 17, 18, 20, 21, 22] (fun t15 _ t17 _ i _ _ wr => ∃ j : Nat, i = .int .i64 (j : Int) ∧ j ≤ na ∧ j ≤ 40 ∧ Hid (∃ a, Tp wr pt A n c xs a) ∧ Hid (PSE w wr ⟨p, bL, bS, bW, q, gL, gN, [pt]⟩ rL rN t15 t17) ∧ Hid (Chg [] w wr)) (fun _ _ _ _ i _ _ _ => 40 - (intOf i).toNat)
    case atStart => exact ⟨0, rfl, Nat.zero_le _, by omega, HT6, HPE6, HC6⟩
    case round =>
      obtain ⟨j, rfl, hj, hj40, HTr, HPr, HCr⟩ := hrel
      clear HT6 HPE6 HC6
      obtain ⟨g, h, ex1, gW, gr, gP, gM, ex2, s, x, v, m, us, rP, rfl, rfl, hps⟩ := HPr.out
      have HPS := Lib.hid hps
      clear hps HPr
      by_cases hlt : j < na
      · have hjI : (j : Int) < (na : Int) := by omega
        have hj0 : (0 : Int) ≤ (j : Int) := by omega
        by_cases hlt4 : j < 40
        · have hj4 : (j : Int) < 40 := by omega
          obtain ⟨ak, hak⟩ : ∃ a, al[j]? = some a := ⟨_, List.getElem?_eq_getElem (by have := HNA.out; omega)⟩
          have hao := HAS.out.ok ak (List.mem_of_getElem? hak)
          obtain ⟨ga, oa, rfl, hga, hce⟩ := HAS.out.cells (by have := HNA.out; omega)
          obtain ⟨e0, e1, e2, e3⟩ := hce j ak hak
          have hkp : ∀ i, wr.cell? ⟨ga, i, none⟩ = w.cell? ⟨ga, i, none⟩ := fun i => World.cell?_of_block (w := w) (HCr.out.block ga hga (by simp))
          have c0 := (hkp _).trans e0
          have c1 := (hkp _).trans e1
          have c2 := (hkp _).trans e2
          have c3 := (hkp _).trans e3
          clear hce e0 e1 e2 e3 hkp hga hak
          obtain ⟨kind, num, cA, cn, cc, Cs, rA, rn, rc, Rs⟩ := ak
          simp only at c0 c1 c2 c3
          have HAO := Lib.hid hao
          clear hao
          go_upto_region 15 with fail
          have hal := (Chg.refl [] wr).alloc (.cells #[.int .i64 kind, .int .i64 num, .slice cA cn cc, .slice rA rn rc] 83)
          have hask := Whole.new wr 83 [.int .i64 kind, .int .i64 num, .slice cA cn cc, .slice rA rn rc]
          have P1 := Lib.hid (HPS.out.keep hal)
          have HC1 := Lib.hid (HCr.out.new hal)
          have HT1 := Lib.hid (HTC.out _ _ [] (fun i hi => by cases hi) hal HTr.out)
          obtain ⟨gq, hgq⟩ : ∃ g, g = wr.heap.size := ⟨_, rfl⟩
          rw [← hgq] at hask ⊢
          generalize wr.alloc (.cells #[.int .i64 kind, .int .i64 num, .slice cA cn cc, .slice rA rn rc] 83) = w1 at hal hask P1 HC1 HT1 ⊢
          have HASK := Lib.hid hask
          have a0 := hask.cell 0
          clear hal hask hgq c0 c1 c2 c3 HPS HCr HTr
          by_cases hk4 : kind = 4
          · subst hk4
            have hsy := sync_any P1.out.st
            have HSY := Lib.hid hsy
            clear hsy
            go_wp2_with fail
            refine HSY.out.mono ?_
            rintro e w3 ⟨rfl, hs3, hc3⟩
            have HH3 := Lib.hid (P1.out.half (T := [bL, bS, bW]) (fun i hi => by simp only [SD.d1, List.mem_cons, List.not_mem_nil, or_false] at hi ⊢; rcases hi with h | h | h <;> simp [h]) hc3 hs3)
            have HC3 := Lib.hid (HC1.out.then_ hc3 (fun i hi hw => by have := (P1.out.f1 i (by simp only [SD.d1, List.mem_cons, List.not_mem_nil, or_false] at hi ⊢; rcases hi with h | h | h <;> simp [h])).1; omega))
            have HT3 := Lib.hid (HTC.out _ _ _ (fun i hi => P1.out.f1 i (by simp only [SD.d1, List.mem_cons, List.not_mem_nil, or_false] at hi ⊢; rcases hi with h | h | h <;> simp [h])) hc3 HT1.out)
            have HRF := Lib.hid (rfflush HH3.out.rs.dsk)
            clear hs3 hc3 HSY
            go_wp2_with fail
            refine HRF.out.mono ?_
            rintro e w4 ⟨rfl, ⟨gW4, m4, hd4, hg4⟩, hc4⟩
            have HPN := Lib.hid (HH3.out.whole HC3.out.size P1.out.sa.flA (T := [q, gL]) (fun i hi => by simp only [SD.d2, List.mem_cons, List.not_mem_nil, or_false] at hi ⊢; rcases hi with h | h <;> simp [h]) hc4 hg4 (HH3.out.rs.flushed hd4 hg4 hc4))
            have HCN := Lib.hid (HC3.out.then_ hc4 (fun i hi hw => by have := (P1.out.f2 i (by simp only [SD.d2, List.mem_cons, List.not_mem_nil, or_false] at hi ⊢; rcases hi with h | h <;> simp [h])).1; omega))
            have HTN := Lib.hid (HTC.out _ _ _ (fun i hi => P1.out.f2 i (by simp only [SD.d2, List.mem_cons, List.not_mem_nil, or_false] at hi ⊢; rcases hi with h | h <;> simp [h])) hc4 HT3.out)
            clear hd4 hg4 hc4 HRF
            go_wp2_with fail
            refine (sameS_any HPN.out.st HPN.out.rs).mono ?_
            rintro e w9 ⟨rfl, hc9⟩
            have HPE := Lib.hid (show PSE w w9 ⟨p, bL, bS, bW, q, gL, gN, [pt]⟩ rL rN (.pointer (some ⟨g, 0, none⟩)) (.pointer (some ⟨gr, 0, none⟩)) from ⟨_, _, _, _, _, _, _, _, _, _, _, _, _, _, rfl, rfl, HPN.out.keep hc9⟩)
            have HTE := Lib.hid (show ∃ a, Tp w9 pt A n c xs a from by obtain ⟨a, h⟩ := HTN.out; exact ⟨a, h.chg hc9 (by simp) (fun _ _ _ h => by cases h)⟩)
            have HCE := Lib.hid (HCN.out.new hc9)
            clear hc9
            go_wp2_with fail
            go_roundw
            case rel => exact ⟨j + 1, by go_num, by omega, by omega, HTE, HPE, HCE⟩
            case measure => simp [intOf]; omega
          have q4 : (kind == 4) = false := by simp [hk4]
          by_cases hk5 : kind = 5
          · subst hk5
            clear q4 hk4
            by_cases hE : x.E = 4294967295
            · have HK1 := Lib.hid (ck_full P1.out.st hE)
              have HE := Lib.hid hE
              clear hE
              go_wp2_with fail
              refine HK1.out.mono ?_
              rintro e w3 ⟨rfl, hc3⟩
              have P3 := Lib.hid (P1.out.keep hc3)
              have HK2 := Lib.hid (rck_full P3.out.rs HE.out)
              have HC3 := Lib.hid (HC1.out.new hc3)
              have HT3 := Lib.hid (HTC.out _ _ [] (fun i hi => by cases hi) hc3 HT1.out)
              clear hc3
              go_wp2_with fail
              refine HK2.out.mono ?_
              rintro e w4 ⟨rfl, hc4⟩
              have HPN := Lib.hid (P3.out.keep hc4)
              have HCN := Lib.hid (HC3.out.new hc4)
              have HTN := Lib.hid (HTC.out _ _ [] (fun i hi => by cases hi) hc4 HT3.out)
              clear hc4
              go_wp2_with fail
              refine (sameS_any HPN.out.st HPN.out.rs).mono ?_
              rintro e w9 ⟨rfl, hc9⟩
              have HPE := Lib.hid (show PSE w w9 ⟨p, bL, bS, bW, q, gL, gN, [pt]⟩ rL rN (.pointer (some ⟨g, 0, none⟩)) (.pointer (some ⟨gr, 0, none⟩)) from ⟨_, _, _, _, _, _, _, _, _, _, _, _, _, _, rfl, rfl, HPN.out.keep hc9⟩)
              have HTE := Lib.hid (show ∃ a, Tp w9 pt A n c xs a from by obtain ⟨a, h⟩ := HTN.out; exact ⟨a, h.chg hc9 (by simp) (fun _ _ _ h => by cases h)⟩)
              have HCE := Lib.hid (HCN.out.new hc9)
              clear hc9
              go_wp2_with fail
              go_roundw
              case rel => exact ⟨j + 1, by go_num, by omega, by omega, HTE, HPE, HCE⟩
              case measure => simp [intOf]; omega
            · have HE := Lib.hid (show x.E < 4294967295 from by have := P1.out.st.ep; omega)
              have HK1 := Lib.hid (checkpoint_any P1.out.st HE.out)
              clear hE
              go_wp2_with fail
              refine HK1.out.mono ?_
              rintro e w3 ⟨rfl, ⟨v3, hs3⟩, hc3⟩
              have HH3 := Lib.hid (P1.out.half (fun i hi => SK.w_d1 hi) hc3 hs3)
              have HC3 := Lib.hid (HC1.out.then_ hc3 (fun i hi hw => by have := (P1.out.f1 i (SK.w_d1 hi)).1; omega))
              have HT3 := Lib.hid (HTC.out _ _ _ (fun i hi => P1.out.f1 i (SK.w_d1 hi)) hc3 HT1.out)
              have HK2 := Lib.hid (rck_any HH3.out.rs HE.out)
              clear hs3 hc3
              go_wp2_with fail
              refine HK2.out.mono ?_
              rintro e w4 ⟨rfl, ⟨gW4, hs4, hg4⟩, hc4⟩
              rw [Dg.run_all, doD_ck] at hs4
              have hw2 : ∀ i ∈ RK.W ⟨q, gL, gN, gr, gP, gM, ex2⟩ gW, i ∈ SD.d2 ⟨p, bL, bS, bW, q, gL, gN, [pt]⟩ gW gr gP gM := fun i hi => by
                simp only [RK.W, SD.d2, List.mem_cons, List.not_mem_nil, or_false] at hi ⊢
                rcases hi with h | h | h | h | h | h <;> simp [h]
              have HPN := Lib.hid (HH3.out.whole HC3.out.size (P1.out.sa.ckS P1.out.st.rt P1.out.st.pl P1.out.st.p64) hw2 hc4 hg4 hs4)
              have HCN := Lib.hid (HC3.out.then_ hc4 (fun i hi hw => by have := (P1.out.f2 i (hw2 i hi)).1; omega))
              have HTN := Lib.hid (HTC.out _ _ _ (fun i hi => P1.out.f2 i (hw2 i hi)) hc4 HT3.out)
              clear hs4 hg4 hc4 hw2
              go_wp2_with fail
              refine (sameS_any HPN.out.st HPN.out.rs).mono ?_
              rintro e w9 ⟨rfl, hc9⟩
              have HPE := Lib.hid (show PSE w w9 ⟨p, bL, bS, bW, q, gL, gN, [pt]⟩ rL rN (.pointer (some ⟨g, 0, none⟩)) (.pointer (some ⟨gr, 0, none⟩)) from ⟨_, _, _, _, _, _, _, _, _, _, _, _, _, _, rfl, rfl, HPN.out.keep hc9⟩)
              have HTE := Lib.hid (show ∃ a, Tp w9 pt A n c xs a from by obtain ⟨a, h⟩ := HTN.out; exact ⟨a, h.chg hc9 (by simp) (fun _ _ _ h => by cases h)⟩)
              have HCE := Lib.hid (HCN.out.new hc9)
              clear hc9
              go_wp2_with fail
              go_roundw
              case rel => exact ⟨j + 1, by go_num, by omega, by omega, HTE, HPE, HCE⟩
              case measure => simp [intOf]; omega
          have q5 : (kind == 5) = false := by simp [hk5]
          by_cases hk6 : kind = 6
          · subst hk6
            clear q4 q5 hk4 hk5
            have a2 := HASK.out.cell 2
            have HGQ := Lib.hid (show gq ∉ [bL, bS, bW] from fun hm => by
              simp only [List.mem_cons, List.not_mem_nil, or_false] at hm
              rcases hm with e | e | e
              · exact HASK.out.ne_ (Dsk.last P1.out.st.dsk) (by decide) e
              · exact HASK.out.ne_ (Dsk.seen P1.out.st.dsk) (by decide) e
              · exact HASK.out.ne_ (Dsk.wait P1.out.st.dsk) (by decide) e)
            have hcl : Cs.length = cn := HAO.out.cl
            have hcp : 0 < Cs.length → ∀ ad, cA = some ad → ad.spot = none ∧ ad.block < w.heap.size := fun h0 => HAO.out.cp (show 0 < cn by omega)
            have HFA := Lib.hid (show ∀ i ∈ [p, bL, bS, bW, g, h], w.heap.size ≤ i ∧ i ∉ [pt] from fun i hi => P1.out.f1 i hi)
            have HFB := Lib.hid (show ∀ i ∈ [q, gL, gN, gW, gr, gP, gM], w.heap.size ≤ i ∧ i ∉ [pt] from fun i hi => P1.out.f2 i hi)
            have HAB := Lib.hid (show ∀ i ∈ [p, bL, bS, bW, g, h], i ∉ [q, gL, gN, gW, gr, gP, gM] from P1.out.ap)
            have HLA := Lib.hid (show (∀ i ∈ [p, bL, bS, bW, g, h], i < w1.heap.size) ∧ pt < w1.heap.size from ⟨fun i hi => P1.out.rs.exl i (P1.out.a2 i hi), P1.out.rs.exl _ (P1.out.t2 pt (by simp))⟩)
            have hcs : Src w1 cA (nms Cs) := HAO.out.cs.keep HC1.out
            have hcm : cn ≤ 9223372036854775807 := HAO.out.cm
            have key : ∀ j ∈ [q, gL, gN, gW], j ∉ [bL, bS, bW] := fun j hj hm => HAB.out j (by simp only [List.mem_cons, List.not_mem_nil, or_false] at hm ⊢; rcases hm with e | e | e <;> simp [e]) (by simp only [List.mem_cons, List.not_mem_nil, or_false] at hj ⊢; rcases hj with e | e | e | e <;> simp [e])
            have HCA := Lib.hid (fun (W : World) (hc : Chg [] w1 W) => crash_any (c := cc) (Dsk.keep P1.out.st.dsk hc) hcl (hcs.keep hc) (fun h0 ad e => (hcp h0 ad e).1) (fun h0 ad e hm => by
              have h1 := (hcp h0 ad e).2
              have h2 := (HFA.out ad.block (by simp only [List.mem_cons, List.not_mem_nil, or_false] at hm ⊢; rcases hm with e | e | e <;> simp [e])).1
              omega) hcm)
            have HCB := Lib.hid (fun (W1 W : World) (hc : Chg [bL, bS, bW] w1 W1) (hc' : Chg [] W1 W) => rcrash_any (c := cc) (Rfx.keep (Rfx.away P1.out.rs.dsk hc (key _ (by simp)) (key _ (by simp)) (key _ (by simp)) (key _ (by simp))) hc') hcl ((hcs.chg hc (fun h0 ad e hm => by
              have h1 := (hcp (by simpa [nms] using h0) ad e).2
              have h2 := (HFA.out ad.block (by simp only [List.mem_cons, List.not_mem_nil, or_false] at hm ⊢; rcases hm with e | e | e <;> simp [e])).1
              omega)).keep hc') (fun h0 ad e => (hcp h0 ad e).1) (fun h0 ad e hm => by
              have h1 := (hcp h0 ad e).2
              have h2 := (HFB.out ad.block (by simp only [List.mem_cons, List.not_mem_nil, or_false] at hm ⊢; rcases hm with e | e | e <;> simp [e])).1
              omega))
            clear hcl hcp hcs hcm key
            go_upto_region 26 with fail
            clear a0
            go_cut [144] (fun v wx => v = .bool false ∧ Hid (CrX w1 wx p bL bS bW q gL gN rL rN))
            case first =>
              go_region_with (first
                | (go_at_call 13; refine (HCA.out _ ?_).mono ?_; · (repeat (first | exact Chg.refl _ _ | apply Chg.drew))
                   rintro e w3 ⟨rfl, hd3, hc3⟩
                   have a3 := (HASK.out.drew.chg hc3 HGQ.out).cell 2
                   have hcw3 : Chg [bL, bS, bW] w1 w3 := ((Chg.refl [] w1).drew.sub (fun _ h => by cases h)).trans hc3)
                | (go_at_call 14; refine (HCB.out _ _ hcw3 (Chg.refl _ _)).mono ?_
                   rintro e w4 ⟨gW4, rfl, hr4, hg4, hc4⟩))
              all_goals go_wp2_with fail
              all_goals go_meet
              all_goals
                obtain ⟨l4, hl4, hle⟩ := P1.out.sa.crash Cs
                have hrl : rcL s (wl s.V s.V.length) Cs (wl s.V s.V.length).length = l4 := by
                  rw [rcL_eq P1.out.sa (wl s.V s.V.length) Cs (fun i hi => wl_lt s.V s.V.length i hi) (wl_rises _ _) _ (Nat.le_refl _), hle]
                rw [hrl] at hr4
                have key : ∀ j ∈ [p, bL, bS, bW], j ∉ [q, gL, gN] := fun j hj hm => HAB.out j (by simp only [List.mem_cons, List.not_mem_nil, or_false] at hj ⊢; rcases hj with e | e | e | e <;> simp [e]) (by simp only [List.mem_cons, List.not_mem_nil, or_false] at hm ⊢; rcases hm with e | e | e <;> simp [e])
                have hd4 := Dsk.away hd3 hc4 (key _ (by simp)) (key _ (by simp)) (key _ (by simp)) (key _ (by simp))
                have hle' : St.crash ⟨s.L, s.S, s.V⟩ (wl s.V s.V.length) Cs (wl s.V s.V.length).length = ⟨l4, l4, falses s.V.length⟩ := hle
                rw [hle'] at hd4
                exact ⟨rfl, Lib.hid ⟨⟨l4, l4, falses s.V.length⟩, gW4, m, Sa.of_len hl4, hd4, hr4, Nat.le_trans hcw3.size hg4, (hcw3.sub (by simp)).trans (hc4.sub (by simp))⟩⟩
            case rest =>
            obtain ⟨rfl, HCX⟩ := hcut
            obtain ⟨w4, hw4⟩ : ∃ w4 : World, w4 = wc := ⟨_, rfl⟩
            subst hw4
            obtain ⟨s4, gW4, m4, hsa4, hd4, hr4, hg4, hc4⟩ := HCX.out
            have HSA4 := Lib.hid hsa4
            have HD4 := Lib.hid hd4
            have HR4 := Lib.hid hr4
            have HG4 := Lib.hid (And.intro hg4 hc4.size)
            have HF6 := Lib.hid (show ∀ i ∈ [bL, bS, bW, q, gL, gN], w.heap.size ≤ i ∧ i ∉ (SD.mk p bL bS bW q gL gN [pt]).pts from fun i hi => by
              simp only [List.mem_cons, List.not_mem_nil, or_false] at hi
              rcases hi with e | e | e | e | e | e
              · exact HFA.out i (by simp [e])
              · exact HFA.out i (by simp [e])
              · exact HFA.out i (by simp [e])
              · exact HFB.out i (by simp [e])
              · exact HFB.out i (by simp [e])
              · exact HFB.out i (by simp [e]))
            have HC4 := Lib.hid (HC1.out.then_ hc4 (fun i hi hw => by have := (HF6.out i hi).1; omega))
            have HT4 := Lib.hid (HTC.out _ _ _ HF6.out hc4 HT1.out)
            have HSZ1 := Lib.hid (show w.heap.size ≤ w1.heap.size from HC1.out.size)
            have HFG := Lib.hid (show ∀ i ∈ [q, gL, gN, gW4], w.heap.size ≤ i ∧ i ∉ [pt] from fun i hi => by
              have h1 := HLA.out.2
              have h2 := HG4.out.1
              have h3 := HSZ1.out
              simp only [List.mem_cons, List.not_mem_nil, or_false] at hi
              rcases hi with e | e | e | e
              · exact HFB.out i (by simp [e])
              · exact HFB.out i (by simp [e])
              · exact HFB.out i (by simp [e])
              · exact ⟨by omega, fun hm => by simp only [List.mem_singleton] at hm; omega⟩)
            have HSE4 := Lib.hid (show ∀ i ∈ [p, bL, bS, bW], i ∉ [q, gL, gN, gW4] from fun i hi hm => by
              have h0 : i ∈ [p, bL, bS, bW, g, h] := by simp only [List.mem_cons, List.not_mem_nil, or_false] at hi ⊢; rcases hi with e | e | e | e <;> simp [e]
              have h1 := HLA.out.1 i h0
              have h2 := HG4.out.1
              have h3 := HAB.out i h0
              simp only [List.mem_cons, List.not_mem_nil, or_false] at hm h3
              rcases hm with e | e | e | e
              · exact h3 (.inl e)
              · exact h3 (.inr (.inl e))
              · exact h3 (.inr (.inr (.inl e)))
              · omega)
            have HLP := Lib.hid (show pt < w4.heap.size from by have h1 := HLA.out.2; have h2 := HG4.out.2; omega)
            have HBR := Lib.hid (show ∀ i ∈ [q, gL, gN, gW4], i < w4.heap.size from fun i hi => by
              have h1 := (Rfx.rec_ HR4.out).lt
              have h2 := (Rfx.last HR4.out).lt
              have h3 := (Rfx.now HR4.out).lt
              have h4 := (Rfx.wait HR4.out).lt
              simp only [List.mem_cons, List.not_mem_nil, or_false] at hi
              rcases hi with rfl | rfl | rfl | rfl <;> omega)
            clear HCX hsa4 hd4 hr4 hg4 hc4 HCA HCB a2
            go_wp2_with fail
            refine (open_ex (ex := [q, gL, gN, gW4, pt]) HD4.out (fun i hi => by
              have h1 := HBR.out
              have h2 := HLP.out
              simp only [List.mem_cons, List.not_mem_nil, or_false] at hi h1
              rcases hi with e | e | e | e | e
              · exact h1 i (by simp [e])
              · exact h1 i (by simp [e])
              · exact h1 i (by simp [e])
              · exact h1 i (by simp [e])
              · omega)).mono ?_
            rintro e w5 hO
            rcases hO with ⟨hen, rfl, hc5⟩ | ⟨hen, rfl, hc5⟩ | ⟨h0, h1, g5, h5, v5, rfl, hg5, hh5, hst, hc5⟩
            · have hen := (show (bestK s4.V.length s4.S 2).epoch = 0 from hen)
              have HH := Lib.hid hen
              have HD5 := Lib.hid (Dsk.keep HD4.out hc5)
              have HR5 := Lib.hid (Rfx.keep HR4.out hc5)
              have HC5 := Lib.hid (HC4.out.new hc5)
              clear hen hc5
              go_wp2_with fail
              refine (ropen_any (d := ⟨s4, -1, m4⟩) HR5.out (ex := []) (fun i hi => by cases hi)).mono ?_
              rintro e w6 hG
              obtain ⟨rfl, hc6⟩ : e = .returned (.tuple #[.pointer none, .int .i64 22]) ∧ Chg [] w5 w6 := by
                have hh := HH.out
                unfold ROpenPost at hG
                simp only at hG
                rcases hG with ⟨h0, h1, h2⟩ | ⟨h0, h1, h2⟩ | ⟨h0, h1, _⟩
                · first | exact ⟨h1, h2⟩ | (exfalso; omega)
                · first | exact ⟨h1, h2⟩ | (exfalso; omega)
                · exfalso; omega
              have HD6 := Lib.hid (Dsk.keep HD5.out hc6)
              have HR6 := Lib.hid (Rfx.keep HR5.out hc6)
              have HC6 := Lib.hid (HC5.out.new hc6)
              clear hG hc6
              go_wp2_with fail
              refine (alikeS_yes HD6.out HR6.out).mono ?_
              rintro e w7 ⟨rfl, hc7⟩
              have HC7 := Lib.hid (HC6.out.new hc7)
              clear hc7
              go_wp2_with fail
              go_ret
              exact ⟨rfl, HC7.out⟩
            · have hen := (show (bestK s4.V.length s4.S 2).epoch = 4294967295 from hen)
              have HH := Lib.hid hen
              have HD5 := Lib.hid (Dsk.keep HD4.out hc5)
              have HR5 := Lib.hid (Rfx.keep HR4.out hc5)
              have HC5 := Lib.hid (HC4.out.new hc5)
              clear hen hc5
              go_wp2_with fail
              refine (ropen_any (d := ⟨s4, -1, m4⟩) HR5.out (ex := []) (fun i hi => by cases hi)).mono ?_
              rintro e w6 hG
              obtain ⟨rfl, hc6⟩ : e = .returned (.tuple #[.pointer none, .int .i64 24]) ∧ Chg [] w5 w6 := by
                have hh := HH.out
                unfold ROpenPost at hG
                simp only at hG
                rcases hG with ⟨h0, h1, h2⟩ | ⟨h0, h1, h2⟩ | ⟨h0, h1, _⟩
                · first | exact ⟨h1, h2⟩ | (exfalso; omega)
                · first | exact ⟨h1, h2⟩ | (exfalso; omega)
                · exfalso; omega
              have HD6 := Lib.hid (Dsk.keep HD5.out hc6)
              have HR6 := Lib.hid (Rfx.keep HR5.out hc6)
              have HC6 := Lib.hid (HC5.out.new hc6)
              clear hG hc6
              go_wp2_with fail
              refine (alikeS_yes HD6.out HR6.out).mono ?_
              rintro e w7 ⟨rfl, hc7⟩
              have HC7 := Lib.hid (HC6.out.new hc7)
              clear hc7
              go_wp2_with fail
              go_ret
              exact ⟨rfl, HC7.out⟩
            have HH := Lib.hid (show 0 < (bestK s4.V.length s4.S 2).epoch ∧ (bestK s4.V.length s4.S 2).epoch < 4294967295 from ⟨h0, h1⟩)
            have HGH := Lib.hid (And.intro hg5 hh5)
            have HST5 := Lib.hid hst
            have key : ∀ j ∈ [q, gL, gN, gW4], j ∉ [bL, bS, bW] := fun j hj hm => HSE4.out j (List.mem_cons_of_mem _ hm) hj
            have HR5 := Lib.hid (Rfx.away HR4.out hc5 (key _ (by simp)) (key _ (by simp)) (key _ (by simp)) (key _ (by simp)))
            have HF3 := Lib.hid (show ∀ i ∈ [bL, bS, bW], w.heap.size ≤ i ∧ i ∉ (SD.mk p bL bS bW q gL gN [pt]).pts from fun i hi => HF6.out i (by simp only [List.mem_cons, List.not_mem_nil, or_false] at hi ⊢; rcases hi with e | e | e <;> simp [e]))
            have HC5 := Lib.hid (HC4.out.then_ hc5 (fun i hi hw => by have := (HF3.out i hi).1; omega))
            have HT5 := Lib.hid (HTC.out _ _ _ HF3.out hc5 HT4.out)
            have HL5 := Lib.hid (show ∀ i ∈ [p, bL, bS, bW, g5, h5, pt], i < w5.heap.size from fun i hi => HST5.out.lts i (by
              simp only [SK.D, List.mem_cons, List.not_mem_nil, or_false] at hi ⊢
              rcases hi with h | h | h | h | h | h | h <;> simp [h]))
            have HSZ4 := Lib.hid (show w.heap.size ≤ w4.heap.size from HC4.out.size)
            have HSZ5 := Lib.hid (show w4.heap.size ≤ w5.heap.size from hc5.size)
            clear h0 h1 hg5 hh5 hst hc5 key
            go_wp2_with fail
            refine (ropen_any (d := ⟨s4, -1, m4⟩) HR5.out (ex := [p, bL, bS, bW, g5, h5, pt]) HL5.out).mono ?_
            rintro e w6 hG
            obtain ⟨gr6, gP6, gM6, gW6, us6, rP6, rfl, hgr, hgP, hgM, hg6, hrs, hc6⟩ : ∃ gr gP gM gW' us rP, e = .returned (.tuple #[.pointer (some ⟨gr, 0, none⟩), .int .i64 0]) ∧ w5.heap.size ≤ gr ∧ w5.heap.size ≤ gP ∧ w5.heap.size ≤ gM ∧ (gW' = gW4 ∨ w5.heap.size ≤ gW') ∧ RSto w6 ⟨q, gL, gN, gr, gP, gM, [p, bL, bS, bW, g5, h5, pt]⟩ gW' rL rN (Dg.run ⟨s4, -1, m4⟩ (ckDs (openV s4 (bestK s4.V.length s4.S 2)))) (ckV (openV s4 (bestK s4.V.length s4.S 2))) us rP ∧ Chg [q, gL, gN, gW4] w5 w6 := by
              have hh := HH.out
              unfold ROpenPost at hG
              simp only at hG
              rcases hG with ⟨h0, _⟩ | ⟨h0, _⟩ | ⟨_, _, gr, gP, gM, gW', us, rP, h1, h2, h3, h4, h5, h6, h7⟩
              · omega
              · omega
              · exact ⟨gr, gP, gM, gW', us, rP, h1, h2, h3, h4, h5, h6, h7⟩
            rw [Dg.run_all, doD_ck] at hrs
            have hsa5 : Sa (ckS s4 (openV s4 (bestK s4.V.length s4.S 2))) := by
              have hr := (bestK_right s4.V.length s4.S 2).resolve_left (by have := HH.out; omega)
              have t1 : (openV s4 (bestK s4.V.length s4.S 2)).L = (bestK s4.V.length s4.S 2).log := (turn_same _ _).1
              have t2 : (openV s4 (bestK s4.V.length s4.S 2)).P = (bestK s4.V.length s4.S 2).pages := (turn_same _ _).2.1
              have t3 : (openV s4 (bestK s4.V.length s4.S 2)).E = (bestK s4.V.length s4.S 2).epoch := (turn_same _ _).2.2.1
              exact HSA4.out.ckS (by rw [t1, t2, t3]; exact hr) HST5.out.pl HST5.out.p64
            have hbr := HBR.out
            have hgh := HGH.out
            have hs1 := HSZ1.out
            have hs4 := HSZ4.out
            have hs5 := HSZ5.out
            have hlp := HLP.out
            have hf1 : ∀ i ∈ [p, bL, bS, bW, g5, h5], w.heap.size ≤ i ∧ i ∉ [pt] := fun i hi => by
              simp only [List.mem_cons, List.not_mem_nil, or_false] at hi
              rcases hi with e | e | e | e | e | e
              · exact HFA.out i (by simp [e])
              · exact HFA.out i (by simp [e])
              · exact HFA.out i (by simp [e])
              · exact HFA.out i (by simp [e])
              · exact ⟨by omega, fun hm => by simp only [List.mem_singleton] at hm; omega⟩
              · exact ⟨by omega, fun hm => by simp only [List.mem_singleton] at hm; omega⟩
            have hptw : w.heap.size ≤ pt := HPT.out
            obtain ⟨ex6, hps⟩ := ps_open (w0 := w) (D := ⟨p, bL, bS, bW, q, gL, gN, [pt]⟩) (gW := gW4) HC5.out.size HST5.out hsa5 (fun i hi => by
                simp only [List.mem_cons, List.not_mem_nil, or_false] at hi ⊢
                rcases hi with e | e | e | e <;> simp [e]) (fun i hi => by simp only [List.mem_singleton] at hi; subst hi; simp) (fun i hi hm => by
                have h1 := hbr i hm
                simp only [SD.d1, List.mem_cons, List.not_mem_nil, or_false] at hi
                rcases hi with e | e | e | e | e | e
                · exact HSE4.out i (by simp [e]) hm
                · exact HSE4.out i (by simp [e]) hm
                · exact HSE4.out i (by simp [e]) hm
                · exact HSE4.out i (by simp [e]) hm
                · omega
                · omega) hc6 hrs hg6 hgr hgP hgM (fun i hi => by
                simp only [List.mem_cons, List.not_mem_nil, or_false] at hi
                rcases hi with e | e | e | e | e
                · exact (HFG.out i (by simp [e])).1
                · exact (HFG.out i (by simp [e])).1
                · exact (HFG.out i (by simp [e])).1
                · exact (HFG.out i (by simp [e])).1
                · omega) (fun i hi => by
                simp only [List.mem_cons, List.not_mem_nil, or_false] at hi
                rcases hi with e | e | e | e | e | e | e
                · exact (hf1 i (by simp [e])).1
                · exact (hf1 i (by simp [e])).1
                · exact (hf1 i (by simp [e])).1
                · exact (hf1 i (by simp [e])).1
                · exact (hf1 i (by simp [e])).1
                · exact (hf1 i (by simp [e])).1
                · omega) (fun i hi => by
                simp only [SD.d1, List.mem_cons, List.not_mem_nil, or_false] at hi ⊢
                rcases hi with e | e | e | e | e | e <;> simp [e]) (fun i hi => by simp only [List.mem_singleton] at hi; subst hi; simp) hf1 HFG.out
            have HPN := Lib.hid hps
            have HCN := Lib.hid (HC5.out.then_ hc6 (fun i hi hw => by have := (HFG.out i hi).1; omega))
            have HTN := Lib.hid (HTC.out _ _ _ HFG.out hc6 HT5.out)
            clear hG hgr hgP hgM hg6 hrs hc6 hsa5 hps hbr hgh hs1 hs4 hs5 hlp hf1 hptw
            go_wp2_with fail
            refine (sameS_any HPN.out.st HPN.out.rs).mono ?_
            rintro e w9 ⟨rfl, hc9⟩
            have HPE := Lib.hid (show PSE w w9 ⟨p, bL, bS, bW, q, gL, gN, [pt]⟩ rL rN (.pointer (some ⟨g5, 0, none⟩)) (.pointer (some ⟨gr6, 0, none⟩)) from ⟨_, _, _, _, _, _, _, _, _, _, _, _, _, _, rfl, rfl, HPN.out.keep hc9⟩)
            have HTE := Lib.hid (show ∃ a, Tp w9 pt A n c xs a from by obtain ⟨a, h⟩ := HTN.out; exact ⟨a, h.chg hc9 (by simp) (fun _ _ _ h => by cases h)⟩)
            have HCE := Lib.hid (HCN.out.new hc9)
            clear hc9
            go_wp2_with fail
            go_roundw
            case rel => exact ⟨j + 1, by go_num, by omega, by omega, HTE, HPE, HCE⟩
            case measure => simp [intOf]; omega
          have q6 : (kind == 6) = false := by simp [hk6]
          by_cases hk7 : kind = 7
          · subst hk7
            clear q4 q5 q6 hk4 hk5 hk6
            have HB1 := Lib.hid (show ∀ i ∈ SK.D ⟨p, bL, bS, bW, g, h, ex1⟩, w.heap.size ≤ i from fun i hi => by
              simp only [SK.D, List.mem_cons] at hi
              have h1 := P1.out.f1
              have h2 := P1.out.e1
              rcases hi with e | e | e | e | e | e | e
              · exact (h1 i (by simp [SD.d1, e])).1
              · exact (h1 i (by simp [SD.d1, e])).1
              · exact (h1 i (by simp [SD.d1, e])).1
              · exact (h1 i (by simp [SD.d1, e])).1
              · exact (h1 i (by simp [SD.d1, e])).1
              · exact (h1 i (by simp [SD.d1, e])).1
              · exact h2 i e)
            have HB2 := Lib.hid (show ∀ i ∈ RK.D ⟨q, gL, gN, gr, gP, gM, ex2⟩ gW, w.heap.size ≤ i from fun i hi => by
              simp only [RK.D, List.mem_cons] at hi
              have h1 := P1.out.f2
              have h2 := P1.out.e2
              rcases hi with e | e | e | e | e | e | e | e
              · exact (h1 i (by simp [SD.d2, e])).1
              · exact (h1 i (by simp [SD.d2, e])).1
              · exact (h1 i (by simp [SD.d2, e])).1
              · exact (h1 i (by simp [SD.d2, e])).1
              · exact (h1 i (by simp [SD.d2, e])).1
              · exact (h1 i (by simp [SD.d2, e])).1
              · exact (h1 i (by simp [SD.d2, e])).1
              · exact h2 i e)
            have hin : rightB (x.P : Int) Rs = true → InL x.P Rs := fun hr => inl_of HAO.out.rs hr (by have := rightR_true.1 P1.out.st.rt; omega)
            have HIN := Lib.hid hin
            have HRL := Lib.hid (show Rs.length = rn ∧ rn ≤ 9223372036854775807 from ⟨HAO.out.rl, HAO.out.rm⟩)
            have HCA := Lib.hid (fun (W : World) (hc : Chg [] w1 W) => commit_any (d := rc) ((P1.out.keep hc).st) (((HAO.out.rs.away HB1.out).chg HC1.out (fun i hi => by cases hi)).chg hc (fun i hi => by cases hi)) HRL.out.1 HRL.out.2)
            have HCB := Lib.hid (fun (W1 W : World) (hr : RSto W1 ⟨q, gL, gN, gr, gP, gM, ex2⟩ gW rL rN ⟨s, -1, m⟩ x us rP) (hc : Chg (SD.d1 ⟨p, bL, bS, bW, q, gL, gN, [pt]⟩ g h) w1 W1) (hc' : Chg [] W1 W) => rcommit_any (d := rc) (hr.keep hc') ((((HAO.out.rs.away HB2.out).chg HC1.out (fun i hi => by cases hi)).chg hc (fun i hi => by have := P1.out.a2 i hi; simp [RK.D, this])).chg hc' (fun i hi => by cases hi)) HRL.out.1 HRL.out.2)
            have a3 := HASK.out.cell 3
            have HGQ := Lib.hid (show gq ∉ SD.d1 ⟨p, bL, bS, bW, q, gL, gN, [pt]⟩ g h from fun hm => by
              simp only [SD.d1, List.mem_cons, List.not_mem_nil, or_false] at hm
              rcases hm with e | e | e | e | e | e
              · exact HASK.out.ne_ (Dsk.rec_ P1.out.st.dsk) (by decide) e
              · exact HASK.out.ne_ (Dsk.last P1.out.st.dsk) (by decide) e
              · exact HASK.out.ne_ (Dsk.seen P1.out.st.dsk) (by decide) e
              · exact HASK.out.ne_ (Dsk.wait P1.out.st.dsk) (by decide) e
              · exact HASK.out.ne_ P1.out.st.rec_ (by decide) e
              · exact HASK.out.ne_ P1.out.st.nm (by decide) e)
            clear hin
            go_upto_region 33 with fail
            clear a0
            go_cut [175] (fun v wx => v = .bool false ∧ Hid (CmX w w1 wx ⟨p, bL, bS, bW, q, gL, gN, [pt]⟩ rL rN g h gW gr gP gM ex2 rP))
            case first =>
              go_region_with (first
                | (go_at_call 25; refine (HCA.out _ ?_).mono ?_; · (repeat (first | exact Chg.refl _ _ | apply Chg.drew))
                   rintro e w3 hO3
                   obtain ⟨rfl, hH3, hc3⟩ := (P1.out.keep ((Chg.refl [] w1).drew)).com hO3
                   have a4 := (HASK.out.drew.chg hc3 HGQ.out).cell 3
                   have hcw3 : Chg (SD.d1 ⟨p, bL, bS, bW, q, gL, gN, [pt]⟩ g h) w1 w3 := ((Chg.refl [] w1).drew.sub (fun _ h => by cases h)).trans hc3
                   have hrs3 : RSto w3 ⟨q, gL, gN, gr, gP, gM, ex2⟩ gW rL rN ⟨s, -1, m⟩ x us rP := (by obtain ⟨_, _, _, h1, _⟩ := hH3; exact h1.rs)
                   have hsz3 : w.heap.size ≤ w3.heap.size := Nat.le_trans HC1.out.size hcw3.size
                   have hen3 : ∃ en, en = comE x Rs := ⟨_, rfl⟩
                   obtain ⟨en, hen⟩ := hen3
                   have HEN := Lib.hid hen
                   rw [← hen]
                   clear hen hO3)
                | (go_at_call 26; refine (HCB.out _ _ hrs3 hcw3 (Chg.refl _ _)).mono ?_
                   rintro e w4 hO4
                   obtain ⟨rfl, hP4, hc4⟩ := hH3.com P1.out.sa HIN.out hsz3 hO4
                   rw [← HEN.out]
                   clear hO4))
              all_goals go_wp2_with fail
              all_goals go_meet
              all_goals
                obtain ⟨ex4, s4, x4, v4, m4, us4, hP4⟩ := hP4
                exact ⟨rfl, Lib.hid ⟨ex4, s4, x4, v4, m4, us4, hP4, (hcw3.sub (fun i hi => List.mem_append_left _ hi)).trans (hc4.sub (fun i hi => List.mem_append_right _ hi))⟩⟩
            case rest =>
            obtain ⟨rfl, HCX⟩ := hcut
            obtain ⟨w4, hw4⟩ : ∃ w4 : World, w4 = wc := ⟨_, rfl⟩
            subst hw4
            obtain ⟨ex4, s4, x4, v4, m4, us4, hP4, hc4⟩ := HCX.out
            have HPN := Lib.hid hP4
            have HF12 := Lib.hid (show ∀ i ∈ SD.d1 ⟨p, bL, bS, bW, q, gL, gN, [pt]⟩ g h ++ SD.d2 ⟨p, bL, bS, bW, q, gL, gN, [pt]⟩ gW gr gP gM, w.heap.size ≤ i ∧ i ∉ (SD.mk p bL bS bW q gL gN [pt]).pts from fun i hi => by
              rcases List.mem_append.1 hi with hi | hi
              · exact P1.out.f1 i hi
              · exact P1.out.f2 i hi)
            have HCN := Lib.hid (HC1.out.then_ hc4 (fun i hi hw => by have := (HF12.out i hi).1; omega))
            have HTN := Lib.hid (HTC.out _ _ _ HF12.out hc4 HT1.out)
            clear hP4 hc4 HCX a3 HCA HCB HB1 HB2
            go_wp2_with fail
            refine (sameS_any HPN.out.st HPN.out.rs).mono ?_
            rintro e w9 ⟨rfl, hc9⟩
            have HPE := Lib.hid (show PSE w w9 ⟨p, bL, bS, bW, q, gL, gN, [pt]⟩ rL rN (.pointer (some ⟨g, 0, none⟩)) (.pointer (some ⟨gr, 0, none⟩)) from ⟨_, _, _, _, _, _, _, _, _, _, _, _, _, _, rfl, rfl, HPN.out.keep hc9⟩)
            have HTE := Lib.hid (show ∃ a, Tp w9 pt A n c xs a from by obtain ⟨a, h⟩ := HTN.out; exact ⟨a, h.chg hc9 (by simp) (fun _ _ _ h => by cases h)⟩)
            have HCE := Lib.hid (HCN.out.new hc9)
            clear hc9
            go_wp2_with fail
            go_roundw
            case rel => exact ⟨j + 1, by go_num, by omega, by omega, HTE, HPE, HCE⟩
            case measure => simp [intOf]; omega
          have q7 : (kind == 7) = false := by simp [hk7]
          have e2 := P1.out.rs.rec_.cell 2
          have hP64 : x.P ≤ 64 := by have := rightR_true.1 P1.out.st.rt; omega
          obtain ⟨a1, ht1⟩ := HT1.out
          have HTa := Lib.hid ht1
          clear ht1
          go_wp2_with fail
          refine (changes_any HTa.out x.P hP64).mono ?_
          rintro e w2 ⟨vc, rfl, hso⟩
          obtain ⟨Ac, cc, ls, a2, rfl, hch, hin, hT2, hc2, hl2⟩ := chso_in (D := SK.D ⟨p, bL, bS, bW, g, h, ex1⟩ ++ RK.D ⟨q, gL, gN, gr, gP, gM, ex2⟩ gW) hso hP64 (fun i hi => by
            rcases List.mem_append.1 hi with hi | hi
            · exact P1.out.st.lts i hi
            · exact P1.out.rs.lts i hi)
          have P2 := Lib.hid (P1.out.tape (pt := pt) (by simp) hc2)
          have HC2 := Lib.hid (HC1.out.then_ hc2 (fun i hi hw => by simp only [List.mem_singleton] at hi; have := HPT.out; omega))
          have HT2 := Lib.hid (show ∃ a, Tp w2 pt A n c xs a from ⟨a2, hT2⟩)
          have HIN := Lib.hid (And.intro hin hl2)
          have HCH := Lib.hid hch
          obtain ⟨nl, hnl⟩ : ∃ nl, nl = ls.length := ⟨_, rfl⟩
          have HNL := Lib.hid hnl
          have HCO := Lib.hid (commit_any (d := cc) P2.out.st (HCH.out.sub' (fun i hi => List.mem_append_left _ hi)) hnl.symm (by omega))
          rw [← hnl]
          clear hso hch hin hT2 hc2 hl2 hnl e2 hP64 HTa
          go_wp2_with fail
          refine HCO.out.mono ?_
          rintro e w3 hO
          obtain ⟨rfl, hH, hc3⟩ := P2.out.com hO
          have HH := Lib.hid hH
          have HC3 := Lib.hid (HC2.out.then_ hc3 (fun i hi hw => by have := (P2.out.f1 i hi).1; omega))
          have HT3 := Lib.hid (HTC.out _ _ _ P2.out.f1 hc3 HT2.out)
          have hrs3 : RSto w3 ⟨q, gL, gN, gr, gP, gM, ex2⟩ gW rL rN ⟨s, -1, m⟩ x us rP := by obtain ⟨_, _, _, h1, _⟩ := hH; exact h1.rs
          have HCR := Lib.hid (rcommit_any (d := cc) hrs3 ((HCH.out.chg hc3 (fun i hi => List.mem_append_left _ (by simp only [SD.d1, List.mem_cons, List.not_mem_nil, or_false] at hi; simp only [SK.D, List.mem_cons]; rcases hi with h | h | h | h | h | h <;> simp [h]))).sub' (fun i hi => List.mem_append_right _ hi)) HNL.out.symm (by have := HIN.out.2; have := HNL.out; omega))
          obtain ⟨en, hen⟩ : ∃ en, en = comE x ls := ⟨_, rfl⟩
          have HEN := Lib.hid hen
          rw [← hen]
          clear hO hH hc3 hrs3 HCO hen
          go_wp2_with fail
          refine HCR.out.mono ?_
          rintro e w4 hO
          obtain ⟨rfl, hP4, hc4⟩ := HH.out.com P2.out.sa (fun _ => HIN.out.1) HC3.out.size hO
          rw [← HEN.out]
          obtain ⟨ex4, s4, x4, v4, m4, us4, hP4⟩ := hP4
          have HPN := Lib.hid hP4
          have HCN := Lib.hid (HC3.out.then_ hc4 (fun i hi hw => by have := (P2.out.f2 i hi).1; omega))
          have HTN := Lib.hid (HTC.out _ _ _ P2.out.f2 hc4 HT3.out)
          clear hO hP4 hc4 HCR
          go_wp2_with fail
          refine (sameS_any HPN.out.st HPN.out.rs).mono ?_
          rintro e w9 ⟨rfl, hc9⟩
          have HPE := Lib.hid (show PSE w w9 ⟨p, bL, bS, bW, q, gL, gN, [pt]⟩ rL rN (.pointer (some ⟨g, 0, none⟩)) (.pointer (some ⟨gr, 0, none⟩)) from ⟨_, _, _, _, _, _, _, _, _, _, _, _, _, _, rfl, rfl, HPN.out.keep hc9⟩)
          have HTE := Lib.hid (show ∃ a, Tp w9 pt A n c xs a from by obtain ⟨a, h⟩ := HTN.out; exact ⟨a, h.chg hc9 (by simp) (fun _ _ _ h => by cases h)⟩)
          have HCE := Lib.hid (HCN.out.new hc9)
          clear hc9
          go_wp2_with fail
          go_roundw
          case rel => exact ⟨j + 1, by go_num, by omega, by omega, HTE, HPE, HCE⟩
          case measure => simp [intOf]; omega
        · have hj4 : ¬ (j : Int) < 40 := by omega
          go_wp2_with fail
          go_ret
          exact ⟨rfl, HCr.out⟩
      · have hjI : ¬ (j : Int) < (na : Int) := by omega
        go_wp2_with fail
        go_ret
        exact ⟨rfl, HCr.out⟩
end
end Go.Proofs.YtddjgncdjdjgeaaGreat
