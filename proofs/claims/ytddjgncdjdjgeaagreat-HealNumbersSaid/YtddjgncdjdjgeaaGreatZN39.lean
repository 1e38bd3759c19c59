/-
  N: LawHealB.
-/
import Derived.Test.YtddjgncdjdjgeaaGreatZN33
import Derived.Test.YtddjgncdjdjgeaaGreatZN38
namespace Go.Proofs.YtddjgncdjdjgeaaGreat
open Go.RowKit
/-- Behind a Flush. -/
theorem RSto.flushed {w w' : World} {k : RK} {gW gW' : Nat} {rL rN : List Value} {s : St} {m m' : Int} {x : SV} {us rP : List Value} (h : RSto w k gW rL rN ⟨s, -1, m⟩ x us rP) (hd : Rfd w' k.q k.gL k.gN gW' rL rN m' (flA s)) (hg : gW' = gW ∨ w.heap.size ≤ gW') (hc : Chg [k.q, k.gL] w w') : RSto w' k gW' rL rN ⟨flA s, -1, m'⟩ x us rP := by
  have key : ∀ (b t : Nat) (cs : List Value), Whole w b t cs → t ≠ 71 → t ≠ 5 → b ∉ [k.q, k.gL] := fun b t cs hW h1 h2 hm => by
    simp only [List.mem_cons, List.not_mem_nil, or_false] at hm
    rcases hm with e | e
    · exact hW.ne_ (Rfx.rec_ h.dsk) h1 e
    · exact hW.ne_ (Rfx.last h.dsk) h2 e
  have hng : k.gM ≠ gW' := by
    have h1 := h.nm.lt
    have h2 := h.ng
    rcases hg with hg | hg
    · rw [hg]; exact h2
    · omega
  have hrt : rightR x.L x.P x.E (flA s).V.length = true := by rw [flA_len]; exact h.rt
  exact { dsk := hd, rec_ := h.rec_.chg hc (key _ _ _ h.rec_ (by decide) (by decide)), pg := h.pg.chg hc (key _ _ _ h.pg (by decide) (by decide)), els := (h.els.chg hc (by simp [RK.D])).swap (h.els.lt h.p64) hg, nm := h.nm.chg hc (key _ _ _ h.nm (by decide) (by decide)), ng := hng, rt := hrt, ep := h.ep, pl := h.pl, nl := h.nl, p64 := h.p64, us_ := h.us_, sq := h.sq, exl := fun i hi => Nat.lt_of_lt_of_le (h.exl i hi) hc.size }
/-- A block of others is written. -/
theorem RSto.past {w w' : World} {k : RK} {gW : Nat} {rL rN : List Value} {d : Dg} {x : SV} {us rP : List Value} (h : RSto w k gW rL rN d x us rP) {q : Nat} (hc : Chg [q] w w') (hq : q ∈ k.ex) (hn : ∀ i ∈ [k.q, k.gL, k.gN, gW, k.g, k.gP, k.gM], i ≠ q) : RSto w' k gW rL rN d x us rP := by
  have hne : ∀ i ∈ [k.q, k.gL, k.gN, gW, k.g, k.gP, k.gM], i ∉ [q] := fun i hi hm => hn i hi (by simpa using hm)
  exact { h with dsk := Rfx.away h.dsk hc (hne _ (by simp)) (hne _ (by simp)) (hne _ (by simp)) (hne _ (by simp)), rec_ := h.rec_.chg hc (hne _ (by simp)), pg := h.pg.chg hc (hne _ (by simp)), els := h.els.chg hc (fun i hi => by simp only [List.mem_singleton] at hi; subst hi; simp [RK.D, hq]), nm := h.nm.chg hc (hne _ (by simp)), exl := fun i hi => Nat.lt_of_lt_of_le (h.exl i hi) hc.size }
/-- A tape is no block of a store. -/
theorem RSto.tape {w : World} {k : RK} {gW : Nat} {rL rN : List Value} {d : Dg} {x : SV} {us rP : List Value} (h : RSto w k gW rL rN d x us rP) {pt : Nat} {cs : List Value} (ht : Whole w pt 63 cs) : ∀ i ∈ [k.q, k.gL, k.gN, gW, k.g, k.gP, k.gM], i ≠ pt := by
  intro i hi
  simp only [List.mem_cons, List.not_mem_nil, or_false] at hi
  rcases hi with rfl | rfl | rfl | rfl | rfl | rfl | rfl
  · exact (Rfx.rec_ h.dsk).ne_ ht (by decide)
  · exact (Rfx.last h.dsk).ne_ ht (by decide)
  · exact (Rfx.now h.dsk).ne_ ht (by decide)
  · exact (Rfx.wait h.dsk).ne_ ht (by decide)
  · exact h.rec_.ne_ ht (by decide)
  · exact h.pg.ne_ ht (by decide)
  · exact h.nm.ne_ ht (by decide)
/-- What is made. -/
def MadePost (w : World) (e : Ending) (w' : World) : Prop := ∃ l, MadeI 24 l ∧ PairPost w 24 l e w'
/-- What made's loop keeps. -/
def MadeK (w wr : World) (k : RK) (rL rN : List Value) (pt : Nat) (A : Option Addr) (n c : Nat) (xs : List Int) : Prop :=
  ∃ gW s m x ms u us rP a, RSto wr k gW rL rN ⟨s, -1, m⟩ x us rP ∧ KeptM s x ms u ∧ s.V.length = 24 ∧ w.heap.size ≤ gW ∧ Tp wr pt A n c xs a
section
variable {w : World} {A C : Option Addr} {n c m d : Nat} {xs cs : List Int}
set_option maxHeartbeats 16000000 in
set_option maxRecDepth 100000 in
theorem made_any (hl : xs.length = n) (hs : Src w A (nms xs)) (hsp : 0 < n → ∀ ad, A = some ad → ad.spot = none ∧ ad.block < w.heap.size) (hr : ∀ x ∈ xs, -9223372036854775808 ≤ x ∧ x ≤ 9223372036854775807) (hnm : n ≤ 9223372036854775807)
    (hcl : cs.length = m) (hcs : Src w C (nms cs)) (hcsp : 0 < m → ∀ ad, C = some ad → ad.spot = none ∧ ad.block < w.heap.size) :
    Calls Tryz.prog 7 #[.slice A n c, .slice C m d] w (MadePost w) := by
  have HXL := Lib.hid hl
  have HSR := Lib.hid hs
  have HSP := Lib.hid hsp
  have HXR := Lib.hid hr
  have HCL := Lib.hid hcl
  have HCS := Lib.hid hcs
  have HCSP := Lib.hid hcsp
  clear hl hs hsp hr hcl hcs hcsp
  go_enter Tryz.func7, Tryz.ntmps7
  go_wp2_with fail
  refine (rnew_yes 24 (by omega) (by omega)).mono ?_
  rintro e w1 ⟨q, gL, gN, gW, rL, rN, md, rfl, hd1, hq, hgL, hgN, hgW, hc1⟩
  have HD1 := Lib.hid (show Rfd w1 q gL gN gW rL rN md (St.new 24) from hd1)
  have HC1 := Lib.hid hc1
  have HB := Lib.hid (show w.heap.size ≤ q ∧ w.heap.size ≤ gL ∧ w.heap.size ≤ gN ∧ w.heap.size ≤ gW from ⟨hq, hgL, hgN, hgW⟩)
  clear hd1 hc1 hq hgL hgN hgW
  go_upto_region 5 with fail
  have hal := (Chg.refl [] w1).alloc (.cells #[.slice A n c, .int .i64 0] 63)
  have hTW : Whole (w1.alloc (.cells #[.slice A n c, .int .i64 0] 63)) w1.heap.size 63 [.slice A n c, .int .i64 0] := Whole.new w1 63 [.slice A n c, .int .i64 0]
  obtain ⟨pt, hpt⟩ : ∃ g, g = w1.heap.size := ⟨_, rfl⟩
  rw [← hpt] at hTW ⊢
  generalize w1.alloc (.cells #[.slice A n c, .int .i64 0] 63) = w2 at hal hTW ⊢
  have HD2 := Lib.hid (Rfx.keep HD1.out hal)
  have HC2 := Lib.hid (HC1.out.new hal)
  have HPT := Lib.hid (show w.heap.size ≤ pt from by have := HC1.out.size; omega)
  have HT2 := Lib.hid (show Tp w2 pt A n c xs 0 from ⟨by simpa using hTW, HXL.out, HSR.out.keep HC2.out, fun h0 ad e => ⟨(HSP.out h0 ad e).1, by have h1 := (HSP.out h0 ad e).2; have h2 := HPT.out; omega⟩, HXR.out, Nat.zero_le _, hnm⟩)
  clear hal hTW hpt HD1
  go_wp2_with fail
  refine (next_any HT2.out 9 (by omega) (by omega)).mono ?_
  rintro e w3 ⟨r1, a1, hr1, rfl, hT3, hc3⟩
  have HT3 := Lib.hid hT3
  have HD3 := Lib.hid (Rfx.away HD2.out hc3 (by simp only [List.mem_singleton]; exact (Rfx.rec_ HD2.out).ne_ HT2.out.rec_ (by decide)) (by simp only [List.mem_singleton]; exact (Rfx.last HD2.out).ne_ HT2.out.rec_ (by decide)) (by simp only [List.mem_singleton]; exact (Rfx.now HD2.out).ne_ HT2.out.rec_ (by decide)) (by simp only [List.mem_singleton]; exact (Rfx.wait HD2.out).ne_ HT2.out.rec_ (by decide)))
  have HC3 := Lib.hid (HC2.out.then_ hc3 (fun i hi hw => by simp only [List.mem_singleton] at hi; have := HPT.out; omega))
  have hw1 : IntKind.i64.wrap (4 + (r1 : Int)) = ((4 + r1 : Nat) : Int) := by rw [IntKind.wrap_i64]; omega
  obtain ⟨L, hL⟩ : ∃ L, L = 4 + r1 := ⟨_, rfl⟩
  have HL := Lib.hid (show 4 ≤ L ∧ L ≤ 12 from by omega)
  rw [← hL] at hw1
  clear hT3 hc3 hL hr1
  go_wp2_with fail
  refine (next_any HT3.out 5 (by omega) (by omega)).mono ?_
  rintro e w4 ⟨r2, a2, hr2, rfl, hT4, hc4⟩
  have HT4 := Lib.hid hT4
  have HD4 := Lib.hid (Rfx.away HD3.out hc4 (by simp only [List.mem_singleton]; exact (Rfx.rec_ HD3.out).ne_ HT3.out.rec_ (by decide)) (by simp only [List.mem_singleton]; exact (Rfx.last HD3.out).ne_ HT3.out.rec_ (by decide)) (by simp only [List.mem_singleton]; exact (Rfx.now HD3.out).ne_ HT3.out.rec_ (by decide)) (by simp only [List.mem_singleton]; exact (Rfx.wait HD3.out).ne_ HT3.out.rec_ (by decide)))
  have HC4 := Lib.hid (HC3.out.then_ hc4 (fun i hi hw => by simp only [List.mem_singleton] at hi; have := HPT.out; omega))
  have hw2 : IntKind.i64.wrap (1 + (r2 : Int)) = ((1 + r2 : Nat) : Int) := by rw [IntKind.wrap_i64]; omega
  obtain ⟨P, hP⟩ : ∃ P, P = 1 + r2 := ⟨_, rfl⟩
  have HP := Lib.hid (show 1 ≤ P ∧ P ≤ 5 from by omega)
  rw [← hP] at hw2
  have HRT := Lib.hid (show rightR (L : Int) (P : Int) 1 (St.new 24).V.length = true from by rw [newV]; exact rightR_true.2 (by have := HL.out; omega))
  clear hT4 hc4 hP hr2 HD2 HD3 HT2 HT3
  go_wp2_with fail
  refine (rformat_any HD4.out (L : Int) (P : Int)).mono ?_
  rintro e w5 hF
  obtain ⟨rfl, gV, md5, hd5, hgV, hc5⟩ : e = .returned (.int .i64 0) ∧ ∃ gW' m', Rfd w5 q gL gN gW' rL rN m' (fmt (St.new 24) L P) ∧ w.heap.size ≤ gW' ∧ Chg [q, gL, gN, gW] w4 w5 := by
    rcases hF with ⟨_, h1, ⟨gW', m', h2, h3⟩, h4⟩ | ⟨h0, _⟩
    · refine ⟨h1, gW', m', h2, ?_, h4⟩
      have h5 := HB.out
      have h6 := HC4.out.size
      rcases h3 with h3 | h3 <;> omega
    · rw [HRT.out] at h0; cases h0
  have HFR : ∀ i ∈ [q, gL, gN, gW], w.heap.size ≤ i := fun i hi => by
    have h5 := HB.out
    simp only [List.mem_cons, List.not_mem_nil, or_false] at hi
    rcases hi with rfl | rfl | rfl | rfl <;> omega
  have HC5 := Lib.hid (HC4.out.then_ hc5 (fun i hi hw => by have := HFR i hi; omega))
  have HT5 := Lib.hid (show Tp w5 pt A n c xs a2 from HT4.out.chg hc5 (fun hm => by
    simp only [List.mem_cons, List.not_mem_nil, or_false] at hm
    rcases hm with e | e | e | e
    · exact (Rfx.rec_ HD4.out).ne_ HT4.out.rec_ (by decide) e.symm
    · exact (Rfx.last HD4.out).ne_ HT4.out.rec_ (by decide) e.symm
    · exact (Rfx.now HD4.out).ne_ HT4.out.rec_ (by decide) e.symm
    · exact (Rfx.wait HD4.out).ne_ HT4.out.rec_ (by decide) e.symm) (fun h0 ad e hm => by have h1 := (HSP.out h0 ad e).2; have h2 := HFR _ hm; omega))
  have HD5 := Lib.hid hd5
  have HGV := Lib.hid hgV
  clear hF hd5 hgV hc5 HFR HD4 HT4 hw1 hw2
  go_wp2_with fail
  refine (ropen_any (d := ⟨fmt (St.new 24) L P, -1, md5⟩) HD5.out (ex := [pt]) (fun i hi => by simp only [List.mem_singleton] at hi; subst hi; exact HT5.out.rec_.lt)).mono ?_
  rintro e w6 hO
  obtain ⟨g, gP, gM, gV6, us6, rP, md6, x6, s6, rfl, hg, hgP, hgM, hgv6, hs6, hk6, hv6, hc6⟩ : ∃ g gP gM gV6 us6 rP md6 x6 s6, e = .returned (.tuple #[.pointer (some ⟨g, 0, none⟩), .int .i64 0]) ∧ w5.heap.size ≤ g ∧ w5.heap.size ≤ gP ∧ w5.heap.size ≤ gM ∧ w.heap.size ≤ gV6 ∧ RSto w6 ⟨q, gL, gN, g, gP, gM, [pt]⟩ gV6 rL rN ⟨s6, -1, md6⟩ x6 us6 rP ∧ KeptM s6 x6 [] 0 ∧ s6.V.length = 24 ∧ Chg [q, gL, gN, gV] w5 w6 := by
    have hb := best_fmt (gd_new 24) L P HRT.out
    unfold ROpenPost at hO
    simp only at hO
    rw [hb] at hO
    rcases hO with ⟨h0, _⟩ | ⟨h0, _⟩ | ⟨_, _, g, gP, gM, gV6, us6, rP, rfl, h1, h2, h3, h4, h5, h6⟩
    · exact absurd h0 (by show ¬ (1 : Nat) = 0; omega)
    · exact absurd h0 (by show ¬ (1 : Nat) = 4294967295; omega)
    · obtain ⟨e1, e2⟩ := Dg.run_free (ckDs (openV (fmt (St.new 24) L P) ⟨L, P, 1⟩)) ⟨fmt (St.new 24) L P, -1, md5⟩ rfl
      rw [doD_ck] at e1
      generalize Dg.run ⟨fmt (St.new 24) L P, -1, md5⟩ (ckDs (openV (fmt (St.new 24) L P) ⟨L, P, 1⟩)) = dd at h5 e1 e2
      obtain ⟨s6, lf6, md6⟩ := dd
      simp only at e1 e2
      subst e2
      refine ⟨g, gP, gM, gV6, us6, rP, md6, _, s6, rfl, h1, h2, h3, ?_, h5, ?_, ?_, h6⟩
      · have h7 := HGV.out
        have h8 := HC5.out.size
        rcases h4 with h4 | h4 <;> omega
      · rw [e1]; exact keptM_new (eqn_new 24) (sa_new 24) L P HRT.out
      · rw [e1, ckS_len, fmt_len, newV]
  have HW := Lib.hid (show w.heap.size ≤ q ∧ w.heap.size ≤ gL ∧ w.heap.size ≤ gN ∧ w.heap.size ≤ g ∧ w.heap.size ≤ gP ∧ w.heap.size ≤ gM from by
    have h1 := HB.out
    have h2 := HC5.out.size
    omega)
  have HC6 := Lib.hid (HC5.out.then_ hc6 (fun i hi hw => by
    have h1 := HB.out
    have h2 := HGV.out
    simp only [List.mem_cons, List.not_mem_nil, or_false] at hi
    rcases hi with rfl | rfl | rfl | rfl <;> omega))
  have HT6 := Lib.hid (show Tp w6 pt A n c xs a2 from HT5.out.chg hc6 (fun hm => by
    simp only [List.mem_cons, List.not_mem_nil, or_false] at hm
    rcases hm with e | e | e | e
    · exact (Rfx.rec_ HD5.out).ne_ HT5.out.rec_ (by decide) e.symm
    · exact (Rfx.last HD5.out).ne_ HT5.out.rec_ (by decide) e.symm
    · exact (Rfx.now HD5.out).ne_ HT5.out.rec_ (by decide) e.symm
    · exact (Rfx.wait HD5.out).ne_ HT5.out.rec_ (by decide) e.symm) (fun h0 ad e hm => by
    have h1 := (HSP.out h0 ad e).2
    have h3 := HB.out
    have h2 := HGV.out
    simp only [List.mem_cons, List.not_mem_nil, or_false] at hm
    omega))
  have HS6 := Lib.hid hs6
  have HK6 := Lib.hid (show KeptM s6 x6 [] 0 ∧ s6.V.length = 24 ∧ w.heap.size ≤ gV6 from ⟨hk6, hv6, hgv6⟩)
  clear hO hg hgP hgM hgv6 hs6 hk6 hv6 hc6 HD5
  go_wp2_with fail
  refine (next_any HT6.out 6 (by omega) (by omega)).mono ?_
  rintro e w7 ⟨r3, a3, hr3, rfl, hT7, hc7⟩
  have HM7 := Lib.hid (show MadeK w w7 ⟨q, gL, gN, g, gP, gM, [pt]⟩ rL rN pt A n c xs from ⟨gV6, s6, md6, x6, [], 0, us6, rP, a3, HS6.out.past hc7 (by simp) (HS6.out.tape HT6.out.rec_), HK6.out.1, HK6.out.2.1, HK6.out.2.2, hT7⟩)
  have HC7 := Lib.hid (HC6.out.then_ hc7 (fun i hi hw => by simp only [List.mem_singleton] at hi; have := HPT.out; omega))
  clear hT7 hc7 HS6 HT6 HK6
  go_wp2_with fail
  go_loopw [10] (fun i wr => ∃ j : Nat, i = .int .i64 (j : Int) ∧ j ≤ 6 ∧ Hid (MadeK w wr ⟨q, gL, gN, g, gP, gM, [pt]⟩ rL rN pt A n c xs) ∧ Hid (Chg [] w wr)) (fun i _ => (intOf i).toNat)
  case atStart => exact ⟨r3, rfl, by omega, HM7, HC7⟩
  case round =>
    obtain ⟨j, rfl, hj, HKr, HCr⟩ := hrel
    clear HM7 HC7
    by_cases hlt : 0 < j
    · have hjI : (0 : Int) < (j : Int) := by omega
      obtain ⟨gX, s, md, x, ms, u, us, rP', a, hS, hK, hv, hgx, hT⟩ := HKr.out
      have HS := Lib.hid hS
      have HK := Lib.hid (show KeptM s x ms u ∧ s.V.length = 24 ∧ w.heap.size ≤ gX from ⟨hK, hv, hgx⟩)
      have HT := Lib.hid hT
      have e2 := hS.rec_.cell 2
      clear HKr hS hK hv hgx hT
      have hx5 : x.P ≤ 64 := by have := rightR_true.1 HS.out.rt; omega
      go_wp2_with fail
      refine (changes_any HT.out x.P hx5).mono ?_
      rintro e w2 ⟨vc, rfl, hso⟩
      obtain ⟨Ac, cc, ls, a2', rfl, hch, hin, hT2, hc2, hl2⟩ := chso_in hso hx5 HS.out.lts
      have HS2 := Lib.hid (HS.out.past hc2 (by simp) (HS.out.tape HT.out.rec_))
      have HT2 := Lib.hid hT2
      have HC2 := Lib.hid (HCr.out.then_ hc2 (fun i hi hw => by simp only [List.mem_singleton] at hi; have := HPT.out; omega))
      have HIN := Lib.hid hin
      obtain ⟨nl, hnl⟩ : ∃ nl, nl = ls.length := ⟨_, rfl⟩
      have HNL := Lib.hid (And.intro hnl hl2)
      rw [← hnl]
      have HCO := Lib.hid (rcommit_any (d := cc) HS2.out hch HNL.out.1.symm (by have := HNL.out; omega))
      clear hso hch hin hT2 hc2 hl2 hnl e2 hx5
      go_wp2_with fail
      refine HCO.out.mono ?_
      rintro e w3 hO
      obtain ⟨en, rfl, hM3, hC3⟩ : ∃ en : Int, e = .returned (.int .i64 en) ∧ MadeK w w3 ⟨q, gL, gN, g, gP, gM, [pt]⟩ rL rN pt A n c xs ∧ Chg [] w w3 := by
        rcases hO with ⟨h0, _⟩ | ⟨_, _, rfl, hc3⟩ | ⟨_, hyes, rfl, ⟨md3, us3, hs3⟩, hc3⟩
        · rw [HIN.out.2.1] at h0; cases h0
        · exact ⟨24, rfl, ⟨gX, s, md, x, ms, u, us, rP', a2', HS2.out.keep hc3, HK.out.1, HK.out.2.1, HK.out.2.2, HT2.out.chg hc3 (by simp) (fun _ _ _ h => by cases h)⟩, HC2.out.new hc3⟩
        · have hge : ∀ i ∈ RK.WP ⟨q, gL, gN, g, gP, gM, [pt]⟩ gX, w.heap.size ≤ i ∧ i ≠ pt := fun i hi => by
            have h1 := HW.out
            have h2 := HK.out.2.2
            have h3 := HS2.out.tape HT2.out.rec_ i
            simp only [RK.WP, List.mem_cons, List.not_mem_nil, or_false] at hi h3
            rcases hi with rfl | rfl | rfl | rfl | rfl | rfl | rfl
            · exact ⟨by omega, h3 (by simp)⟩
            · exact ⟨by omega, h3 (by simp)⟩
            · exact ⟨by omega, h3 (by simp)⟩
            · exact ⟨by omega, h3 (by simp)⟩
            · exact ⟨by omega, h3 (by simp)⟩
            · exact ⟨by omega, h3 (by simp)⟩
            · exact ⟨by omega, h3 (by simp)⟩
          refine ⟨0, rfl, ⟨gX, comS s x ls, md3, comV x ls, ms ++ [ls], u, us3, rP', a2', hs3, HK.out.1.com HIN.out (fits_le hyes HIN.out.2.2), (apS_V _ _ _).trans HK.out.2.1, HK.out.2.2, ?_⟩, HC2.out.then_ hc3 (fun i hi hw => by have := (hge i hi).1; omega)⟩
          exact HT2.out.chg hc3 (fun hm => (hge _ hm).2 rfl) (fun h0 ad e hm => by have h1 := (HSP.out h0 ad e).2; have h2 := (hge _ hm).1; omega)
      have HM3 := Lib.hid hM3
      have HC3 := Lib.hid hC3
      clear hO hM3 hC3 HCO HS2 HT2 HC2 HS HT HK HIN HNL
      go_wp2_with fail
      obtain ⟨gX, s, md, x, ms, u, us, rP', a, hS, hK, hv, hgx, hT⟩ := HM3.out
      have HS := Lib.hid hS
      have HK := Lib.hid (show KeptM s x ms u ∧ s.V.length = 24 ∧ w.heap.size ≤ gX from ⟨hK, hv, hgx⟩)
      refine (next_any hT 3 (by omega) (by omega)).mono ?_
      rintro e w4 ⟨r4, a4, hr4, rfl, hT4, hc4⟩
      have HS4 := Lib.hid (HS.out.past hc4 (by simp) (HS.out.tape hT.rec_))
      have HT4 := Lib.hid hT4
      have HC4 := Lib.hid (HC3.out.then_ hc4 (fun i hi hw => by simp only [List.mem_singleton] at hi; have := HPT.out; omega))
      clear hS hK hv hgx hT hT4 hc4 HM3 HS hr4
      obtain ⟨j', hj'⟩ : ∃ j', j = j' + 1 := ⟨j - 1, by omega⟩
      have hwj : IntKind.i64.wrap ((j : Int) - 1) = (j' : Int) := by rw [IntKind.wrap_i64]; omega
      have HJ := Lib.hid hj'
      clear hj'
      by_cases hz : r4 = 0
      · subst hz
        go_wp2_with fail
        refine (rfflush HS4.out.dsk).mono ?_
        rintro e w5 ⟨rfl, ⟨gY, md5, hd5, hgy⟩, hc5⟩
        have HM5 := Lib.hid (show MadeK w w5 ⟨q, gL, gN, g, gP, gM, [pt]⟩ rL rN pt A n c xs from ⟨gY, flA s, md5, x, ms, x.used, us, rP', a4, HS4.out.flushed hd5 hgy hc5, HK.out.1.flA, (flA_len _).trans HK.out.2.1, by
          have h1 := HK.out.2.2
          have h2 := HC4.out.size
          rcases hgy with h | h <;> omega, HT4.out.chg hc5 (fun hm => by
          have h3 := HS4.out.tape HT4.out.rec_ pt
          simp only [List.mem_cons, List.not_mem_nil, or_false] at hm h3
          rcases hm with e | e
          · exact h3 (.inl e) rfl
          · exact h3 (.inr (.inl e)) rfl) (fun h0 ad e hm => by
          have h1 := (HSP.out h0 ad e).2
          have h2 := HW.out
          simp only [List.mem_cons, List.not_mem_nil, or_false] at hm
          omega)⟩)
        have HC5 := Lib.hid (HC4.out.then_ hc5 (fun i hi hw => by
          have h2 := HW.out
          simp only [List.mem_cons, List.not_mem_nil, or_false] at hi
          omega))
        clear hd5 hgy hc5
        go_wp2_with fail
        go_roundw
        case rel => exact ⟨j', rfl, by have := HJ.out; omega, HM5, HC5⟩
        case measure => simp [intOf]; have := HJ.out; omega
      · have hz0 : ((r4 : Int) == 0) = false := by simp; omega
        have HM5 := Lib.hid (show MadeK w w4 ⟨q, gL, gN, g, gP, gM, [pt]⟩ rL rN pt A n c xs from ⟨gX, s, md, x, ms, u, us, rP', a4, HS4.out, HK.out.1, HK.out.2.1, HK.out.2.2, HT4.out⟩)
        clear hz
        go_wp2_with fail
        go_roundw
        case rel => exact ⟨j', rfl, by have := HJ.out; omega, HM5, HC4⟩
        case measure => simp [intOf]; have := HJ.out; omega
    · obtain rfl : j = 0 := by omega
      have hjI : ¬ (0 : Int) < ((0 : Nat) : Int) := by omega
      obtain ⟨gX, s, md, x, ms, u, us, rP', a, hS, hK, hv, hgx, hT⟩ := HKr.out
      have HS := Lib.hid hS
      have HK := Lib.hid (show KeptM s x ms u ∧ s.V.length = 24 ∧ w.heap.size ≤ gX from ⟨hK, hv, hgx⟩)
      have hca : 0 < cs.length → ∀ ad, C = some ad → ad.spot = none ∧ ad.block ∉ [q, gL, gN] := fun h0 ad e => by
        have h1 := HCSP.out (by rw [← HCL.out]; exact h0) ad e
        refine ⟨h1.1, fun hm => ?_⟩
        have := HW.out
        simp only [List.mem_cons, List.not_mem_nil, or_false] at hm
        omega
      have HCR := Lib.hid (rcrash_any hS.dsk (c := d) HCL.out (HCS.out.keep HCr.out) (fun h0 ad e => (hca h0 ad e).1) (fun h0 ad e => (hca h0 ad e).2))
      clear HKr hS hK hv hgx hT hca
      go_wp2_with fail
      refine HCR.out.mono ?_
      rintro e w2 ⟨gY, rfl, hd2, hgy, hc2⟩
      obtain ⟨l, hle, hmi⟩ := HK.out.1.made cs
      have hrl : rcL s (wl s.V s.V.length) cs (wl s.V s.V.length).length = l := by
        rw [rcL_eq HK.out.1.k.sa (wl s.V s.V.length) cs (fun i hi => wl_lt s.V s.V.length i hi) (wl_rises _ _) _ (Nat.le_refl _), hle]
      rw [hrl] at hd2
      rw [HK.out.2.1] at hmi hd2
      have hll : l.length = 1536 := by obtain ⟨_, _, _, _, _, _, h, _⟩ := hmi; exact h
      have HMI := Lib.hid hmi
      have hlast := hd2.last
      have hrec := hd2.rec_
      have hsrc : Src w2 (some ⟨gL, 0, none⟩) (bts l) := by
        have := Src.of_whole hlast 0 l.length
        rwa [List.drop_zero, List.take_append_of_le_length (by rw [bts_len]; exact Nat.le_refl _), List.take_of_length_le (by rw [bts_len]; exact Nat.le_refl _)] at this
      have HPA := Lib.hid (pair_yes (n := l.length) (c := l.length + rL.length) rfl hsrc (by omega) (by omega) (by omega))
      have HC2 := Lib.hid (HCr.out.then_ hc2 (fun i hi hw => by
        have h2 := HW.out
        simp only [List.mem_cons, List.not_mem_nil, or_false] at hi
        omega))
      have HLL := Lib.hid (show l.length / 64 = 24 from by omega)
      have c0 := hrec.cell 0
      simp only [List.getElem?_cons_zero] at c0
      obtain ⟨nl, hnl⟩ : ∃ nl, nl = l.length := ⟨_, rfl⟩
      rw [HLL.out] at HPA
      rw [← hnl] at c0 HPA
      clear hd2 hgy hc2 hle hmi hrl hll hlast hrec hsrc HCR hnl
      go_wp2_with fail
      refine HPA.out.mono ?_
      rintro e w3 hP3
      have HP := Lib.hid (show MadePost w e w3 from ⟨l, HMI.out, by
        obtain ⟨p, bL, bS, bW, q', gL', gN', gW', rL', rN', m', h1, h2, h3, h4, h5, h6⟩ := hP3
        exact ⟨p, bL, bS, bW, q', gL', gN', gW', rL', rN', m', h1, h2, h3, fun i hi => by have h7 := h4 i hi; have h8 := HC2.out.size; omega, h5, HC2.out.new h6⟩⟩)
      obtain ⟨p, bL, bS, bW, q', gL', gN', gW', rL', rN', m', rfl, _⟩ := hP3
      clear c0
      go_wp2_with fail
      go_ret2
      exact HP.out
end
end Go.Proofs.YtddjgncdjdjgeaaGreat
