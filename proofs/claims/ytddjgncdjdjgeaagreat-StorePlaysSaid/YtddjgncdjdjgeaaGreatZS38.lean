/-
  S: PlayS2, PlayS3.
-/
import Derived.Test.YtddjgncdjdjgeaaGreatZS37
namespace Go.Proofs.YtddjgncdjdjgeaaGreat
open Go.RowKit
/-- Changes of an argument lie away from what is new. -/
theorem Chs.away {w : World} {C : Option Addr} {ls : List ChV} (h : Chs w C ls) {T : List Nat} (hT : ∀ i ∈ T, w.heap.size ≤ i) : ChsD T w C ls := by
  refine ⟨h, fun h0 ad e hm => ?_, fun a ha h0 ad e hm => ?_⟩
  · obtain ⟨g, o, e', hg, _⟩ := h.cells h0
    rw [e] at e'; injection e' with e'; subst e'
    have := hT _ hm
    have h1 : w.heap.size ≤ g := this
    omega
  · have hok := (h.ok a ha).bs
    obtain ⟨ad', e', hb, _⟩ := hok.src (by rw [bts_len, hok.len]; exact h0)
    rw [e] at e'; injection e' with e'; subst e'
    have := hT _ hm
    omega
/-- An ask of chapter 18 as it lies in memory. -/
structure AskSV where
  kind : Int
  num : Int
  cA : Option Addr
  cn : Nat
  cc : Nat
  C : List Int
  rA : Option Addr
  rn : Nat
  rc : Nat
  R : List ChV
structure AskSOk (w : World) (a : AskSV) : Prop where
  cl : a.C.length = a.cn
  cs : Src w a.cA (nms a.C)
  cp : 0 < a.cn → ∀ ad, a.cA = some ad → ad.spot = none ∧ ad.block < w.heap.size
  cm : a.cn ≤ 9223372036854775807
  rl : a.R.length = a.rn
  rs : Chs w a.rA a.R
  rm : a.rn ≤ 9223372036854775807
structure AsksS (w : World) (A : Option Addr) (l : List AskSV) : Prop where
  cells : 0 < l.length → ∃ g o, A = some ⟨g, o, none⟩ ∧ g < w.heap.size ∧ ∀ k a, l[k]? = some a → w.cell? ⟨g, o + k * 4, none⟩ = some (.int .i64 a.kind) ∧ w.cell? ⟨g, o + k * 4 + 1, none⟩ = some (.int .i64 a.num) ∧ w.cell? ⟨g, o + k * 4 + 2, none⟩ = some (.slice a.cA a.cn a.cc) ∧ w.cell? ⟨g, o + k * 4 + 3, none⟩ = some (.slice a.rA a.rn a.rc)
  ok : ∀ a ∈ l, AskSOk w a
/-- More blocks that the reference's store lets be written. -/
theorem RSto.adds {w w' : World} {q gL gN g gP gM : Nat} {ex : List Nat} {gW : Nat} {rL rN : List Value} {d : Dg} {x : SV} {us rP : List Value} (h : RSto w ⟨q, gL, gN, g, gP, gM, ex⟩ gW rL rN d x us rP) {N : List Nat} (hc : Chg [] w w') (hN : ∀ i ∈ N, w.heap.size ≤ i ∧ i < w'.heap.size) : RSto w' ⟨q, gL, gN, g, gP, gM, N ++ ex⟩ gW rL rN d x us rP := by
  have h64 := h.p64
  have hk := h.keep hc
  have hin : ∀ i, i ∈ RK.D ⟨q, gL, gN, g, gP, gM, N ++ ex⟩ gW → i ∈ N ∨ i ∈ RK.D ⟨q, gL, gN, g, gP, gM, ex⟩ gW := fun i hi => by
    simp only [RK.D, List.mem_cons, List.mem_append] at hi ⊢
    rcases hi with h | h | h | h | h | h | h | h | h <;> simp [h]
  have hels : Els (RK.D ⟨q, gL, gN, g, gP, gM, N ++ ex⟩ gW) w' us x.pages := by
    refine ⟨h.els.1, fun i u l hu hl => ?_⟩
    obtain ⟨A', n', c', eu, hB, hD⟩ := h.els.2 i u l hu hl
    refine ⟨A', n', c', eu, hB.keep hc, fun ad ha hm => ?_⟩
    rcases hin _ hm with hm | hm
    · obtain ⟨ad', ea, hb, _⟩ := hB.src (by rw [bts_len, h64 l (List.mem_of_getElem? hl)]; omega)
      rw [ha] at ea
      injection ea with ea
      subst ea
      have := (hN _ hm).1
      omega
    · exact hD ad ha hm
  have hexl : ∀ i ∈ N ++ ex, i < w'.heap.size := fun i hi => by
    rcases List.mem_append.1 hi with hi | hi
    · exact (hN i hi).2
    · exact hk.exl i hi
  exact { hk with els := hels, exl := hexl }
section
variable {w0 w w' : World} {D : SD} {rL rN : List Value} {g h : Nat} {ex1 : List Nat} {gW gr gP gM : Nat} {ex2 : List Nat} {s : St} {x : SV} {v : Value} {m : Int} {us rP : List Value}
/-- A tape is laid. -/
theorem PS.addpt {p bL bS bW q gL gN pt : Nat} (P : PS w0 w ⟨p, bL, bS, bW, q, gL, gN, []⟩ rL rN g h ex1 gW gr gP gM ex2 s x v m us rP) (hw : w0.heap.size ≤ w.heap.size) (hc : Chg [] w w') (h1 : w.heap.size ≤ pt) (h2 : pt < w'.heap.size) : PS w0 w' ⟨p, bL, bS, bW, q, gL, gN, [pt]⟩ rL rN g h ([pt] ++ ex1) gW gr gP gM ([pt] ++ ex2) s x v m us rP := by
  have hN : ∀ i ∈ [pt], w.heap.size ≤ i ∧ i < w'.heap.size := fun i hi => by simp only [List.mem_singleton] at hi; subst hi; exact ⟨h1, h2⟩
  have k1 : ∀ i ∈ SD.d1 ⟨p, bL, bS, bW, q, gL, gN, [pt]⟩ g h, i < w.heap.size := fun i hi => P.rs.exl i (P.a2 i hi)
  have k2 : ∀ i ∈ SD.d2 ⟨p, bL, bS, bW, q, gL, gN, [pt]⟩ gW gr gP gM, i < w.heap.size := fun i hi => P.st.exl i (P.a1 i hi)
  have kk : ∀ (ex : List Nat), (∀ i ∈ ex, w0.heap.size ≤ i) → ∀ i ∈ [pt] ++ ex, w0.heap.size ≤ i := fun ex he i hi => by
    rcases List.mem_append.1 hi with hi | hi
    · simp only [List.mem_singleton] at hi; omega
    · exact he i hi
  exact { st := P.st.adds (N := [pt]) hc (fun i hi => by cases hi) (fun i _ hm => by cases hm) hN, rs := P.rs.adds hc hN, sa := P.sa, a1 := fun i hi => List.mem_append_right _ (P.a1 i hi), a2 := fun i hi => List.mem_append_right _ (P.a2 i hi), ap := P.ap, t1 := fun i hi => List.mem_append_left _ hi, t2 := fun i hi => List.mem_append_left _ hi, f1 := fun i hi => ⟨(P.f1 i hi).1, fun hm => by simp only [List.mem_singleton] at hm; have := k1 i hi; omega⟩, f2 := fun i hi => ⟨(P.f2 i hi).1, fun hm => by simp only [List.mem_singleton] at hm; have := k2 i hi; omega⟩, e1 := kk _ P.e1, e2 := kk _ P.e2 }
/-- Both were opened. -/
theorem ps_open (hw : w0.heap.size ≤ w.heap.size) (st : Sto w ⟨D.p, D.bL, D.bS, D.bW, g, h, ex1⟩ s x v) (hsa : Sa s) (hx1 : ∀ i ∈ [D.q, D.gL, D.gN, gW], i ∈ ex1) (hp1 : ∀ i ∈ D.pts, i ∈ ex1) (hap : ∀ i ∈ D.d1 g h, i ∉ [D.q, D.gL, D.gN, gW]) (hc : Chg [D.q, D.gL, D.gN, gW] w w') {gW' : Nat}
    (rs : RSto w' ⟨D.q, D.gL, D.gN, gr, gP, gM, ex2⟩ gW' rL rN ⟨s, -1, m⟩ x us rP) (hg : gW' = gW ∨ w.heap.size ≤ gW') (h1 : w.heap.size ≤ gr) (h2 : w.heap.size ≤ gP) (h3 : w.heap.size ≤ gM) (he1 : ∀ i ∈ ex1, w0.heap.size ≤ i) (he2 : ∀ i ∈ ex2, w0.heap.size ≤ i) (hx2 : ∀ i ∈ D.d1 g h, i ∈ ex2) (hp2 : ∀ i ∈ D.pts, i ∈ ex2)
    (f1 : ∀ i ∈ D.d1 g h, w0.heap.size ≤ i ∧ i ∉ D.pts) (f2 : ∀ i ∈ [D.q, D.gL, D.gN, gW], w0.heap.size ≤ i ∧ i ∉ D.pts) : ∃ ex1', PS w0 w' D rL rN g h ex1' gW' gr gP gM ex2 s x v m us rP := by
  have hlt := rs.lts
  have hd1 : ∀ i ∈ D.d1 g h, i < w.heap.size := fun i hi => by
    simp only [SD.d1, List.mem_cons, List.not_mem_nil, or_false] at hi
    exact st.lts i (by simp only [SK.D, List.mem_cons]; rcases hi with h | h | h | h | h | h <;> simp [h])
  have hpl : ∀ i ∈ D.pts, i < w.heap.size := fun i hi => st.exl i (hp1 i hi)
  have hin : ∀ i ∈ D.d2 gW' gr gP gM, i ∈ [D.q, D.gL, D.gN, gW] ∨ w.heap.size ≤ i := fun i hi => by
    simp only [SD.d2, List.mem_cons, List.not_mem_nil, or_false] at hi ⊢
    rcases hi with rfl | rfl | rfl | rfl | rfl | rfl | rfl
    · simp
    · simp
    · simp
    · rcases hg with rfl | hg
      · simp
      · exact .inr hg
    · exact .inr h1
    · exact .inr h2
    · exact .inr h3
  have hl2 : ∀ i ∈ D.d2 gW' gr gP gM, i < w'.heap.size := fun i hi => hlt i (by
    simp only [SD.d2, List.mem_cons, List.not_mem_nil, or_false] at hi
    simp only [RK.D, List.mem_cons]
    rcases hi with h | h | h | h | h | h | h <;> simp [h])
  refine ⟨(D.d2 gW' gr gP gM).filter (fun i => decide (w.heap.size ≤ i)) ++ ex1, { st := ?_, rs := rs, sa := hsa, a1 := fun i hi => ?_, a2 := hx2, ap := fun i hi hm => ?_, t1 := fun i hi => List.mem_append_right _ (hp1 i hi), t2 := hp2, f1 := f1, f2 := fun i hi => ?_, e1 := fun i hi => ?_, e2 := he2 }⟩
  · refine st.adds hc hx1 (fun i hi => hap i hi) (fun i hi => ?_)
    rw [List.mem_filter] at hi
    exact ⟨of_decide_eq_true hi.2, hl2 i hi.1⟩
  · rcases hin i hi with h | h
    · exact List.mem_append_right _ (hx1 i h)
    · exact List.mem_append_left _ (List.mem_filter.2 ⟨hi, decide_eq_true h⟩)
  · rcases hin i hm with h | h
    · exact hap i hi h
    · have := hd1 i hi; omega
  · rcases hin i hi with h | h
    · exact f2 i h
    · exact ⟨by omega, fun hm => by have := hpl i hm; omega⟩
  · rcases List.mem_append.1 hi with hi | hi
    · have h4 := of_decide_eq_true (List.mem_filter.1 hi).2; omega
    · exact he1 i hi
end
end Go.Proofs.YtddjgncdjdjgeaaGreat
namespace Go.Proofs.YtddjgncdjdjgeaaGreat
open Go.RowKit
section
variable {w : World}
set_option maxHeartbeats 4000000 in
set_option maxRecDepth 100000 in
theorem pairS_yes {A : Option Addr} {n c : Nat} {l : List UInt8} (hl : l.length = n) (hs : Src w A (bts l)) (h1 : 64 ≤ n) (h2 : n < 10304) (h3 : n % 64 = 0) :
    Calls Tryz.prog 18 #[.slice A n c] w (PairPost w (n / 64) l) := by
  have HO := Lib.hid (of_yes (c := c) hl hs h1 h2 h3)
  have HRO := Lib.hid (fun (w' : World) (hc : Chg [] w w') => rof_yes (c := c) hl (hs.keep hc) h1 h2 h3)
  clear hl hs h1 h2 h3
  go_enter Tryz.func18, Tryz.ntmps18
  go_wp2_with fail
  refine HO.out.mono ?_
  rintro e w1 ⟨p, bL, bS, bW, rfl, hd1, hp, hbL, hbS, hbW, hc1⟩
  have HD1 := Lib.hid hd1
  have HC1 := Lib.hid hc1
  have HLT := Lib.hid (show p < w1.heap.size ∧ bL < w1.heap.size ∧ bS < w1.heap.size ∧ bW < w1.heap.size from ⟨(Dsk.rec_ hd1).lt, (Dsk.last hd1).lt, (Dsk.seen hd1).lt, (Dsk.wait hd1).lt⟩)
  have HGE := Lib.hid (show w.heap.size ≤ p ∧ w.heap.size ≤ bL ∧ w.heap.size ≤ bS ∧ w.heap.size ≤ bW from ⟨hp, hbL, hbS, hbW⟩)
  clear hd1 hc1 hp hbL hbS hbW
  go_wp2_with fail
  refine (HRO.out w1 HC1.out).mono ?_
  rintro e w2 ⟨q, gL, gN, gW, rL, rN, m, rfl, hr2, hq, hgL, hgN, hgW, hc2⟩
  have HP := Lib.hid (show PairPost w (n / 64) l (.returned (.tuple #[.pointer (some ⟨p, 0, none⟩), .pointer (some ⟨q, 0, none⟩)])) w2 from ⟨p, bL, bS, bW, q, gL, gN, gW, rL, rN, m, rfl, Dsk.keep HD1.out hc2, hr2, fun i hi => by
    have h1 := HGE.out
    have h2 := HC1.out.size
    simp only [List.mem_cons, List.not_mem_nil, or_false] at hi
    rcases hi with rfl | rfl | rfl | rfl | rfl | rfl | rfl | rfl <;> omega, fun i hi hm => by
    have h1 := HLT.out
    simp only [List.mem_cons, List.not_mem_nil, or_false] at hi hm
    omega, HC1.out.new hc2⟩)
  clear hr2 hq hgL hgN hgW hc2
  go_wp2_with fail
  go_ret2
  exact HP.out
end
section
variable {w : World} {A : Option Addr} {n c : Nat} {l : List UInt8}
set_option maxHeartbeats 1000000 in
set_option maxRecDepth 100000 in
theorem pairS_no (hn : n ≤ 1000000) (h : n < 64 ∨ 10304 ≤ n ∨ n % 64 ≠ 0) : Calls Tryz.prog 18 #[.slice A n c] w fun e w' => e = .returned (.tuple #[.pointer none, .pointer none]) ∧ Chg [] w w' := by
  have HO := Lib.hid (fun W : World => of_no (w := W) (A := A) (c := c) hn h)
  have HR := Lib.hid (fun W : World => rof_no (w := W) (A := A) (c := c) hn h)
  clear hn h
  go_enter Tryz.func18, Tryz.ntmps18
  go_wp2_with fail
  refine (HO.out _).mono ?_
  rintro e w1 ⟨rfl, rfl⟩
  go_wp2_with fail
  refine (HR.out _).mono ?_
  rintro e w2 ⟨rfl, rfl⟩
  go_wp2_with fail
  go_ret2
  exact ⟨rfl, Chg.refl _ _⟩
theorem pairS_any (hb : Bs w A n c l) (hn : n ≤ 10000) : Calls Tryz.prog 18 #[.slice A n c] w fun e w' => (e = .returned (.tuple #[.pointer none, .pointer none]) ∧ Chg [] w w') ∨ ((64 ≤ n ∧ n < 10304) ∧ PairPost w (n / 64) l e w') := by
  by_cases h : n < 64 ∨ n % 64 ≠ 0
  · exact (pairS_no (by omega) (by omega)).mono fun _ _ hp => .inl hp
  · exact (pairS_yes hb.len hb.src (by omega) (by omega) (by omega)).mono fun _ _ hp => .inr ⟨⟨by omega, by omega⟩, hp⟩
end
section
variable {w : World} {k : SK} {s : St} {x : SV} {vP : Value}
set_option maxHeartbeats 2000000 in
set_option maxRecDepth 100000 in
theorem ck_full (h : Sto w k s x vP) (hE : x.E = 4294967295) :
    Calls Tryz.prog 46 #[.pointer (some ⟨k.g, 0, none⟩)] w (fun e w' => e = .returned (.int .i64 24) ∧ Chg [] w w') := by
  have e3 := h.rec_.cell 3
  have hq : ((x.E : Int) == 4294967295) = true := by simp [hE]
  obtain ⟨A, c, us, rfl, _⟩ := h.pgs
  clear h hE
  go_enter Tryz.func46, Tryz.ntmps46
  go_wp2_with fail
  go_ret
  exact ⟨rfl, Chg.refl _ _⟩
end
theorem inl_of {w : World} {C : Option Addr} {P : Nat} {ls : List ChV} (h : Chs w C ls) (hr : rightB (P : Int) ls = true) (hP : P ≤ 64) : InL P ls := by
  have hrs : rightS (-1) (P : Int) ls = true := by unfold rightB at hr; rw [Bool.and_eq_true] at hr; exact hr.2
  obtain ⟨h1, h2⟩ := rs_len hrs (by omega)
  refine ⟨fun a ha => ?_, hr, by omega⟩
  obtain ⟨p0, p1, p2⟩ := h2 a ha
  exact ⟨⟨by omega, by omega, p2⟩, by rw [(h.ok a ha).bs.len, p2]⟩
theorem Sa.com {s : St} (h : Sa s) {x : SV} {n : Nat} (hv : s.V.length = n) (hr : rightR x.L x.P x.E n = true) {ls : List ChV} (hm : InL x.P ls) (hf : fitsB (x.L : Int) (x.used : Int) (ls.length : Int) = true) : Sa (comS s x ls) := by
  have h1 := rightR_true.1 hr
  have h2 := fits_le hf hm.2.2
  have hl : (comL x ls).length = 18 + 66 * ls.length := by unfold comL; rw [frameL_len, back_len hm.1]; omega
  have h3 := h.ls
  exact h.apS (by rw [hl, h3, hv]; omega)
/-- What a commit answers. -/
def comE (x : SV) (ls : List ChV) : Int := if rightB x.P ls = false then 1 else if fitsB x.L x.used ls.length = false then 24 else 0
section
variable {w0 w w' : World} {D : SD} {rL rN : List Value} {g h : Nat} {ex1 : List Nat} {gW gr gP gM : Nat} {ex2 : List Nat} {s : St} {x : SV} {v : Value} {m : Int} {us rP : List Value} {ls : List ChV} {C : Option Addr}
theorem SK.w_d1 {i : Nat} (hi : i ∈ SK.W ⟨D.p, D.bL, D.bS, D.bW, g, h, ex1⟩) : i ∈ D.d1 g h := by
  simp only [SK.W, List.mem_cons, List.not_mem_nil, or_false] at hi
  simp only [SD.d1, List.mem_cons, List.not_mem_nil, or_false]
  rcases hi with h | h | h | h | h <;> simp [h]
theorem RK.w_d2 {i : Nat} (hi : i ∈ RK.WP ⟨D.q, D.gL, D.gN, gr, gP, gM, ex2⟩ gW) : i ∈ D.d2 gW gr gP gM := by
  simp only [RK.WP, List.mem_cons, List.not_mem_nil, or_false] at hi
  simp only [SD.d2, List.mem_cons, List.not_mem_nil, or_false]
  rcases hi with h | h | h | h | h | h | h <;> simp [h]
/-- The program's store has committed. -/
def ComH (w0 w' : World) (D : SD) (rL rN : List Value) (g h : Nat) (ex1 : List Nat) (gW gr gP gM : Nat) (ex2 : List Nat) (s : St) (x : SV) (m : Int) (us rP : List Value) (ls : List ChV) : Prop :=
  ∃ s' x' v', PH w0 w' D rL rN g h ex1 gW gr gP gM ex2 s s' x x' v' m us rP ∧ ((comE x ls ≠ 0 ∧ s' = s ∧ x' = x) ∨ (comE x ls = 0 ∧ s' = comS s x ls ∧ x' = comV x ls))
theorem PS.com (P : PS w0 w D rL rN g h ex1 gW gr gP gM ex2 s x v m us rP) {e : Ending} (hO : ComPost w ⟨D.p, D.bL, D.bS, D.bW, g, h, ex1⟩ s x ls e w') : e = .returned (.int .i64 (comE x ls)) ∧ ComH w0 w' D rL rN g h ex1 gW gr gP gM ex2 s x m us rP ls ∧ Chg (D.d1 g h) w w' := by
  rcases hO with ⟨h1, rfl, hc⟩ | ⟨h1, h2, rfl, hc⟩ | ⟨h1, h2, rfl, ⟨v', hs⟩, hc⟩
  · have he : comE x ls = 1 := by unfold comE; rw [if_pos h1]
    exact ⟨by rw [he], ⟨s, x, v, P.half (T := []) (fun i hi => by cases hi) hc (P.st.keep hc), .inl ⟨by rw [he]; decide, rfl, rfl⟩⟩, hc.sub (fun _ h => by cases h)⟩
  · have he : comE x ls = 24 := by unfold comE; rw [if_neg (by rw [h1]; decide), if_pos h2]
    exact ⟨by rw [he], ⟨s, x, v, P.half (T := []) (fun i hi => by cases hi) hc (P.st.keep hc), .inl ⟨by rw [he]; decide, rfl, rfl⟩⟩, hc.sub (fun _ h => by cases h)⟩
  · have he : comE x ls = 0 := by unfold comE; rw [if_neg (by rw [h1]; decide), if_neg (by rw [h2]; decide)]
    exact ⟨by rw [he], ⟨_, _, v', P.half (fun i hi => SK.w_d1 hi) hc hs, .inr ⟨he, rfl, rfl⟩⟩, hc.sub (fun i hi => SK.w_d1 hi)⟩
/-- .. and the reference's. -/
theorem ComH.com {w1 : World} (H : ComH w0 w1 D rL rN g h ex1 gW gr gP gM ex2 s x m us rP ls) (hsa : Sa s) (hin : rightB x.P ls = true → InL x.P ls) (hw : w0.heap.size ≤ w1.heap.size) {e : Ending} (hO : RComPost w1 ⟨D.q, D.gL, D.gN, gr, gP, gM, ex2⟩ gW rL rN s x rP ls e w') :
    e = .returned (.int .i64 (comE x ls)) ∧ (∃ ex1' s' x' v' m' us', PS w0 w' D rL rN g h ex1' gW gr gP gM ex2 s' x' v' m' us' rP) ∧ Chg (D.d2 gW gr gP gM) w1 w' := by
  obtain ⟨s', x', v', P, hcase⟩ := H
  rcases hO with ⟨h1, rfl, hc⟩ | ⟨h1, h2, rfl, hc⟩ | ⟨h1, h2, rfl, ⟨m', us', hs⟩, hc⟩
  · have he : comE x ls = 1 := by unfold comE; rw [if_pos h1]
    rcases hcase with ⟨_, rfl, rfl⟩ | ⟨h0, _⟩
    · exact ⟨by rw [he], ⟨_, _, _, _, _, _, P.whole hw hsa (T := []) (fun i hi => by cases hi) hc (.inl rfl) (P.rs.keep hc)⟩, hc.sub (fun _ h => by cases h)⟩
    · rw [he] at h0; cases h0
  · have he : comE x ls = 24 := by unfold comE; rw [if_neg (by rw [h1]; decide), if_pos h2]
    rcases hcase with ⟨_, rfl, rfl⟩ | ⟨h0, _⟩
    · exact ⟨by rw [he], ⟨_, _, _, _, _, _, P.whole hw hsa (T := []) (fun i hi => by cases hi) hc (.inl rfl) (P.rs.keep hc)⟩, hc.sub (fun _ h => by cases h)⟩
    · rw [he] at h0; cases h0
  · have he : comE x ls = 0 := by unfold comE; rw [if_neg (by rw [h1]; decide), if_neg (by rw [h2]; decide)]
    rcases hcase with ⟨h0, _⟩ | ⟨_, rfl, rfl⟩
    · exact absurd he h0
    · exact ⟨by rw [he], ⟨_, _, _, _, _, _, P.whole hw (hsa.com rfl P.rs.rt (hin h1) h2) (fun i hi => RK.w_d2 hi) hc (.inl rfl) hs⟩, hc.sub (fun i hi => RK.w_d2 hi)⟩
end
end Go.Proofs.YtddjgncdjdjgeaaGreat
