/-
  GL: NestTake, NestMatch, NestRef.
-/
import Derived.Test.YtodbeeodhekpeaaDoorZGL5
import Derived.Test.YtodbeeodhekpeaaDoorZGL19
import Derived.BigRegion
import Derived.Deep.RegionLaw
import Derived.Deep.QuietTactic
import Derived.BigQuiet
namespace Go.Proofs.YtodbeeodhekpeaaDoor
open Go.RowKit
section
variable {W : World} {gm gt B n : Nat} {m : NSt} {vo : Value} {xs : List PV}
/-- A part is opened. -/
theorem Mt.push {W1 w' : World} {v' : Value} {lp : Bool} {i : Nat} (h : Mt W gm gt B n m vo xs) (hc : Chg [] W W1) (hi : i < n) (hn : xs.length < 16)
    (ho : w'.ownsRow B 139 4 v' (xs.length + 1) (pvCs xs ++ [.bool lp, .int .i64 (i : Int), .int .i64 (i : Int), .slice none 0 0])) (hg : W1.grownBy w' vo.ownBlock) :
    Mt (w'.setCell ⟨gm, 2, none⟩ v') gm gt B n ⟨m.to, m.deep, ⟨lp, i, i, []⟩ :: m.op⟩ v' (xs ++ [⟨⟨lp, i, i, []⟩, .slice none 0 0⟩]) := by
  have h1 := h.keep hc
  have hlo := h.lo
  have hown : ∀ {e k q : Nat} {v : Value} {cs : List Value}, w'.ownsRow B e k v q cs → v.ownBlock ≠ some gm := fun ho hc => by
    have := (ho.lt gm hc).1; omega
  have hw : Whole w' gm 126 [.slice (some ⟨gt, 0, none⟩) n n, .int .i64 (m.deep : Int), vo] := whole_grown h1.rec_ h1.own (by decide) hg
  refine ⟨?_, (whole_grown h1.to_ h1.own (by decide) hg).far (by simp only; omega) _, h.len, by rw [h.op]; simp, ?_, fun y hy => ?_, ?_, h.lo, by simp; omega, h.deep, fun y hy => ?_, h.big, by rw [size_set]; exact Nat.le_trans h1.room hg.size⟩
  · have := hw.set_ 2 v'
    simpa using this
  · have ho2 := rown_far (u := v') (p := ⟨gm, 2, none⟩) ho (hown ho)
    rw [List.length_append, pvCs_app, pvCs_one]
    exact ho2
  · rcases List.mem_append.1 hy with hy | hy
    · have := rown_grown (h1.left y hy) h1.own (by decide) hg
      exact rown_far this (hown this)
    · simp only [List.mem_cons, List.not_mem_nil, or_false] at hy
      subst hy
      exact ⟨rfl, .inl ⟨rfl, rfl⟩⟩
  · rw [List.pairwise_append]
    refine ⟨h.apart, List.pairwise_singleton _ _, fun y hy z hz => ?_⟩
    simp only [List.mem_cons, List.not_mem_nil, or_false] at hz
    subst hz
    cases hy2 : y.v.ownBlock with
    | none => exact .inl rfl
    | some b => exact .inr (by simp [Value.ownBlock])
  · rcases List.mem_append.1 hy with hy | hy
    · exact h.wf y hy
    · simp only [List.mem_cons, List.not_mem_nil, or_false] at hy
      subst hy
      exact ⟨hi, hi, Nat.zero_le _, fun j hj => by cases hj⟩
end
end Go.Proofs.YtodbeeodhekpeaaDoor
namespace Go.Proofs.YtodbeeodhekpeaaDoor
open Go.RowKit
theorem make_ints (W : World) (n : Nat) (hn : n ≤ 100000) : (Instr.makeSlice 22 (.int .i64 (n : Int)) (.int .i64 (n : Int))).run Tryd.prog W = .ok (.slice (some ⟨W.heap.size, 0, none⟩) n n) (W.alloc (.cells (nms (List.replicate n 0)).toArray 3)) := by
  obtain ⟨i, hi, hz, hs1, hb⟩ := info_parts info_int
  have : nms (List.replicate n 0) = List.replicate n (.int .i64 0) := by simp [nms]
  rw [this]
  exact run_make1 22 3 i (.int .i64 0) rfl Tryd.underlying22 hi hz hs1 n (by rw [hb]; omega) (by omega) W
end Go.Proofs.YtodbeeodhekpeaaDoor
namespace Go.Proofs.YtodbeeodhekpeaaDoor
open Go.RowKit
/-- The reference's state in memory. -/
structure Rt (W : World) (gt B n : Nat) (m : RSt) (vo : Value) : Prop where
  to_ : Whole W gt 3 (nms m.to)
  len : m.to.length = n
  own : W.ownsRow B 3 1 vo m.op.length (nts m.op.reverse)
  lo : gt < B
  few : m.op.length ≤ 16
  deep : m.deep ≤ 16
  wf : ∀ p ∈ m.op, p < n
  big : n ≤ 100000
  room : B ≤ W.heap.size
section
variable {W W' : World} {gt B n : Nat} {m : RSt} {vo : Value}
theorem Rt.keep (h : Rt W gt B n m vo) (hc : Chg [] W W') : Rt W' gt B n m vo :=
  { h with to_ := h.to_.keep hc, own := own_keep h.own hc, room := Nat.le_trans h.room hc.size }
theorem Rt.poke (h : Rt W gt B n m vo) (j : Nat) (x : Int) : Rt (W.setCell ⟨gt, j, none⟩ (.int .i64 x)) gt B n ⟨m.to.set j x, m.deep, m.op⟩ vo := by
  refine { h with to_ := ?_, len := by rw [List.length_set]; exact h.len, own := rown_far h.own (fun hc => by have := (h.own.lt gt hc).1; have := h.lo; omega), room := by rw [size_set]; exact h.room }
  have := h.to_.set_ j (.int .i64 x)
  rwa [nms_set] at this
theorem Rt.top {p : Nat} {r : List Nat} (h : Rt W gt B n m vo) (hm : m.op = p :: r) : ∃ g c, vo = .slice (some ⟨g, 0, none⟩) (r.length + 1) c ∧ r.length + 1 ≤ c ∧ W.cell? ⟨g, r.length, none⟩ = some (.int .i64 (p : Int)) ∧ W.frozen? ⟨g, r.length, none⟩ = false ∧ B ≤ g ∧ g < W.heap.size ∧ p < n ∧ r.length < 16 := by
  have ho := h.own
  have hf := h.few
  rw [hm] at ho hf
  simp only [List.length_cons] at ho hf
  obtain ⟨A, c, rfl, h1, _, _⟩ := rown_slice ho
  obtain ⟨g, rfl, hc⟩ := rown_cell ho rfl (j := r.length) (u := .int .i64 (p : Int)) (by simp [nts])
  exact ⟨g, c, rfl, h1, hc, rown_frozen ho, (ho.lt g rfl).1, (ho.lt g rfl).2, h.wf p (by rw [hm]; simp), by omega⟩
theorem Rt.waits {p : Nat} {r : List Nat} {g c : Nat} (h : Rt W gt B n m vo) (hm : m.op = p :: r) (hv : vo = .slice (some ⟨g, 0, none⟩) (r.length + 1) c) (i : Nat) (hi : i < n) :
    Rt (W.setCell ⟨g, r.length, none⟩ (.int .i64 (i : Int))) gt B n ⟨m.to, m.deep, i :: r⟩ vo := by
  subst hv
  have ho := h.own
  rw [hm] at ho
  simp only [List.length_cons] at ho
  have hB := (ho.lt g rfl).1
  have hlo := h.lo
  refine ⟨h.to_.far (by simp only; omega) _, h.len, ?_, h.lo, by have := h.few; rw [hm] at this; exact this, h.deep, fun q hq => ?_, h.big, by rw [size_set]; exact h.room⟩
  · have := rown_set (j := r.length) (u := .int .i64 (i : Int)) ho
    have e : (nts (p :: r).reverse).set r.length (.int .i64 (i : Int)) = nts (i :: r).reverse := by
      simp only [nts, List.reverse_cons, List.map_append, List.map_cons, List.map_nil]
      rw [List.set_append_right _ _ (by simp)]
      simp
    rw [e] at this
    exact this
  · rcases List.mem_cons.1 hq with rfl | hq
    · exact hi
    · exact h.wf q (by rw [hm]; simp [hq])
theorem Rt.drop {p : Nat} {r : List Nat} {g c : Nat} (h : Rt W gt B n m vo) (hm : m.op = p :: r) (hv : vo = .slice (some ⟨g, 0, none⟩) (r.length + 1) c) : Rt W gt B n ⟨m.to, m.deep, r⟩ (.slice (some ⟨g, 0, none⟩) r.length c) := by
  subst hv
  have ho := h.own
  rw [hm] at ho
  simp only [List.length_cons] at ho
  have ht := rown_take (q' := r.length) ho (by omega) (by simp)
  refine { h with own := ?_, few := by have := h.few; rw [hm] at this; simp at this ⊢; omega, wf := fun q hq => h.wf q (by rw [hm]; simp [show q ∈ r from hq]) }
  have e : (nts (p :: r).reverse).take (r.length * 1) = nts r.reverse := by
    simp only [nts, List.reverse_cons, List.map_append, Nat.mul_one]
    rw [List.take_left' (by simp)]
  rw [e] at ht
  exact ht
theorem Rt.push {W1 w' : World} {v' : Value} {i : Nat} (h : Rt W gt B n m vo) (hc : Chg [] W W1) (hi : i < n) (hn : m.op.length < 16) (d : Nat) (hd : d ≤ 16)
    (ho : w'.ownsRow B 3 1 v' (m.op.length + 1) (nts m.op.reverse ++ [.int .i64 (i : Int)])) (hg : W1.grownBy w' vo.ownBlock) : Rt w' gt B n ⟨m.to, d, i :: m.op⟩ v' := by
  have h1 := h.keep hc
  refine ⟨?_, h.len, ?_, h.lo, by simp; omega, hd, fun q hq => ?_, h.big, Nat.le_trans h1.room hg.size⟩
  · unfold Whole
    rw [hg.block gt h1.to_.lt (fun hc => by have := (h1.own.lt gt hc.symm).1; have := h.lo; omega)]
    exact h1.to_
  · simp only [List.length_cons, List.reverse_cons, nts_app]
    exact ho
  · rcases List.mem_cons.1 hq with rfl | hq
    · exact hi
    · exact h.wf q hq
end
section
variable {W : World} {A : Option Addr} {n c gt : Nat} {l : List TkV} {t : List Int}
theorem Tks.sign (h : Tks W A n c l) {k : Nat} {s : Int} (hk : (signs l)[k]? = some s) : ∃ b o, A = some ⟨b, o, none⟩ ∧ b < W.heap.size ∧ W.cell? ⟨b, o + k * 3, none⟩ = some (.int .i32 s) := by
  unfold signs at hk
  rw [List.getElem?_map] at hk
  cases hl : l[k]? with
  | none => rw [hl] at hk; cases hk
  | some t =>
    rw [hl] at hk
    injection hk with hk
    subst hk
    obtain ⟨b, o, e, hb, h0, _, _⟩ := h.cell hl
    exact ⟨b, o, e, hb, h0⟩
set_option maxHeartbeats 2000000 in
set_option maxRecDepth 100000 in
theorem leaves_any (h : Tks W A n c l) (ht : Whole W gt 3 (nms t)) (htl : t.length = n) (at_ : Nat) (hat : at_ < n) :
    Calls Tryd.prog 61 #[.slice A n c, .slice (some ⟨gt, 0, none⟩) n n, .int .i64 (at_ : Int)] W fun e w' => e = .returned (.int .i64 (leavesV (signs l) t at_ (n - at_) at_)) ∧ W = w' := by
  have hmax := h.max
  have hsl : (signs l).length = n := by unfold signs; rw [List.length_map]; exact h.len
  have H := Lib.hid h
  have HT := Lib.hid ht
  have HTL := Lib.hid htl
  have HSL := Lib.hid hsl
  clear h ht htl hsl
  go_enter Tryd.func61, Tryd.ntmps61
  go_wp2_with fail
  go_loop [7] (fun s => ∃ j : Nat, at_ ≤ j ∧ j ≤ n ∧ s = .int .i64 (j : Int) ∧ Hid (leavesV (signs l) t at_ (n - at_) at_ = leavesV (signs l) t at_ (n - j) j)) (fun s => n - (intOf s).toNat)
  case atStart => exact ⟨at_, Nat.le_refl _, by omega, rfl, Lib.hid rfl⟩
  case round =>
    obtain ⟨j, h0, h1, rfl, HV⟩ := hrel
    by_cases hlt : j < n
    · have hltI : (j : Int) < (n : Int) := by omega
      have hj0 : (0 : Int) ≤ (j : Int) := by omega
      obtain ⟨s, hs⟩ : ∃ s, (signs l)[j]? = some s := ⟨_, List.getElem?_eq_getElem (by rw [HSL.out]; exact hlt)⟩
      obtain ⟨b, o, rfl, _, t0⟩ := H.out.sign hs
      have hjt : j < t.length := by rw [HTL.out]; exact hlt
      have c1 : W.cell? ⟨gt, j, none⟩ = some (.int .i64 (t[j]'hjt)) := (HT.out.cell j).trans (nms_get _ _ hjt)
      have HS := Lib.hid hs
      have HG := Lib.hid (show t.getD j 0 = t[j]'hjt by rw [List.getD_eq_getElem?_getD, List.getElem?_eq_getElem hjt]; rfl)
      have HN := Lib.hid (show n - j = (n - (j + 1)) + 1 by omega)
      generalize t[j] = x at c1 HG
      clear hs hjt
      by_cases h93 : s = 93
      · subst h93
        by_cases hx : x < (at_ : Int)
        · have HR := Lib.hid (show leavesV (signs l) t at_ (n - at_) at_ = (j : Int) + 1 by rw [HV.out, HN.out, leavesV, if_pos ⟨HS.out, by rw [HG.out]; exact hx⟩])
          go_wp2_with fail
          go_ret
          exact ⟨ret_int' HR.out.symm, rfl⟩
        · have hxd : decide (x < (at_ : Int)) = false := by simpa using hx
          have HR := Lib.hid (show leavesV (signs l) t at_ (n - at_) at_ = leavesV (signs l) t at_ (n - (j + 1)) (j + 1) by rw [HV.out, HN.out, leavesV, if_neg (fun hc => hx (by rw [← HG.out]; exact hc.2))])
          go_wp2_with fail
          go_round
          case rel => exact ⟨j + 1, by omega, by omega, by go_num, HR⟩
          case measure => simp [intOf]; omega
      · have hsd : (s == 93) = false := by simpa using h93
        have HR := Lib.hid (show leavesV (signs l) t at_ (n - at_) at_ = leavesV (signs l) t at_ (n - (j + 1)) (j + 1) by rw [HV.out, HN.out, leavesV, if_neg (fun hc => h93 (by have := hc.1; rw [HS.out] at this; injection this))])
        go_wp2_with fail
        go_round
        case rel => exact ⟨j + 1, by omega, by omega, by go_num, HR⟩
        case measure => simp [intOf]; omega
    · have hltI : ¬ (j : Int) < (n : Int) := by omega
      have HR := Lib.hid (show leavesV (signs l) t at_ (n - at_) at_ = -1 by rw [HV.out, show n - j = 0 by omega]; rfl)
      go_wp2_with fail
      go_ret
      exact ⟨ret_int' HR.out.symm, rfl⟩
end
end Go.Proofs.YtodbeeodhekpeaaDoor
