/-
  EF: NestMatch, NestRef, Fr, Fe, RowOps, VarFlow.
-/
import Derived.Test.YtfhgnoajfipjdaaZEF3
import Derived.Test.YtfhgnoajfipjdaaZEF5
import Derived.Test.YtfhgnoajfipjdaaZEF8
import Derived.Test.YtfhgnoajfipjdaaZEF9
import Derived.Test.YtfhgnoajfipjdaaZEF11
import Derived.Test.YtfhgnoajfipjdaaZEF12
import Derived.Deep.QuietTactic
import Derived.BigQuiet
import Derived.Laws.Tables
import Derived.Laws.Rows
import Derived.Great.Walk
import Derived.Great.FillDense
import Derived.Great.BuildSlice
namespace Go.Proofs.Ytfhgnoajfipjdaa
open Go.RowKit
theorem make_ints (W : World) (n : Nat) (hn : n ≤ 100000) : (Instr.makeSlice 22 (.int .i64 (n : Int)) (.int .i64 (n : Int))).run Try.prog W = .ok (.slice (some ⟨W.heap.size, 0, none⟩) n n) (W.alloc (.cells (nms (List.replicate n 0)).toArray 3)) := by
  obtain ⟨i, hi, hz, hs1, hb⟩ := info_parts info_int
  have : nms (List.replicate n 0) = List.replicate n (.int .i64 0) := by simp [nms]
  rw [this]
  exact run_make1 22 3 i (.int .i64 0) rfl Try.underlying22 hi hz hs1 n (by rw [hb]; omega) (by omega) W
/-- What match answers. -/
def MatchPost (n : Nat) (r : Option (List Int × Nat)) (W : World) (e : Ending) (w' : World) : Prop :=
  Chg [] W w' ∧ ((∃ t d g, r = some (t, d) ∧ t.length = n ∧ e = .returned (.tuple #[.slice (some ⟨g, 0, none⟩) n n, .int .i64 (d : Int), .bool true]) ∧ Whole w' g 3 (nms t) ∧ d ≤ 16) ∨
    (r = none ∧ ∃ v d, e = .returned (.tuple #[v, .int .i64 d, .bool false])))
section
variable {W : World} {A : Option Addr} {n c : Nat} {l : List TkV}
set_option maxHeartbeats 4000000 in
set_option maxRecDepth 100000 in
theorem match_any (h : Tks W A n c l) : Calls Try.prog 100 #[.slice A n c] W (MatchPost n (nNest (signs l)) W) := by
  have hmax := h.max
  have hmk := fun W : World => make_ints W n hmax
  have H := Lib.hid h
  have hsl : (signs l).length = n := by unfold signs; rw [List.length_map]; exact h.len
  have HSL := Lib.hid hsl
  clear h hsl
  go_enter Try.func100, Try.ntmps100
  go_upto_region 2 with fail
  have hT := Whole.new W 3 (nms (List.replicate n 0))
  have hc1 : Chg [] W (W.alloc (.cells (nms (List.replicate n 0)).toArray 3)) := (Chg.refl [] W).alloc _
  obtain ⟨gt, hgt⟩ : ∃ g, g = W.heap.size := ⟨_, rfl⟩
  rw [← hgt] at hT
  have hsz : (W.alloc (.cells (nms (List.replicate n 0)).toArray 3)).heap.size = gt + 1 := by rw [hgt]; simp
  have hM := Whole.new (W.alloc (.cells (nms (List.replicate n 0)).toArray 3)) 229 [.slice (some ⟨gt, 0, none⟩) n n, .int .i64 0, .slice none 0 0]
  rw [hsz] at hM
  have hal2 : Chg [] (W.alloc (.cells (nms (List.replicate n 0)).toArray 3)) ((W.alloc (.cells (nms (List.replicate n 0)).toArray 3)).alloc (.cells #[.slice (some ⟨gt, 0, none⟩) n n, .int .i64 0, .slice none 0 0] 229)) := (Chg.refl [] _).alloc _
  have hT2 := hT.keep hal2
  have hc2 := hc1.new hal2
  have hsz2 : ((W.alloc (.cells (nms (List.replicate n 0)).toArray 3)).alloc (.cells #[.slice (some ⟨gt, 0, none⟩) n n, .int .i64 0, .slice none 0 0] 229)).heap.size = gt + 2 := by rw [hgt]; simp
  rw [← hgt]
  generalize (W.alloc (.cells (nms (List.replicate n 0)).toArray 3)).alloc (.cells #[.slice (some ⟨gt, 0, none⟩) n n, .int .i64 0, .slice none 0 0] 229) = w2 at hM hT2 hc2 hsz2 ⊢
  have HM0 := Lib.hid (show Mt w2 (gt + 1) gt (gt + 2) n ⟨List.replicate (signs l).length 0, 0, []⟩ (.slice none 0 0) [] from
    ⟨hM, by rw [HSL.out]; exact hT2, by rw [List.length_replicate]; exact HSL.out, rfl, World.ownsRow_nil _ _ _ _, fun x hx => (by cases hx), List.Pairwise.nil, by omega, by simp, by simp, fun x hx => (by cases hx), hmax, by omega⟩)
  have HC2 := Lib.hid hc2
  have HGT := Lib.hid hgt
  clear hT hc1 hsz hM hal2 hT2 hc2 hsz2 hgt hmk
  go_wp2_with fail
  go_loopw [6, 7, 14] (fun _ _ s wr => ∃ k : Nat, k ≤ n ∧ s = .int .i64 (k : Int) ∧ (∃ m vo xs, Hid (Mt wr (gt + 1) gt (gt + 2) n m vo xs) ∧ Few k m ∧ nRun 0 (signs l) ⟨List.replicate (signs l).length 0, 0, []⟩ = nRun k ((signs l).drop k) m) ∧ Hid (Chg [] W wr)) (fun _ _ s _ => n - (intOf s).toNat)
  case atStart => exact ⟨0, Nat.zero_le _, rfl, ⟨_, _, _, HM0, fun p hp => (by cases hp), rfl⟩, HC2⟩
  case round =>
    obtain ⟨k, hk, rfl, ⟨m, vo, xs, HM, hfew, hrun⟩, HCr⟩ := hrel
    have HF := Lib.hid hfew
    have HRUN := Lib.hid hrun
    clear hfew hrun
    by_cases hlt : k < n
    · have hltI : (k : Int) < (n : Int) := by omega
      have hk0 : (0 : Int) ≤ (k : Int) := by omega
      have hkl : k < l.length := by rw [H.out.len]; exact hlt
      obtain ⟨b, o, rfl, hb, t0, t1, t2⟩ := (H.out.keep HCr.out).cell (List.getElem?_eq_getElem hkl)
      have HS := Lib.hid (show (signs l).drop k = (l[k]).sign :: (signs l).drop (k + 1) from by
        rw [List.drop_eq_getElem_cons (by rw [HSL.out]; exact hlt)]
        congr 1
        simp [signs])
      generalize l[k] = t at t0 t1 t2 HS
      obtain ⟨ts, tn, tm⟩ := t
      simp only at t0 t1 t2 HS
      go_upto_region 5 with fail
      have hal : Chg [] wr (wr.alloc (.cells #[.int .i32 ts, .int .i64 tn, .int .i32 tm] 167)) := (Chg.refl [] wr).alloc _
      have hN : Whole (wr.alloc (.cells #[.int .i32 ts, .int .i64 tn, .int .i32 tm] 167)) wr.heap.size 167 [.int .i32 ts, .int .i64 tn, .int .i32 tm] := Whole.new wr 167 [.int .i32 ts, .int .i64 tn, .int .i32 tm]
      have hbt : gt < wr.heap.size := HM.out.to_.lt
      obtain ⟨g7, hg7⟩ : ∃ g, g = wr.heap.size := ⟨_, rfl⟩
      rw [← hg7] at hN hbt ⊢
      generalize wr.alloc (.cells #[.int .i32 ts, .int .i64 tn, .int .i32 tm] 167) = w3 at hal hN ⊢
      have HM3 := Lib.hid (HM.out.keep hal)
      have HC3 := Lib.hid (HCr.out.new hal)
      have HN3 := Lib.hid hN
      clear hal hN hg7 t0 t1 t2
      have c0 := HM3.out.rec_.cell 0
      have hkt : k < m.tO.length := by rw [HM3.out.len]; exact hlt
      have t0 : w3.cell? ⟨gt, k, none⟩ = some (.int .i64 (m.tO[k]'hkt)) := (HM3.out.to_.cell k).trans (nms_get _ _ hkt)
      have f0 := HM3.out.to_.frozen k
      go_upto_region 6 with fail
      have HM4 := Lib.hid (HM3.out.poke k (-1))
      have HL4 := Lib.hid (show Lo (gt + 2) [gt + 1, gt] w3 (w3.setCell ⟨gt, k, none⟩ (.int .i64 (-1))) from Lo.of_chg ((Chg.refl [gt] w3).setCell (p := ⟨gt, k, none⟩) (by simp) _) (by simp))
      have HC4 := Lib.hid (HL4.out.chg HC3.out (by have := HGT.out; omega) (by have := HGT.out; simp; omega))
      have HN4 := Lib.hid (HN3.out.far (p := ⟨gt, k, none⟩) (by simp only; omega) (.int .i64 (-1)))
      generalize w3.setCell ⟨gt, k, none⟩ (.int .i64 (-1)) = w4 at HM4 HL4 HC4 HN4 ⊢
      clear c0 t0 f0
      have n0 := HN4.out.cell 0
      go_wp2_with fail
      refine (take_any HM4.out k hlt ts HF.out).mono ?_
      rintro e w5 (⟨m', ht, rfl, ⟨vo', xs', hM5⟩, hL5⟩ | ⟨ht, rfl, hL5⟩)
      · have HM5 := Lib.hid hM5
        have HF5 := Lib.hid (few_take (m := ⟨m.tO.set k (-1), m.deep, m.op⟩) HF.out ht)
        have HR5 := Lib.hid (show nRun 0 (signs l) ⟨List.replicate (signs l).length 0, 0, []⟩ = nRun (k + 1) ((signs l).drop (k + 1)) m' from by rw [HRUN.out, HS.out, nRun, ht]; rfl)
        have HC5 := Lib.hid (hL5.chg HC4.out (by have := HGT.out; omega) (by have := HGT.out; simp; omega))
        clear hM5 hL5 ht n0
        go_wp2_with fail
        go_roundw
        case rel => exact ⟨k + 1, by omega, by go_num, ⟨_, _, _, HM5, HF5.out, HR5.out⟩, HC5⟩
        case measure => simp [intOf]; omega
      · have HR5 := Lib.hid (show nNest (signs l) = none from by unfold nNest; rw [HRUN.out, HS.out, nRun, ht]; rfl)
        have HC5 := Lib.hid (hL5.chg HC4.out (by have := HGT.out; omega) (by have := HGT.out; simp; omega))
        have HPO := Lib.hid (show MatchPost n (nNest (signs l)) W (.returned (.tuple #[.slice none 0 0, .int .i64 0, .bool false])) w5 from ⟨HC5.out, .inr ⟨HR5.out, _, _, rfl⟩⟩)
        clear hL5 ht n0
        go_wp2_with fail
        go_ret3
        exact HPO.out
    · have hltI : ¬ (k : Int) < (n : Int) := by omega
      have HR5 := Lib.hid (show nRun 0 (signs l) ⟨List.replicate (signs l).length 0, 0, []⟩ = some m from by rw [HRUN.out, List.drop_eq_nil_of_le (by rw [HSL.out]; omega)]; rfl)
      have c0 := HM.out.rec_.cell 0
      have c1 := HM.out.rec_.cell 1
      have c2 := HM.out.rec_.cell 2
      obtain ⟨Ao, co, rfl, _, _, _⟩ := rown_slice HM.out.own
      have hop : m.op.length = xs.length := by rw [HM.out.op]; simp
      obtain ⟨q, hq⟩ : ∃ q, q = xs.length := ⟨_, rfl⟩
      rw [← hq] at c2 hop
      have HOP := Lib.hid hop
      have hfq := HM.out.few
      rw [← hq] at hfq
      clear hop hq
      have hdec : ((q : Int) == 0) = decide (q = 0) := by rw [Bool.eq_iff_iff]; simp
      go_wp2_with fail
      go_quiet (fail)
      have HPO := Lib.hid (show MatchPost n (nNest (signs l)) W (.returned (.tuple #[.slice (some ⟨gt, 0, none⟩) n n, .int .i64 (m.deep : Int), .bool (decide (q = 0))])) (wr.drewN nq) from by
        refine ⟨HCr.out.drewN _, ?_⟩
        by_cases h0 : q = 0
        · refine .inl ⟨m.tO, m.deep, gt, ?_, HM.out.len, by simp [h0], (HM.out.to_.drewN _), HM.out.deep⟩
          unfold nNest
          have : m.op = [] := List.eq_nil_of_length_eq_zero (by rw [HOP.out]; exact h0)
          rw [HR5.out]; simp [this]
        · refine .inr ⟨?_, _, _, by simp [h0]; exact ⟨rfl, rfl⟩⟩
          unfold nNest
          have : m.op ≠ [] := fun e => h0 (by rw [← HOP.out, e]; rfl)
          rw [HR5.out]; simp [this])
      go_wp2_with fail
      go_ret3
      exact HPO.out
end
end Go.Proofs.Ytfhgnoajfipjdaa
namespace Go.Proofs.Ytfhgnoajfipjdaa
open Go.RowKit
/-- The reference's state in memory. -/
structure Rt (W : World) (gt B n : Nat) (m : RSt) (vo : Value) : Prop where
  to_ : Whole W gt 3 (nms m.tO)
  len : m.tO.length = n
  own : W.ownsRow B 3 1 vo m.op.length (nts m.op.reverse)
  lo : gt < B
  few : m.op.length ≤ 16
  deep : m.deep ≤ 16
  wf : ∀ p ∈ m.op, p < n
  big : n ≤ 100000
  room : B ≤ W.heap.size
section
variable {W W' : World} {gt B n : Nat} {m : RSt} {vo : Value}
theorem Rt.keep (h : Rt W gt B n m vo) (hc : Chg [] W W') : Rt W' gt B n m vo :=
  { h with to_ := h.to_.keep hc, own := own_keep h.own hc, room := Nat.le_trans h.room hc.size }
theorem Rt.poke (h : Rt W gt B n m vo) (j : Nat) (x : Int) : Rt (W.setCell ⟨gt, j, none⟩ (.int .i64 x)) gt B n ⟨m.tO.set j x, m.deep, m.op⟩ vo := by
  refine { h with to_ := ?_, len := by rw [List.length_set]; exact h.len, own := rown_far h.own (fun hc => by have := (h.own.lt gt hc).1; have := h.lo; omega), room := by rw [size_set]; exact h.room }
  have := h.to_.set_ j (.int .i64 x)
  rwa [nms_set] at this
theorem Rt.top {p : Nat} {r : List Nat} (h : Rt W gt B n m vo) (hm : m.op = p :: r) : ∃ g c, vo = .slice (some ⟨g, 0, none⟩) (r.length + 1) c ∧ r.length + 1 ≤ c ∧ W.cell? ⟨g, r.length, none⟩ = some (.int .i64 (p : Int)) ∧ W.frozen? ⟨g, r.length, none⟩ = false ∧ B ≤ g ∧ g < W.heap.size ∧ p < n ∧ r.length < 16 := by
  have ho := h.own
  have hf := h.few
  rw [hm] at ho hf
  simp only [List.length_cons] at ho hf
  obtain ⟨A, c, rfl, h1, _, _⟩ := rown_slice ho
  obtain ⟨g, rfl, hc⟩ := rown_cell ho rfl (j := r.length) (u := .int .i64 (p : Int)) (by simp [nts])
  exact ⟨g, c, rfl, h1, hc, rown_frozen ho, (ho.lt g rfl).1, (ho.lt g rfl).2, h.wf p (by rw [hm]; simp), by omega⟩
theorem Rt.waits {p : Nat} {r : List Nat} {g c : Nat} (h : Rt W gt B n m vo) (hm : m.op = p :: r) (hv : vo = .slice (some ⟨g, 0, none⟩) (r.length + 1) c) (i : Nat) (hi : i < n) :
    Rt (W.setCell ⟨g, r.length, none⟩ (.int .i64 (i : Int))) gt B n ⟨m.tO, m.deep, i :: r⟩ vo := by
  subst hv
  have ho := h.own
  rw [hm] at ho
  simp only [List.length_cons] at ho
  have hB := (ho.lt g rfl).1
  have hlo := h.lo
  refine ⟨h.to_.far (by simp only; omega) _, h.len, ?_, h.lo, by have := h.few; rw [hm] at this; exact this, h.deep, fun q hq => ?_, h.big, by rw [size_set]; exact h.room⟩
  · have := rown_set (j := r.length) (u := .int .i64 (i : Int)) ho
    have e : (nts (p :: r).reverse).set r.length (.int .i64 (i : Int)) = nts (i :: r).reverse := by
      simp only [nts, List.reverse_cons, List.map_append, List.map_cons, List.map_nil]
      rw [List.set_append_right _ _ (by simp)]
      simp
    rw [e] at this
    exact this
  · rcases List.mem_cons.1 hq with rfl | hq
    · exact hi
    · exact h.wf q (by rw [hm]; simp [hq])
theorem Rt.drop {p : Nat} {r : List Nat} {g c : Nat} (h : Rt W gt B n m vo) (hm : m.op = p :: r) (hv : vo = .slice (some ⟨g, 0, none⟩) (r.length + 1) c) : Rt W gt B n ⟨m.tO, m.deep, r⟩ (.slice (some ⟨g, 0, none⟩) r.length c) := by
  subst hv
  have ho := h.own
  rw [hm] at ho
  simp only [List.length_cons] at ho
  have ht := rown_take (q' := r.length) ho (by omega) (by simp)
  refine { h with own := ?_, few := by have := h.few; rw [hm] at this; simp at this ⊢; omega, wf := fun q hq => h.wf q (by rw [hm]; simp [show q ∈ r from hq]) }
  have e : (nts (p :: r).reverse).take (r.length * 1) = nts r.reverse := by
    simp only [nts, List.reverse_cons, List.map_append, Nat.mul_one]
    rw [List.take_left' (by simp)]
  rw [e] at ht
  exact ht
theorem Rt.push {W1 w' : World} {v' : Value} {i : Nat} (h : Rt W gt B n m vo) (hc : Chg [] W W1) (hi : i < n) (hn : m.op.length < 16) (d : Nat) (hd : d ≤ 16)
    (ho : w'.ownsRow B 3 1 v' (m.op.length + 1) (nts m.op.reverse ++ [.int .i64 (i : Int)])) (hg : W1.grownBy w' vo.ownBlock) : Rt w' gt B n ⟨m.tO, d, i :: m.op⟩ v' := by
  have h1 := h.keep hc
  refine ⟨?_, h.len, ?_, h.lo, by simp; omega, hd, fun q hq => ?_, h.big, Nat.le_trans h1.room hg.size⟩
  · unfold Whole
    rw [hg.block gt h1.to_.lt (fun hc => by have := (h1.own.lt gt hc.symm).1; have := h.lo; omega)]
    exact h1.to_
  · simp only [List.length_cons, List.reverse_cons, nts_app]
    exact ho
  · rcases List.mem_cons.1 hq with rfl | hq
    · exact hi
    · exact h.wf q hq
end
section
variable {W : World} {A : Option Addr} {n c gt : Nat} {l : List TkV} {t : List Int}
theorem Tks.sign (h : Tks W A n c l) {k : Nat} {s : Int} (hk : (signs l)[k]? = some s) : ∃ b o, A = some ⟨b, o, none⟩ ∧ b < W.heap.size ∧ W.cell? ⟨b, o + k * 3, none⟩ = some (.int .i32 s) := by
  unfold signs at hk
  rw [List.getElem?_map] at hk
  cases hl : l[k]? with
  | none => rw [hl] at hk; cases hk
  | some t =>
    rw [hl] at hk
    injection hk with hk
    subst hk
    obtain ⟨b, o, e, hb, h0, _, _⟩ := h.cell hl
    exact ⟨b, o, e, hb, h0⟩
set_option maxHeartbeats 2000000 in
theorem leaves_any (h : Tks W A n c l) (ht : Whole W gt 3 (nms t)) (htl : t.length = n) (at_ : Nat) (hat : at_ < n) :
    Calls Try.prog 134 #[.slice A n c, .slice (some ⟨gt, 0, none⟩) n n, .int .i64 (at_ : Int)] W fun e w' => e = .returned (.int .i64 (leavesV (signs l) t at_ (n - at_) at_)) ∧ W = w' := by
  have hmax := h.max
  have hsl : (signs l).length = n := by unfold signs; rw [List.length_map]; exact h.len
  have H := Lib.hid h
  have HT := Lib.hid ht
  have HTL := Lib.hid htl
  have HSL := Lib.hid hsl
  clear h ht htl hsl
  go_enter Try.func134, Try.ntmps134
  go_wp2_with fail
  go_loop [7] (fun s => ∃ j : Nat, at_ ≤ j ∧ j ≤ n ∧ s = .int .i64 (j : Int) ∧ Hid (leavesV (signs l) t at_ (n - at_) at_ = leavesV (signs l) t at_ (n - j) j)) (fun s => n - (intOf s).toNat)
  case atStart => exact ⟨at_, Nat.le_refl _, by omega, rfl, Lib.hid rfl⟩
  case round =>
    obtain ⟨j, h0, h1, rfl, HV⟩ := hrel
    by_cases hlt : j < n
    · have hltI : (j : Int) < (n : Int) := by omega
      have hj0 : (0 : Int) ≤ (j : Int) := by omega
      obtain ⟨s, hs⟩ : ∃ s, (signs l)[j]? = some s := ⟨_, List.getElem?_eq_getElem (by rw [HSL.out]; exact hlt)⟩
      obtain ⟨b, o, rfl, _, t0⟩ := H.out.sign hs
      have hjt : j < t.length := by rw [HTL.out]; exact hlt
      have c1 : W.cell? ⟨gt, j, none⟩ = some (.int .i64 (t[j]'hjt)) := (HT.out.cell j).trans (nms_get _ _ hjt)
      have HS := Lib.hid hs
      have HG := Lib.hid (show t.getD j 0 = t[j]'hjt by rw [List.getD_eq_getElem?_getD, List.getElem?_eq_getElem hjt]; rfl)
      have HN := Lib.hid (show n - j = (n - (j + 1)) + 1 by omega)
      generalize t[j] = x at c1 HG
      clear hs hjt
      by_cases h93 : s = 93
      · subst h93
        by_cases hx : x < (at_ : Int)
        · have HR := Lib.hid (show leavesV (signs l) t at_ (n - at_) at_ = (j : Int) + 1 by rw [HV.out, HN.out, leavesV, if_pos ⟨HS.out, by rw [HG.out]; exact hx⟩])
          go_wp2_with fail
          go_ret
          exact ⟨ret_int' HR.out.symm, rfl⟩
        · have hxd : decide (x < (at_ : Int)) = false := by simpa using hx
          have HR := Lib.hid (show leavesV (signs l) t at_ (n - at_) at_ = leavesV (signs l) t at_ (n - (j + 1)) (j + 1) by rw [HV.out, HN.out, leavesV, if_neg (fun hc => hx (by rw [← HG.out]; exact hc.2))])
          go_wp2_with fail
          go_round
          case rel => exact ⟨j + 1, by omega, by omega, by go_num, HR⟩
          case measure => simp [intOf]; omega
      · have hsd : (s == 93) = false := by simpa using h93
        have HR := Lib.hid (show leavesV (signs l) t at_ (n - at_) at_ = leavesV (signs l) t at_ (n - (j + 1)) (j + 1) by rw [HV.out, HN.out, leavesV, if_neg (fun hc => h93 (by have := hc.1; rw [HS.out] at this; injection this))])
        go_wp2_with fail
        go_round
        case rel => exact ⟨j + 1, by omega, by omega, by go_num, HR⟩
        case measure => simp [intOf]; omega
    · have hltI : ¬ (j : Int) < (n : Int) := by omega
      have HR := Lib.hid (show leavesV (signs l) t at_ (n - at_) at_ = -1 by rw [HV.out, show n - j = 0 by omega]; rfl)
      go_wp2_with fail
      go_ret
      exact ⟨ret_int' HR.out.symm, rfl⟩
end
end Go.Proofs.Ytfhgnoajfipjdaa
namespace Go.Proofs.Ytfhgnoajfipjdaa
open Go.RowKit
structure Fr (B : Nat) (TS : List TypeId) (a b : World) : Prop where
  os : b.os = a.os
  tape : b.tape = a.tape
  output : b.output = a.output
  size : a.heap.size ≤ b.heap.size
  block : ∀ k, k < a.heap.size → (k < B ∨ ∀ cs t fz, a.heap[k]? = some (.cells cs t fz) → t ∉ TS) → b.heap[k]? = a.heap[k]?
section
variable {B : Nat} {TS : List TypeId} {a b c : World}
theorem Fr.refl (B : Nat) (TS : List TypeId) (a : World) : Fr B TS a a := ⟨rfl, rfl, rfl, Nat.le_refl _, fun _ _ _ => rfl⟩
theorem Fr.trans (h : Fr B TS a b) (k : Fr B TS b c) : Fr B TS a c := by
  refine ⟨k.os.trans h.os, k.tape.trans h.tape, k.output.trans h.output, Nat.le_trans h.size k.size, fun i hi hc => ?_⟩
  have h1 := h.block i hi hc
  rw [← h1]
  refine k.block i (Nat.lt_of_lt_of_le hi h.size) ?_
  rw [h1]
  exact hc
theorem Fr.of_chg (h : Chg [] a b) : Fr B TS a b := ⟨h.os, h.tape, h.output, h.size, fun k hk _ => h.block k hk (by simp)⟩
theorem Fr.new (h : Fr B TS a b) (k : Chg [] b c) : Fr B TS a c := h.trans (Fr.of_chg k)
theorem Fr.sub {B' : Nat} {TS' : List TypeId} (h : Fr B TS a b) (hB : B' ≤ B) (hT : ∀ t, t ∈ TS → t ∈ TS') : Fr B' TS' a b :=
  ⟨h.os, h.tape, h.output, h.size, fun k hk hc => h.block k hk (hc.imp (fun h => Nat.lt_of_lt_of_le h hB) (fun h cs t fz e ht => h cs t fz e (hT t ht)))⟩
theorem Fr.chg (h : Fr B TS a b) (hB : a.heap.size ≤ B) : Chg [] a b := ⟨h.os, h.tape, h.output, h.size, fun k hk _ => h.block k hk (.inl (Nat.lt_of_lt_of_le hk hB))⟩
theorem Fr.set (h : Fr B TS a b) {p : Addr} (hp : B ≤ p.block) {cs : Array Value} {t : TypeId} {fz : Nat × Nat} (hb : b.heap[p.block]? = some (.cells cs t fz)) (ht : t ∈ TS) (u : Value) : Fr B TS a (b.setCell p u) := by
  refine h.trans ⟨rfl, rfl, rfl, ?_, fun k hk hc => ?_⟩
  · rw [size_set]; exact Nat.le_refl _
  · refine Below.heap_setCell b p u k (fun e => ?_)
    subst e
    rcases hc with h1 | h1
    · omega
    · exact h1 cs t fz hb ht
theorem Fr.setw (h : Fr B TS a b) {g j t : Nat} {cs : List Value} (hW : Whole b g t cs) (hp : B ≤ g) (ht : t ∈ TS) (u : Value) : Fr B TS a (b.setCell ⟨g, j, none⟩ u) := h.set (p := ⟨g, j, none⟩) hp hW ht u
theorem Fr.seto (h : Fr B TS a b) {g j B2 k n m e : Nat} {xs : List Value} {cap : Nat} (ho : b.ownsRow B2 e k (.slice (some ⟨g, 0, none⟩) n cap) m xs) (hB : B ≤ B2) (ht : e ∈ TS) (u : Value) : Fr B TS a (b.setCell ⟨g, j, none⟩ u) := by
  rcases ho.2 with ⟨e', _⟩ | ⟨g', cap', cur, e', hb, hg, _⟩
  · cases e'
  · injection e' with e1 _ _
    injection e1 with e1
    injection e1 with e1
    subst e1
    exact h.set (p := ⟨g, j, none⟩) (Nat.le_trans hB hb) hg ht u
theorem Fr.grown (h : Fr B TS a b) {B2 k n e : Nat} {v : Value} {xs : List Value} (ho : b.ownsRow B2 e k v n xs) (hB : B ≤ B2) (ht : e ∈ TS) (hg : b.grownBy c v.ownBlock) : Fr B TS a c := by
  refine h.trans ⟨hg.os, hg.tape, hg.output, hg.size, fun i hi hc => hg.block i hi (fun hr => ?_)⟩
  rcases ho.2 with ⟨rfl, _⟩ | ⟨g', cap', cur, rfl, hb, hgb, _⟩
  · simp [Value.ownBlock] at hr
  · simp [Value.ownBlock] at hr
    subst hr
    rcases hc with h1 | h1
    · omega
    · exact h1 _ _ _ hgb ht
theorem Fr.whole (h : Fr B TS a b) {g t : Nat} {cs : List Value} (hW : Whole a g t cs) (ht : t ∉ TS) : Whole b g t cs :=
  (h.block g hW.lt (.inr fun _ _ _ e => by rw [show a.heap[g]? = _ from hW] at e; injection e with e; injection e with _ e2 _; subst e2; exact ht)).trans hW
theorem Fr.obj (h : Fr B TS a b) {k : Nat} {o : Obj} (ho : a.heap[k]? = some o) (hn : ∀ cs t fz, o ≠ .cells cs t fz) : b.heap[k]? = some o := by
  have hk : k < a.heap.size := by
    rcases Nat.lt_or_ge k a.heap.size with h | h
    · exact h
    · rw [Array.getElem?_eq_none h] at ho; cases ho
  rw [h.block k hk (.inr fun cs t fz e => by rw [ho] at e; injection e with e; exact absurd e (hn cs t fz)), ho]
theorem Fr.own (h : Fr B TS a b) {B2 k n e : Nat} {v : Value} {xs : List Value} (ho : a.ownsRow B2 e k v n xs) (ht : e ∉ TS) : b.ownsRow B2 e k v n xs := by
  refine ⟨ho.1, ?_⟩
  rcases ho.2 with h1 | ⟨g, cap, cur, rfl, hb, hg, r⟩
  · exact .inl h1
  · refine .inr ⟨g, cap, cur, rfl, hb, ?_, r⟩
    have hlt : g < a.heap.size := by
      rcases Nat.lt_or_ge g a.heap.size with h | h
      · exact h
      · rw [Array.getElem?_eq_none h] at hg; cases hg
    exact (h.block g hlt (.inr fun _ _ _ e => by rw [hg] at e; injection e with e; injection e with _ e2 _; subst e2; exact ht)).trans hg
end
end Go.Proofs.Ytfhgnoajfipjdaa
namespace Go.Proofs.Ytfhgnoajfipjdaa
open Go.RowKit
structure Fe (K : Nat → Prop) (TS : List TypeId) (a b : World) : Prop where
  os : b.os = a.os
  tape : b.tape = a.tape
  output : b.output = a.output
  size : a.heap.size ≤ b.heap.size
  block : ∀ k, k < a.heap.size → (¬ K k ∨ ∀ cs t fz, a.heap[k]? = some (.cells cs t fz) → t ∉ TS) → b.heap[k]? = a.heap[k]?
section
variable {K : Nat → Prop} {TS : List TypeId} {a b c : World}
theorem Fe.refl (K : Nat → Prop) (TS : List TypeId) (a : World) : Fe K TS a a := ⟨rfl, rfl, rfl, Nat.le_refl _, fun _ _ _ => rfl⟩
theorem Fe.trans (h : Fe K TS a b) (k : Fe K TS b c) : Fe K TS a c := by
  refine ⟨k.os.trans h.os, k.tape.trans h.tape, k.output.trans h.output, Nat.le_trans h.size k.size, fun i hi hc => ?_⟩
  have h1 := h.block i hi hc
  rw [← h1]
  refine k.block i (Nat.lt_of_lt_of_le hi h.size) ?_
  rw [h1]
  exact hc
theorem Fe.of_chg (h : Chg [] a b) : Fe K TS a b := ⟨h.os, h.tape, h.output, h.size, fun k hk _ => h.block k hk (by simp)⟩
theorem Fe.of_chgT {T : List Nat} (h : Chg T a b) (hT : ∀ i ∈ T, K i ∧ ∀ cs t fz, a.heap[i]? = some (.cells cs t fz) → t ∈ TS) (hO : ∀ i ∈ T, ∃ cs t fz, a.heap[i]? = some (.cells cs t fz)) : Fe K TS a b :=
  ⟨h.os, h.tape, h.output, h.size, fun k hk hc => h.block k hk fun hm => by
    obtain ⟨h1, h2⟩ := hT k hm
    obtain ⟨cs, t, fz, h3⟩ := hO k hm
    rcases hc with hc | hc
    · exact hc h1
    · exact hc cs t fz h3 (h2 cs t fz h3)⟩
theorem Fe.new (h : Fe K TS a b) (k : Chg [] b c) : Fe K TS a c := h.trans (Fe.of_chg k)
theorem Fe.sub {TS' : List TypeId} (h : Fe K TS a b) (hT : ∀ t, t ∈ TS → t ∈ TS') : Fe K TS' a b :=
  ⟨h.os, h.tape, h.output, h.size, fun k hk hc => h.block k hk (hc.imp id (fun h cs t fz e ht => h cs t fz e (hT t ht)))⟩
theorem Fe.chg {T : List Nat} {B : Nat} (h : Fe (fun k => B ≤ k ∨ k ∈ T) TS a b) (hB : a.heap.size ≤ B) : Chg T a b := ⟨h.os, h.tape, h.output, h.size, fun k hk hn => h.block k hk (.inl fun hc => by
  rcases hc with hc | hc
  · omega
  · exact hn hc)⟩
theorem Fe.set (h : Fe K TS a b) {p : Addr} (hp : K p.block) {cs : Array Value} {t : TypeId} {fz : Nat × Nat} (hb : b.heap[p.block]? = some (.cells cs t fz)) (ht : t ∈ TS) (u : Value) : Fe K TS a (b.setCell p u) := by
  refine h.trans ⟨rfl, rfl, rfl, ?_, fun k hk hc => ?_⟩
  · rw [size_set]; exact Nat.le_refl _
  · refine Below.heap_setCell b p u k (fun e => ?_)
    subst e
    rcases hc with h1 | h1
    · exact h1 hp
    · exact h1 cs t fz hb ht
theorem Fe.setw (h : Fe K TS a b) {g j t : Nat} {cs : List Value} (hW : Whole b g t cs) (hp : K g) (ht : t ∈ TS) (u : Value) : Fe K TS a (b.setCell ⟨g, j, none⟩ u) := h.set (p := ⟨g, j, none⟩) hp hW ht u
theorem Fe.seto (h : Fe K TS a b) {g j B2 k n m e : Nat} {xs : List Value} {cap : Nat} (ho : b.ownsRow B2 e k (.slice (some ⟨g, 0, none⟩) n cap) m xs) (hp : K g) (ht : e ∈ TS) (u : Value) : Fe K TS a (b.setCell ⟨g, j, none⟩ u) := by
  rcases ho.2 with ⟨e', _⟩ | ⟨g', cap', cur, e', hb, hg, _⟩
  · cases e'
  · injection e' with e1 _ _
    injection e1 with e1
    injection e1 with e1
    subst e1
    exact h.set (p := ⟨g, j, none⟩) hp hg ht u
theorem Fe.grown (h : Fe K TS a b) {B2 k n e : Nat} {v : Value} {xs : List Value} (ho : b.ownsRow B2 e k v n xs) (hK : ∀ i, v.ownBlock = some i → K i) (ht : e ∈ TS) (hg : b.grownBy c v.ownBlock) : Fe K TS a c := by
  refine h.trans ⟨hg.os, hg.tape, hg.output, hg.size, fun i hi hc => hg.block i hi (fun hr => ?_)⟩
  rcases ho.2 with ⟨rfl, _⟩ | ⟨g', cap', cur, rfl, hb, hgb, _⟩
  · simp [Value.ownBlock] at hr
  · simp [Value.ownBlock] at hr
    subst hr
    rcases hc with h1 | h1
    · exact h1 (hK _ rfl)
    · exact h1 _ _ _ hgb ht
theorem Fe.whole (h : Fe K TS a b) {g t : Nat} {cs : List Value} (hW : Whole a g t cs) (ht : t ∉ TS) : Whole b g t cs :=
  (h.block g hW.lt (.inr fun _ _ _ e => by rw [show a.heap[g]? = _ from hW] at e; injection e with e; injection e with _ e2 _; subst e2; exact ht)).trans hW
theorem Fe.own (h : Fe K TS a b) {B2 k n e : Nat} {v : Value} {xs : List Value} (ho : a.ownsRow B2 e k v n xs) (ht : e ∉ TS) : b.ownsRow B2 e k v n xs := by
  refine ⟨ho.1, ?_⟩
  rcases ho.2 with h1 | ⟨g, cap, cur, rfl, hb, hg, r⟩
  · exact .inl h1
  · refine .inr ⟨g, cap, cur, rfl, hb, ?_, r⟩
    have hlt : g < a.heap.size := by
      rcases Nat.lt_or_ge g a.heap.size with h | h
      · exact h
      · rw [Array.getElem?_eq_none h] at hg; cases hg
    exact (h.block g hlt (.inr fun _ _ _ e => by rw [hg] at e; injection e with e; injection e with _ e2 _; subst e2; exact ht)).trans hg
theorem Fe.mm (h : Fe K TS a b) {p gC gD : Nat} {L : List UInt8} {X : List Value} {V : List Bool} {Y : List Value} {most : Nat} (hM : Mm a p gC gD L X V Y most) (h1 : 109 ∉ TS) (h2 : 5 ∉ TS) (h3 : 4 ∉ TS) : Mm b p gC gD L X V Y most :=
  ⟨h.whole hM.rec_ h1, h.whole hM.cel h2, h.whole hM.dir h3, hM.len, hM.le, hM.top, hM.capX, hM.capY⟩
end
end Go.Proofs.Ytfhgnoajfipjdaa
namespace Go.Proofs.Ytfhgnoajfipjdaa
open Go.RowKit
section
variable {P : Program} {ops : Array Oper} {rest : List Oper} {o : Oper} {a : Act} {w : World} {Q : Exit → Act → World → Prop}
theorem wpList_build_is (hg : o.guard = none) (t : TypeId) (parts : Array (Nat × Operand)) (ho : o.op = .build t parts) (C : Array Value) (hf : P.built t (parts.map fun (i, x) => (i, a.eval x)).toList = some C)
    (h : wpList P ops Q rest (a.put o.dst (.agg C)) w) : wpList P ops Q (o :: rest) a w :=
  wpList_build hg t parts ho (by rw [hf]; rfl) (by rw [hf]; exact h)
theorem wpList_alloc_is (hg : o.guard = none) (t : TypeId) (ho : o.op = .alloc t) {i : TypeInfo} {z : Value} (hi : P.info? t = some i) (hz : i.zero = some z) (N : Nat) (hN : w.heap.size = N)
    (h : wpList P ops Q rest (a.put o.dst (.pointer (some ⟨N, 0, none⟩))) (w.alloc (.cells z.cells t))) : wpList P ops Q (o :: rest) a w := by
  subst hN
  refine wpList_plain hg fun K hK => ?_
  unfold Oper.wp execOp
  simp [ho, go_sem, zeroValue, typeInfo, hi, hz]
  exact hK _ _ h
end
section
variable {P : Program} {ops : Array Oper} {o : Oper} {a : Act} {w : World} {K : Act → World → Prop} {Q : Exit → Act → World → Prop} {E : Prop}
theorem step_of (hgd : o.guard = none) (h : Oper.wp P o a w K Q) : if Region.wanted o (yielded ops a.tmps) = true then Oper.wp P o a w K Q else E := by
  have hw : Region.wanted o (yielded ops a.tmps) = true := by simp [Region.wanted, hgd]
  rw [if_pos hw]
  exact h
theorem step_load_row (hgd : o.guard = none) (ty : TypeId) (x : Operand) (ho : o.op = .load ty x)
    (g : Nat) (hx : a.eval x = .pointer (some ⟨g, 0, none⟩)) (t : TypeId) (cs : Array Value) (fr : Nat × Nat) (d : TypeDesc) (hg : w.heap[g]? = some (.cells cs t fr))
    (hu : P.underlying ty = some d) (hd : (match d with | .struct _ | .array _ _ => true | _ => false) = true) (hi : (P.info? ty).map (·.size) = some cs.size)
    (h : K (a.put o.dst (.agg cs)) w) : if Region.wanted o (yielded ops a.tmps) = true then Oper.wp P o a w K Q else E :=
  step_of hgd (wp_load_row ty x ho g hx t cs fr d hg hu hd hi h)
/-- '[]T{v}' of a struct. -/
theorem step_build_one (hgd : o.guard = none) (t e : TypeId) (x : Operand) (ho : o.op = .buildSlice t 1 #[(0, x)]) (cells : Array Value) (hx : a.eval x = .agg cells) {i : TypeInfo} {z : Value} (s : Nat)
    (hu : P.underlying t = some (.slice e)) (hi : P.info? e = some i) (hz : i.zero = some z) (hs : i.size = s) (hzs : z.cells.size = s) (hpos : 0 < s) (hbig : s ≤ 1000) (hc : cells.size = s) (N : Nat) (hN : w.heap.size = N)
    (h : K (a.put o.dst (.slice (some ⟨N, 0, none⟩) 1 1)) (w.alloc (.cells cells e))) : if Region.wanted o (yielded ops a.tmps) = true then Oper.wp P o a w K Q else E := by
  subst hN
  refine step_of hgd (Go.wp_buildSlice t e 1 #[(0, x)] ho cells i z hu hi hz (by rw [hs]; omega) (by rw [hs]; omega) ?_ h)
  have := Go.Great.fill_whole hpos [.agg cells] ((Array.range (1 * i.size)).map (z.cells[· % z.cells.size]!)) (by intro v hv; rw [List.mem_singleton] at hv; subst hv; exact hc) (by simp [hs])
  simp only [List.map_toArray, List.map_cons, List.map_nil, hx, hs] at this ⊢
  rw [show ([(Value.agg cells)].zipIdx 0).map (fun x => (x.2, x.1)) = [(0, Value.agg cells)] from rfl] at this
  rw [this]
  simp [Value.cells]
end
theorem setRow_whole {w : World} {g t : Nat} {old cs : List Value} (h : Whole w g t old) : Whole (w.setRow g cs.toArray) g t cs := by
  have := Go.setRow_heap w g old.toArray cs.toArray t (0, 0) h
  exact this
theorem setRow_chg {w : World} {g : Nat} {cs : Array Value} {T : List Nat} {a : World} (h : Chg T a w) (hg : a.heap.size ≤ g) : Chg T a (w.setRow g cs) := by
  refine ⟨h.os, h.tape, h.output, ?_, fun k hk hn => ?_⟩
  · have := h.size
    simpa [World.setRow] using this
  · exact (Go.setRow_other w g k cs (by omega)).trans (h.block k hk hn)
end Go.Proofs.Ytfhgnoajfipjdaa
namespace Go.Proofs.Ytfhgnoajfipjdaa
open Go.RowKit
/-- Only rows of type t, from B on, have turned; a row of n cells stays one, and keeps what it has come to. -/
structure RV (B t n : Nat) (P : List Value → World → Prop) (a b : World) : Prop where
  fe : Fe (fun k => B ≤ k ∨ k ∈ []) [t] a b
  res : ∀ g cs, Whole a g t cs → cs.length = n → ∃ cs', Whole b g t cs' ∧ cs'.length = n ∧ (P cs a → P cs' b)
def vT (B t n : Nat) (P : List Value → World → Prop) : Turns := ⟨RV B t n P, RV B t n P, [], []⟩
/-- P says nothing that such a turn could end. -/
def PKeeps (B t : Nat) (P : List Value → World → Prop) : Prop := ∀ cs a b, P cs a → Fe (fun k => B ≤ k ∨ k ∈ []) [t] a b → P cs b
section
variable {B t n : Nat} {P : List Value → World → Prop} {a b c : World}
theorem RV.of_chg (hP : PKeeps B t P) (h : Chg [] a b) : RV B t n P a b := ⟨Fe.of_chg h, fun _ cs hW hl => ⟨cs, hW.keep h, hl, fun hp => hP cs a b hp (Fe.of_chg h)⟩⟩
theorem RV.trans (h : RV B t n P a b) (k : RV B t n P b c) : RV B t n P a c := ⟨h.fe.trans k.fe, fun g cs hW hl => by
  obtain ⟨c1, h1, h2, h3⟩ := h.res g cs hW hl
  obtain ⟨c2, k1, k2, k3⟩ := k.res g c1 h1 h2
  exact ⟨c2, k1, k2, fun hp => k3 (h3 hp)⟩⟩
theorem vT_ok (hP : PKeeps B t P) : (vT B t n P).Ok := ⟨fun _ => RV.of_chg hP (Chg.refl _ _), fun _ _ h => h, fun _ _ _ h k => h.trans k⟩
theorem v_by (k : Nat) {W W' : World} (h : RV B t n P W W') : (vT B t n P).by_ k W W' := by
  unfold Turns.by_
  split <;> exact h
end
def vrF (B t n : Nat) : Fact := fun v W => ∃ g cs, v = .pointer (some ⟨g, 0, none⟩) ∧ B ≤ g ∧ Whole W g t cs ∧ cs.length = n
def vpF (B t n : Nat) (P : List Value → World → Prop) : Fact := fun v W => ∃ g cs, v = .pointer (some ⟨g, 0, none⟩) ∧ B ≤ g ∧ Whole W g t cs ∧ cs.length = n ∧ P cs W
def vaF (n : Nat) (P : List Value → World → Prop) : Fact := fun v W => ∃ cs : List Value, v = .agg cs.toArray ∧ cs.length = n ∧ P cs W ∧ cs.all (·.oneCell') = true
section
variable {w0 : World} {a0 : Act} {ops : List Oper} {Q : Exit → Act → World → Prop} {F : Said} {k : Nat} {rest : List Oper}
  {d : Option Tmp} {ty : TypeId} {pos : String} {af : Array Edge} {g : Option (Nat × Bool)} {B t n : Nat} {P : List Value → World → Prop} {pr : Program}
theorem keeps_vr : Keeps (RV B t n P) (vrF B t n) := fun _ _ _ ⟨g, cs, e, hB, hW, hl⟩ hc => by
  obtain ⟨c1, h1, h2, _⟩ := hc.res g cs hW hl
  exact ⟨g, c1, e, hB, h1, h2⟩
theorem keeps_vp : Keeps (RV B t n P) (vpF B t n P) := fun _ _ _ ⟨g, cs, e, hB, hW, hl, hp⟩ hc => by
  obtain ⟨c1, h1, h2, h3⟩ := hc.res g cs hW hl
  exact ⟨g, c1, e, hB, h1, h2, h3 hp⟩
theorem keeps_va (hP : PKeeps B t P) : Keeps (RV B t n P) (vaF n P) := fun _ _ _ ⟨cs, e, hl, hp, h1⟩ hc => ⟨cs, e, hl, hP _ _ _ hp hc.fe, h1⟩
theorem v_size {W : World} (hB : B ≤ w0.heap.size) (hW : (vT B t n P).H w0 W) : B ≤ W.heap.size := Nat.le_trans hB hW.fe.size
theorem v_alloc (hP : PKeeps B t P) (zs : List Value) (hz : zs.length = n) (hB : B ≤ w0.heap.size) (hg : guardIs ops F true ⟨d, .alloc t, ty, pos, af, g⟩) (hd0 : d ≠ none)
    (hrun : ∀ ev W, (execOp ev ⟨d, .alloc t, ty, pos, af, g⟩).run pr W = .ok (.value (.pointer (some ⟨W.heap.size, 0, none⟩))) (W.alloc (.cells zs.toArray t)))
    (h : F2.Flow pr (vT B t n P) w0 a0 ops Q ((d, vrF B t n) :: F) (k + 1) rest) : F2.Flow pr (vT B t n P) w0 a0 ops Q F k (⟨d, .alloc t, ty, pos, af, g⟩ :: rest) := by
  refine F2.flow_op (vrF B t n) keeps_vr (.inr keeps_vr) hg (fun ev W _ hW _ => ?_) h hd0
  rw [hrun ev W]
  exact ⟨v_by _ (RV.of_chg hP ((Chg.refl [] W).alloc _)), _, _, rfl, v_size hB hW, Whole.new W _ zs, hz⟩
theorem v_put {x s : Tmp} (hv : look F x = some (vrF B t n)) (ha : look F s = some (vaF n P)) (hP : PKeeps B t P) (hi : (pr.info? t).map (·.size) = some n)
    (hg : guardIs ops F true ⟨none, .store t (.tmp x) (.tmp s), ty, pos, af, g⟩)
    (h : F2.Flow pr (vT B t n P) w0 a0 ops Q ((none, vpF B t n P) :: F) (k + 1) rest) : F2.Flow pr (vT B t n P) w0 a0 ops Q F k (⟨none, .store t (.tmp x) (.tmp s), ty, pos, af, g⟩ :: rest) := by
  refine F2.flow_store (vpF B t n P) (t := x) rfl rfl keeps_vp (.inr keeps_vp) hg (fun ev W he hW hf => ?_) h
  have h1 : factOf a0 F (.tmp x) (ev (.tmp x)) W := hf.1
  have h2 : factOf a0 F (.tmp s) (ev (.tmp s)) W := hf.2.1
  simp only [factOf, hv] at h1
  simp only [factOf, ha] at h2
  obtain ⟨gv, cs, e1, hB, hWh, hl⟩ := h1
  obtain ⟨us, e2, hl2, hp, h1c⟩ := h2
  have hr : (execOp ev ⟨none, .store t (.tmp x) (.tmp s), ty, pos, af, g⟩).run pr W = .ok .skip (W.setRow gv us.toArray) := by
    unfold execOp
    have h1' : us.toArray.all (·.oneCell') = true := by rw [← Array.all_toList]; exact h1c
    have hi' : (pr.info? t).map (·.size) = some us.toArray.size := by rw [hi]; simp [hl2]
    simp only [e1, e2, Instr.storeAt, Instr.sureAddr, Sem.run_bind, Sem.run_pure, Result.andThen_ok, run_storeVar_row W gv t t cs.toArray us.toArray hWh hi' (by simp [hl, hl2]) h1']
  rw [hr]
  have hW2 : Whole (W.setRow gv us.toArray) gv t us := setRow_whole hWh
  have hfe : Fe (fun k => B ≤ k ∨ k ∈ []) [t] W (W.setRow gv us.toArray) := by
    refine ⟨rfl, rfl, rfl, by simp [World.setRow], fun i hi hc => ?_⟩
    refine Go.setRow_other W gv i _ (fun e => ?_)
    subst e
    rcases hc with hc | hc
    · exact hc (.inl hB)
    · exact hc _ _ _ hWh List.mem_cons_self
  have hp2 := hP _ _ _ hp hfe
  refine ⟨v_by _ ⟨hfe, fun g2 c2 h2 hl3 => ?_⟩, gv, us, e1, hB, hW2, hl2, hp2⟩
  by_cases hgg : g2 = gv
  · subst hgg
    exact ⟨us, hW2, hl2, fun _ => hp2⟩
  · exact ⟨c2, (Go.setRow_other W gv g2 _ hgg).trans h2, hl3, fun hp => hP _ _ _ hp hfe⟩
end
end Go.Proofs.Ytfhgnoajfipjdaa
