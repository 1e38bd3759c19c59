/-
  GL: StLeave.
-/
import Derived.Test.YtodbeeodhekpeaaDoorZGL20
namespace Go.Proofs.YtodbeeodhekpeaaDoor
open Go.RowKit
section
variable {W W' : World} {gs B : Nat} {h : Int} {vo : Value} {bs : List BkV}
/-- Yes or no, and what lies there then. -/
def StPost (gs B : Nat) (vo : Value) (R : Bool × Int × List BkV) (W : World) (e : Ending) (w' : World) : Prop :=
  ∃ vo', e = .returned (.bool R.1) ∧ St w' gs B R.2.1 vo' R.2.2 ∧ Chg (stT gs vo) W w' ∧ (vo'.ownBlock = vo.ownBlock ∨ ∃ g, vo'.ownBlock = some g ∧ W.heap.size ≤ g)
theorem st_ok {w' : World} {R : Bool × Int × List BkV} (b : Bool) (h' : Int) (vo' : Value) (bs' : List BkV) (hR : R = (b, h', bs')) (hS : St w' gs B h' vo' bs') (hC : Chg (stT gs vo) W w') (hO : vo'.ownBlock = vo.ownBlock ∨ ∃ g, vo'.ownBlock = some g ∧ W.heap.size ≤ g) : StPost gs B vo R W (.returned (.bool b)) w' := by subst hR; exact ⟨vo', rfl, hS, hC, hO⟩
theorem st_in (gs : Nat) (vo : Value) : gs ∈ stT gs vo := List.mem_cons_self ..
theorem st_in2 (gs g c q : Nat) : g ∈ stT gs (.slice (some ⟨g, 0, none⟩) q c) := by simp [stT, Value.ownBlock]
set_option maxHeartbeats 2000000 in
set_option maxRecDepth 100000 in
theorem leave_any (s : St W gs B h vo bs) : Calls Tryd.prog 65 #[.pointer (some ⟨gs, 0, none⟩)] W (StPost gs B vo (rLeave h bs bs.length) W) := by
  obtain ⟨A, c, hvo, _, _, _⟩ := s.slice
  have S := Lib.hid s
  have hf := s.few
  have c0 := s.rec_.cell 0
  have c1 := s.rec_.cell 1
  rw [hvo] at c1
  have HV := Lib.hid hvo
  obtain ⟨m, hm⟩ : ∃ m, m = bs.length := ⟨_, rfl⟩
  obtain ⟨R, hR⟩ : ∃ R, R = rLeave h bs bs.length := ⟨_, rfl⟩
  rw [← hR]
  rw [← hm] at c1 hf hR
  have HM := Lib.hid hm
  have HR0 := Lib.hid hR
  clear hR
  obtain ⟨i0, hsub, hi0, hi1⟩ : ∃ i0 : Int, IntKind.i64.wrap ((m : Int) - 1) = i0 ∧ -1 ≤ i0 ∧ i0 < (m : Int) := ⟨(m : Int) - 1, IntWalk.i64_in _ (by omega), by omega, by omega⟩
  have HI0 := Lib.hid (show R = rLeave h bs (i0 + 1).toNat from by rw [HR0.out]; congr 1; have : IntKind.i64.wrap ((m : Int) - 1) = (m : Int) - 1 := IntWalk.i64_in _ (by omega); omega)
  clear s hvo hm
  go_enter Tryd.func65, Tryd.ntmps65
  go_wp2_with fail
  go_loopw [3] (fun i wr => ∃ k : Int, i = .int .i64 k ∧ -1 ≤ k ∧ k < (m : Int) ∧ Hid (R = rLeave h bs (k + 1).toNat) ∧ wr = W) (fun i _ => ((intOf i) + 1).toNat)
  case atStart => exact ⟨i0, rfl, hi0, hi1, HI0, rfl⟩
  case round =>
    obtain ⟨k, rfl, hk0, hk1, HRK, hwr⟩ := hrel
    subst hwr
    by_cases hk : 0 ≤ k
    · obtain ⟨q, rfl⟩ : ∃ q : Nat, k = (q : Int) := ⟨k.toNat, by omega⟩
      have hqm : q < m := by omega
      obtain ⟨x, hx⟩ : ∃ x, bs[q]? = some x := ⟨bs[q]'(by rw [← HM.out]; exact hqm), by simp⟩
      have HRQ := Lib.hid (show R = if x.sign = 91 then (h == x.base, -1, bs.set q ⟨x.sign, x.base, x.other, true⟩) else rLeave h bs q from by rw [HRK.out, show ((q : Int) + 1).toNat = q + 1 from by omega, rLeave, hx])
      obtain ⟨g, c', hvo, hg, j0, j1, j2, j3⟩ := S.out.cell hx
      have hvo2 := HV.out
      rw [hvo] at hvo2
      injection hvo2 with e1 e2 e3
      subst e1; subst e3
      clear hvo e2 j1 j2
      by_cases h91 : x.sign = 91
      · have q1 : (x.sign == 91) = true := by simpa using h91
        have f3 : wr.frozen? ⟨g, q * 4 + 3, none⟩ = false := rown_frozen (by have := S.out.own; rw [HV.out] at this; rw [← HM.out] at this; exact this)
        have HRE := Lib.hid (show R = (h == x.base, -1, bs.set q ⟨x.sign, x.base, x.other, true⟩) from by rw [HRQ.out, if_pos h91])
        clear h91
        go_upto_region 6 with fail
        have S5 := Lib.hid (S.out.poke (i := q) (j := 3) (x := x) (y := ⟨x.sign, x.base, x.other, true⟩) (u := .bool true) HV.out hx (by omega) rfl (S.out.wf x (List.mem_of_getElem? hx)))
        have hx5 : (bs.set q ⟨x.sign, x.base, x.other, true⟩)[q]? = some ⟨x.sign, x.base, x.other, true⟩ := by
          rw [List.getElem?_set_self (by rw [← HM.out]; exact hqm)]
        have HM5 := Lib.hid (show (bs.set q ⟨x.sign, x.base, x.other, true⟩).length = m by rw [List.length_set]; exact HM.out.symm)
        have HC5 := Lib.hid (show Chg (stT gs vo) wr (wr.setCell ⟨g, q * 4 + 3, none⟩ (.bool true)) from ((Chg.refl [] wr).sub (by simp)).setCell (fun _ => by rw [HV.out]; exact st_in2 gs g _ _) _)
        clear hx j0 j3 c0 c1 f3
        generalize bs.set q ⟨x.sign, x.base, x.other, true⟩ = bs5 at S5 hx5 HM5 HRE
        generalize wr.setCell ⟨g, q * 4 + 3, none⟩ (.bool true) = w5 at S5 HC5 ⊢
        have c0 := S5.out.rec_.cell 0
        have c1 := S5.out.rec_.cell 1
        rw [HV.out, ← HM.out] at c1
        have f0 := S5.out.rec_.frozen 0
        obtain ⟨g', c', hvo, hg, j0, j1, j2, j3⟩ := S5.out.cell hx5
        have hvo2 := HV.out
        rw [hvo] at hvo2
        injection hvo2 with e1 e2 e3
        injection e1 with e1; injection e1 with e1
        subst e1; subst e3
        clear hvo e2 hx5 j0 j2 j3
        go_quiet (fail)
        have S6 := Lib.hid (S5.out.keep ((Chg.refl [] w5).drewN nq))
        have HC6 := Lib.hid (HC5.out.drewN nq)
        have S7 := Lib.hid (S6.out.high (-1) (by omega))
        have HC7 := Lib.hid (HC6.out.setCell (p := ⟨gs, 0, none⟩) (fun _ => st_in gs vo) (.int .i64 (-1)))
        clear c0 c1 f0 j1
        have c0 := S6.out.rec_.cell 0
        have f0 := S6.out.rec_.frozen 0
        have HP := Lib.hid (show StPost gs B vo R wr (.returned (.bool (h == x.base))) ((w5.drewN nq).setCell ⟨gs, 0, none⟩ (.int .i64 (-1))) from st_ok _ _ vo bs5 HRE.out S7.out HC7.out (.inl rfl))
        go_wp2_with fail
        go_ret
        exact HP.out
      · have q1 : (x.sign == 91) = false := by simpa using h91
        have HRE := Lib.hid (show R = rLeave h bs ((q : Int) - 1 + 1).toNat from by rw [HRQ.out, if_neg h91]; congr 1; omega)
        clear h91
        go_wp2_with fail
        go_roundw
        case rel => exact ⟨(q : Int) - 1, by go_num, by omega, by omega, HRE, by first | rfl | trivial⟩
        case measure => simp [intOf]
    · obtain rfl : k = -1 := by omega
      have HP := Lib.hid (show StPost gs B vo R wr (.returned (.bool false)) wr from st_ok false h vo bs (HRK.out.trans rfl) S.out ((Chg.refl [] wr).sub (by simp)) (.inl rfl))
      go_wp2_with fail
      go_ret
      exact HP.out
end
end Go.Proofs.YtodbeeodhekpeaaDoor
