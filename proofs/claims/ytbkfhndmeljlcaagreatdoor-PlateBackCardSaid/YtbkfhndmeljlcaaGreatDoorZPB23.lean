/-
  PB: StEnds, StTok.
-/
import Derived.Test.YtbkfhndmeljlcaaGreatDoorZPB20
import Derived.BigRegion
import Derived.Deep.RegionLaw
namespace Go.Proofs.YtbkfhndmeljlcaaGreatDoor
open Go.RowKit
section
variable {W W' : World} {gs B : Nat} {h : Int} {vo : Value} {ys : List BkV} {x : BkV}
theorem St.poke_last {y : BkV} {u : Value} {g c m q j : Nat} (s : St W gs B h vo (ys ++ [x])) (hv : vo = .slice (some ⟨g, 0, none⟩) m c) (hq : ys.length = q) (hj : j < 4) (hu : (bkC x).set j u = bkC y) (hy : 0 ≤ y.base ∧ y.base ≤ 64 ∧ -1 ≤ y.other ∧ y.other ≤ 64) :
    St (W.setCell ⟨g, q * 4 + j, none⟩ u) gs B h vo (ys ++ [y]) := by
  have h1 := s.poke (i := ys.length) (x := x) hv (by simp) hj hu hy
  rw [hq] at h1
  have e : (ys ++ [x]).set q y = ys ++ [y] := by rw [← hq]; simp
  rwa [e] at h1
theorem st_in3 {g c m : Nat} (hv : vo = .slice (some ⟨g, 0, none⟩) m c) : g ∈ stT gs vo := by rw [hv]; exact st_in2 gs g c m
theorem rEnds_half (h : Int) (ys : List BkV) (x : BkV) : rEnds h ys x 58 = (true, x.base, ys ++ [⟨58, x.base, h, x.left⟩]) := rfl
theorem rEnds_pop {r : Int} (hr : r ≠ 58) (h : Int) (ys : List BkV) (x : BkV) : rEnds h ys x r = if x.sign = 58 then (if 0 ≤ x.other ∧ 0 ≤ h ∧ x.other ≠ h then (false, h, ys) else (true, max h x.other, ys))
  else if 0 ≤ h ∧ h ≠ x.base then (false, h, ys) else (true, (if x.sign = 91 ∧ x.left = false then -1 else x.base), ys) := by unfold rEnds; rw [if_neg hr]
set_option maxHeartbeats 4000000 in
set_option maxRecDepth 100000 in
theorem ends_half (s : St W gs B h vo (ys ++ [x])) : Calls Tryz.prog 98 #[.pointer (some ⟨gs, 0, none⟩), .int .i32 58] W (StPost gs B vo (rEnds h ys x 58) W) := by
  obtain ⟨g, c, hvo, hg, j0, j1, j2, j3⟩ := s.cell (i := ys.length) (x := x) (by simp)
  have hl : (ys ++ [x]).length = ys.length + 1 := by simp
  have S := Lib.hid s
  have HV := Lib.hid hvo
  have c0 := s.rec_.cell 0
  have c1 := s.rec_.cell 1
  rw [hvo, hl] at c1
  have f0 := s.rec_.frozen 0
  have hwf := s.wf x (by simp)
  have hf := s.few
  rw [hl] at hf
  have hF : ∀ j, W.frozen? ⟨g, j, none⟩ = false := fun j => rown_frozen (by have := s.own; rw [hvo] at this; exact this)
  have g0 := hF (ys.length * 4)
  have g2 := hF (ys.length * 4 + 2)
  have hlt : gs ≠ g := by have := s.lo; omega
  clear hvo s hF
  obtain ⟨hw0, hw1, hw2, hw3⟩ := hwf
  clear hl
  generalize hq : ys.length = q at *
  have HQ := Lib.hid hq
  clear hq
  have hsub : IntKind.i64.wrap (((q + 1 : Nat) : Int) - 1) = (q : Int) := by rw [IntWalk.i64_in _ (by omega)]; omega
  have hq0 : (0 : Int) ≤ (q : Int) := by omega
  have hq1 : (q : Int) < ((q + 1 : Nat) : Int) := by omega
  go_enter Tryz.func98, Tryz.ntmps98
  go_wp2_with fail
  go_quiet (fail)
  have HD := Lib.hid ((Chg.refl [] W).drewN nq)
  have S1 := Lib.hid (S.out.keep HD.out)
  have j0' := cell_keep j0 HD.out
  have j1' := cell_keep j1 HD.out
  have j2' := cell_keep j2 HD.out
  have c0' := cell_keep c0 HD.out
  clear j0 j1 j2 j3 c0 c1 f0 g0 g2
  have f0 := S1.out.rec_.frozen 0
  have hF : ∀ j, (W.drewN nq).frozen? ⟨g, j, none⟩ = false := fun j => rown_frozen (by have := S1.out.own; rw [HV.out] at this; exact this)
  have g0 := hF (q * 4)
  have g2 := hF (q * 4 + 2)
  clear hF
  generalize W.drewN nq = w1 at HD S1 j0' j1' j2' c0' f0 g0 g2 ⊢
  go_wp2_with fail
  go_region
  have hst := S1.out.hr
  have S2 := S1.out.poke_last (j := 0) (y := ⟨58, x.base, x.other, x.left⟩) (u := .int .i32 58) HV.out HQ.out (by omega) rfl ⟨hw0, hw1, hw2, hw3⟩
  have S3 := S2.poke_last (j := 2) (y := ⟨58, x.base, h, x.left⟩) (u := .int .i64 h) HV.out HQ.out (by omega) rfl ⟨hw0, hw1, hst⟩
  have S4 := (S3.high x.base ⟨by omega, hw1⟩).keep ((Chg.refl [] _).drew)
  have HC4 := ((((HD.out.sub (T' := stT gs vo) (by simp)).setCell (p := ⟨g, q * 4, none⟩) (fun _ => st_in3 HV.out) (.int .i32 58)).setCell (p := ⟨g, q * 4 + 2, none⟩) (fun _ => st_in3 HV.out) (.int .i64 h)).setCell (p := ⟨gs, 0, none⟩) (fun _ => st_in gs vo) (.int .i64 x.base)).drew
  have HP := Lib.hid (show StPost gs B vo (rEnds h ys x 58) W (.returned (.bool true)) _ from st_ok true _ vo _ (rEnds_half h ys x) S4 HC4 (.inl rfl))
  clear S2 S3 S4 HC4
  go_wp2_with fail
  go_ret
  exact HP.out
set_option maxHeartbeats 4000000 in
set_option maxRecDepth 100000 in
theorem ends_pop (s : St W gs B h vo (ys ++ [x])) (r : Int) (hr : r ≠ 58) : Calls Tryz.prog 98 #[.pointer (some ⟨gs, 0, none⟩), .int .i32 r] W (StPost gs B vo (rEnds h ys x r) W) := by
  obtain ⟨R, hR⟩ : ∃ R, R = rEnds h ys x r := ⟨_, rfl⟩
  rw [← hR]
  rw [rEnds_pop hr] at hR
  have HR := Lib.hid hR
  clear hR
  obtain ⟨g, c, hvo, hg, j0, j1, j2, j3⟩ := s.cell (i := ys.length) (x := x) (by simp)
  have hl : (ys ++ [x]).length = ys.length + 1 := by simp
  have S := Lib.hid s
  have HV := Lib.hid hvo
  have c0 := s.rec_.cell 0
  have c1 := s.rec_.cell 1
  rw [hvo, hl] at c1
  have hwf := s.wf x (by simp)
  have hf := s.few
  rw [hl] at hf
  have hlt : gs ≠ g := by have := s.lo; omega
  have hst := s.hr
  have hcap : ys.length + 1 ≤ c ∧ c ≤ 9223372036854775807 := by
    obtain ⟨A', c', e, h1, h2, _⟩ := s.slice
    rw [hvo] at e
    injection e with _ _ e
    subst e
    rw [hl] at h1
    exact ⟨h1, h2⟩
  clear hvo s
  obtain ⟨hw0, hw1, hw2, hw3⟩ := hwf
  obtain ⟨hc1, hc2⟩ := hcap
  clear hl
  generalize hq : ys.length = q at *
  have HQ := Lib.hid hq
  clear hq
  have hsub : IntKind.i64.wrap (((q + 1 : Nat) : Int) - 1) = (q : Int) := by rw [IntWalk.i64_in _ (by omega)]; omega
  have hq0 : (0 : Int) ≤ (q : Int) := by omega
  have hq1 : (q : Int) < ((q + 1 : Nat) : Int) := by omega
  have hqc : (q : Int) ≤ (c : Int) := by omega
  have hrb : (r == 58) = false := by simpa using hr
  go_enter Tryz.func98, Tryz.ntmps98
  go_wp2_with fail
  go_quiet (fail)
  have HD := Lib.hid ((Chg.refl [] W).drewN nq)
  have S1 := Lib.hid (S.out.keep HD.out)
  have c1' := cell_keep c1 HD.out
  clear j0 j1 j2 j3 c0 c1
  have f1 := S1.out.rec_.frozen 1
  generalize W.drewN nq = w1 at HD S1 c1' f1 ⊢
  go_upto_region 5 with fail
  go_region
  obtain ⟨l0, l1, l2, l3⟩ : w1.cell? ⟨g, q * 4, none⟩ = some (.int .i32 x.sign) ∧ w1.cell? ⟨g, q * 4 + 1, none⟩ = some (.int .i64 x.base) ∧ w1.cell? ⟨g, q * 4 + 2, none⟩ = some (.int .i64 x.other) ∧ w1.cell? ⟨g, q * 4 + 3, none⟩ = some (.bool x.left) := by
    obtain ⟨g', c', e, _, l0, l1, l2, l3⟩ := S1.out.cell (i := ys.length) (x := x) (by simp)
    rw [HV.out] at e
    injection e with e; injection e with e; injection e with e
    subst e
    rw [HQ.out] at l0 l1 l2 l3
    exact ⟨l0, l1, l2, l3⟩
  have S5' := (S1.out.drop HV.out).keep ((Chg.refl [] _).drew)
  rw [HQ.out] at S5'
  have hc5 : Chg [gs] w1 (w1.setCell ⟨gs, 1, none⟩ (.slice (some ⟨g, 0, none⟩) q c)).drew := ((Chg.refl [gs] w1).setCell (p := ⟨gs, 1, none⟩) (by simp) _).drew
  have S5 := Lib.hid S5'
  have HC5 := Lib.hid (show Chg (stT gs vo) W _ from (HD.out.sub (T' := stT gs vo) (by simp)).trans (hc5.sub (by intro i hi; simp only [List.mem_cons, List.not_mem_nil, or_false] at hi; subst hi; exact st_in _ vo)))
  generalize (w1.setCell ⟨gs, 1, none⟩ (.slice (some ⟨g, 0, none⟩) q c)).drew = w5 at S5 S5' HC5 hc5 ⊢
  have hgl : g < w1.heap.size := block_lt_of_cell l0
  have k0 : w5.cell? ⟨g, q * 4, none⟩ = some (.int .i32 x.sign) := by rw [← l0]; exact World.cell?_of_block (w := w1) (hc5.block g hgl (by simp; omega))
  have k1 : w5.cell? ⟨g, q * 4 + 1, none⟩ = some (.int .i64 x.base) := by rw [← l1]; exact World.cell?_of_block (w := w1) (hc5.block g hgl (by simp; omega))
  have k2 : w5.cell? ⟨g, q * 4 + 2, none⟩ = some (.int .i64 x.other) := by rw [← l2]; exact World.cell?_of_block (w := w1) (hc5.block g hgl (by simp; omega))
  have k3 : w5.cell? ⟨g, q * 4 + 3, none⟩ = some (.bool x.left) := by rw [← l3]; exact World.cell?_of_block (w := w1) (hc5.block g hgl (by simp; omega))
  have c0 := S5'.rec_.cell 0
  have f0 := S5'.rec_.frozen 0
  have HOB := Lib.hid (show (Value.slice (some ⟨g, 0, none⟩) q c).ownBlock = vo.ownBlock by rw [HV.out]; rfl)
  clear S5' hc5 l0 l1 l2 l3 c1' f1 hgl
  generalize hvo5 : Value.slice (some ⟨g, 0, none⟩) q c = vo5 at S5 HOB
  clear hvo5
  by_cases h58 : x.sign = 58
  · have q58 : (x.sign == 58) = true := by simpa using h58
    have HR1 := Lib.hid (show R = if 0 ≤ x.other ∧ 0 ≤ h ∧ x.other ≠ h then (false, h, ys) else (true, max h x.other, ys) from by rw [HR.out, if_pos h58])
    clear h58
    go_upto_region 7 with fail
    by_cases ho : 0 ≤ x.other
    · have qo : decide (0 ≤ x.other) = true := by simpa using ho
      by_cases hh : 0 ≤ h
      · have qh : decide (0 ≤ h) = true := by simpa using hh
        by_cases hne : x.other = h
        · have HRM := Lib.hid (show R = (true, h, ys) from by rw [HR1.out, if_neg (by omega)]; congr 2; omega)
          have qn : (x.other != h) = false := by simpa using hne
          have qn2 : (x.other == h) = true := by simpa using hne
          go_quiet (fail)
          have S6 := Lib.hid (S5.out.keep ((Chg.refl [] w5).drewN nq))
          have HC6 := Lib.hid (HC5.out.drewN nq)
          have k0' := cell_keep k0 ((Chg.refl [] w5).drewN nq)
          have k1' := cell_keep k1 ((Chg.refl [] w5).drewN nq)
          have k2' := cell_keep k2 ((Chg.refl [] w5).drewN nq)
          have k3' := cell_keep k3 ((Chg.refl [] w5).drewN nq)
          clear k0 k1 k2 k3 c0 f0
          have c0 := S6.out.rec_.cell 0
          have f0 := S6.out.rec_.frozen 0
          generalize w5.drewN nq = w6 at S6 HC6 k0' k1' k2' k3' c0 f0 ⊢
          go_upto_region 9 with fail
          go_region
          have S7 := (S6.out.high h (by have := S6.out.hr; omega)).keep ((Chg.refl [] _).drew)
          have HC7 := (HC6.out.setCell (p := ⟨gs, 0, none⟩) (fun _ => st_in gs vo) (.int .i64 h)).drew
          have HP := Lib.hid (show StPost gs B vo R W (.returned (.bool true)) _ from st_ok true _ vo5 ys (HRM.out) S7 HC7 (.inl HOB.out))
          clear S7 HC7
          go_wp2_with fail
          go_ret
          exact HP.out
        · have HRM := Lib.hid (show R = (false, h, ys) from by rw [HR1.out, if_pos ⟨ho, hh, hne⟩])
          have qn : (x.other != h) = true := by simpa using hne
          have qn2 : (x.other == h) = false := by simpa using hne
          go_quiet (fail)
          have S6 := Lib.hid (S5.out.keep ((Chg.refl [] w5).drewN nq))
          have HC6 := Lib.hid (HC5.out.drewN nq)
          have k0' := cell_keep k0 ((Chg.refl [] w5).drewN nq)
          have k1' := cell_keep k1 ((Chg.refl [] w5).drewN nq)
          have k2' := cell_keep k2 ((Chg.refl [] w5).drewN nq)
          have k3' := cell_keep k3 ((Chg.refl [] w5).drewN nq)
          clear k0 k1 k2 k3 c0 f0
          have c0 := S6.out.rec_.cell 0
          have f0 := S6.out.rec_.frozen 0
          generalize w5.drewN nq = w6 at S6 HC6 k0' k1' k2' k3' c0 f0 ⊢
          have HP := Lib.hid (show StPost gs B vo R W (.returned (.bool false)) w6 from st_ok false h vo5 ys HRM.out S6.out HC6.out (.inl HOB.out))
          go_wp2_with fail
          go_ret
          exact HP.out
      · have qh : decide (0 ≤ h) = false := by simpa using hh
        have HRM := Lib.hid (show R = (true, max h x.other, ys) from by rw [HR1.out, if_neg (by omega)])
        go_quiet (fail)
        have S6 := Lib.hid (S5.out.keep ((Chg.refl [] w5).drewN nq))
        have HC6 := Lib.hid (HC5.out.drewN nq)
        have k0' := cell_keep k0 ((Chg.refl [] w5).drewN nq)
        have k1' := cell_keep k1 ((Chg.refl [] w5).drewN nq)
        have k2' := cell_keep k2 ((Chg.refl [] w5).drewN nq)
        have k3' := cell_keep k3 ((Chg.refl [] w5).drewN nq)
        clear k0 k1 k2 k3 c0 f0
        have c0 := S6.out.rec_.cell 0
        have f0 := S6.out.rec_.frozen 0
        generalize w5.drewN nq = w6 at S6 HC6 k0' k1' k2' k3' c0 f0 ⊢
        go_upto_region 9 with fail
        go_region
        have S7 := (S6.out.high (max h x.other) (by have := S6.out.hr; omega)).keep ((Chg.refl [] _).drew)
        have HC7 := (HC6.out.setCell (p := ⟨gs, 0, none⟩) (fun _ => st_in gs vo) (.int .i64 (max h x.other))).drew
        have HP := Lib.hid (show StPost gs B vo R W (.returned (.bool true)) _ from st_ok true _ vo5 ys (HRM.out) S7 HC7 (.inl HOB.out))
        clear S7 HC7
        go_wp2_with fail
        go_ret
        exact HP.out
    · have qo : decide (0 ≤ x.other) = false := by simpa using ho
      have HRM := Lib.hid (show R = (true, max h x.other, ys) from by rw [HR1.out, if_neg (by omega)])
      go_quiet (fail)
      have S6 := Lib.hid (S5.out.keep ((Chg.refl [] w5).drewN nq))
      have HC6 := Lib.hid (HC5.out.drewN nq)
      have k0' := cell_keep k0 ((Chg.refl [] w5).drewN nq)
      have k1' := cell_keep k1 ((Chg.refl [] w5).drewN nq)
      have k2' := cell_keep k2 ((Chg.refl [] w5).drewN nq)
      have k3' := cell_keep k3 ((Chg.refl [] w5).drewN nq)
      clear k0 k1 k2 k3 c0 f0
      have c0 := S6.out.rec_.cell 0
      have f0 := S6.out.rec_.frozen 0
      generalize w5.drewN nq = w6 at S6 HC6 k0' k1' k2' k3' c0 f0 ⊢
      go_upto_region 9 with fail
      go_region
      have S7 := (S6.out.high (max h x.other) (by have := S6.out.hr; omega)).keep ((Chg.refl [] _).drew)
      have HC7 := (HC6.out.setCell (p := ⟨gs, 0, none⟩) (fun _ => st_in gs vo) (.int .i64 (max h x.other))).drew
      have HP := Lib.hid (show StPost gs B vo R W (.returned (.bool true)) _ from st_ok true _ vo5 ys (HRM.out) S7 HC7 (.inl HOB.out))
      clear S7 HC7
      go_wp2_with fail
      go_ret
      exact HP.out
  · have q58 : (x.sign == 58) = false := by simpa using h58
    have HR1 := Lib.hid (show R = if 0 ≤ h ∧ h ≠ x.base then (false, h, ys) else (true, (if x.sign = 91 ∧ x.left = false then -1 else x.base), ys) from by rw [HR.out, if_neg h58])
    clear h58
    go_upto_region 11 with fail
    by_cases hh : 0 ≤ h
    · have qh : decide (0 ≤ h) = true := by simpa using hh
      by_cases hne : h = x.base
      · have HRN := Lib.hid (show R = (true, (if x.sign = 91 ∧ x.left = false then -1 else x.base), ys) from by rw [HR1.out, if_neg (by omega)])
        have qn : (h != x.base) = false := by simpa using hne
        have qn2 : (h == x.base) = true := by simpa using hne
        go_quiet (fail)
        have S6 := Lib.hid (S5.out.keep ((Chg.refl [] w5).drewN nq))
        have HC6 := Lib.hid (HC5.out.drewN nq)
        have k0' := cell_keep k0 ((Chg.refl [] w5).drewN nq)
        have k1' := cell_keep k1 ((Chg.refl [] w5).drewN nq)
        have k2' := cell_keep k2 ((Chg.refl [] w5).drewN nq)
        have k3' := cell_keep k3 ((Chg.refl [] w5).drewN nq)
        clear k0 k1 k2 k3 c0 f0
        have c0 := S6.out.rec_.cell 0
        have f0 := S6.out.rec_.frozen 0
        generalize w5.drewN nq = w6 at S6 HC6 k0' k1' k2' k3' c0 f0 ⊢
        go_upto_region 14 with fail
        have S7 := Lib.hid (S6.out.high x.base ⟨by omega, hw1⟩)
        have HC7 := Lib.hid (HC6.out.setCell (p := ⟨gs, 0, none⟩) (fun _ => st_in gs vo) (.int .i64 x.base))
        have m0 : (w6.setCell ⟨gs, 0, none⟩ (.int .i64 x.base)).cell? ⟨g, q * 4, none⟩ = some (.int .i32 x.sign) := by rw [← k0']; exact World.cell?_of_block (w := w6) (Below.heap_setCell w6 ⟨gs, 0, none⟩ _ g (Ne.symm hlt))
        have m3 : (w6.setCell ⟨gs, 0, none⟩ (.int .i64 x.base)).cell? ⟨g, q * 4 + 3, none⟩ = some (.bool x.left) := by rw [← k3']; exact World.cell?_of_block (w := w6) (Below.heap_setCell w6 ⟨gs, 0, none⟩ _ g (Ne.symm hlt))
        clear k0' k1' k2' k3' c0 f0
        generalize w6.setCell ⟨gs, 0, none⟩ (.int .i64 x.base) = w7 at S7 HC7 m0 m3 ⊢
        have f0 := S7.out.rec_.frozen 0
        have c0 := S7.out.rec_.cell 0
        have S8 := Lib.hid (S7.out.high (-1) (by omega))
        have HC8 := Lib.hid (HC7.out.setCell (p := ⟨gs, 0, none⟩) (fun _ => st_in gs vo) (.int .i64 (-1)))
        have HP1 := Lib.hid (fun (hn : ¬ (x.sign = 91 ∧ x.left = false)) => show StPost gs B vo R W (.returned (.bool true)) w7 from st_ok true _ vo5 ys (by rw [HRN.out, if_neg hn]) S7.out HC7.out (.inl HOB.out))
        have HP2 := Lib.hid (fun (hn : x.sign = 91 ∧ x.left = false) => show StPost gs B vo R W (.returned (.bool true)) (w7.setCell ⟨gs, 0, none⟩ (.int .i64 (-1))) from st_ok true _ vo5 ys (by rw [HRN.out, if_pos hn]) S8.out HC8.out (.inl HOB.out))
        by_cases h91 : x.sign = 91
        · have q91 : (x.sign == 91) = true := by simpa using h91
          cases hlf : x.left
          · have HPP := Lib.hid (HP2.out ⟨h91, hlf⟩)
            rw [hlf] at m3
            clear h91 hlf
            go_wp2_with fail
            go_ret
            exact HPP.out
          · have HPP := Lib.hid (HP1.out (by rw [hlf]; simp))
            rw [hlf] at m3
            clear h91 hlf
            go_wp2_with fail
            go_ret
            exact HPP.out
        · have q91 : (x.sign == 91) = false := by simpa using h91
          have HPP := Lib.hid (HP1.out (fun hn => h91 hn.1))
          clear h91
          go_wp2_with fail
          go_ret
          exact HPP.out
      · have HRM := Lib.hid (show R = (false, h, ys) from by rw [HR1.out, if_pos ⟨hh, hne⟩])
        have qn : (h != x.base) = true := by simpa using hne
        have qn2 : (h == x.base) = false := by simpa using hne
        go_quiet (fail)
        have S6 := Lib.hid (S5.out.keep ((Chg.refl [] w5).drewN nq))
        have HC6 := Lib.hid (HC5.out.drewN nq)
        have k0' := cell_keep k0 ((Chg.refl [] w5).drewN nq)
        have k1' := cell_keep k1 ((Chg.refl [] w5).drewN nq)
        have k2' := cell_keep k2 ((Chg.refl [] w5).drewN nq)
        have k3' := cell_keep k3 ((Chg.refl [] w5).drewN nq)
        clear k0 k1 k2 k3 c0 f0
        have c0 := S6.out.rec_.cell 0
        have f0 := S6.out.rec_.frozen 0
        generalize w5.drewN nq = w6 at S6 HC6 k0' k1' k2' k3' c0 f0 ⊢
        have HP := Lib.hid (show StPost gs B vo R W (.returned (.bool false)) w6 from st_ok false h vo5 ys HRM.out S6.out HC6.out (.inl HOB.out))
        go_wp2_with fail
        go_ret
        exact HP.out
    · have qh : decide (0 ≤ h) = false := by simpa using hh
      have HRN := Lib.hid (show R = (true, (if x.sign = 91 ∧ x.left = false then -1 else x.base), ys) from by rw [HR1.out, if_neg (by omega)])
      go_quiet (fail)
      have S6 := Lib.hid (S5.out.keep ((Chg.refl [] w5).drewN nq))
      have HC6 := Lib.hid (HC5.out.drewN nq)
      have k0' := cell_keep k0 ((Chg.refl [] w5).drewN nq)
      have k1' := cell_keep k1 ((Chg.refl [] w5).drewN nq)
      have k2' := cell_keep k2 ((Chg.refl [] w5).drewN nq)
      have k3' := cell_keep k3 ((Chg.refl [] w5).drewN nq)
      clear k0 k1 k2 k3 c0 f0
      have c0 := S6.out.rec_.cell 0
      have f0 := S6.out.rec_.frozen 0
      generalize w5.drewN nq = w6 at S6 HC6 k0' k1' k2' k3' c0 f0 ⊢
      go_upto_region 14 with fail
      have S7 := Lib.hid (S6.out.high x.base ⟨by omega, hw1⟩)
      have HC7 := Lib.hid (HC6.out.setCell (p := ⟨gs, 0, none⟩) (fun _ => st_in gs vo) (.int .i64 x.base))
      have m0 : (w6.setCell ⟨gs, 0, none⟩ (.int .i64 x.base)).cell? ⟨g, q * 4, none⟩ = some (.int .i32 x.sign) := by rw [← k0']; exact World.cell?_of_block (w := w6) (Below.heap_setCell w6 ⟨gs, 0, none⟩ _ g (Ne.symm hlt))
      have m3 : (w6.setCell ⟨gs, 0, none⟩ (.int .i64 x.base)).cell? ⟨g, q * 4 + 3, none⟩ = some (.bool x.left) := by rw [← k3']; exact World.cell?_of_block (w := w6) (Below.heap_setCell w6 ⟨gs, 0, none⟩ _ g (Ne.symm hlt))
      clear k0' k1' k2' k3' c0 f0
      generalize w6.setCell ⟨gs, 0, none⟩ (.int .i64 x.base) = w7 at S7 HC7 m0 m3 ⊢
      have f0 := S7.out.rec_.frozen 0
      have c0 := S7.out.rec_.cell 0
      have S8 := Lib.hid (S7.out.high (-1) (by omega))
      have HC8 := Lib.hid (HC7.out.setCell (p := ⟨gs, 0, none⟩) (fun _ => st_in gs vo) (.int .i64 (-1)))
      have HP1 := Lib.hid (fun (hn : ¬ (x.sign = 91 ∧ x.left = false)) => show StPost gs B vo R W (.returned (.bool true)) w7 from st_ok true _ vo5 ys (by rw [HRN.out, if_neg hn]) S7.out HC7.out (.inl HOB.out))
      have HP2 := Lib.hid (fun (hn : x.sign = 91 ∧ x.left = false) => show StPost gs B vo R W (.returned (.bool true)) (w7.setCell ⟨gs, 0, none⟩ (.int .i64 (-1))) from st_ok true _ vo5 ys (by rw [HRN.out, if_pos hn]) S8.out HC8.out (.inl HOB.out))
      by_cases h91 : x.sign = 91
      · have q91 : (x.sign == 91) = true := by simpa using h91
        cases hlf : x.left
        · have HPP := Lib.hid (HP2.out ⟨h91, hlf⟩)
          rw [hlf] at m3
          clear h91 hlf
          go_wp2_with fail
          go_ret
          exact HPP.out
        · have HPP := Lib.hid (HP1.out (by rw [hlf]; simp))
          rw [hlf] at m3
          clear h91 hlf
          go_wp2_with fail
          go_ret
          exact HPP.out
      · have q91 : (x.sign == 91) = false := by simpa using h91
        have HPP := Lib.hid (HP1.out (fun hn => h91 hn.1))
        clear h91
        go_wp2_with fail
        go_ret
        exact HPP.out
end
end Go.Proofs.YtbkfhndmeljlcaaGreatDoor
namespace Go.Proofs.YtbkfhndmeljlcaaGreatDoor
open Go.RowKit
/-- No fault: the state behind. -/
def TkPost (gs B : Nat) (vo : Value) (R : Int × Int × List BkV) (W : World) (e : Ending) (w' : World) : Prop :=
  e = .returned (.int .i64 R.1) ∧ (R.1 = 0 → ∃ vo' : Value, St w' gs B R.2.1 vo' R.2.2) ∧ Chg (stT gs vo) W w'
section
variable {W W' W1 w' : World} {gs B : Nat} {h : Int} {vo : Value} {ys bs : List BkV} {x : BkV} {A : Option Addr} {n c : Nat} {l : List FnV} {pages most : Int}
theorem tk_no {R : Int × Int × List BkV} (er : Int) (hne : er ≠ 0) (hR : R.1 = er) (hC : Chg (stT gs vo) W W') : TkPost gs B vo R W (.returned (.int .i64 er)) W' := by
  subst hR
  exact ⟨rfl, fun h => absurd h hne, hC⟩
theorem tk_ok {R : Int × Int × List BkV} (h' : Int) (vo' : Value) (bs' : List BkV) (hR : R = (0, h', bs')) (hS : St W' gs B h' vo' bs') (hC : Chg (stT gs vo) W W') : TkPost gs B vo R W (.returned (.int .i64 0)) W' := by
  subst hR
  exact ⟨rfl, fun _ => ⟨vo', hS⟩, hC⟩
theorem rTok_end {s name : Int} (hs : isEnd s) : rTok l h (ys ++ [x]) s name = match rEnds h ys x s with | (true, h', bs') => (0, h', bs') | (false, h', bs') => (14, h', bs') := by
  unfold rTok
  rw [if_pos hs]
  simp only [List.getLast?_append, List.getLast?_singleton, Option.some_or, List.dropLast_concat] <;> rfl
theorem takes_end {s : Int} (hs : isEnd s) (name : Int) : rTakes l s name = (0, 0, true) := by
  rcases hs with rfl | rfl | rfl <;> rfl
theorem St.push {v' : Value} (s : St W gs B h vo bs) (hc : Chg [] W W1) (ho : w'.ownsRow B 137 4 v' (bs.length + 1) (bkCs bs ++ bkC x)) (hg : W1.grownBy w' vo.ownBlock)
    (hx : 0 ≤ x.base ∧ x.base ≤ 64 ∧ -1 ≤ x.other ∧ x.other ≤ 64) (hf : bs.length + 1 ≤ 1000) : St (w'.setCell ⟨gs, 1, none⟩ v') gs B h v' (bs ++ [x]) := by
  have h1 := s.keep hc
  have hr := whole_grown h1.rec_ h1.own (by decide) hg
  have haw : v'.ownBlock ≠ some gs := fun hcc => by have := (ho.lt gs hcc).1; have := s.lo; omega
  refine ⟨?_, ?_, s.lo, by simpa using hf, s.hr, fun b hb => ?_, by rw [size_set]; exact Nat.le_trans h1.room hg.size⟩
  · have := hr.set_ 1 v'
    simpa using this
  · rw [bkCs_app, bkCs_one, List.length_append, List.length_singleton]
    exact rown_far ho haw
  · rcases List.mem_append.1 hb with hb | hb
    · exact s.wf b hb
    · rw [List.mem_singleton] at hb; subst hb; exact hx
theorem Chg.of_push {A5 : Option Addr} {m k5 : Nat} {o : Obj} (hc : Chg (stT gs vo) W W1) (s : St W1 gs B h vo bs) (hv : vo = .slice A5 m k5) (hg : (W1.alloc o).drew.grownBy w' (Value.slice A5 m k5).ownBlock) : Chg (stT gs vo) W w' := by
  subst hv
  refine (hc.trans (((Chg.refl [] W1).alloc o).drew.sub (T' := stT gs (.slice A5 m k5)) (by simp))).trans (Chg.of_grown hg fun g hgg _ => ?_)
  simp [stT, hgg]
theorem info_block : (Tryz.prog.info? 137).map (fun i => (i.zero, i.size, i.bytes)) = some (some (.agg #[.int .i32 0, .int .i64 0, .int .i64 0, .bool false]), 4, 32) := by kernel_rfl
set_option maxHeartbeats 4000000 in
set_option maxRecDepth 100000 in
theorem token_ends (s : St W gs B h vo (ys ++ [x])) (hF : Fnr W A n c l) (t : TkV) (hr : isEnd t.sign) : Calls Tryz.prog 65 #[.pointer (some ⟨gs, 0, none⟩), unitV pages most A n c, .agg (tkC t).toArray] W (TkPost gs B vo (rTok l h (ys ++ [x]) t.sign t.name) W) := by
  unfold unitV
  obtain ⟨r, tn, nm⟩ := t
  simp only [tkC] at hr ⊢
  obtain ⟨R, hR⟩ : ∃ R, R = rTok l h (ys ++ [x]) r nm := ⟨_, rfl⟩
  rw [← hR]
  rw [rTok_end hr] at hR
  have HR := Lib.hid hR
  have HTE := Lib.hid (takes_end (l := l) hr nm)
  have S := Lib.hid s
  have HF := Lib.hid hF
  have hgs := s.rec_.lt
  clear s hF hR
  rcases hr with rfl | rfl | rfl
  · go_enter Tryz.func65, Tryz.ntmps65
    go_upto_region 1 with fail
    have hN := Whole.new W 24 [.int .i64 pages, .int .i64 most, .slice A n c]
    have hal : Chg [] W (W.alloc (.cells #[.int .i64 pages, .int .i64 most, .slice A n c] 24)) := (Chg.refl [] W).alloc _
    have hsz : (W.alloc (.cells #[.int .i64 pages, .int .i64 most, .slice A n c] 24)).heap.size = W.heap.size + 1 := Array.size_push _
    obtain ⟨w1, hw1⟩ : ∃ w1, w1 = W.alloc (.cells #[.int .i64 pages, .int .i64 most, .slice A n c] 24) := ⟨_, rfl⟩
    rw [← hw1] at hN hal hsz ⊢
    have hN2 := Whole.new w1 110 [.int .i32 58, .int .i64 tn, .int .i32 nm]
    have hal2 : Chg [] w1 (w1.alloc (.cells #[.int .i32 58, .int .i64 tn, .int .i32 nm] 110)) := (Chg.refl [] w1).alloc _
    rw [hsz] at hN2
    have hU2 := hN.keep hal2
    have hc := hal.trans hal2
    generalize w1.alloc (.cells #[.int .i32 58, .int .i64 tn, .int .i32 nm] 110) = w2 at hN2 hU2 hc ⊢
    have HF2 := Lib.hid (HF.out.keep hc)
    have S2 := Lib.hid (S.out.keep hc)
    skip
    generalize W.heap.size = g at hU2 hN2 ⊢
    have HC2 := Lib.hid (hc.sub (T' := stT gs vo) (by simp))
    have u0 := hU2.cell 0
    have u1 := hU2.cell 1
    have u2 := hU2.cell 2
    have t0 := hN2.cell 0
    have t1 := hN2.cell 1
    have t2 := hN2.cell 2
    have HT2 := Lib.hid hN2
    have c0 := S2.out.rec_.cell 0
    clear hN hal hsz hw1 hN2 hal2 hU2 hc
    by_cases hh : h < 0
    · have qh : decide (h < 0) = true := by simpa using hh
      clear hh
      go_wp2_with fail
      refine (takes_any HF2.out ⟨58, tn, nm⟩).mono ?_
      rintro e w3 ⟨he3, hc3⟩
      rw [HTE.out] at he3
      subst he3
      have S3 := Lib.hid (S2.out.keep hc3)
      have HC3 := Lib.hid (HC2.out.trans (hc3.sub (T' := stT gs vo) (by simp)))
      have t0' := (HT2.out.keep hc3).cell 0
      clear hc3 t0 t1 t2 u0 u1 u2 c0
      go_wp2_with fail
      refine (ends_half S3.out).mono ?_
      rintro e w4 ⟨vo4, rfl, hS4, hc4, _⟩
      have HSZ := Lib.hid HC3.out.size
      have HR1 := Lib.hid HR.out
      rcases hE : rEnds h ys x 58 with ⟨b4, h4, bs4⟩
      rw [hE] at hS4
      have HE := Lib.hid hE
      clear hE
      cases b4
      · have HP := Lib.hid (show TkPost gs B vo R W (.returned (.int .i64 14)) w4 from tk_no 14 (by decide) (by rw [HR.out, HE.out]) (HC3.out.trans hc4))
        clear hS4 hc4 t0'
        go_wp2_with fail
        go_ret
        exact HP.out
      · have HP := Lib.hid (show TkPost gs B vo R W (.returned (.int .i64 0)) w4 from tk_ok h4 vo4 bs4 (by rw [HR.out, HE.out]) hS4 (HC3.out.trans hc4))
        clear hS4 hc4 t0'
        go_wp2_with fail
        go_ret
        exact HP.out
    · have qh : decide (h < 0) = false := by simpa using hh
      clear hh
      go_wp2_with fail
      refine (takes_any HF2.out ⟨58, tn, nm⟩).mono ?_
      rintro e w3 ⟨he3, hc3⟩
      rw [HTE.out] at he3
      subst he3
      have S3 := Lib.hid (S2.out.keep hc3)
      have HC3 := Lib.hid (HC2.out.trans (hc3.sub (T' := stT gs vo) (by simp)))
      have t0' := (HT2.out.keep hc3).cell 0
      clear hc3 t0 t1 t2 u0 u1 u2 c0
      go_wp2_with fail
      refine (ends_half S3.out).mono ?_
      rintro e w4 ⟨vo4, rfl, hS4, hc4, _⟩
      have HSZ := Lib.hid HC3.out.size
      have HR1 := Lib.hid HR.out
      rcases hE : rEnds h ys x 58 with ⟨b4, h4, bs4⟩
      rw [hE] at hS4
      have HE := Lib.hid hE
      clear hE
      cases b4
      · have HP := Lib.hid (show TkPost gs B vo R W (.returned (.int .i64 14)) w4 from tk_no 14 (by decide) (by rw [HR.out, HE.out]) (HC3.out.trans hc4))
        clear hS4 hc4 t0'
        go_wp2_with fail
        go_ret
        exact HP.out
      · have HP := Lib.hid (show TkPost gs B vo R W (.returned (.int .i64 0)) w4 from tk_ok h4 vo4 bs4 (by rw [HR.out, HE.out]) hS4 (HC3.out.trans hc4))
        clear hS4 hc4 t0'
        go_wp2_with fail
        go_ret
        exact HP.out
  · go_enter Tryz.func65, Tryz.ntmps65
    go_upto_region 1 with fail
    have hN := Whole.new W 24 [.int .i64 pages, .int .i64 most, .slice A n c]
    have hal : Chg [] W (W.alloc (.cells #[.int .i64 pages, .int .i64 most, .slice A n c] 24)) := (Chg.refl [] W).alloc _
    have hsz : (W.alloc (.cells #[.int .i64 pages, .int .i64 most, .slice A n c] 24)).heap.size = W.heap.size + 1 := Array.size_push _
    obtain ⟨w1, hw1⟩ : ∃ w1, w1 = W.alloc (.cells #[.int .i64 pages, .int .i64 most, .slice A n c] 24) := ⟨_, rfl⟩
    rw [← hw1] at hN hal hsz ⊢
    have hN2 := Whole.new w1 110 [.int .i32 59, .int .i64 tn, .int .i32 nm]
    have hal2 : Chg [] w1 (w1.alloc (.cells #[.int .i32 59, .int .i64 tn, .int .i32 nm] 110)) := (Chg.refl [] w1).alloc _
    rw [hsz] at hN2
    have hU2 := hN.keep hal2
    have hc := hal.trans hal2
    generalize w1.alloc (.cells #[.int .i32 59, .int .i64 tn, .int .i32 nm] 110) = w2 at hN2 hU2 hc ⊢
    have HF2 := Lib.hid (HF.out.keep hc)
    have S2 := Lib.hid (S.out.keep hc)
    skip
    generalize W.heap.size = g at hU2 hN2 ⊢
    have HC2 := Lib.hid (hc.sub (T' := stT gs vo) (by simp))
    have u0 := hU2.cell 0
    have u1 := hU2.cell 1
    have u2 := hU2.cell 2
    have t0 := hN2.cell 0
    have t1 := hN2.cell 1
    have t2 := hN2.cell 2
    have HT2 := Lib.hid hN2
    have c0 := S2.out.rec_.cell 0
    clear hN hal hsz hw1 hN2 hal2 hU2 hc
    by_cases hh : h < 0
    · have qh : decide (h < 0) = true := by simpa using hh
      clear hh
      go_wp2_with fail
      refine (takes_any HF2.out ⟨59, tn, nm⟩).mono ?_
      rintro e w3 ⟨he3, hc3⟩
      rw [HTE.out] at he3
      subst he3
      have S3 := Lib.hid (S2.out.keep hc3)
      have HC3 := Lib.hid (HC2.out.trans (hc3.sub (T' := stT gs vo) (by simp)))
      have t0' := (HT2.out.keep hc3).cell 0
      clear hc3 t0 t1 t2 u0 u1 u2 c0
      go_wp2_with fail
      refine (ends_pop S3.out 59 (by decide)).mono ?_
      rintro e w4 ⟨vo4, rfl, hS4, hc4, _⟩
      have HSZ := Lib.hid HC3.out.size
      have HR1 := Lib.hid HR.out
      rcases hE : rEnds h ys x 59 with ⟨b4, h4, bs4⟩
      rw [hE] at hS4
      have HE := Lib.hid hE
      clear hE
      cases b4
      · have HP := Lib.hid (show TkPost gs B vo R W (.returned (.int .i64 14)) w4 from tk_no 14 (by decide) (by rw [HR.out, HE.out]) (HC3.out.trans hc4))
        clear hS4 hc4 t0'
        go_wp2_with fail
        go_ret
        exact HP.out
      · have HP := Lib.hid (show TkPost gs B vo R W (.returned (.int .i64 0)) w4 from tk_ok h4 vo4 bs4 (by rw [HR.out, HE.out]) hS4 (HC3.out.trans hc4))
        clear hS4 hc4 t0'
        go_wp2_with fail
        go_ret
        exact HP.out
    · have qh : decide (h < 0) = false := by simpa using hh
      clear hh
      go_wp2_with fail
      refine (takes_any HF2.out ⟨59, tn, nm⟩).mono ?_
      rintro e w3 ⟨he3, hc3⟩
      rw [HTE.out] at he3
      subst he3
      have S3 := Lib.hid (S2.out.keep hc3)
      have HC3 := Lib.hid (HC2.out.trans (hc3.sub (T' := stT gs vo) (by simp)))
      have t0' := (HT2.out.keep hc3).cell 0
      clear hc3 t0 t1 t2 u0 u1 u2 c0
      go_wp2_with fail
      refine (ends_pop S3.out 59 (by decide)).mono ?_
      rintro e w4 ⟨vo4, rfl, hS4, hc4, _⟩
      have HSZ := Lib.hid HC3.out.size
      have HR1 := Lib.hid HR.out
      rcases hE : rEnds h ys x 59 with ⟨b4, h4, bs4⟩
      rw [hE] at hS4
      have HE := Lib.hid hE
      clear hE
      cases b4
      · have HP := Lib.hid (show TkPost gs B vo R W (.returned (.int .i64 14)) w4 from tk_no 14 (by decide) (by rw [HR.out, HE.out]) (HC3.out.trans hc4))
        clear hS4 hc4 t0'
        go_wp2_with fail
        go_ret
        exact HP.out
      · have HP := Lib.hid (show TkPost gs B vo R W (.returned (.int .i64 0)) w4 from tk_ok h4 vo4 bs4 (by rw [HR.out, HE.out]) hS4 (HC3.out.trans hc4))
        clear hS4 hc4 t0'
        go_wp2_with fail
        go_ret
        exact HP.out
  · go_enter Tryz.func65, Tryz.ntmps65
    go_upto_region 1 with fail
    have hN := Whole.new W 24 [.int .i64 pages, .int .i64 most, .slice A n c]
    have hal : Chg [] W (W.alloc (.cells #[.int .i64 pages, .int .i64 most, .slice A n c] 24)) := (Chg.refl [] W).alloc _
    have hsz : (W.alloc (.cells #[.int .i64 pages, .int .i64 most, .slice A n c] 24)).heap.size = W.heap.size + 1 := Array.size_push _
    obtain ⟨w1, hw1⟩ : ∃ w1, w1 = W.alloc (.cells #[.int .i64 pages, .int .i64 most, .slice A n c] 24) := ⟨_, rfl⟩
    rw [← hw1] at hN hal hsz ⊢
    have hN2 := Whole.new w1 110 [.int .i32 93, .int .i64 tn, .int .i32 nm]
    have hal2 : Chg [] w1 (w1.alloc (.cells #[.int .i32 93, .int .i64 tn, .int .i32 nm] 110)) := (Chg.refl [] w1).alloc _
    rw [hsz] at hN2
    have hU2 := hN.keep hal2
    have hc := hal.trans hal2
    generalize w1.alloc (.cells #[.int .i32 93, .int .i64 tn, .int .i32 nm] 110) = w2 at hN2 hU2 hc ⊢
    have HF2 := Lib.hid (HF.out.keep hc)
    have S2 := Lib.hid (S.out.keep hc)
    skip
    generalize W.heap.size = g at hU2 hN2 ⊢
    have HC2 := Lib.hid (hc.sub (T' := stT gs vo) (by simp))
    have u0 := hU2.cell 0
    have u1 := hU2.cell 1
    have u2 := hU2.cell 2
    have t0 := hN2.cell 0
    have t1 := hN2.cell 1
    have t2 := hN2.cell 2
    have HT2 := Lib.hid hN2
    have c0 := S2.out.rec_.cell 0
    clear hN hal hsz hw1 hN2 hal2 hU2 hc
    by_cases hh : h < 0
    · have qh : decide (h < 0) = true := by simpa using hh
      clear hh
      go_wp2_with fail
      refine (takes_any HF2.out ⟨93, tn, nm⟩).mono ?_
      rintro e w3 ⟨he3, hc3⟩
      rw [HTE.out] at he3
      subst he3
      have S3 := Lib.hid (S2.out.keep hc3)
      have HC3 := Lib.hid (HC2.out.trans (hc3.sub (T' := stT gs vo) (by simp)))
      have t0' := (HT2.out.keep hc3).cell 0
      clear hc3 t0 t1 t2 u0 u1 u2 c0
      go_wp2_with fail
      refine (ends_pop S3.out 93 (by decide)).mono ?_
      rintro e w4 ⟨vo4, rfl, hS4, hc4, _⟩
      have HSZ := Lib.hid HC3.out.size
      have HR1 := Lib.hid HR.out
      rcases hE : rEnds h ys x 93 with ⟨b4, h4, bs4⟩
      rw [hE] at hS4
      have HE := Lib.hid hE
      clear hE
      cases b4
      · have HP := Lib.hid (show TkPost gs B vo R W (.returned (.int .i64 14)) w4 from tk_no 14 (by decide) (by rw [HR.out, HE.out]) (HC3.out.trans hc4))
        clear hS4 hc4 t0'
        go_wp2_with fail
        go_ret
        exact HP.out
      · have HP := Lib.hid (show TkPost gs B vo R W (.returned (.int .i64 0)) w4 from tk_ok h4 vo4 bs4 (by rw [HR.out, HE.out]) hS4 (HC3.out.trans hc4))
        clear hS4 hc4 t0'
        go_wp2_with fail
        go_ret
        exact HP.out
    · have qh : decide (h < 0) = false := by simpa using hh
      clear hh
      go_wp2_with fail
      refine (takes_any HF2.out ⟨93, tn, nm⟩).mono ?_
      rintro e w3 ⟨he3, hc3⟩
      rw [HTE.out] at he3
      subst he3
      have S3 := Lib.hid (S2.out.keep hc3)
      have HC3 := Lib.hid (HC2.out.trans (hc3.sub (T' := stT gs vo) (by simp)))
      have t0' := (HT2.out.keep hc3).cell 0
      clear hc3 t0 t1 t2 u0 u1 u2 c0
      go_wp2_with fail
      refine (ends_pop S3.out 93 (by decide)).mono ?_
      rintro e w4 ⟨vo4, rfl, hS4, hc4, _⟩
      have HSZ := Lib.hid HC3.out.size
      have HR1 := Lib.hid HR.out
      rcases hE : rEnds h ys x 93 with ⟨b4, h4, bs4⟩
      rw [hE] at hS4
      have HE := Lib.hid hE
      clear hE
      cases b4
      · have HP := Lib.hid (show TkPost gs B vo R W (.returned (.int .i64 14)) w4 from tk_no 14 (by decide) (by rw [HR.out, HE.out]) (HC3.out.trans hc4))
        clear hS4 hc4 t0'
        go_wp2_with fail
        go_ret
        exact HP.out
      · have HP := Lib.hid (show TkPost gs B vo R W (.returned (.int .i64 0)) w4 from tk_ok h4 vo4 bs4 (by rw [HR.out, HE.out]) hS4 (HC3.out.trans hc4))
        clear hS4 hc4 t0'
        go_wp2_with fail
        go_ret
        exact HP.out
end
end Go.Proofs.YtbkfhndmeljlcaaGreatDoor
