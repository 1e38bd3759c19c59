/-
  check's walk: leave, turn.
-/
import Derived.Test.YtafgpmempgoikaaZNestWithin1
import Derived.Test.YtafgpmempgoikaaZNestWithin2
import Derived.Test.YtafgpmempgoikaaZNestWithin3
import Derived.Test.YtafgpmempgoikaaZNestWithin4
import Derived.Test.YtafgpmempgoikaaZNestWithin5
import Derived.Test.YtafgpmempgoikaaZNestWithin6
import Derived.Test.YtafgpmempgoikaaFrZ
import Derived.Test.YtafgpmempgoikaaCTakesZ
import Derived.Test.YtafgpmempgoikaaWkMemZ
import Derived.Test.YtafgpmempgoikaaWkHalveZ
import Derived.Test.YtafgpmempgoikaaWkEndZ
namespace Go.Proofs.Ytafgpmempgoikaa
open Go.RowKit
def lLeave (h : Int) (bs : List BkV) (k : Nat) : Int × Int × List BkV := match rLeave h bs k with | (true, h', bs') => (0, h', bs') | (false, h', bs') => (14, h', bs')
theorem lLeave_on {h : Int} {bs : List BkV} {k : Nat} {y : BkV} (hk : bs[k]? = some y) (hy : y.sign ≠ 91) : lLeave h bs (k + 1) = lLeave h bs k := by
  unfold lLeave
  rw [rLeave, hk]
  simp only
  rw [if_neg hy]
theorem lLeave_at {h : Int} {bs : List BkV} {k : Nat} {y : BkV} (hk : bs[k]? = some y) (hy : y.sign = 91) : lLeave h bs (k + 1) = if h = y.base then (0, -1, bs.set k ⟨y.sign, y.base, y.other, true⟩) else (14, -1, bs.set k ⟨y.sign, y.base, y.other, true⟩) := by
  unfold lLeave
  rw [rLeave, hk]
  simp only
  rw [if_pos hy]
  by_cases e : h = y.base
  · rw [if_pos e, show (h == y.base) = true from by simpa using e]
  · rw [if_neg e, show (h == y.base) = false from by simpa using e]
section
variable {W : World} {g : Nat} {h : Int} {v : Value} {bs ys : List BkV} {x : BkV}
theorem Wk.part (s : Wk W g h v bs) {k : Nat} {y : BkV} (hk : bs[k]? = some y) : ∃ gr c, v = .slice (some ⟨gr, 0, none⟩) bs.length c ∧ bs.length ≤ c ∧ g + 1 ≤ gr ∧ W.cell? ⟨gr, k * 5, none⟩ = some (.bool (y.sign == 91)) ∧ W.cell? ⟨gr, k * 5 + 1, none⟩ = some (.int .i64 y.base) ∧ W.cell? ⟨gr, k * 5 + 4, none⟩ = some (.bool y.left) ∧ W.frozen? ⟨gr, k * 5 + 4, none⟩ = false := by
  obtain ⟨A, n, c, rfl, hn, hc⟩ := s.slice
  subst hn
  obtain ⟨gr, rfl, c0⟩ := rown_cell s.own rfl ((ptCs_get _ _ _ 0 hk (by omega)).trans rfl)
  obtain ⟨_, e, c1⟩ := rown_cell s.own rfl ((ptCs_get _ _ _ 1 hk (by omega)).trans rfl)
  injection e with e; injection e with e; subst e
  obtain ⟨_, e, c4⟩ := rown_cell s.own rfl ((ptCs_get _ _ _ 4 hk (by omega)).trans rfl)
  injection e with e; injection e with e; subst e
  exact ⟨gr, c, rfl, hc, (s.own.lt gr rfl).1, c0, c1, c4, rown_frozen s.own⟩
set_option maxHeartbeats 8000000 in
set_option maxRecDepth 100000 in
theorem wleave_any (s : Wk W g h v bs) (hx : ∃ x ∈ bs, x.sign = 91) : Calls Try.prog 70 #[.pointer (some ⟨g, 0, none⟩)] W (WPost W g (lLeave h bs bs.length)) := by
  have h0 : 0 < bs.length := by obtain ⟨x, hx, _⟩ := hx; exact List.length_pos_of_mem hx
  have HR := Lib.hid (show ∃ q : Nat, bs.length = q + 1 from ⟨bs.length - 1, by omega⟩)
  generalize hRR : lLeave h bs bs.length = R
  obtain ⟨q, hq⟩ := HR.out
  have HQ := Lib.hid hq
  have HRR := Lib.hid hRR
  have hfew := s.few
  have hq99 : q ≤ 99 := by omega
  obtain ⟨y0, hy0⟩ : ∃ y, bs[q]? = some y := ⟨bs[q]'(by omega), by simp⟩
  obtain ⟨gr, c, rfl, hc, hgr, _⟩ := s.part hy0
  have HS := Lib.hid s
  have c0 := s.rec_.cell 0
  have c1 := s.rec_.cell 1
  have g0 := s.rec_.frozen 0
  have HX := Lib.hid (show ∃ j ≤ q, ∃ x, bs[j]? = some x ∧ x.sign = 91 from by
    obtain ⟨x, hx, hs⟩ := hx
    obtain ⟨j, hj, rfl⟩ := List.getElem_of_mem hx
    exact ⟨j, by omega, _, List.getElem?_eq_getElem hj, hs⟩)
  rw [hq] at c1 hc HS
  clear s hx h0 HR hq hRR hfew hy0
  have hq0 : (0 : Int) ≤ (q : Int) := by omega
  go_enter Try.func70, Try.ntmps70
  go_wp2_with fail
  go_loopw [3] (fun i wr => ∃ k : Nat, i = .int .i64 (k : Int) ∧ k ≤ q ∧ Hid (R = lLeave h bs (k + 1)) ∧ Hid (∃ j ≤ k, ∃ x, bs[j]? = some x ∧ x.sign = 91) ∧ wr = W) (fun i _ => (intOf i).toNat)
  case atStart => exact ⟨q, rfl, by omega, Lib.hid (by rw [← HRR.out, HQ.out]), HX, rfl⟩
  case round =>
    obtain ⟨k, rfl, hk, HRk, HXk, hwr⟩ := hrel
    subst hwr
    obtain ⟨y, hy⟩ : ∃ y, bs[k]? = some y := ⟨bs[k]'(by have := HQ.out; omega), by simp⟩
    obtain ⟨gr', c', e, _, _, y0', y1, y4, fy4⟩ := HS.out.part hy
    injection e with e1 e2 e3
    injection e1 with e1
    injection e1 with e1
    subst e1
    have hkI : (k : Int) < (q : Int) + 1 := by omega
    have hkI2 : (k : Int) < ((q + 1 : Nat) : Int) := by omega
    have hk0 : (0 : Int) ≤ (k : Int) := by omega
    by_cases h91 : y.sign = 91
    · have q91 : (y.sign == 91) = true := by simpa using h91
      rw [q91] at y0'
      have HRE := Lib.hid (HRk.out.trans (lLeave_at hy h91))
      have HY := Lib.hid hy
      clear h91 q91 hy e2 e3
      by_cases hb : h = y.base
      · have qb : (h != y.base) = false := by simpa using hb
        have qb2 : (h == y.base) = true := by simpa using hb
        have HE := Lib.hid (HRE.out.trans (if_pos hb))
        clear hb
        go_upto_region 4 with fail
        go_quiet (fail)
        have hcd := (Chg.refl [] wr).drewN nq
        have HS2 := Lib.hid (HS.out.keep hcd)
        have z4 := cell_keep y4 hcd
        have HC2 := Lib.hid hcd
        have HM := Lib.hid (HS2.out.mark (k := k) (y := y) HQ.out.symm HY.out)
        have fz4 : (wr.drewN nq).frozen? ⟨gr, k * 5 + 4, none⟩ = false := fy4
        generalize wr.drewN nq = w2 at HS2 z4 HC2 HM fz4 ⊢
        clear hcd c0 c1 g0 y0' y1 y4 fy4
        have c1 := HS2.out.rec_.cell 1
        go_upto_region 7 with fail
        generalize w2.setCell ⟨gr, k * 5 + 4, none⟩ (.bool true) = w3 at HM ⊢
        clear c1
        have c0 := HM.out.1.rec_.cell 0
        have g0 := HM.out.1.rec_.frozen 0
        obtain ⟨hP, hF⟩ := HM.out.1.high (-1) (by omega)
        have HP := Lib.hid (show WPost wr g R (.returned (.int .i64 0)) _ from ⟨((Fr.of_chg HC2.out).trans HM.out.2).trans hF, by rw [HE.out], fun _ => by rw [HE.out]; exact ⟨_, hP⟩⟩)
        clear hP hF
        go_wp2_with fail
        go_ret
        exact HP.out
      · have qb : (h != y.base) = true := by simpa using hb
        have qb2 : (h == y.base) = false := by simpa using hb
        have HE := Lib.hid (HRE.out.trans (if_neg hb))
        clear hb
        go_upto_region 4 with fail
        go_quiet (fail)
        have HP := Lib.hid (show WPost wr g R (.returned (.int .i64 14)) (wr.drewN nq) from ⟨Fr.of_chg ((Chg.refl [] wr).drewN nq), by rw [HE.out], fun hh => by rw [HE.out] at hh; exact absurd hh (by simp)⟩)
        go_wp2_with fail
        go_ret
        exact HP.out
    · have q91 : (y.sign == 91) = false := by simpa using h91
      rw [q91] at y0'
      obtain ⟨j, hj, x, hxj, hxs⟩ := HXk.out
      have hjk : j < k := by
        rcases Nat.lt_or_ge j k with h' | h'
        · exact h'
        · exfalso
          have : j = k := by omega
          subst this
          rw [hy] at hxj
          injection hxj with e
          subst e
          exact h91 hxs
      have HR2 := Lib.hid (show R = lLeave h bs (k - 1 + 1) from by rw [HRk.out, lLeave_on hy h91, show k - 1 + 1 = k from by omega])
      have HX2 := Lib.hid (show ∃ j ≤ k - 1, ∃ x, bs[j]? = some x ∧ x.sign = 91 from ⟨j, by omega, x, hxj, hxs⟩)
      have hk1 : (1 : Int) ≤ (k : Int) := by omega
      clear h91 q91 hy e2 e3 hxj
      go_wp2_with fail
      go_roundw
      case rel => exact ⟨k - 1, by rw [show ((k - 1 : Nat) : Int) = (k : Int) - 1 from by omega], by omega, HR2, HX2, by first | rfl | trivial⟩
      case measure => simp [intOf]; omega
end
end Go.Proofs.Ytafgpmempgoikaa
