/-
  PN: StTok.
-/
import Derived.Test.YtbkfhndmeljlcaaGreatDoorZPN26
import Derived.Deep.RegionLaw
namespace Go.Proofs.YtbkfhndmeljlcaaGreatDoor
open Go.RowKit
/-- No fault: the state behind. -/
def TkPost (gs B : Nat) (vo : Value) (R : Int × Int × List BkV) (W : World) (e : Ending) (w' : World) : Prop :=
  e = .returned (.int .i64 R.1) ∧ (R.1 = 0 → ∃ vo' : Value, St w' gs B R.2.1 vo' R.2.2) ∧ Chg (stT gs vo) W w'
section
variable {W W' W1 w' : World} {gs B : Nat} {h : Int} {vo : Value} {ys bs : List BkV} {x : BkV} {A : Option Addr} {n c : Nat} {l : List FnV} {pages most : Int}
theorem tk_no {R : Int × Int × List BkV} (er : Int) (hne : er ≠ 0) (hR : R.1 = er) (hC : Chg (stT gs vo) W W') : TkPost gs B vo R W (.returned (.int .i64 er)) W' := by
  subst hR
  exact ⟨rfl, fun h => absurd h hne, hC⟩
theorem tk_ok {R : Int × Int × List BkV} (h' : Int) (vo' : Value) (bs' : List BkV) (hR : R = (0, h', bs')) (hS : St W' gs B h' vo' bs') (hC : Chg (stT gs vo) W W') : TkPost gs B vo R W (.returned (.int .i64 0)) W' := by
  subst hR
  exact ⟨rfl, fun _ => ⟨vo', hS⟩, hC⟩
theorem rTok_end {s name : Int} (hs : isEnd s) : rTok l h (ys ++ [x]) s name = match rEnds h ys x s with | (true, h', bs') => (0, h', bs') | (false, h', bs') => (14, h', bs') := by
  unfold rTok
  rw [if_pos hs]
  simp only [List.getLast?_append, List.getLast?_singleton, Option.some_or, List.dropLast_concat] <;> rfl
theorem takes_end {s : Int} (hs : isEnd s) (name : Int) : rTakes l s name = (0, 0, true) := by
  rcases hs with rfl | rfl | rfl <;> rfl
theorem St.push {v' : Value} (s : St W gs B h vo bs) (hc : Chg [] W W1) (ho : w'.ownsRow B 137 4 v' (bs.length + 1) (bkCs bs ++ bkC x)) (hg : W1.grownBy w' vo.ownBlock)
    (hx : 0 ≤ x.base ∧ x.base ≤ 64 ∧ -1 ≤ x.other ∧ x.other ≤ 64) (hf : bs.length + 1 ≤ 1000) : St (w'.setCell ⟨gs, 1, none⟩ v') gs B h v' (bs ++ [x]) := by
  have h1 := s.keep hc
  have hr := whole_grown h1.rec_ h1.own (by decide) hg
  have haw : v'.ownBlock ≠ some gs := fun hcc => by have := (ho.lt gs hcc).1; have := s.lo; omega
  refine ⟨?_, ?_, s.lo, by simpa using hf, s.hr, fun b hb => ?_, by rw [size_set]; exact Nat.le_trans h1.room hg.size⟩
  · have := hr.set_ 1 v'
    simpa using this
  · rw [bkCs_app, bkCs_one, List.length_append, List.length_singleton]
    exact rown_far ho haw
  · rcases List.mem_append.1 hb with hb | hb
    · exact s.wf b hb
    · rw [List.mem_singleton] at hb; subst hb; exact hx
theorem Chg.of_push {A5 : Option Addr} {m k5 : Nat} {o : Obj} (hc : Chg (stT gs vo) W W1) (s : St W1 gs B h vo bs) (hv : vo = .slice A5 m k5) (hg : (W1.alloc o).drew.grownBy w' (Value.slice A5 m k5).ownBlock) : Chg (stT gs vo) W w' := by
  subst hv
  refine (hc.trans (((Chg.refl [] W1).alloc o).drew.sub (T' := stT gs (.slice A5 m k5)) (by simp))).trans (Chg.of_grown hg fun g hgg _ => ?_)
  simp [stT, hgg]
theorem info_block : (Tryz.prog.info? 137).map (fun i => (i.zero, i.size, i.bytes)) = some (some (.agg #[.int .i32 0, .int .i64 0, .int .i64 0, .bool false]), 4, 32) := by kernel_rfl
set_option maxHeartbeats 4000000 in
set_option maxRecDepth 100000 in
theorem token_ends (s : St W gs B h vo (ys ++ [x])) (hF : Fnr W A n c l) (t : TkV) (hr : isEnd t.sign) : Calls Tryz.prog 65 #[.pointer (some ⟨gs, 0, none⟩), unitV pages most A n c, .agg (tkC t).toArray] W (TkPost gs B vo (rTok l h (ys ++ [x]) t.sign t.name) W) := by
  unfold unitV
  obtain ⟨r, tn, nm⟩ := t
  simp only [tkC] at hr ⊢
  obtain ⟨R, hR⟩ : ∃ R, R = rTok l h (ys ++ [x]) r nm := ⟨_, rfl⟩
  rw [← hR]
  rw [rTok_end hr] at hR
  have HR := Lib.hid hR
  have HTE := Lib.hid (takes_end (l := l) hr nm)
  have S := Lib.hid s
  have HF := Lib.hid hF
  have hgs := s.rec_.lt
  clear s hF hR
  rcases hr with rfl | rfl | rfl
  · go_enter Tryz.func65, Tryz.ntmps65
    go_upto_region 1 with fail
    have hN := Whole.new W 24 [.int .i64 pages, .int .i64 most, .slice A n c]
    have hal : Chg [] W (W.alloc (.cells #[.int .i64 pages, .int .i64 most, .slice A n c] 24)) := (Chg.refl [] W).alloc _
    have hsz : (W.alloc (.cells #[.int .i64 pages, .int .i64 most, .slice A n c] 24)).heap.size = W.heap.size + 1 := Array.size_push _
    obtain ⟨w1, hw1⟩ : ∃ w1, w1 = W.alloc (.cells #[.int .i64 pages, .int .i64 most, .slice A n c] 24) := ⟨_, rfl⟩
    rw [← hw1] at hN hal hsz ⊢
    have hN2 := Whole.new w1 110 [.int .i32 58, .int .i64 tn, .int .i32 nm]
    have hal2 : Chg [] w1 (w1.alloc (.cells #[.int .i32 58, .int .i64 tn, .int .i32 nm] 110)) := (Chg.refl [] w1).alloc _
    rw [hsz] at hN2
    have hU2 := hN.keep hal2
    have hc := hal.trans hal2
    generalize w1.alloc (.cells #[.int .i32 58, .int .i64 tn, .int .i32 nm] 110) = w2 at hN2 hU2 hc ⊢
    have HF2 := Lib.hid (HF.out.keep hc)
    have S2 := Lib.hid (S.out.keep hc)
    skip
    generalize W.heap.size = g at hU2 hN2 ⊢
    have HC2 := Lib.hid (hc.sub (T' := stT gs vo) (by simp))
    have u0 := hU2.cell 0
    have u1 := hU2.cell 1
    have u2 := hU2.cell 2
    have t0 := hN2.cell 0
    have t1 := hN2.cell 1
    have t2 := hN2.cell 2
    have HT2 := Lib.hid hN2
    have c0 := S2.out.rec_.cell 0
    clear hN hal hsz hw1 hN2 hal2 hU2 hc
    by_cases hh : h < 0
    · have qh : decide (h < 0) = true := by simpa using hh
      clear hh
      go_wp2_with fail
      refine (takes_any HF2.out ⟨58, tn, nm⟩).mono ?_
      rintro e w3 ⟨he3, hc3⟩
      rw [HTE.out] at he3
      subst he3
      have S3 := Lib.hid (S2.out.keep hc3)
      have HC3 := Lib.hid (HC2.out.trans (hc3.sub (T' := stT gs vo) (by simp)))
      have t0' := (HT2.out.keep hc3).cell 0
      clear hc3 t0 t1 t2 u0 u1 u2 c0
      go_wp2_with fail
      refine (ends_half S3.out).mono ?_
      rintro e w4 ⟨vo4, rfl, hS4, hc4, _⟩
      have HSZ := Lib.hid HC3.out.size
      have HR1 := Lib.hid HR.out
      rcases hE : rEnds h ys x 58 with ⟨b4, h4, bs4⟩
      rw [hE] at hS4
      have HE := Lib.hid hE
      clear hE
      cases b4
      · have HP := Lib.hid (show TkPost gs B vo R W (.returned (.int .i64 14)) w4 from tk_no 14 (by decide) (by rw [HR.out, HE.out]) (HC3.out.trans hc4))
        clear hS4 hc4 t0'
        go_wp2_with fail
        go_ret
        exact HP.out
      · have HP := Lib.hid (show TkPost gs B vo R W (.returned (.int .i64 0)) w4 from tk_ok h4 vo4 bs4 (by rw [HR.out, HE.out]) hS4 (HC3.out.trans hc4))
        clear hS4 hc4 t0'
        go_wp2_with fail
        go_ret
        exact HP.out
    · have qh : decide (h < 0) = false := by simpa using hh
      clear hh
      go_wp2_with fail
      refine (takes_any HF2.out ⟨58, tn, nm⟩).mono ?_
      rintro e w3 ⟨he3, hc3⟩
      rw [HTE.out] at he3
      subst he3
      have S3 := Lib.hid (S2.out.keep hc3)
      have HC3 := Lib.hid (HC2.out.trans (hc3.sub (T' := stT gs vo) (by simp)))
      have t0' := (HT2.out.keep hc3).cell 0
      clear hc3 t0 t1 t2 u0 u1 u2 c0
      go_wp2_with fail
      refine (ends_half S3.out).mono ?_
      rintro e w4 ⟨vo4, rfl, hS4, hc4, _⟩
      have HSZ := Lib.hid HC3.out.size
      have HR1 := Lib.hid HR.out
      rcases hE : rEnds h ys x 58 with ⟨b4, h4, bs4⟩
      rw [hE] at hS4
      have HE := Lib.hid hE
      clear hE
      cases b4
      · have HP := Lib.hid (show TkPost gs B vo R W (.returned (.int .i64 14)) w4 from tk_no 14 (by decide) (by rw [HR.out, HE.out]) (HC3.out.trans hc4))
        clear hS4 hc4 t0'
        go_wp2_with fail
        go_ret
        exact HP.out
      · have HP := Lib.hid (show TkPost gs B vo R W (.returned (.int .i64 0)) w4 from tk_ok h4 vo4 bs4 (by rw [HR.out, HE.out]) hS4 (HC3.out.trans hc4))
        clear hS4 hc4 t0'
        go_wp2_with fail
        go_ret
        exact HP.out
  · go_enter Tryz.func65, Tryz.ntmps65
    go_upto_region 1 with fail
    have hN := Whole.new W 24 [.int .i64 pages, .int .i64 most, .slice A n c]
    have hal : Chg [] W (W.alloc (.cells #[.int .i64 pages, .int .i64 most, .slice A n c] 24)) := (Chg.refl [] W).alloc _
    have hsz : (W.alloc (.cells #[.int .i64 pages, .int .i64 most, .slice A n c] 24)).heap.size = W.heap.size + 1 := Array.size_push _
    obtain ⟨w1, hw1⟩ : ∃ w1, w1 = W.alloc (.cells #[.int .i64 pages, .int .i64 most, .slice A n c] 24) := ⟨_, rfl⟩
    rw [← hw1] at hN hal hsz ⊢
    have hN2 := Whole.new w1 110 [.int .i32 59, .int .i64 tn, .int .i32 nm]
    have hal2 : Chg [] w1 (w1.alloc (.cells #[.int .i32 59, .int .i64 tn, .int .i32 nm] 110)) := (Chg.refl [] w1).alloc _
    rw [hsz] at hN2
    have hU2 := hN.keep hal2
    have hc := hal.trans hal2
    generalize w1.alloc (.cells #[.int .i32 59, .int .i64 tn, .int .i32 nm] 110) = w2 at hN2 hU2 hc ⊢
    have HF2 := Lib.hid (HF.out.keep hc)
    have S2 := Lib.hid (S.out.keep hc)
    skip
    generalize W.heap.size = g at hU2 hN2 ⊢
    have HC2 := Lib.hid (hc.sub (T' := stT gs vo) (by simp))
    have u0 := hU2.cell 0
    have u1 := hU2.cell 1
    have u2 := hU2.cell 2
    have t0 := hN2.cell 0
    have t1 := hN2.cell 1
    have t2 := hN2.cell 2
    have HT2 := Lib.hid hN2
    have c0 := S2.out.rec_.cell 0
    clear hN hal hsz hw1 hN2 hal2 hU2 hc
    by_cases hh : h < 0
    · have qh : decide (h < 0) = true := by simpa using hh
      clear hh
      go_wp2_with fail
      refine (takes_any HF2.out ⟨59, tn, nm⟩).mono ?_
      rintro e w3 ⟨he3, hc3⟩
      rw [HTE.out] at he3
      subst he3
      have S3 := Lib.hid (S2.out.keep hc3)
      have HC3 := Lib.hid (HC2.out.trans (hc3.sub (T' := stT gs vo) (by simp)))
      have t0' := (HT2.out.keep hc3).cell 0
      clear hc3 t0 t1 t2 u0 u1 u2 c0
      go_wp2_with fail
      refine (ends_pop S3.out 59 (by decide)).mono ?_
      rintro e w4 ⟨vo4, rfl, hS4, hc4, _⟩
      have HSZ := Lib.hid HC3.out.size
      have HR1 := Lib.hid HR.out
      rcases hE : rEnds h ys x 59 with ⟨b4, h4, bs4⟩
      rw [hE] at hS4
      have HE := Lib.hid hE
      clear hE
      cases b4
      · have HP := Lib.hid (show TkPost gs B vo R W (.returned (.int .i64 14)) w4 from tk_no 14 (by decide) (by rw [HR.out, HE.out]) (HC3.out.trans hc4))
        clear hS4 hc4 t0'
        go_wp2_with fail
        go_ret
        exact HP.out
      · have HP := Lib.hid (show TkPost gs B vo R W (.returned (.int .i64 0)) w4 from tk_ok h4 vo4 bs4 (by rw [HR.out, HE.out]) hS4 (HC3.out.trans hc4))
        clear hS4 hc4 t0'
        go_wp2_with fail
        go_ret
        exact HP.out
    · have qh : decide (h < 0) = false := by simpa using hh
      clear hh
      go_wp2_with fail
      refine (takes_any HF2.out ⟨59, tn, nm⟩).mono ?_
      rintro e w3 ⟨he3, hc3⟩
      rw [HTE.out] at he3
      subst he3
      have S3 := Lib.hid (S2.out.keep hc3)
      have HC3 := Lib.hid (HC2.out.trans (hc3.sub (T' := stT gs vo) (by simp)))
      have t0' := (HT2.out.keep hc3).cell 0
      clear hc3 t0 t1 t2 u0 u1 u2 c0
      go_wp2_with fail
      refine (ends_pop S3.out 59 (by decide)).mono ?_
      rintro e w4 ⟨vo4, rfl, hS4, hc4, _⟩
      have HSZ := Lib.hid HC3.out.size
      have HR1 := Lib.hid HR.out
      rcases hE : rEnds h ys x 59 with ⟨b4, h4, bs4⟩
      rw [hE] at hS4
      have HE := Lib.hid hE
      clear hE
      cases b4
      · have HP := Lib.hid (show TkPost gs B vo R W (.returned (.int .i64 14)) w4 from tk_no 14 (by decide) (by rw [HR.out, HE.out]) (HC3.out.trans hc4))
        clear hS4 hc4 t0'
        go_wp2_with fail
        go_ret
        exact HP.out
      · have HP := Lib.hid (show TkPost gs B vo R W (.returned (.int .i64 0)) w4 from tk_ok h4 vo4 bs4 (by rw [HR.out, HE.out]) hS4 (HC3.out.trans hc4))
        clear hS4 hc4 t0'
        go_wp2_with fail
        go_ret
        exact HP.out
  · go_enter Tryz.func65, Tryz.ntmps65
    go_upto_region 1 with fail
    have hN := Whole.new W 24 [.int .i64 pages, .int .i64 most, .slice A n c]
    have hal : Chg [] W (W.alloc (.cells #[.int .i64 pages, .int .i64 most, .slice A n c] 24)) := (Chg.refl [] W).alloc _
    have hsz : (W.alloc (.cells #[.int .i64 pages, .int .i64 most, .slice A n c] 24)).heap.size = W.heap.size + 1 := Array.size_push _
    obtain ⟨w1, hw1⟩ : ∃ w1, w1 = W.alloc (.cells #[.int .i64 pages, .int .i64 most, .slice A n c] 24) := ⟨_, rfl⟩
    rw [← hw1] at hN hal hsz ⊢
    have hN2 := Whole.new w1 110 [.int .i32 93, .int .i64 tn, .int .i32 nm]
    have hal2 : Chg [] w1 (w1.alloc (.cells #[.int .i32 93, .int .i64 tn, .int .i32 nm] 110)) := (Chg.refl [] w1).alloc _
    rw [hsz] at hN2
    have hU2 := hN.keep hal2
    have hc := hal.trans hal2
    generalize w1.alloc (.cells #[.int .i32 93, .int .i64 tn, .int .i32 nm] 110) = w2 at hN2 hU2 hc ⊢
    have HF2 := Lib.hid (HF.out.keep hc)
    have S2 := Lib.hid (S.out.keep hc)
    skip
    generalize W.heap.size = g at hU2 hN2 ⊢
    have HC2 := Lib.hid (hc.sub (T' := stT gs vo) (by simp))
    have u0 := hU2.cell 0
    have u1 := hU2.cell 1
    have u2 := hU2.cell 2
    have t0 := hN2.cell 0
    have t1 := hN2.cell 1
    have t2 := hN2.cell 2
    have HT2 := Lib.hid hN2
    have c0 := S2.out.rec_.cell 0
    clear hN hal hsz hw1 hN2 hal2 hU2 hc
    by_cases hh : h < 0
    · have qh : decide (h < 0) = true := by simpa using hh
      clear hh
      go_wp2_with fail
      refine (takes_any HF2.out ⟨93, tn, nm⟩).mono ?_
      rintro e w3 ⟨he3, hc3⟩
      rw [HTE.out] at he3
      subst he3
      have S3 := Lib.hid (S2.out.keep hc3)
      have HC3 := Lib.hid (HC2.out.trans (hc3.sub (T' := stT gs vo) (by simp)))
      have t0' := (HT2.out.keep hc3).cell 0
      clear hc3 t0 t1 t2 u0 u1 u2 c0
      go_wp2_with fail
      refine (ends_pop S3.out 93 (by decide)).mono ?_
      rintro e w4 ⟨vo4, rfl, hS4, hc4, _⟩
      have HSZ := Lib.hid HC3.out.size
      have HR1 := Lib.hid HR.out
      rcases hE : rEnds h ys x 93 with ⟨b4, h4, bs4⟩
      rw [hE] at hS4
      have HE := Lib.hid hE
      clear hE
      cases b4
      · have HP := Lib.hid (show TkPost gs B vo R W (.returned (.int .i64 14)) w4 from tk_no 14 (by decide) (by rw [HR.out, HE.out]) (HC3.out.trans hc4))
        clear hS4 hc4 t0'
        go_wp2_with fail
        go_ret
        exact HP.out
      · have HP := Lib.hid (show TkPost gs B vo R W (.returned (.int .i64 0)) w4 from tk_ok h4 vo4 bs4 (by rw [HR.out, HE.out]) hS4 (HC3.out.trans hc4))
        clear hS4 hc4 t0'
        go_wp2_with fail
        go_ret
        exact HP.out
    · have qh : decide (h < 0) = false := by simpa using hh
      clear hh
      go_wp2_with fail
      refine (takes_any HF2.out ⟨93, tn, nm⟩).mono ?_
      rintro e w3 ⟨he3, hc3⟩
      rw [HTE.out] at he3
      subst he3
      have S3 := Lib.hid (S2.out.keep hc3)
      have HC3 := Lib.hid (HC2.out.trans (hc3.sub (T' := stT gs vo) (by simp)))
      have t0' := (HT2.out.keep hc3).cell 0
      clear hc3 t0 t1 t2 u0 u1 u2 c0
      go_wp2_with fail
      refine (ends_pop S3.out 93 (by decide)).mono ?_
      rintro e w4 ⟨vo4, rfl, hS4, hc4, _⟩
      have HSZ := Lib.hid HC3.out.size
      have HR1 := Lib.hid HR.out
      rcases hE : rEnds h ys x 93 with ⟨b4, h4, bs4⟩
      rw [hE] at hS4
      have HE := Lib.hid hE
      clear hE
      cases b4
      · have HP := Lib.hid (show TkPost gs B vo R W (.returned (.int .i64 14)) w4 from tk_no 14 (by decide) (by rw [HR.out, HE.out]) (HC3.out.trans hc4))
        clear hS4 hc4 t0'
        go_wp2_with fail
        go_ret
        exact HP.out
      · have HP := Lib.hid (show TkPost gs B vo R W (.returned (.int .i64 0)) w4 from tk_ok h4 vo4 bs4 (by rw [HR.out, HE.out]) hS4 (HC3.out.trans hc4))
        clear hS4 hc4 t0'
        go_wp2_with fail
        go_ret
        exact HP.out
end
end Go.Proofs.YtbkfhndmeljlcaaGreatDoor
