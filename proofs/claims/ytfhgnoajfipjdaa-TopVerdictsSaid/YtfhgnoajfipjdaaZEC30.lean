/-
  EC: WordDiv, EgReck, EgWord, EgRem, EgRem2.
-/
import Derived.Test.YtfhgnoajfipjdaaZEC1
import Derived.Test.YtfhgnoajfipjdaaZEC26
import Derived.Test.YtfhgnoajfipjdaaZEC29
namespace Go.Proofs.Ytfhgnoajfipjdaa
open Go.RowKit
section
variable {w : World}
set_option maxHeartbeats 400000 in
theorem part_any (s a b : Int) (hs : s = 47 ∨ s = 37) : Calls Try.prog 187 #[.int .i32 s, .int .i64 a, .int .i64 b] w (DoPost s a b w) := by
  by_cases hb : b = 0
  · subst hb
    have HR : Hid (doR s a 0 = (0, 3)) := Lib.hid (by rcases hs with rfl | rfl; (rw [doR_47]; rfl); (rw [doR_37]; rfl))
    clear hs
    go_enter Try.func187, Try.ntmps187
    go_wp2_with fail
    go_ret2
    exact do_post HR.out
  have HB := Lib.hid hb
  have hb0 : (b == 0) = false := by simpa using hb
  clear hb
  rcases hs with rfl | rfl
  · by_cases ha : a = -9223372036854775808
    · subst ha
      by_cases h1 : b = -1
      · subst h1
        have HR : Hid (doR 47 (-9223372036854775808) (-1) = (0, 4)) := Lib.hid (by rw [doR_47]; rfl)
        go_enter Try.func187, Try.ntmps187
        go_wp2_with fail
        go_ret2
        exact do_post HR.out
      · have HR : Hid (doR 47 (-9223372036854775808) b = (wrap64 ((-9223372036854775808 : Int).tdiv b), 0)) := Lib.hid (by rw [doR_47, if_neg HB.out, if_neg (fun h => h1 h.2)])
        have hb1 : (b == -1) = false := by simpa using h1
        clear h1
        go_enter Try.func187, Try.ntmps187
        go_wp2_with fail
        go_ret2
        exact do_post (by rw [HR.out, Int.neg_tdiv])
    · have HR : Hid (doR 47 a b = (wrap64 (a.tdiv b), 0)) := Lib.hid (by rw [doR_47, if_neg HB.out, if_neg (fun h => ha h.1)])
      have ha1 : (a == -9223372036854775808) = false := by simpa using ha
      clear ha
      go_enter Try.func187, Try.ntmps187
      go_wp2_with fail
      go_ret2
      exact do_post HR.out
  · have HR : Hid (doR 37 a b = (a.tmod b, 0)) := Lib.hid (by rw [doR_37, if_neg HB.out])
    go_enter Try.func187, Try.ntmps187
    go_wp2_with fail
    go_ret2
    exact do_post HR.out
set_option maxHeartbeats 400000 in
theorem do_div (s a b : Int) (hs : s = 47 ∨ s = 37) : Calls Try.prog 173 #[.int .i32 s, .int .i64 a, .int .i64 b] w (DoPost s a b w) := by
  rcases hs with rfl | rfl
  · go_enter Try.func173, Try.ntmps173
    go_wp2_with (go_at_call 187; refine (part_any 47 a b (.inl rfl)).mono ?_; rintro e w' ⟨rfl, rfl⟩)
    go_ret2
    exact ⟨rfl, rfl⟩
  · go_enter Try.func173, Try.ntmps173
    go_wp2_with (go_at_call 187; refine (part_any 37 a b (.inr rfl)).mono ?_; rintro e w' ⟨rfl, rfl⟩)
    go_ret2
    exact ⟨rfl, rfl⟩
theorem beq_f {a b : Int} (h : a ≠ b) : (a == b) = false := by simpa using h
/-- A sign that is none. -/
def NoSign (s : Int) : Prop := s ≠ 43 ∧ s ≠ 45 ∧ s ≠ 42 ∧ s ≠ 47 ∧ s ≠ 37 ∧ s ≠ 38 ∧ s ≠ 124 ∧ s ≠ 94 ∧ s ≠ 60 ∧ s ≠ 61 ∧ s ≠ 171 ∧ s ≠ 187 ∧ s ≠ 33
set_option maxHeartbeats 400000 in
theorem do_none (s a b : Int) (hs : NoSign s) : Calls Try.prog 173 #[.int .i32 s, .int .i64 a, .int .i64 b] w (DoPost s a b w) := by
  have HR := Lib.hid (doR_none a b hs)
  obtain ⟨h1, h2, h3, h4, h5, h6, h7, h8, h9, h10, h11, h12, h13⟩ := hs
  have k1 := beq_f h1; have k2 := beq_f h2; have k3 := beq_f h3; have k4 := beq_f h4; have k5 := beq_f h5; have k6 := beq_f h6; have k7 := beq_f h7
  have k8 := beq_f h8; have k9 := beq_f h9; have k10 := beq_f h10; have k11 := beq_f h11; have k12 := beq_f h12; have k13 := beq_f h13
  clear h1 h2 h3 h4 h5 h6 h7 h8 h9 h10 h11 h12 h13
  go_enter Try.func173, Try.ntmps173
  go_wp2_with fail
  go_ret2
  exact do_post HR.out
theorem do_any (s a b : Int) : Calls Try.prog 173 #[.int .i32 s, .int .i64 a, .int .i64 b] w (DoPost s a b w) := by
  by_cases h1 : s = 43; · subst h1; exact do_add a b
  by_cases h2 : s = 45; · subst h2; exact do_sub a b
  by_cases h3 : s = 42; · subst h3; exact do_mul a b
  by_cases h4 : s = 47; · exact do_div s a b (.inl h4)
  by_cases h5 : s = 37; · exact do_div s a b (.inr h5)
  by_cases h6 : s = 38; · subst h6; exact do_and a b
  by_cases h7 : s = 124; · subst h7; exact do_or a b
  by_cases h8 : s = 94; · subst h8; exact do_xor a b
  by_cases h9 : s = 60; · subst h9; exact do_lt a b
  by_cases h10 : s = 61; · subst h10; exact do_eq a b
  by_cases h11 : s = 171; · subst h11; exact do_shl a b
  by_cases h12 : s = 187; · subst h12; exact do_shr a b
  by_cases h13 : s = 33; · subst h13; exact do_not a b
  exact do_none s a b ⟨h1, h2, h3, h4, h5, h6, h7, h8, h9, h10, h11, h12, h13⟩
end
end Go.Proofs.Ytfhgnoajfipjdaa
namespace Go.Proofs.Ytfhgnoajfipjdaa
open Go.RowKit
def EgPostC (P : EP) (W : World) (vc : Value) (s' : EgV) (r : Value) (e : Ending) (w' : World) : Prop := e = .returned r ∧ (∃ vs', Eg P w' vs' vc s') ∧ Fe P.K egT W w'
section
variable {P : EP} {W W' : World} {vs vc : Value} {s : EgV}
set_option maxHeartbeats 4000000 in
set_option maxRecDepth 100000 in
theorem epop_c {x : Int} {s' : EgV} (h : Eg P W vs vc s) (hp : s.pop = some (x, s')) : Calls Try.prog 55 #[.pointer (some ⟨P.g, 0, none⟩)] W (EgPostC P W vc s' (.int .i64 x)) := by
  obtain ⟨st, hst, rfl⟩ := pop_some hp
  obtain ⟨gs, c, rfl, hc, hx⟩ := h.top hst
  have k7 : W.cell? ⟨P.g, 7, none⟩ = some (.slice (some ⟨gs, 0, none⟩) (st.length + 1) c) := h.rec_.cell 7
  have f7 := h.rec_.frozen 7
  have hb := h.stkb
  have hl : s.st.length = st.length + 1 := by rw [hst]; simp
  have HQ := Lib.hid (h.popped rfl (Chg.refl [] W) hst)
  have HQ2 := Lib.hid (h.popped rfl ((Chg.refl [] W).drew) hst)
  obtain ⟨n, hn⟩ : ∃ n, n = st.length := ⟨_, rfl⟩
  rw [← hn] at HQ HQ2 k7 hx hc hl
  have hn9 : n ≤ 3000000 := by omega
  generalize P.g = g at k7 f7 HQ HQ2 ⊢
  clear h hp hst hn hb
  have hsub : IntKind.i64.wrap (((n + 1 : Nat) : Int) - 1) = (n : Int) := by rw [IntWalk.i64_in _ (by omega)]; omega
  have hq0 : (0 : Int) ≤ (n : Int) := by omega
  have hq1 : (n : Int) < ((n + 1 : Nat) : Int) := by omega
  have hq2 : (n : Int) ≤ (c : Int) := by omega
  go_enter Try.func55, Try.ntmps55
  go_wp2_with fail
  go_ret
  exact ⟨rfl, ⟨_, HQ.out.1⟩, HQ.out.2⟩
set_option maxHeartbeats 4000000 in
set_option maxRecDepth 100000 in
theorem enter_deep (h : Eg P W vs vc s) (hd : 32 ≤ s.cs.length) (f : Int) : Calls Try.prog 142 #[.pointer (some ⟨P.g, 0, none⟩), .int .i64 f] W (EgPost P W s (.int .i64 6)) := by
  obtain ⟨A8, n8, c8, rfl, hn8, _⟩ := h.cslice
  have k8 : W.cell? ⟨P.g, 8, none⟩ = some (.slice A8 n8 c8) := h.rec_.cell 8
  have HP := Lib.hid (EgPost.of_chg (r := .int .i64 6) h (Chg.refl [] W))
  have hd8 : (32 : Int) ≤ (n8 : Int) := by omega
  generalize P.g = gp at *
  clear h hn8 hd
  go_enter Try.func142, Try.ntmps142
  go_wp2_with fail
  go_ret
  exact HP.out
set_option maxHeartbeats 4000000 in
set_option maxRecDepth 100000 in
theorem enter_go {k : Nat} {s' : EgV} (h : Eg P W vs vc s) (hc : eCall P.cd k s = some s') (hcs : s.cs.length ≤ 31) : Calls Try.prog 142 #[.pointer (some ⟨P.g, 0, none⟩), .int .i64 (k : Int)] W (EgPost P W s' (.int .i64 0)) := by
  obtain ⟨A8, n8, c8, rfl, hn8, _⟩ := h.cslice
  have k8 : W.cell? ⟨P.g, 8, none⟩ = some (.slice A8 n8 c8) := h.rec_.cell 8
  have HC := Lib.hid (ecall_any h hc hcs)
  have hd8 : (n8 : Int) < 32 := by omega
  generalize P.g = gp at *
  clear h hn8 hc
  go_enter Try.func142, Try.ntmps142
  go_wp2_with fail
  refine HC.out.mono ?_
  rintro e w1 ⟨rfl, h1, hf1⟩
  have HP := Lib.hid (show EgPost P W s' (.int .i64 0) (.returned (.int .i64 0)) w1 from ⟨rfl, h1, hf1⟩)
  clear h1 hf1
  go_wp2_with fail
  go_ret
  exact HP.out
set_option maxHeartbeats 4000000 in
set_option maxRecDepth 100000 in
theorem reck_low {sg : Int} {tr : Int} {s' : EgV} (h : Eg P W vs vc s) (hs : 97 ≤ sg ∧ sg ≤ 122) (hr : eReckon sg s = some (tr, s')) (hroom : s.st.length + s.fuel ≤ 2999999) : Calls Try.prog 144 #[.pointer (some ⟨P.g, 0, none⟩), .int .i32 sg] W (EgPost P W s' (.int .i64 tr)) := by
  unfold eReckon at hr
  rw [if_pos hs] at hr
  cases hl : s.cs.getLast? with
  | none => rw [hl] at hr; cases hr
  | some c =>
    rw [hl] at hr
    simp only at hr
    cases hx : c.loc[(sg - 97).toNat]? with
    | none => rw [hx] at hr; cases hr
    | some x =>
      rw [hx] at hr
      simp only at hr
      injection hr with hr
      injection hr with hr1 hr2
      subst hr1
      subst hr2
      obtain ⟨i, hi⟩ : ∃ i : Nat, i = (sg - 97).toNat := ⟨_, rfl⟩
      rw [← hi] at hx
      have hiI : sg - 97 = (i : Int) := by omega
      have hi26 : i ≤ 25 := by omega
      obtain ⟨ys, hcs, hdl⟩ := last_some hl
      obtain ⟨g, cap, hv, hcap, hk, hlen, hcell, hfro⟩ := h.cur hcs
      have HNOW := Lib.hid (now_any h hv hk)
      have n1 : W.cell? ⟨g, ys.length * 28 + 2 + i, none⟩ = some (.int .i64 x) := by rw [Nat.add_assoc]; exact hcell (2 + i) _ (clC_get c i x hx)
      have HPUSH := Lib.hid (fun (W1 : World) (hc : Chg [] W W1) => push_any (h.keep hc) x hroom)
      have hsub : IntKind.i32.wrap (sg - 97) = (i : Int) := by rw [hiI]; exact IntWalk.i32_in _ (by omega)
      have hd1 : decide (97 ≤ sg) = true := by simpa using hs.1
      have hd2 : decide (sg ≤ 122) = true := by simpa using hs.2
      have hi0 : (0 : Int) ≤ (i : Int) := by omega
      have hi1 : (i : Int) < 26 := by omega
      generalize ys.length = k at *
      generalize P.g = gp at *
      clear h hl hcs hv hcell hfro hx hi hdl
      go_enter Try.func144, Try.ntmps144
      go_wp2_with fail
      refine HNOW.out.mono ?_
      rintro e w1 ⟨rfl, hc1⟩
      have m1 := cell_keep n1 hc1
      have HPU := Lib.hid (HPUSH.out w1 hc1)
      have HC1 := Lib.hid hc1
      clear hc1
      go_wp2_with fail
      refine HPU.out.mono ?_
      rintro e w2 ⟨rfl, h2, hf2⟩
      have HP := Lib.hid (show EgPost P W (s.push x) (.int .i64 0) (.returned (.int .i64 0)) w2 from ⟨rfl, h2, (Fe.of_chg HC1.out).trans hf2⟩)
      clear h2 hf2
      go_wp2_with fail
      go_ret
      exact HP.out
theorem Eg.cellC (h : Eg P W vs vc s) {ys : List CallV} {c : CallV} (hcs : s.cs = ys ++ [c]) {g n cap : Nat} (hv : vc = .slice (some ⟨g, 0, none⟩) n cap) (i : Nat) (hi : i < c.loc.length) : (∃ y, W.cell? ⟨g, ys.length * 28 + (2 + i), none⟩ = some (.int .i64 y)) ∧ W.frozen? ⟨g, ys.length * 28 + (2 + i), none⟩ = false := by
  obtain ⟨g', cap', hv', _, _, _, hcell, hfro⟩ := h.cur hcs
  rw [hv] at hv'
  injection hv' with e _ _; injection e with e; injection e with e
  subst e
  exact ⟨⟨c.loc[i], hcell (2 + i) _ (clC_get c i _ (List.getElem?_eq_getElem hi))⟩, hfro _⟩
set_option maxHeartbeats 8000000 in
set_option maxRecDepth 100000 in
theorem reck_up {sg : Int} {tr : Int} {s' : EgV} (h : Eg P W vs vc s) (hs : 65 ≤ sg ∧ sg ≤ 90) (hr : eReckon sg s = some (tr, s')) : Calls Try.prog 144 #[.pointer (some ⟨P.g, 0, none⟩), .int .i32 sg] W (EgPost P W s' (.int .i64 tr)) := by
  unfold eReckon at hr
  rw [if_neg (by omega), if_pos hs] at hr
  cases hp : s.pop with
  | none => rw [hp] at hr; cases hr
  | some q =>
    obtain ⟨x, s1⟩ := q
    rw [hp] at hr
    simp only at hr
    cases hl : s1.cs.getLast? with
    | none => rw [hl] at hr; cases hr
    | some c =>
      rw [hl] at hr
      simp only at hr
      injection hr with hr
      injection hr with hr1 hr2
      subst hr1
      obtain ⟨i, hi⟩ : ∃ i : Nat, i = (sg - 65).toNat := ⟨_, rfl⟩
      rw [← hi] at hr2
      have hiI : sg - 65 = (i : Int) := by omega
      have hi26 : i ≤ 25 := by omega
      obtain ⟨ys, hcs1, hdl⟩ := last_some hl
      rw [hdl] at hr2
      have hcs : s.cs = ys ++ [c] := by rw [← pop_cs hp]; exact hcs1
      obtain ⟨g, cap, hv, hcap, hk, hlen, hcell, hfro⟩ := h.cur hcs
      have HNOW := Lib.hid (fun (W1 : World) (hc : Chg [] W W1) => now_any (h.keep hc) hv hk)
      have HPOP := Lib.hid (fun (W1 : World) (hc : Chg [] W W1) => epop_c (h.keep hc) hp)
      have HCS := Lib.hid hcs1
      have HS' := Lib.hid hr2
      have HLEN := Lib.hid hlen
      have hsub : IntKind.i32.wrap (sg - 65) = (i : Int) := by rw [hiI]; exact IntWalk.i32_in _ (by omega)
      have hd0 : decide (97 ≤ sg) = false := by simp; omega
      have hd1 : decide (65 ≤ sg) = true := by simpa using hs.1
      have hd2 : decide (sg ≤ 90) = true := by simpa using hs.2
      have hi0 : (0 : Int) ≤ (i : Int) := by omega
      have hi1 : (i : Int) < 26 := by omega
      have hwi : IntKind.i32.wrap (i : Int) = (i : Int) := IntWalk.i32_in _ (by omega)
      obtain ⟨k, hkk⟩ : ∃ k, k = ys.length := ⟨_, rfl⟩
      rw [← hkk] at HNOW
      have HK := Lib.hid hkk
      have HV := Lib.hid hv
      obtain ⟨gp, hgp⟩ : ∃ gp, gp = P.g := ⟨_, rfl⟩
      have HGP := Lib.hid hgp
      rw [← hgp] at HNOW HPOP ⊢
      clear h hl hcs hcs1 hv hcell hfro hi hdl hp hr2 hkk hgp hlen
      go_enter Try.func144, Try.ntmps144
      go_wp2_with fail
      go_region_with (first
        | (go_at_call 96
           refine (HNOW.out _ ((Chg.refl [] W).drew)).mono ?_
           rintro e w1 ⟨rfl, hc1⟩
           have HC1 := Lib.hid (((Chg.refl [] W).drew).new hc1)
           clear hc1)
        | (go_at_call 55
           refine (HPOP.out w1 HC1.out).mono ?_
           rintro e w2 ⟨rfl, ⟨vs2, h2⟩, hf2⟩
           have HSET := Lib.hid (h2.callset HCS.out HV.out (Chg.refl [] w2) (j := 2 + i) (.int .i64 x) (clC_local c i x) (by rw [List.length_set]; exact HLEN.out))
           have HF2 := Lib.hid ((Fe.of_chg HC1.out).trans hf2)
           rw [← HK.out, ← Nat.add_assoc] at HSET
           obtain ⟨⟨y2, m2⟩, fm2⟩ := h2.cellC HCS.out HV.out i (by have := HLEN.out; omega)
           rw [← HK.out, ← Nat.add_assoc] at m2 fm2
           clear h2 hf2))
      all_goals
        have HP := Lib.hid (show EgPost P W s' (.int .i64 0) (.returned (.int .i64 0)) _ from ⟨rfl, ⟨_, _, by rw [← HS'.out]; exact HSET.out.1⟩, HF2.out.trans HSET.out.2⟩)
        go_wp2_with fail
        go_ret
        exact HP.out
end
end Go.Proofs.Ytfhgnoajfipjdaa
namespace Go.Proofs.Ytfhgnoajfipjdaa
open Go.RowKit
section
variable {P : EP} {W W' : World} {vs vc : Value} {s : EgV}
set_option maxHeartbeats 8000000 in
set_option maxRecDepth 100000 in
theorem reck_word {sg : Int} {tr : Int} {s' : EgV} (h : Eg P W vs vc s) (h1 : ¬ (97 ≤ sg ∧ sg ≤ 122)) (h2 : ¬ (65 ≤ sg ∧ sg ≤ 90)) (hr : eReckon sg s = some (tr, s')) : Calls Try.prog 144 #[.pointer (some ⟨P.g, 0, none⟩), .int .i32 sg] W (EgPost P W s' (.int .i64 tr)) := by
  unfold eReckon at hr
  rw [if_neg h1, if_neg h2] at hr
  have fin : ∀ (b : Int) (s1 : EgV) (w1 : World) (vs1 vc1 : Value), Eg P w1 vs1 vc1 s1 → Fe P.K egT W w1 → ∀ (a : Int) (s2 : EgV), s1.pop = some (a, s2) → tr = (doR sg a b).2 → s' = (if (doR sg a b).2 = 0 then s2.push (doR sg a b).1 else s2) →
      Hid (Calls Try.prog 55 #[.pointer (some ⟨P.g, 0, none⟩)] w1 (fun e w2 => e = .returned (.int .i64 a) ∧ Hid (Fe P.K egT W w2) ∧ Hid (∃ vs2 vc2, Eg P w2 vs2 vc2 s2))) := by
    intro b s1 w1 vs1 vc1 k1 kf a s2 hp _ _
    refine Lib.hid ((epop_any k1 hp).mono ?_)
    rintro e w2 ⟨he, hv, hf⟩
    exact ⟨he, Lib.hid (kf.trans hf), Lib.hid hv⟩
  have hpush : ∀ (a b : Int) (s2 : EgV) (w2 : World), (∃ vs2 vc2, Eg P w2 vs2 vc2 s2) → Fe P.K egT W w2 → s2.st.length + s2.fuel ≤ 2999999 → (doR sg a b).2 = 0 → tr = (doR sg a b).2 → s' = (if (doR sg a b).2 = 0 then s2.push (doR sg a b).1 else s2) →
      Hid (Calls Try.prog 139 #[.pointer (some ⟨P.g, 0, none⟩), .int .i64 (doR sg a b).1] w2 (fun e w3 => e = .returned (.tuple #[]) ∧ Hid (EgPost P W s' (.int .i64 tr) (.returned (.int .i64 0)) w3))) := by
    intro a b s2 w2 ⟨vs2, vc2, k2⟩ kf hroom h0 htr hs
    refine Lib.hid ((push_any k2 _ hroom).mono ?_)
    rintro e w3 ⟨he, hv, hf⟩
    refine ⟨he, Lib.hid ?_⟩
    rw [if_pos h0] at hs
    subst hs
    rw [htr, h0]
    exact ⟨rfl, hv, kf.trans hf⟩
  have hstop : ∀ (a b : Int) (s2 : EgV) (w2 : World), (∃ vs2 vc2, Eg P w2 vs2 vc2 s2) → Fe P.K egT W w2 → (doR sg a b).2 ≠ 0 → tr = (doR sg a b).2 → s' = (if (doR sg a b).2 = 0 then s2.push (doR sg a b).1 else s2) →
      Hid (EgPost P W s' (.int .i64 tr) (.returned (.int .i64 (doR sg a b).2)) w2) := by
    intro a b s2 w2 hv kf h0 htr hs
    rw [if_neg h0] at hs
    subst hs
    subst htr
    exact Lib.hid ⟨rfl, hv, kf⟩
  have stl : ∀ {x : Int} {t t' : EgV}, t.pop = some (x, t') → t'.st.length + t'.fuel + 1 = t.st.length + t.fuel := by
    intro x t t' hp
    obtain ⟨st, e1, e2⟩ := pop_some hp
    subst e2
    rw [e1]
    simp
    omega
  have FIN := Lib.hid fin
  have HPU := Lib.hid hpush
  have HSTOP := Lib.hid hstop
  have hsb := h.stkb
  by_cases h33 : sg = 33
  · subst h33
    rw [if_pos rfl] at hr
    simp only at hr
    cases hp : s.pop with
    | none => rw [hp] at hr; cases hr
    | some q =>
      obtain ⟨a, s2⟩ := q
      rw [hp] at hr
      simp only at hr
      injection hr with hr
      injection hr with hr1 hr2
      have HR1 := Lib.hid hr1.symm
      have HR2 := Lib.hid hr2.symm
      have hst2 : s2.st.length + s2.fuel ≤ 2999999 := by have := stl hp; omega
      have HPOP := FIN.out 0 s W _ _ h (Fe.refl _ _ _) a s2 hp hr1.symm hr2.symm
      obtain ⟨D, hD⟩ : ∃ D, D = doR 33 a 0 := ⟨_, rfl⟩
      have HD := Lib.hid hD
      have HDO := Lib.hid (fun w => do_any (w := w) 33 a 0)
      unfold DoPost at HDO
      rw [← hD] at HDO
      generalize P.g = gp at *
      clear h hp hr1 hr2 fin hpush hstop hD h1 h2
      go_enter Try.func144, Try.ntmps144
      go_wp2_with fail
      refine HPOP.out.mono ?_
      rintro e w2 ⟨rfl, HF2, HV2⟩
      go_wp2_with fail
      refine (HDO.out _).mono ?_
      rintro e w3 ⟨rfl, rfl⟩
      by_cases h0 : D.2 = 0
      · have hz : (D.2 == 0) = true := by simpa using h0
        have HPX := HPU.out a 0 s2 w2 HV2.out HF2.out hst2 (by rw [← HD.out]; exact h0) HR1.out HR2.out
        rw [← HD.out] at HPX
        have HZ := Lib.hid h0
        rw [h0]
        clear h0 hz
        go_wp2_with fail
        refine HPX.out.mono ?_
        rintro e w4 ⟨rfl, HP⟩
        go_wp2_with fail
        go_ret
        exact HP.out
      · have hz : (D.2 == 0) = false := by simpa using h0
        have HP := HSTOP.out a 0 s2 w2 HV2.out HF2.out (by rw [← HD.out]; exact h0) HR1.out HR2.out
        rw [← HD.out] at HP
        generalize D.2 = d2' at *
        clear h0
        go_wp2_with fail
        go_ret
        exact HP.out
  · rw [if_neg h33] at hr
    cases hq : s.pop with
    | none => rw [hq] at hr; cases hr
    | some q =>
    obtain ⟨b, s1⟩ := q
    rw [hq] at hr
    simp only at hr
    cases hp : s1.pop with
    | none => rw [hp] at hr; cases hr
    | some q =>
      obtain ⟨a, s2⟩ := q
      rw [hp] at hr
      simp only at hr
      injection hr with hr
      injection hr with hr1 hr2
      have HR1 := Lib.hid hr1.symm
      have HR2 := Lib.hid hr2.symm
      have hst2 : s2.st.length + s2.fuel ≤ 2999999 := by have := stl hp; have := stl hq; omega
      have HPOP1 := Lib.hid (epop_any h hq)
      have HPOP := Lib.hid (fun w1 vs1 vc1 k1 kf => FIN.out b s1 w1 vs1 vc1 k1 kf a s2 hp hr1.symm hr2.symm)
      obtain ⟨D, hD⟩ : ∃ D, D = doR sg a b := ⟨_, rfl⟩
      have HD := Lib.hid hD
      have HDO := Lib.hid (fun w => do_any (w := w) sg a b)
      unfold DoPost at HDO
      rw [← hD] at HDO
      have hb33 : (sg != 33) = true := by simpa using h33
      generalize P.g = gp at *
      have hk : (decide (97 ≤ sg) = false ∧ decide (sg ≤ 122) = true ∧ decide (65 ≤ sg) = false ∧ decide (sg ≤ 90) = true) ∨ (decide (97 ≤ sg) = false ∧ decide (sg ≤ 122) = true ∧ decide (65 ≤ sg) = true ∧ decide (sg ≤ 90) = false) ∨ (decide (97 ≤ sg) = true ∧ decide (sg ≤ 122) = false ∧ decide (65 ≤ sg) = true ∧ decide (sg ≤ 90) = false) := by
        simp only [decide_eq_true_eq, decide_eq_false_iff_not]
        omega
      clear h hp hq hr1 hr2 fin hpush hstop hD h1 h2 h33
      rcases hk with ⟨k1, k2, k3, k4⟩ | ⟨k1, k2, k3, k4⟩ | ⟨k1, k2, k3, k4⟩ <;>
      · go_enter Try.func144, Try.ntmps144
        go_wp2_with fail
        refine HPOP1.out.mono ?_
        rintro e w1 ⟨rfl, ⟨vs1, vc1, kk⟩, kf⟩
        have HPP := HPOP.out w1 vs1 vc1 kk kf
        clear kk kf
        go_wp2_with fail
        refine HPP.out.mono ?_
        rintro e w2 ⟨rfl, HF2, HV2⟩
        go_wp2_with fail
        refine (HDO.out _).mono ?_
        rintro e w3 ⟨rfl, rfl⟩
        by_cases h0 : D.2 = 0
        · have hz : (D.2 == 0) = true := by simpa using h0
          have HPX := HPU.out a b s2 w2 HV2.out HF2.out hst2 (by rw [← HD.out]; exact h0) HR1.out HR2.out
          rw [← HD.out] at HPX
          have HZ := Lib.hid h0
          rw [h0]
          clear h0 hz
          go_wp2_with fail
          refine HPX.out.mono ?_
          rintro e w4 ⟨rfl, HP⟩
          go_wp2_with fail
          go_ret
          exact HP.out
        · have hz : (D.2 == 0) = false := by simpa using h0
          have HP := HSTOP.out a b s2 w2 HV2.out HF2.out (by rw [← HD.out]; exact h0) HR1.out HR2.out
          rw [← HD.out] at HP
          generalize D.2 = d2' at *
          clear h0
          go_wp2_with fail
          go_ret
          exact HP.out
end
end Go.Proofs.Ytfhgnoajfipjdaa
namespace Go.Proofs.Ytfhgnoajfipjdaa
open Go.RowKit
abbrev mmT : List TypeId := [109, 5, 4]
theorem mmT_is : ∀ t : TypeId, t ∈ mmT → t = 109 ∨ t = 5 ∨ t = 4 := by intro t h; simpa using h
theorem mmT_sub : ∀ t : TypeId, t ∈ mmT → t ∈ egT := by intro t h; simp only [List.mem_cons, List.not_mem_nil, or_false] at h ⊢; rcases h with h | h | h <;> subst h <;> simp
theorem Mm.fe {K : Nat → Prop} {w w' : World} {p gC gD : Nat} {L : List UInt8} {X : List Value} {V : List Bool} {Y : List Value} {most : Nat} (h : Mm w p gC gD L X V Y most) (hc : Chg [p, gC, gD] w w') (hp : K p) (h1 : K gC) (h2 : K gD) : Fe K mmT w w' := by
  refine Fe.of_chgT hc (fun i hi => ?_) (fun i hi => ?_)
  · simp only [List.mem_cons, List.not_mem_nil, or_false] at hi
    rcases hi with rfl | rfl | rfl
    · exact ⟨hp, fun cs t fz e => by have := h.rec_; unfold Whole at this; rw [this] at e; injection e with e; injection e with _ e _; subst e; simp [mmT]⟩
    · exact ⟨h1, fun cs t fz e => by have := h.cel; unfold Whole at this; rw [this] at e; injection e with e; injection e with _ e _; subst e; simp [mmT]⟩
    · exact ⟨h2, fun cs t fz e => by have := h.dir; unfold Whole at this; rw [this] at e; injection e with e; injection e with _ e _; subst e; simp [mmT]⟩
  · simp only [List.mem_cons, List.not_mem_nil, or_false] at hi
    rcases hi with rfl | rfl | rfl
    · exact ⟨_, _, _, h.rec_⟩
    · exact ⟨_, _, _, h.cel⟩
    · exact ⟨_, _, _, h.dir⟩
section
variable {P : EP} {W W' : World} {vs vc : Value} {s : EgV}
def growS (most : Nat) (x : Int) (s : EgV) : Int × EgV := if x < 0 ∨ (most : Int) - s.V.length < x then (-1, s)
  else ((s.V.length : Int), ⟨s.fuel, s.st, s.cs, s.L ++ List.replicate (64 * x.toNat) 0, s.V ++ List.replicate x.toNat true, s.qs⟩)
theorem egrow_any (h : Eg P W vs vc s) (x : Int) : Calls Try.prog 169 #[.pointer (some ⟨P.p, 0, none⟩), .int .i64 x] W (fun e w' => e = .returned (.int .i64 (growS P.most x s).1) ∧ Hid (Eg P w' vs vc (growS P.most x s).2) ∧ Hid (Fe P.K egT W w')) := by
  obtain ⟨gC, gD, X, Y, hM, k1, k2⟩ := h.mem
  by_cases hx : x < 0 ∨ (P.most : Int) - s.V.length < x
  · have e : growS P.most x s = (-1, s) := if_pos hx
    rw [e]
    refine (grow_no hM x hx).mono ?_
    rintro e w' ⟨rfl, rfl⟩
    exact ⟨rfl, Lib.hid h, Lib.hid (Fe.refl _ _ _)⟩
  · have e : growS P.most x s = ((s.V.length : Int), ⟨s.fuel, s.st, s.cs, s.L ++ List.replicate (64 * x.toNat) 0, s.V ++ List.replicate x.toNat true, s.qs⟩) := if_neg hx
    rw [e]
    obtain ⟨k, rfl⟩ := Int.eq_ofNat_of_zero_le (show 0 ≤ x by omega)
    refine (grow_yes hM k (by omega)).mono ?_
    rintro e w' ⟨gC', gD', X', Y', rfl, hM', hc, hC, hD⟩
    have hf := hM.fe hc h.pK k1 k2
    have kC : P.K gC' := by
      rcases hC with rfl | hC
      · exact k1
      · exact .inl (Nat.le_trans h.room hC)
    have kD : P.K gD' := by
      rcases hD with rfl | hD
      · exact k2
      · exact .inl (Nat.le_trans h.room hD)
    exact ⟨rfl, Lib.hid (h.memd hM' kC kD hf mmT_is), Lib.hid (hf.sub mmT_sub)⟩
theorem eload_any (h : Eg P W vs vc s) (x : Int) (wide : Bool) : Calls Try.prog 170 #[.pointer (some ⟨P.p, 0, none⟩), .int .i64 x, .bool wide] W (fun e w' => e = .returned (.tuple #[.int .i64 ((loadR s.L x (if wide then 8 else 1)).getD 0), .bool (loadR s.L x (if wide then 8 else 1)).isSome]) ∧ W = w') := by
  obtain ⟨gC, gD, X, Y, hM, k1, k2⟩ := h.mem
  obtain ⟨sz, hs⟩ : ∃ sz : Nat, sz = if wide then 8 else 1 := ⟨_, rfl⟩
  rw [← hs]
  unfold loadR
  by_cases hx : 0 ≤ x ∧ x + sz ≤ s.L.length
  · rw [if_pos hx]
    obtain ⟨k, rfl⟩ := Int.eq_ofNat_of_zero_le hx.1
    exact load_yes hM k wide sz hs (by omega)
  · rw [if_neg hx]
    exact load_no hM x wide sz hs (by omega)
def storeS (wide : Bool) (k x : Int) (s : EgV) : Bool × EgV := if 0 ≤ k ∧ k + (if wide then 8 else 1) ≤ s.L.length then
  (true, ⟨s.fuel, s.st, s.cs, stL s.L k.toNat x (if wide then 8 else 1), stV s.V k.toNat (if wide then 8 else 1), s.qs⟩) else (false, s)
theorem estore_any (h : Eg P W vs vc s) (k x : Int) (wide : Bool) : Calls Try.prog 171 #[.pointer (some ⟨P.p, 0, none⟩), .int .i64 k, .int .i64 x, .bool wide] W (fun e w' => e = .returned (.bool (storeS wide k x s).1) ∧ Hid (Eg P w' vs vc (storeS wide k x s).2) ∧ Hid (Fe P.K egT W w')) := by
  obtain ⟨gC, gD, X, Y, hM, k1, k2⟩ := h.mem
  obtain ⟨sz, hs⟩ : ∃ sz : Nat, sz = if wide then 8 else 1 := ⟨_, rfl⟩
  have hsI : (if wide then (8 : Int) else 1) = (sz : Int) := by rw [hs]; cases wide <;> rfl
  by_cases hx : 0 ≤ k ∧ k + (if wide then 8 else 1) ≤ s.L.length
  · have e : storeS wide k x s = (true, ⟨s.fuel, s.st, s.cs, stL s.L k.toNat x (if wide then 8 else 1), stV s.V k.toNat (if wide then 8 else 1), s.qs⟩) := if_pos hx
    rw [e]
    rw [hsI] at hx
    obtain ⟨j, rfl⟩ := Int.eq_ofNat_of_zero_le hx.1
    refine (store_yes hM j x wide sz hs (by omega)).mono ?_
    rintro e w' ⟨rfl, hM', hc⟩
    have hf := hM.fe (hc.sub (T' := [P.p, gC, gD]) (by simp)) h.pK k1 k2
    rw [hs] at hM'
    exact ⟨rfl, Lib.hid (h.memd hM' k1 k2 hf mmT_is), Lib.hid (hf.sub mmT_sub)⟩
  · have e : storeS wide k x s = (false, s) := if_neg hx
    rw [e]
    rw [hsI] at hx
    refine (store_no hM k x wide sz hs (by omega)).mono ?_
    rintro e w' ⟨rfl, rfl⟩
    exact ⟨rfl, Lib.hid h, Lib.hid (Fe.refl _ _ _)⟩
theorem epages_any (h : Eg P W vs vc s) : Calls Try.prog 168 #[.pointer (some ⟨P.p, 0, none⟩)] W (fun e w' => e = .returned (.int .i64 (s.V.length : Int)) ∧ W = w') := by
  obtain ⟨gC, gD, X, Y, hM, k1, k2⟩ := h.mem
  exact pages_any hM
end
end Go.Proofs.Ytfhgnoajfipjdaa
namespace Go.Proofs.Ytfhgnoajfipjdaa
open Go.RowKit
theorem pop_len {x : Int} {t t' : EgV} (hp : t.pop = some (x, t')) : t'.st.length + t'.fuel + 1 = t.st.length + t.fuel := by
  obtain ⟨st, e1, e2⟩ := pop_some hp
  subst e2
  rw [e1]
  simp
  omega
theorem pop_rest {x : Int} {t t' : EgV} (hp : t.pop = some (x, t')) : t'.L = t.L ∧ t'.V = t.V ∧ t'.qs = t.qs := by
  obtain ⟨st, e1, e2⟩ := pop_some hp
  subst e2
  exact ⟨rfl, rfl, rfl⟩
section
variable {P : EP} {W W' : World} {vs vc : Value} {s : EgV}
set_option maxHeartbeats 4000000 in
set_option maxRecDepth 100000 in
theorem rem_35 {tr : Int} {s' : EgV} (h : Eg P W vs vc s) (hr : eMem P.most 35 s = some (tr, s')) (hroom : s.st.length + s.fuel ≤ 2999999) : Calls Try.prog 141 #[.pointer (some ⟨P.g, 0, none⟩), .int .i32 35] W (EgPost P W s' (.int .i64 tr)) := by
  unfold eMem at hr
  rw [if_pos rfl] at hr
  injection hr with hr
  injection hr with hr1 hr2
  subst hr1
  subst hr2
  have k4 : W.cell? ⟨P.g, 4, none⟩ = some (.pointer (some ⟨P.p, 0, none⟩)) := h.rec_.cell 4
  have HPG := Lib.hid (epages_any h)
  have HPU := Lib.hid (push_any h (s.V.length : Int) hroom)
  generalize P.g = gp at *
  clear h
  go_enter Try.func141, Try.ntmps141
  go_wp2_with fail
  refine HPG.out.mono ?_
  rintro e w1 ⟨rfl, rfl⟩
  go_wp2_with fail
  refine HPU.out.mono ?_
  rintro e w2 ⟨rfl, h2, hf2⟩
  have HP := Lib.hid (show EgPost P W (s.push (s.V.length : Int)) (.int .i64 0) (.returned (.int .i64 0)) w2 from ⟨rfl, h2, hf2⟩)
  clear h2 hf2
  go_wp2_with fail
  go_ret
  exact HP.out
set_option maxHeartbeats 8000000 in
set_option maxRecDepth 100000 in
theorem rem_164 {tr : Int} {s' : EgV} (h : Eg P W vs vc s) (hr : eMem P.most 164 s = some (tr, s')) : Calls Try.prog 141 #[.pointer (some ⟨P.g, 0, none⟩), .int .i32 164] W (EgPost P W s' (.int .i64 tr)) := by
  unfold eMem at hr
  rw [if_neg (by decide)] at hr
  cases hp : s.pop with
  | none => rw [hp] at hr; cases hr
  | some q =>
    obtain ⟨x, s1⟩ := q
    rw [hp] at hr
    simp only [if_pos] at hr
    have hq : tr = 0 ∧ s' = (growS P.most x s1).2.push (growS P.most x s1).1 := by
      have e := pop_rest hp
      unfold growS
      rw [e.2.1]
      by_cases hx : x < 0 ∨ (P.most : Int) - s.V.length < x
      · rw [if_pos hx] at hr ⊢
        injection hr with hr; injection hr with h1 h2
        exact ⟨h1.symm, h2.symm⟩
      · rw [if_neg hx] at hr ⊢
        injection hr with hr; injection hr with h1 h2
        refine ⟨h1.symm, ?_⟩
        rw [← h2, e.1, e.2.1, e.2.2]
        rfl
    obtain ⟨rfl, hs'⟩ := hq
    have HS' := Lib.hid hs'
    have k4 : W.cell? ⟨P.g, 4, none⟩ = some (.pointer (some ⟨P.p, 0, none⟩)) := h.rec_.cell 4
    have hl := pop_len hp
    have hsb := h.stkb
    have HL := Lib.hid (show (growS P.most x s1).2.st.length + (growS P.most x s1).2.fuel ≤ 2999999 from by unfold growS; split <;> (simp only; omega))
    have HPOP := Lib.hid (fun (W1 : World) (hc : Chg [] W W1) => epop_any (h.keep hc) hp)
    have HGR := Lib.hid (fun (w1 : World) (vs1 vc1 : Value) (k1 : Eg P w1 vs1 vc1 s1) => egrow_any k1 x)
    have HPU := Lib.hid (fun (w2 : World) (vs2 vc2 : Value) (k2 : Eg P w2 vs2 vc2 (growS P.most x s1).2) => push_any k2 (growS P.most x s1).1 HL.out)
    obtain ⟨G, hG⟩ : ∃ G, G = growS P.most x s1 := ⟨_, rfl⟩
    rw [← hG] at HGR HPU HS' HL
    obtain ⟨gp, hgp⟩ : ∃ gp, gp = P.g := ⟨_, rfl⟩
    have HGP := Lib.hid hgp
    rw [← hgp] at HPOP HPU k4 ⊢
    clear h hp hs' hG hgp hr
    go_enter Try.func141, Try.ntmps141
    go_wp2_with fail
    go_region_with (first
      | (go_at_call 55
         refine (HPOP.out _ ((Chg.refl [] W).drew)).mono ?_
         rintro e w1 ⟨rfl, ⟨vs1, vc1, h1⟩, hf1⟩
         have m4 : w1.cell? ⟨gp, 4, none⟩ = some (.pointer (some ⟨P.p, 0, none⟩)) := by rw [HGP.out]; exact h1.rec_.cell 4
         have H1 := Lib.hid h1
         have HF1 := Lib.hid ((Fe.of_chg ((Chg.refl [] W).drew)).trans hf1)
         clear h1 hf1)
      | (go_at_call 169
         refine (HGR.out w1 vs1 vc1 H1.out).mono ?_
         rintro e w2 ⟨rfl, H2, HF2⟩)
      | (go_at_call 139
         refine (HPU.out w2 vs1 vc1 H2.out).mono ?_
         rintro e w3 ⟨rfl, h3, hf3⟩
         have HP := Lib.hid (show EgPost P W s' (.int .i64 0) (.returned (.int .i64 0)) w3 from ⟨rfl, by rw [HS'.out]; exact h3, (HF1.out.trans HF2.out).trans hf3⟩)
         clear h3 hf3))
    all_goals
      go_wp2_with fail
      go_ret
      exact HP.out
end
end Go.Proofs.Ytfhgnoajfipjdaa
