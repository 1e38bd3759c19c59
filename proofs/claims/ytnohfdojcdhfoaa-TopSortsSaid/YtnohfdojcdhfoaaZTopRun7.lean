/-
  TopRun, part 7: EgRem2, EgRem3, EgStep1, EgStep2, EngCs2, EngGo, EgRun, EgRun2, EngQs.
-/
import Derived.Test.YtnohfdojcdhfoaaZTopRun1
import Derived.Test.YtnohfdojcdhfoaaZTopRun2
import Derived.Test.YtnohfdojcdhfoaaZTopRun3
import Derived.Test.YtnohfdojcdhfoaaZTopRun4
import Derived.Test.YtnohfdojcdhfoaaZTopRun6
namespace Go.Proofs.Ytnohfdojcdhfoaa
open Go.RowKit
theorem pop_len {x : Int} {t t' : EgV} (hp : t.pop = some (x, t')) : t'.st.length + t'.fuel + 1 = t.st.length + t.fuel := by
  obtain ⟨st, e1, e2⟩ := pop_some hp
  subst e2
  rw [e1]
  simp
  omega
theorem pop_rest {x : Int} {t t' : EgV} (hp : t.pop = some (x, t')) : t'.L = t.L ∧ t'.V = t.V ∧ t'.qs = t.qs := by
  obtain ⟨st, e1, e2⟩ := pop_some hp
  subst e2
  exact ⟨rfl, rfl, rfl⟩
section
variable {P : EP} {W W' : World} {vs vc : Value} {s : EgV}
set_option maxHeartbeats 4000000 in
set_option maxRecDepth 100000 in
theorem rem_35 {tr : Int} {s' : EgV} (h : Eg P W vs vc s) (hr : eMem P.most 35 s = some (tr, s')) (hroom : s.st.length + s.fuel ≤ 2999999) : Calls Try.prog 87 #[.pointer (some ⟨P.g, 0, none⟩), .int .i32 35] W (EgPost P W s' (.int .i64 tr)) := by
  unfold eMem at hr
  rw [if_pos rfl] at hr
  injection hr with hr
  injection hr with hr1 hr2
  subst hr1
  subst hr2
  have k4 : W.cell? ⟨P.g, 4, none⟩ = some (.pointer (some ⟨P.p, 0, none⟩)) := h.rec_.cell 4
  have HPG := Lib.hid (epages_any h)
  have HPU := Lib.hid (push_any h (s.V.length : Int) hroom)
  generalize P.g = gp at *
  clear h
  go_enter Try.func87, Try.ntmps87
  go_wp2_with fail
  refine HPG.out.mono ?_
  rintro e w1 ⟨rfl, rfl⟩
  go_wp2_with fail
  refine HPU.out.mono ?_
  rintro e w2 ⟨rfl, h2, hf2⟩
  have HP := Lib.hid (show EgPost P W (s.push (s.V.length : Int)) (.int .i64 0) (.returned (.int .i64 0)) w2 from ⟨rfl, h2, hf2⟩)
  clear h2 hf2
  go_wp2_with fail
  go_ret
  exact HP.out
set_option maxHeartbeats 8000000 in
set_option maxRecDepth 100000 in
theorem rem_164 {tr : Int} {s' : EgV} (h : Eg P W vs vc s) (hr : eMem P.most 164 s = some (tr, s')) : Calls Try.prog 87 #[.pointer (some ⟨P.g, 0, none⟩), .int .i32 164] W (EgPost P W s' (.int .i64 tr)) := by
  unfold eMem at hr
  rw [if_neg (by decide)] at hr
  cases hp : s.pop with
  | none => rw [hp] at hr; cases hr
  | some q =>
    obtain ⟨x, s1⟩ := q
    rw [hp] at hr
    simp only [if_pos] at hr
    have hq : tr = 0 ∧ s' = (growS P.most x s1).2.push (growS P.most x s1).1 := by
      have e := pop_rest hp
      unfold growS
      rw [e.2.1]
      by_cases hx : x < 0 ∨ (P.most : Int) - s.V.length < x
      · rw [if_pos hx] at hr ⊢
        injection hr with hr; injection hr with h1 h2
        exact ⟨h1.symm, h2.symm⟩
      · rw [if_neg hx] at hr ⊢
        injection hr with hr; injection hr with h1 h2
        refine ⟨h1.symm, ?_⟩
        rw [← h2, e.1, e.2.1, e.2.2]
        rfl
    obtain ⟨rfl, hs'⟩ := hq
    have HS' := Lib.hid hs'
    have k4 : W.cell? ⟨P.g, 4, none⟩ = some (.pointer (some ⟨P.p, 0, none⟩)) := h.rec_.cell 4
    have hl := pop_len hp
    have hsb := h.stkb
    have HL := Lib.hid (show (growS P.most x s1).2.st.length + (growS P.most x s1).2.fuel ≤ 2999999 from by unfold growS; split <;> (simp only; omega))
    have HPOP := Lib.hid (fun (W1 : World) (hc : Chg [] W W1) => epop_any (h.keep hc) hp)
    have HGR := Lib.hid (fun (w1 : World) (vs1 vc1 : Value) (k1 : Eg P w1 vs1 vc1 s1) => egrow_any k1 x)
    have HPU := Lib.hid (fun (w2 : World) (vs2 vc2 : Value) (k2 : Eg P w2 vs2 vc2 (growS P.most x s1).2) => push_any k2 (growS P.most x s1).1 HL.out)
    obtain ⟨G, hG⟩ : ∃ G, G = growS P.most x s1 := ⟨_, rfl⟩
    rw [← hG] at HGR HPU HS' HL
    obtain ⟨gp, hgp⟩ : ∃ gp, gp = P.g := ⟨_, rfl⟩
    have HGP := Lib.hid hgp
    rw [← hgp] at HPOP HPU k4 ⊢
    clear h hp hs' hG hgp hr
    go_enter Try.func87, Try.ntmps87
    go_wp2_with fail
    go_region_with (first
      | (go_at_call 53
         refine (HPOP.out _ ((Chg.refl [] W).drew)).mono ?_
         rintro e w1 ⟨rfl, ⟨vs1, vc1, h1⟩, hf1⟩
         have m4 : w1.cell? ⟨gp, 4, none⟩ = some (.pointer (some ⟨P.p, 0, none⟩)) := by rw [HGP.out]; exact h1.rec_.cell 4
         have H1 := Lib.hid h1
         have HF1 := Lib.hid ((Fe.of_chg ((Chg.refl [] W).drew)).trans hf1)
         clear h1 hf1)
      | (go_at_call 108
         refine (HGR.out w1 vs1 vc1 H1.out).mono ?_
         rintro e w2 ⟨rfl, H2, HF2⟩)
      | (go_at_call 85
         refine (HPU.out w2 vs1 vc1 H2.out).mono ?_
         rintro e w3 ⟨rfl, h3, hf3⟩
         have HP := Lib.hid (show EgPost P W s' (.int .i64 0) (.returned (.int .i64 0)) w3 from ⟨rfl, by rw [HS'.out]; exact h3, (HF1.out.trans HF2.out).trans hf3⟩)
         clear h3 hf3))
    all_goals
      go_wp2_with fail
      go_ret
      exact HP.out
end
end Go.Proofs.Ytnohfdojcdhfoaa
namespace Go.Proofs.Ytnohfdojcdhfoaa
open Go.RowKit
section
variable {P : EP} {W W' : World} {vs vc : Value} {s : EgV}
set_option maxHeartbeats 8000000 in
set_option maxRecDepth 100000 in
theorem rem_load {sg tr : Int} {s' : EgV} (hs : sg = 64 ∨ sg = 169) (h : Eg P W vs vc s) (hr : eMem P.most sg s = some (tr, s')) : Calls Try.prog 87 #[.pointer (some ⟨P.g, 0, none⟩), .int .i32 sg] W (EgPost P W s' (.int .i64 tr)) := by
  unfold eMem at hr
  rw [if_neg (by omega)] at hr
  cases hp : s.pop with
  | none => rw [hp] at hr; cases hr
  | some q =>
    obtain ⟨x, s1⟩ := q
    rw [hp] at hr
    simp only at hr
    rw [if_neg (by omega), if_pos hs] at hr
    obtain ⟨wide, hw⟩ : ∃ wide, wide = (sg == 64) := ⟨_, rfl⟩
    have hwi : (if sg = 64 then 8 else 1) = (if wide then 8 else 1) := by rw [hw]; simp
    rw [hwi] at hr
    obtain ⟨o, ho⟩ : ∃ o, o = loadR s1.L x (if wide then 8 else 1) := ⟨_, rfl⟩
    rw [← ho] at hr
    have k4 : W.cell? ⟨P.g, 4, none⟩ = some (.pointer (some ⟨P.p, 0, none⟩)) := h.rec_.cell 4
    have hl := pop_len hp
    have hsb := h.stkb
    have HL := Lib.hid (show s1.st.length + s1.fuel ≤ 2999999 from by omega)
    have HPOP := Lib.hid (fun (W1 : World) (hc : Chg [] W W1) => epop_any (h.keep hc) hp)
    have HLD := Lib.hid (fun (w1 : World) (vs1 vc1 : Value) (k1 : Eg P w1 vs1 vc1 s1) => eload_any k1 x wide)
    rw [← ho] at HLD
    have HPU := Lib.hid (fun (w2 : World) (vs2 vc2 : Value) (k2 : Eg P w2 vs2 vc2 s1) (n : Int) => push_any k2 n HL.out)
    have HR := Lib.hid hr
    obtain ⟨gp, hgp⟩ : ∃ gp, gp = P.g := ⟨_, rfl⟩
    have HGP := Lib.hid hgp
    rw [← hgp] at HPOP HPU k4 ⊢
    have hw2 : (sg == 64) = wide := hw.symm
    clear h hp hgp hr ho hwi hw
    rcases hs with rfl | rfl <;>
    · go_enter Try.func87, Try.ntmps87
      simp only [show ((64 : Int) == 64) = true from rfl, show ((169 : Int) == 64) = false from rfl] at hw2
      subst hw2
      go_wp2_with fail
      go_region_with (first
        | (go_at_call 53
           refine (HPOP.out _ ((Chg.refl [] W).drew)).mono ?_
           rintro e w1 ⟨rfl, ⟨vs1, vc1, h1⟩, hf1⟩
           have m4 : w1.cell? ⟨gp, 4, none⟩ = some (.pointer (some ⟨P.p, 0, none⟩)) := by rw [HGP.out]; exact h1.rec_.cell 4
           have H1 := Lib.hid h1
           have HF1 := Lib.hid ((Fe.of_chg ((Chg.refl [] W).drew)).trans hf1)
           clear h1 hf1)
        | (go_at_call 45
           refine (HLD.out w1 vs1 vc1 H1.out).mono ?_
           rintro e w2 ⟨rfl, rfl⟩))
      all_goals
        cases o with
        | none =>
          have hre := HR.out
          simp only at hre
          injection hre with hre
          injection hre with hr1 hr2
          have HP := Lib.hid (show EgPost P W s' (.int .i64 tr) (.returned (.int .i64 5)) w1 from by rw [← hr1, ← hr2]; exact ⟨rfl, ⟨_, _, H1.out⟩, HF1.out⟩)
          simp only [Option.getD_none, Option.isSome_none]
          clear hr1 hr2
          go_wp2_with fail
          go_ret
          exact HP.out
        | some n =>
          have hre := HR.out
          simp only at hre
          injection hre with hre
          injection hre with hr1 hr2
          have HPX := Lib.hid (HPU.out w1 vs1 vc1 H1.out n)
          have HE := Lib.hid (And.intro hr1 hr2)
          simp only [Option.getD_some, Option.isSome_some]
          clear hr1 hr2
          go_wp2_with fail
          refine HPX.out.mono ?_
          rintro e w3 ⟨rfl, h3, hf3⟩
          have HP := Lib.hid (show EgPost P W s' (.int .i64 tr) (.returned (.int .i64 0)) w3 from by rw [← HE.out.1, ← HE.out.2]; exact ⟨rfl, h3, HF1.out.trans hf3⟩)
          clear h3 hf3
          go_wp2_with fail
          go_ret
          exact HP.out
set_option maxHeartbeats 8000000 in
set_option maxRecDepth 100000 in
theorem rem_store {sg tr : Int} {s' : EgV} (hs : sg = 36 ∨ sg = 174) (h : Eg P W vs vc s) (hr : eMem P.most sg s = some (tr, s')) : Calls Try.prog 87 #[.pointer (some ⟨P.g, 0, none⟩), .int .i32 sg] W (EgPost P W s' (.int .i64 tr)) := by
  unfold eMem at hr
  rw [if_neg (by omega)] at hr
  cases hp : s.pop with
  | none => rw [hp] at hr; cases hr
  | some q =>
    obtain ⟨x, s1⟩ := q
    rw [hp] at hr
    simp only at hr
    rw [if_neg (by omega), if_neg (by omega)] at hr
    cases hp2 : s1.pop with
    | none => rw [hp2] at hr; cases hr
    | some q =>
    obtain ⟨k, s2⟩ := q
    rw [hp2] at hr
    simp only at hr
    obtain ⟨wide, hw⟩ : ∃ wide, wide = (sg == 36) := ⟨_, rfl⟩
    have hwi : (if sg = 36 then 8 else 1) = (if wide then 8 else 1) := by rw [hw]; simp
    have hwI : (if sg = 36 then (8 : Int) else 1) = (if wide then (8 : Int) else 1) := by rw [hw]; simp
    rw [hwi, hwI] at hr
    have hq : tr = (if (storeS wide k x s2).1 then 0 else 5) ∧ s' = (storeS wide k x s2).2 := by
      unfold storeS
      by_cases hx : 0 ≤ k ∧ k + (if wide then 8 else 1) ≤ s2.L.length
      · rw [if_pos hx] at hr ⊢
        injection hr with hr; injection hr with h1 h2
        exact ⟨h1.symm, h2.symm⟩
      · rw [if_neg hx] at hr ⊢
        injection hr with hr; injection hr with h1 h2
        exact ⟨h1.symm, h2.symm⟩
    have HR := Lib.hid hq
    have k4 : W.cell? ⟨P.g, 4, none⟩ = some (.pointer (some ⟨P.p, 0, none⟩)) := h.rec_.cell 4
    have HPOP := Lib.hid (epop_any h hp)
    have HPOP2 := Lib.hid (fun (w1 : World) (vs1 vc1 : Value) (k1 : Eg P w1 vs1 vc1 s1) => epop_any k1 hp2)
    have HST := Lib.hid (fun (w1 : World) (vs1 vc1 : Value) (k1 : Eg P w1 vs1 vc1 s2) => estore_any k1 k x wide)
    obtain ⟨G, hG⟩ : ∃ G, G = storeS wide k x s2 := ⟨_, rfl⟩
    rw [← hG] at HST HR
    obtain ⟨gp, hgp⟩ : ∃ gp, gp = P.g := ⟨_, rfl⟩
    have HGP := Lib.hid hgp
    rw [← hgp] at HPOP HPOP2 k4 ⊢
    have hw2 : (sg == 36) = wide := hw.symm
    clear h hp hp2 hgp hr hwi hwI hw hq hG
    rcases hs with rfl | rfl <;>
    · go_enter Try.func87, Try.ntmps87
      simp only [show ((36 : Int) == 36) = true from rfl, show ((174 : Int) == 36) = false from rfl] at hw2
      subst hw2
      go_wp2_with fail
      refine HPOP.out.mono ?_
      rintro e w1 ⟨rfl, ⟨vs1, vc1, h1⟩, hf1⟩
      have m4 : w1.cell? ⟨gp, 4, none⟩ = some (.pointer (some ⟨P.p, 0, none⟩)) := by rw [HGP.out]; exact h1.rec_.cell 4
      have H1 := Lib.hid h1
      have HF1 := Lib.hid hf1
      have HPD := Lib.hid (HPOP2.out w1.drew vs1 vc1 (h1.keep ((Chg.refl [] w1).drew)))
      clear h1 hf1
      go_wp2_with fail
      go_region_with (first
        | (go_at_call 53
           refine HPD.out.mono ?_
           rintro e w2 ⟨rfl, ⟨vs2, vc2, h2⟩, hf2⟩
           have n4 : w2.cell? ⟨gp, 4, none⟩ = some (.pointer (some ⟨P.p, 0, none⟩)) := by rw [HGP.out]; exact h2.rec_.cell 4
           have H2 := Lib.hid h2
           have HF2 := Lib.hid ((HF1.out.new ((Chg.refl [] w1).drew)).trans hf2)
           clear h2 hf2)
        | (go_at_call 44
           refine (HST.out w2 vs2 vc2 H2.out).mono ?_
           rintro e w3 ⟨rfl, H3, HF3⟩))
      all_goals
        have HP := Lib.hid (show EgPost P W s' (.int .i64 tr) (.returned (.int .i64 (if G.1 then 0 else 5))) w3 from by rw [HR.out.1, HR.out.2]; exact ⟨rfl, ⟨_, _, H3.out⟩, HF2.out.trans HF3.out⟩)
        generalize G.1 = b at HP ⊢
        cases b <;>
        · go_wp2_with fail
          go_ret
          exact HP.out
theorem rem_any {sg tr : Int} {s' : EgV} (hs : sg = 35 ∨ sg = 164 ∨ sg = 64 ∨ sg = 169 ∨ sg = 36 ∨ sg = 174) (h : Eg P W vs vc s) (hr : eMem P.most sg s = some (tr, s')) (hroom : s.st.length + s.fuel ≤ 2999999) : Calls Try.prog 87 #[.pointer (some ⟨P.g, 0, none⟩), .int .i32 sg] W (EgPost P W s' (.int .i64 tr)) := by
  rcases hs with rfl | rfl | hs | hs | hs | hs
  · exact rem_35 h hr hroom
  · exact rem_164 h hr
  · exact rem_load (.inl hs) h hr
  · exact rem_load (.inr hs) h hr
  · exact rem_store (.inl hs) h hr
  · exact rem_store (.inr hs) h hr
end
end Go.Proofs.Ytnohfdojcdhfoaa
namespace Go.Proofs.Ytnohfdojcdhfoaa
open Go.RowKit
section
variable {P : EP} {W W' : World} {vs vc : Value} {s : EgV}
/-- What step's world is when it begins. -/
theorem step_boxed {x : TkV} (h : Eg P W vs vc s) : Eg P (W.alloc (.cells #[.int .i32 x.sign, .int .i64 x.n, .int .i32 x.name] 121)) vs vc s := h.keep ((Chg.refl [] W).alloc _)
def StepC (P : EP) (W : World) (t : TkV) (go : Int) (tr : Int) (s' : EgV) : Prop := Calls Try.prog 72 #[.pointer (some ⟨P.g, 0, none⟩), .agg (tkC t).toArray, .int .i64 go] W (EgPost P W s' (.int .i64 tr))
theorem EgPost.boxed {o : Obj} {s' : EgV} {r : Value} {e : Ending} {w' : World} (h : EgPost P (W.alloc o) s' r e w') : EgPost P W s' r e w' := ⟨h.1, h.2.1, (Fe.of_chg ((Chg.refl [] W).alloc o)).trans h.2.2⟩
set_option maxHeartbeats 4000000 in
set_option maxRecDepth 100000 in
theorem estep_num {n nm go : Int} (h : Eg P W vs vc s) (hroom : s.st.length + s.fuel ≤ 2999999) : StepC P W ⟨48, n, nm⟩ go 0 (s.push n) := by
  unfold StepC
  simp only [tkC]
  have hN := Whole.new W 121 [.int .i32 48, .int .i64 n, .int .i32 nm]
  have HPU := Lib.hid (push_any (step_boxed (x := ⟨48, n, nm⟩) h) n hroom)
  generalize P.g = gp at *
  have t0 := hN.cell 0
  have t1 := hN.cell 1
  clear h hN
  go_enter Try.func72, Try.ntmps72
  go_wp2_with fail
  refine HPU.out.mono ?_
  rintro e w2 ⟨rfl, h2, hf2⟩
  have HP := Lib.hid (EgPost.boxed (show EgPost P _ (s.push n) (.int .i64 0) (.returned (.int .i64 0)) w2 from ⟨rfl, h2, hf2⟩))
  clear h2 hf2
  go_wp2_with fail
  go_ret
  exact HP.out
set_option maxHeartbeats 4000000 in
set_option maxRecDepth 100000 in
theorem estep_drop {x n nm go : Int} {s' : EgV} (h : Eg P W vs vc s) (hp : s.pop = some (x, s')) : StepC P W ⟨44, n, nm⟩ go 0 s' := by
  unfold StepC
  simp only [tkC]
  have hN := Whole.new W 121 [.int .i32 44, .int .i64 n, .int .i32 nm]
  have HPU := Lib.hid (epop_any (step_boxed (x := ⟨44, n, nm⟩) h) hp)
  generalize P.g = gp at *
  have t0 := hN.cell 0
  clear h hN hp
  go_enter Try.func72, Try.ntmps72
  go_wp2_with fail
  refine HPU.out.mono ?_
  rintro e w2 ⟨rfl, h2, hf2⟩
  have HP := Lib.hid (EgPost.boxed (show EgPost P _ s' (.int .i64 0) (.returned (.int .i64 0)) w2 from ⟨rfl, h2, hf2⟩))
  clear h2 hf2
  go_wp2_with fail
  go_ret
  exact HP.out
set_option maxHeartbeats 4000000 in
set_option maxRecDepth 100000 in
theorem estep_halt {n nm go : Int} (h : Eg P W vs vc s) : StepC P W ⟨161, n, nm⟩ go 2 s := by
  unfold StepC
  simp only [tkC]
  have hN := Whole.new W 121 [.int .i32 161, .int .i64 n, .int .i32 nm]
  have HP := Lib.hid (EgPost.of_chg (r := .int .i64 2) h ((Chg.refl [] W).alloc (.cells #[.int .i32 161, .int .i64 n, .int .i32 nm] 121)))
  generalize P.g = gp at *
  have t0 := hN.cell 0
  clear h hN
  go_enter Try.func72, Try.ntmps72
  go_wp2_with fail
  go_ret
  exact HP.out
set_option maxHeartbeats 8000000 in
set_option maxRecDepth 100000 in
theorem estep_turn {sg n nm go : Int} {s' : EgV} (hs : sg = 63 ∨ sg = 58 ∨ sg = 59 ∨ sg = 91 ∨ sg = 93 ∨ sg = 126) (HT : Calls Try.prog 86 #[.pointer (some ⟨P.g, 0, none⟩), .int .i32 sg, .int .i64 go] (W.alloc (.cells #[.int .i32 sg, .int .i64 n, .int .i32 nm] 121)) (EgPost P (W.alloc (.cells #[.int .i32 sg, .int .i64 n, .int .i32 nm] 121)) s' (.tuple #[]))) : StepC P W ⟨sg, n, nm⟩ go 0 s' := by
  unfold StepC
  simp only [tkC]
  have hN := Whole.new W 121 [.int .i32 sg, .int .i64 n, .int .i32 nm]
  have HTT := Lib.hid HT
  generalize P.g = gp at *
  have t0 := hN.cell 0
  clear hN HT
  rcases hs with rfl | rfl | rfl | rfl | rfl | rfl <;>
  · go_enter Try.func72, Try.ntmps72
    go_wp2_with fail
    refine HTT.out.mono ?_
    rintro e w2 ⟨rfl, h2, hf2⟩
    have HP := Lib.hid (EgPost.boxed (show EgPost P _ s' (.int .i64 0) (.returned (.int .i64 0)) w2 from ⟨rfl, h2, hf2⟩))
    clear h2 hf2
    go_wp2_with fail
    go_ret
    exact HP.out
set_option maxHeartbeats 8000000 in
set_option maxRecDepth 100000 in
theorem estep_mem {sg n nm go tr : Int} {s' : EgV} (hs : sg = 35 ∨ sg = 164 ∨ sg = 64 ∨ sg = 169 ∨ sg = 36 ∨ sg = 174) (HT : Calls Try.prog 87 #[.pointer (some ⟨P.g, 0, none⟩), .int .i32 sg] (W.alloc (.cells #[.int .i32 sg, .int .i64 n, .int .i32 nm] 121)) (EgPost P (W.alloc (.cells #[.int .i32 sg, .int .i64 n, .int .i32 nm] 121)) s' (.int .i64 tr))) : StepC P W ⟨sg, n, nm⟩ go tr s' := by
  unfold StepC
  simp only [tkC]
  have hN := Whole.new W 121 [.int .i32 sg, .int .i64 n, .int .i32 nm]
  have HTT := Lib.hid HT
  generalize P.g = gp at *
  have t0 := hN.cell 0
  clear hN HT
  rcases hs with rfl | rfl | rfl | rfl | rfl | rfl <;>
  · go_enter Try.func72, Try.ntmps72
    go_wp2_with fail
    refine HTT.out.mono ?_
    rintro e w2 ⟨rfl, h2, hf2⟩
    have HP := Lib.hid (EgPost.boxed (show EgPost P _ s' (.int .i64 tr) (.returned (.int .i64 tr)) w2 from ⟨rfl, h2, hf2⟩))
    clear h2 hf2
    go_wp2_with fail
    go_ret
    exact HP.out
set_option maxHeartbeats 8000000 in
set_option maxRecDepth 100000 in
theorem estep_ask {n nm go tr : Int} {s' : EgV} (HT : Calls Try.prog 89 #[.pointer (some ⟨P.g, 0, none⟩), .int .i32 nm] (W.alloc (.cells #[.int .i32 960, .int .i64 n, .int .i32 nm] 121)) (EgPost P (W.alloc (.cells #[.int .i32 960, .int .i64 n, .int .i32 nm] 121)) s' (.int .i64 tr))) : StepC P W ⟨960, n, nm⟩ go tr s' := by
  unfold StepC
  simp only [tkC]
  have hN := Whole.new W 121 [.int .i32 960, .int .i64 n, .int .i32 nm]
  have HTT := Lib.hid HT
  generalize P.g = gp at *
  have t0 := hN.cell 0
  have t2 := hN.cell 2
  clear hN HT
  go_enter Try.func72, Try.ntmps72
  go_wp2_with fail
  refine HTT.out.mono ?_
  rintro e w2 ⟨rfl, h2, hf2⟩
  have HP := Lib.hid (EgPost.boxed (show EgPost P _ s' (.int .i64 tr) (.returned (.int .i64 tr)) w2 from ⟨rfl, h2, hf2⟩))
  clear h2 hf2
  go_wp2_with fail
  go_ret
  exact HP.out
end
end Go.Proofs.Ytnohfdojcdhfoaa
namespace Go.Proofs.Ytnohfdojcdhfoaa
open Go.RowKit
section
variable {P : EP} {W W' : World} {vs vc : Value} {s : EgV}
set_option maxHeartbeats 8000000 in
set_option maxRecDepth 100000 in
theorem estep_dup {x n nm go : Int} (h : Eg P W vs vc s) (hx : s.st.getLast? = some x) (hroom : s.st.length + s.fuel ≤ 2999999) : StepC P W ⟨46, n, nm⟩ go 0 (s.push x) := by
  unfold StepC
  simp only [tkC]
  have hpop : s.pop = some (x, ⟨s.fuel, s.st.dropLast, s.cs, s.L, s.V, s.qs⟩) := by unfold EgV.pop; rw [hx]
  obtain ⟨st, hst, _⟩ := pop_some hpop
  have hN := Whole.new W 121 [.int .i32 46, .int .i64 n, .int .i32 nm]
  have hal : Chg [] W (W.alloc (.cells #[.int .i32 46, .int .i64 n, .int .i32 nm] 121)) := (Chg.refl [] W).alloc _
  have t0 := hN.cell 0
  have HH := Lib.hid h
  have HST := Lib.hid hst
  have HAL := Lib.hid hal
  have HR := Lib.hid hroom
  have hl : st.length ≤ 3000000 := by have hb := h.stkb; rw [hst] at hb; simp at hb; omega
  obtain ⟨gp, hgp⟩ : ∃ gp, gp = P.g := ⟨_, rfl⟩
  have HGP := Lib.hid hgp
  rw [← hgp]
  obtain ⟨s', hs'⟩ : ∃ s', s' = s.push x := ⟨_, rfl⟩
  have HS' := Lib.hid hs'
  rw [← hs']
  clear h hst hal hN hpop hx hgp hs' hroom
  go_enter Try.func72, Try.ntmps72
  go_upto_region 6 with fail
  generalize W.alloc (.cells #[.int .i32 46, .int .i64 n, .int .i32 nm] 121) = w1 at HAL ⊢
  clear t0
  have h1 := HH.out.keep HAL.out
  obtain ⟨gs, c, rfl, hc, hx1⟩ := h1.top HST.out
  have k7 : w1.cell? ⟨gp, 7, none⟩ = some (.slice (some ⟨gs, 0, none⟩) (st.length + 1) c) := by rw [HGP.out]; exact h1.rec_.cell 7
  have HPU := Lib.hid (push_any (h1.keep ((Chg.refl [] w1).drew)) x HR.out)
  rw [← HGP.out, ← HS'.out] at HPU
  clear h1
  generalize st.length = q at *
  have hsub : IntKind.i64.wrap (((q + 1 : Nat) : Int) - 1) = (q : Int) := by rw [IntWalk.i64_in _ (by omega)]; omega
  have hq0 : (0 : Int) ≤ (q : Int) := by omega
  have hq1 : (q : Int) < ((q + 1 : Nat) : Int) := by omega
  have hk1 : IntKind.i64.wrap ((q : Int) + 1 - 1) = (q : Int) := by rw [show (q : Int) + 1 - 1 = (q : Int) from by omega]; exact IntWalk.i64_in _ (by omega)
  have hk2 : IntKind.i64.wrap (q : Int) = (q : Int) := IntWalk.i64_in _ (by omega)
  have hk3 : (q : Int).toNat = q := Int.toNat_natCast _
  have hk5 : (q : Int) < (q : Int) + 1 := by omega
  have d7 : w1.drew.cell? ⟨gp, 7, none⟩ = some (.slice (some ⟨gs, 0, none⟩) (q + 1) c) := k7
  have dx : w1.drew.cell? ⟨gs, q, none⟩ = some (.int .i64 x) := hx1
  go_still_tail 13, (by kernel_rfl)
  change wpList _ _ _ _ _ w1.drew
  go_wp2_with fail
  refine HPU.out.mono ?_
  rintro e w2 ⟨rfl, h2, hf2⟩
  have HP := Lib.hid (show EgPost P W s' (.int .i64 0) (.returned (.int .i64 0)) w2 from ⟨rfl, h2, (Fe.of_chg (HAL.out.drew)).trans hf2⟩)
  clear h2 hf2
  go_wp2_with fail
  go_ret
  exact HP.out
set_option maxHeartbeats 8000000 in
set_option maxRecDepth 100000 in
theorem estep_call {n nm go tr : Int} {s' : EgV} (h : Eg P W vs vc s) (HT : ∀ w1, Chg [] W w1 → Calls Try.prog 88 #[.pointer (some ⟨P.g, 0, none⟩), .int .i64 (findI P.us nm)] w1 (EgPost P w1 s' (.int .i64 tr))) : StepC P W ⟨955, n, nm⟩ go tr s' := by
  unfold StepC
  simp only [tkC]
  have hN := Whole.new W 121 [.int .i32 955, .int .i64 n, .int .i32 nm]
  have hal : Chg [] W (W.alloc (.cells #[.int .i32 955, .int .i64 n, .int .i32 nm] 121)) := (Chg.refl [] W).alloc _
  have t0 := hN.cell 0
  have HH := Lib.hid h
  have HAL := Lib.hid hal
  have HTT := Lib.hid HT
  have HN := Lib.hid hN
  obtain ⟨gp, hgp⟩ : ∃ gp, gp = P.g := ⟨_, rfl⟩
  have HGP := Lib.hid hgp
  rw [← hgp] at HTT ⊢
  clear h hal hN hgp HT
  go_enter Try.func72, Try.ntmps72
  go_upto_region 24 with fail
  generalize hw1 : W.alloc (.cells #[.int .i32 955, .int .i64 n, .int .i32 nm] 121) = w1 at HAL HN t0 ⊢
  have H1 := Lib.hid (HH.out.keep HAL.out)
  have t2 : w1.cell? ⟨W.heap.size, 2, none⟩ = some (.int .i32 nm) := HN.out.cell 2
  have k0 : w1.cell? ⟨gp, 0, none⟩ = some (.int .i64 P.pages) := by rw [HGP.out]; exact H1.out.rec_.cell 0
  have k1 : w1.cell? ⟨gp, 1, none⟩ = some (.int .i64 P.mst) := by rw [HGP.out]; exact H1.out.rec_.cell 1
  have k2 : w1.cell? ⟨gp, 2, none⟩ = some (.slice P.A P.n P.c) := by rw [HGP.out]; exact H1.out.rec_.cell 2
  have HFI := Lib.hid (cfind_any (pages := P.pages) (most := P.mst) (H1.out.keep ((Chg.refl [] w1).drew)).fns nm)
  unfold unitV at HFI
  clear t0 hw1
  generalize W.heap.size = gt at *
  go_region_with (first
    | (go_at_call 49
       refine HFI.out.mono ?_
       rintro e w2 ⟨rfl, hc2⟩
       have HC2 := Lib.hid ((HAL.out.drew).new hc2)
       clear hc2)
    | (go_at_call 88
       refine (HTT.out w2 HC2.out).mono ?_
       rintro e w3 ⟨rfl, h3, hf3⟩
       have HP := Lib.hid (show EgPost P W s' (.int .i64 tr) (.returned (.int .i64 tr)) w3 from ⟨rfl, h3, (Fe.of_chg HC2.out).trans hf3⟩)
       clear h3 hf3))
  all_goals
    go_wp2_with fail
    go_ret
    exact HP.out
set_option maxHeartbeats 8000000 in
set_option maxRecDepth 100000 in
theorem estep_else {sg n nm go tr : Int} {s' : EgV} (hs : sg ≠ 48 ∧ sg ≠ 46 ∧ sg ≠ 44 ∧ sg ≠ 63 ∧ sg ≠ 58 ∧ sg ≠ 59 ∧ sg ≠ 91 ∧ sg ≠ 93 ∧ sg ≠ 126 ∧ sg ≠ 35 ∧ sg ≠ 164 ∧ sg ≠ 64 ∧ sg ≠ 169 ∧ sg ≠ 36 ∧ sg ≠ 174 ∧ sg ≠ 955 ∧ sg ≠ 960 ∧ sg ≠ 161) (HT : Calls Try.prog 90 #[.pointer (some ⟨P.g, 0, none⟩), .int .i32 sg] (W.alloc (.cells #[.int .i32 sg, .int .i64 n, .int .i32 nm] 121)) (EgPost P (W.alloc (.cells #[.int .i32 sg, .int .i64 n, .int .i32 nm] 121)) s' (.int .i64 tr))) : StepC P W ⟨sg, n, nm⟩ go tr s' := by
  unfold StepC
  simp only [tkC]
  have hN := Whole.new W 121 [.int .i32 sg, .int .i64 n, .int .i32 nm]
  have HTT := Lib.hid HT
  generalize P.g = gp at *
  have t0 := hN.cell 0
  obtain ⟨h1, h2, h3, h4, h5, h6, h7, h8, h9, h10, h11, h12, h13, h14, h15, h16, h17, h18⟩ := hs
  have q1 : (sg == 48) = false := by simpa using h1
  have q2 : (sg == 46) = false := by simpa using h2
  have q3 : (sg == 44) = false := by simpa using h3
  have q4 : (sg == 63) = false := by simpa using h4
  have q5 : (sg == 58) = false := by simpa using h5
  have q6 : (sg == 59) = false := by simpa using h6
  have q7 : (sg == 91) = false := by simpa using h7
  have q8 : (sg == 93) = false := by simpa using h8
  have q9 : (sg == 126) = false := by simpa using h9
  have q10 : (sg == 35) = false := by simpa using h10
  have q11 : (sg == 164) = false := by simpa using h11
  have q12 : (sg == 64) = false := by simpa using h12
  have q13 : (sg == 169) = false := by simpa using h13
  have q14 : (sg == 36) = false := by simpa using h14
  have q15 : (sg == 174) = false := by simpa using h15
  have q16 : (sg == 955) = false := by simpa using h16
  have q17 : (sg == 960) = false := by simpa using h17
  have q18 : (sg == 161) = false := by simpa using h18
  clear hN HT h1 h2 h3 h4 h5 h6 h7 h8 h9 h10 h11 h12 h13 h14 h15 h16 h17 h18
  go_enter Try.func72, Try.ntmps72
  go_wp2_with fail
  refine HTT.out.mono ?_
  rintro e w2 ⟨rfl, h2, hf2⟩
  have HP := Lib.hid (EgPost.boxed (show EgPost P _ s' (.int .i64 tr) (.returned (.int .i64 tr)) w2 from ⟨rfl, h2, hf2⟩))
  clear h2 hf2
  go_wp2_with fail
  go_ret
  exact HP.out
/-- A token. -/
theorem estep_any {t : TkV} {go tr : Int} {s' : EgV} (h : Eg P W vs vc s) (hr : eStep P.us P.cd P.rs P.most t go s = some (tr, s')) (hroom : s.st.length + s.fuel ≤ 2999999) (hq : s.qs.length + s.fuel ≤ 899999999) : StepC P W t go tr s' := by
  obtain ⟨sg, n, nm⟩ := t
  have hb := step_boxed (x := ⟨sg, n, nm⟩) h
  simp only at hb
  have fin : ∀ {q : Option EgV}, q.map (fun z => ((0 : Int), z)) = some (tr, s') → q = some s' ∧ tr = 0 := fun {q} hh => by
    cases q with
    | none => cases hh
    | some z => simp only [Option.map_some] at hh; injection hh with hh; injection hh with h1 h2; exact ⟨by rw [h2], h1.symm⟩
  unfold eStep at hr
  simp only at hr
  by_cases c1 : sg = 48
  · subst c1
    rw [if_pos rfl] at hr
    injection hr with hr; injection hr with h1 h2; subst h1; subst h2
    exact estep_num h hroom
  rw [if_neg c1] at hr
  by_cases c2 : sg = 46
  · subst c2
    rw [if_pos rfl] at hr
    cases hx : s.st.getLast? with
    | none => rw [hx] at hr; cases hr
    | some x =>
      rw [hx] at hr
      injection hr with hr; injection hr with h1 h2; subst h1; subst h2
      exact estep_dup h hx hroom
  rw [if_neg c2] at hr
  by_cases c3 : sg = 44
  · subst c3
    rw [if_pos rfl] at hr
    cases hp : s.pop with
    | none => rw [hp] at hr; cases hr
    | some q =>
      rw [hp] at hr
      simp only [Option.map_some] at hr
      injection hr with hr; injection hr with h1 h2; subst h1; subst h2
      exact estep_drop h hp
  rw [if_neg c3] at hr
  by_cases c4 : sg = 63
  · subst c4
    rw [if_pos rfl] at hr
    cases hp : s.pop with
    | none => rw [hp] at hr; cases hr
    | some q =>
      obtain ⟨x, s1⟩ := q
      rw [hp] at hr
      simp only at hr
      have hj : (if x = 0 then s1.jump go else some s1) = some s' ∧ tr = 0 := by
        by_cases hx : x = 0
        · rw [if_pos hx] at hr ⊢
          exact fin hr
        · rw [if_neg hx] at hr ⊢
          injection hr with hr; injection hr with h1 h2
          exact ⟨by rw [h2], h1.symm⟩
      obtain ⟨hj, rfl⟩ := hj
      exact estep_turn (.inl rfl) (turn_ask hb hp hj)
  rw [if_neg c4] at hr
  by_cases c5 : sg = 58 ∨ sg = 93 ∨ sg = 126
  · rw [if_pos c5] at hr
    obtain ⟨hj, rfl⟩ := fin hr
    exact estep_turn (by omega) (turn_go hb hj c5)
  rw [if_neg c5] at hr
  by_cases c6 : sg = 59 ∨ sg = 91
  · rw [if_pos c6] at hr
    injection hr with hr; injection hr with h1 h2; subst h1; subst h2
    exact estep_turn (by omega) (turn_not hb c6)
  rw [if_neg c6] at hr
  by_cases c7 : sg = 35 ∨ sg = 164 ∨ sg = 64 ∨ sg = 169 ∨ sg = 36 ∨ sg = 174
  · rw [if_pos c7] at hr
    exact estep_mem c7 (rem_any c7 hb hr hroom)
  rw [if_neg c7] at hr
  by_cases c8 : sg = 955
  · subst c8
    rw [if_pos rfl] at hr
    refine estep_call h fun w1 hc1 => ?_
    by_cases hd : 32 ≤ s.cs.length
    · rw [if_pos hd] at hr
      injection hr with hr; injection hr with h1 h2; subst h1; subst h2
      exact enter_deep (h.keep hc1) hd _
    · rw [if_neg hd] at hr
      by_cases hf : findI P.us nm < 0
      · rw [if_pos hf] at hr; cases hr
      · rw [if_neg hf] at hr
        obtain ⟨hj, rfl⟩ := fin hr
        have := enter_go (h.keep hc1) hj (by omega)
        rwa [Int.toNat_of_nonneg (by omega)] at this
  rw [if_neg c8] at hr
  by_cases c9 : sg = 960
  · subst c9
    rw [if_pos rfl] at hr
    cases hp : s.pop with
    | none => rw [hp] at hr; cases hr
    | some q =>
      obtain ⟨x, s1⟩ := q
      rw [hp] at hr
      simp only at hr
      have he : askS P.rs nm x s1 = (tr, s') := by
        unfold askS askO
        cases ho : ansR P.rs s1.qs.length with
        | none => rw [ho] at hr; simp only at hr; injection hr
        | some y => rw [ho] at hr; simp only at hr; injection hr
      have := eask_any hb hp nm hq
      rw [he] at this
      exact estep_ask this
  rw [if_neg c9] at hr
  by_cases c10 : sg = 161
  · subst c10
    rw [if_pos rfl] at hr
    injection hr with hr; injection hr with h1 h2; subst h1; subst h2
    exact estep_halt h
  rw [if_neg c10] at hr
  refine estep_else (by omega) ?_
  by_cases l1 : 97 ≤ sg ∧ sg ≤ 122
  · exact reck_low hb l1 hr hroom
  by_cases l2 : 65 ≤ sg ∧ sg ≤ 90
  · exact reck_up hb l2 hr
  · exact reck_word hb l1 l2 hr
end
end Go.Proofs.Ytnohfdojcdhfoaa
namespace Go.Proofs.Ytnohfdojcdhfoaa
open Go.RowKit
theorem reckon_cs {sg tr : Int} {s s1 : EgV} (h : eReckon sg s = some (tr, s1)) : s1.cs.length ≤ s.cs.length + 1 := by
  unfold eReckon at h
  split at h
  · split at h
    · cases h
    · split at h
      · cases h
      · injection h with h; injection h with _ h; subst h; simp [EgV.push]
  · split at h
    · split at h
      · cases h
      · rename_i x s2 hp
        have e := pop_cs hp
        split at h
        · cases h
        · injection h with h; injection h with _ h; subst h
          simp [EgV.calls, e]
    · have hb : ∀ b s2, (if sg = 33 then some ((0 : Int), s) else s.pop) = some (b, s2) → s2.cs = s.cs := fun b s2 hh => by
        by_cases h33 : sg = 33
        · rw [if_pos h33] at hh; injection hh with hh; injection hh with _ hh; subst hh; rfl
        · rw [if_neg h33] at hh; exact pop_cs hh
      generalize (if sg = 33 then some ((0 : Int), s) else s.pop) = q at h hb
      cases q with
      | none => cases h
      | some q =>
        obtain ⟨b, s2⟩ := q
        have e := hb b s2 rfl
        simp only at h
        split at h
        · cases h
        · rename_i a s3 hp
          have e3 := pop_cs hp
          injection h with h; injection h with _ h; subst h
          split
          · show s3.cs.length ≤ _
            rw [e3, e]; omega
          · rw [e3, e]; omega
theorem step_cs {us : List FnV} {cd : List CodeV} {rs : List (Option Int)} {most : Nat} {t : TkV} {v tr : Int} {s s1 : EgV} (h : eStep us cd rs most t v s = some (tr, s1)) : s1.cs.length ≤ s.cs.length + 1 := by
  have fin : ∀ {q : Option EgV}, (∀ z, q = some z → z.cs.length ≤ s.cs.length + 1) → q.map (fun z => ((0 : Int), z)) = some (tr, s1) → s1.cs.length ≤ s.cs.length + 1 := fun {q} hq hh => by
    cases q with
    | none => cases hh
    | some z => simp only [Option.map_some] at hh; injection hh with hh; injection hh with _ hh; subst hh; exact hq z rfl
  unfold eStep at h
  by_cases c1 : t.sign = 48
  · rw [if_pos c1] at h
    injection h with h; injection h with _ h; subst h; simp [EgV.push]
  rw [if_neg c1] at h
  by_cases c2 : t.sign = 46
  · rw [if_pos c2] at h
    split at h
    · cases h
    · injection h with h; injection h with _ h; subst h; simp [EgV.push]
  rw [if_neg c2] at h
  by_cases c3 : t.sign = 44
  · rw [if_pos c3] at h
    cases hp : s.pop with
    | none => rw [hp] at h; cases h
    | some q =>
      obtain ⟨x, s2⟩ := q
      rw [hp] at h
      simp only [Option.map_some] at h
      injection h with h; injection h with _ h; subst h
      rw [pop_cs hp]; omega
  rw [if_neg c3] at h
  by_cases c4 : t.sign = 63
  · rw [if_pos c4] at h
    split at h
    · cases h
    · rename_i x s2 hp
      have e := pop_cs hp
      split at h
      · exact fin (fun z hz => by rw [jump_cs hz, e]; omega) h
      · injection h with h; injection h with _ h; subst h; rw [e]; omega
  rw [if_neg c4] at h
  by_cases c5 : t.sign = 58 ∨ t.sign = 93 ∨ t.sign = 126
  · rw [if_pos c5] at h
    exact fin (fun z hz => by rw [jump_cs hz]; omega) h
  rw [if_neg c5] at h
  by_cases c6 : t.sign = 59 ∨ t.sign = 91
  · rw [if_pos c6] at h
    injection h with h; injection h with _ h; subst h; omega
  rw [if_neg c6] at h
  by_cases c7 : t.sign = 35 ∨ t.sign = 164 ∨ t.sign = 64 ∨ t.sign = 169 ∨ t.sign = 36 ∨ t.sign = 174
  · rw [if_pos c7] at h
    rw [mem_cs h]; omega
  rw [if_neg c7] at h
  by_cases c8 : t.sign = 955
  · rw [if_pos c8] at h
    split at h
    · injection h with h; injection h with _ h; subst h; omega
    · split at h
      · cases h
      · exact fin (fun z hz => by rw [call_cs hz]; omega) h
  rw [if_neg c8] at h
  by_cases c9 : t.sign = 960
  · rw [if_pos c9] at h
    split at h
    · cases h
    · rename_i x s2 hp
      have e := pop_cs hp
      split at h
      · injection h with h; injection h with _ h; subst h; simp [e]
      · injection h with h; injection h with _ h; subst h; simp [e]
  rw [if_neg c9] at h
  by_cases c10 : t.sign = 161
  · rw [if_pos c10] at h
    injection h with h; injection h with _ h; subst h; omega
  · rw [if_neg c10] at h
    exact reckon_cs h
end Go.Proofs.Ytnohfdojcdhfoaa
namespace Go.Proofs.Ytnohfdojcdhfoaa
open Go.RowKit
theorem pop_fu {s s1 : EgV} {x : Int} (h : s.pop = some (x, s1)) : s1.fuel = s.fuel := by
  unfold EgV.pop at h
  split at h
  · cases h
  · injection h with h; injection h with _ h; subst h; rfl
theorem jump_fu {s s1 : EgV} {v : Int} (h : s.jump v = some s1) : s1.fuel = s.fuel := by
  unfold EgV.jump at h
  split at h
  · cases h
  · split at h
    · cases h
    · injection h with h
      subst h
      rfl
theorem call_fu {cd : List CodeV} {k : Nat} {s s1 : EgV} (h : eCall cd k s = some s1) : s1.fuel = s.fuel := by
  unfold eCall at h
  split at h
  · cases h
  · split at h
    · cases h
    · injection h with h
      subst h
      rfl
theorem mem_fu {most : Nat} {sg tr : Int} {s s1 : EgV} (h : eMem most sg s = some (tr, s1)) : s1.fuel = s.fuel := by
  unfold eMem at h
  split at h
  · injection h with h; injection h with _ h; subst h; rfl
  · split at h
    · cases h
    · rename_i x s2 hp
      have e := pop_fu hp
      split at h
      · split at h <;> (injection h with h; injection h with _ h; subst h; exact e)
      · split at h
        · split at h <;> (injection h with h; injection h with _ h; subst h; exact e)
        · split at h
          · cases h
          · rename_i k s3 hp3
            have e3 := pop_fu hp3
            by_cases hc : 0 ≤ k ∧ k + (if sg = 36 then 8 else 1) ≤ (s3.L.length : Int)
            · rw [if_pos hc] at h
              injection h with h; injection h with _ h; subst h; exact e3.trans e
            · rw [if_neg hc] at h
              injection h with h; injection h with _ h; subst h; exact e3.trans e
theorem reckon_fu {sg tr : Int} {s s1 : EgV} (h : eReckon sg s = some (tr, s1)) : s1.fuel = s.fuel := by
  unfold eReckon at h
  split at h
  · split at h
    · cases h
    · split at h
      · cases h
      · injection h with h; injection h with _ h; subst h; rfl
  · split at h
    · split at h
      · cases h
      · rename_i x s2 hp
        have e := pop_fu hp
        split at h
        · cases h
        · injection h with h; injection h with _ h; subst h
          exact e
    · have hb : ∀ b s2, (if sg = 33 then some ((0 : Int), s) else s.pop) = some (b, s2) → s2.fuel = s.fuel := fun b s2 hh => by
        by_cases h33 : sg = 33
        · rw [if_pos h33] at hh; injection hh with hh; injection hh with _ hh; subst hh; rfl
        · rw [if_neg h33] at hh; exact pop_fu hh
      generalize (if sg = 33 then some ((0 : Int), s) else s.pop) = q at h hb
      cases q with
      | none => cases h
      | some q =>
        obtain ⟨b, s2⟩ := q
        have e := hb b s2 rfl
        simp only at h
        split at h
        · cases h
        · rename_i a s3 hp
          have e3 := pop_fu hp
          injection h with h; injection h with _ h; subst h
          split
          · exact e3.trans e
          · exact e3.trans e
theorem step_fu {us : List FnV} {cd : List CodeV} {rs : List (Option Int)} {most : Nat} {t : TkV} {v tr : Int} {s s1 : EgV} (h : eStep us cd rs most t v s = some (tr, s1)) : s1.fuel = s.fuel := by
  have fin : ∀ {q : Option EgV}, (∀ z, q = some z → z.fuel = s.fuel) → q.map (fun z => ((0 : Int), z)) = some (tr, s1) → s1.fuel = s.fuel := fun {q} hq hh => by
    cases q with
    | none => cases hh
    | some z => simp only [Option.map_some] at hh; injection hh with hh; injection hh with _ hh; subst hh; exact hq z rfl
  unfold eStep at h
  by_cases c1 : t.sign = 48
  · rw [if_pos c1] at h
    injection h with h; injection h with _ h; subst h; rfl
  rw [if_neg c1] at h
  by_cases c2 : t.sign = 46
  · rw [if_pos c2] at h
    split at h
    · cases h
    · injection h with h; injection h with _ h; subst h; rfl
  rw [if_neg c2] at h
  by_cases c3 : t.sign = 44
  · rw [if_pos c3] at h
    cases hp : s.pop with
    | none => rw [hp] at h; cases h
    | some q =>
      obtain ⟨x, s2⟩ := q
      rw [hp] at h
      simp only [Option.map_some] at h
      injection h with h; injection h with _ h; subst h
      exact pop_fu hp
  rw [if_neg c3] at h
  by_cases c4 : t.sign = 63
  · rw [if_pos c4] at h
    split at h
    · cases h
    · rename_i x s2 hp
      have e := pop_fu hp
      split at h
      · exact fin (fun z hz => (jump_fu hz).trans e) h
      · injection h with h; injection h with _ h; subst h; exact e
  rw [if_neg c4] at h
  by_cases c5 : t.sign = 58 ∨ t.sign = 93 ∨ t.sign = 126
  · rw [if_pos c5] at h
    exact fin (fun z hz => jump_fu hz) h
  rw [if_neg c5] at h
  by_cases c6 : t.sign = 59 ∨ t.sign = 91
  · rw [if_pos c6] at h
    injection h with h; injection h with _ h; subst h; rfl
  rw [if_neg c6] at h
  by_cases c7 : t.sign = 35 ∨ t.sign = 164 ∨ t.sign = 64 ∨ t.sign = 169 ∨ t.sign = 36 ∨ t.sign = 174
  · rw [if_pos c7] at h
    exact mem_fu h
  rw [if_neg c7] at h
  by_cases c8 : t.sign = 955
  · rw [if_pos c8] at h
    split at h
    · injection h with h; injection h with _ h; subst h; rfl
    · split at h
      · cases h
      · exact fin (fun z hz => call_fu hz) h
  rw [if_neg c8] at h
  by_cases c9 : t.sign = 960
  · rw [if_pos c9] at h
    split at h
    · cases h
    · rename_i x s2 hp
      have e := pop_fu hp
      split at h
      · injection h with h; injection h with _ h; subst h; exact e
      · injection h with h; injection h with _ h; subst h; exact e
  rw [if_neg c9] at h
  by_cases c10 : t.sign = 161
  · rw [if_pos c10] at h
    injection h with h; injection h with _ h; subst h; rfl
  · rw [if_neg c10] at h
    exact reckon_fu h
/-- One turn of the loop: stuck, at its end, or on. -/
inductive OneR where
  | stuck
  | stop (r : Int × EgV)
  | on (s : EgV)
def eOne (us : List FnV) (cd : List CodeV) (rs : List (Option Int)) (most : Nat) (s : EgV) : OneR := match s.cs.getLast? with
  | none => .stop (0, s)
  | some c => match cd[c.fn]? with
    | none => .stuck
    | some f => if c.next = f.ts.length then .on (s.calls s.cs.dropLast)
      else if s.fuel = 0 then .stop (1, s)
      else match f.ts[c.next]?, f.go[c.next]? with
        | some t, some go => (match eStep us cd rs most t go ⟨s.fuel - 1, s.st, s.cs.dropLast ++ [c.at_ (c.next + 1)], s.L, s.V, s.qs⟩ with
          | none => .stuck
          | some (trap, s') => if trap = 0 then .on s' else .stop (trap, s'))
        | _, _ => .stuck
theorem eRun_one {us : List FnV} {cd : List CodeV} {rs : List (Option Int)} {most n : Nat} {s : EgV} : eRun us cd rs most (n + 1) s = match eOne us cd rs most s with
    | .stuck => none
    | .stop r => some r
    | .on s' => eRun us cd rs most n s' := by
  rw [eRun, eOne]
  cases hc : s.cs.getLast? with
  | none => rfl
  | some c =>
    simp only
    cases hf : cd[c.fn]? with
    | none => rfl
    | some f =>
      simp only
      by_cases h1 : c.next = f.ts.length
      · rw [if_pos h1, if_pos h1]
      rw [if_neg h1, if_neg h1]
      by_cases h2 : s.fuel = 0
      · rw [if_pos h2, if_pos h2]
      rw [if_neg h2, if_neg h2]
      cases ht : f.ts[c.next]? with
      | none => rfl
      | some t =>
        cases hg : f.go[c.next]? with
        | none => rfl
        | some go =>
          simp only
          cases hs : eStep us cd rs most t go ⟨s.fuel - 1, s.st, s.cs.dropLast ++ [c.at_ (c.next + 1)], s.L, s.V, s.qs⟩ with
          | none => rfl
          | some q =>
            obtain ⟨tr, s'⟩ := q
            simp only
            by_cases h3 : tr = 0
            · rw [if_pos h3, if_pos h3]
            · rw [if_neg h3, if_neg h3]
theorem eOne_less {us : List FnV} {cd : List CodeV} {rs : List (Option Int)} {most : Nat} {s s' : EgV} (h : eOne us cd rs most s = .on s') : 2 * s'.fuel + s'.cs.length < 2 * s.fuel + s.cs.length := by
  unfold eOne at h
  split at h
  · cases h
  · rename_i c hc
    have hcl : 0 < s.cs.length := List.length_pos_iff.2 (fun e => by rw [e] at hc; simp at hc)
    split at h
    · cases h
    · split at h
      · injection h with h
        subst h
        simp [EgV.calls]
        omega
      · split at h
        · cases h
        · rename_i hf0
          split at h
          · split at h
            · cases h
            · rename_i tr s2 hs
              split at h
              · injection h with h
                subst h
                have e1 := step_fu hs
                have e2 := step_cs hs
                simp only [List.length_append, List.length_dropLast, List.length_singleton] at e1 e2
                omega
              · cases h
          · cases h
/-- From s one comes to the end r. -/
inductive Rn (us : List FnV) (cd : List CodeV) (rs : List (Option Int)) (most : Nat) : EgV → Int × EgV → Prop
  | stop {s : EgV} {r : Int × EgV} : eOne us cd rs most s = .stop r → Rn us cd rs most s r
  | on {s s' : EgV} {r : Int × EgV} : eOne us cd rs most s = .on s' → Rn us cd rs most s' r → Rn us cd rs most s r
theorem Rn.run {us : List FnV} {cd : List CodeV} {rs : List (Option Int)} {most : Nat} {s : EgV} {r : Int × EgV} (h : Rn us cd rs most s r) : ∀ n, 2 * s.fuel + s.cs.length < n → eRun us cd rs most n s = some r := by
  induction h with
  | stop h =>
    intro n hn
    obtain ⟨m, rfl⟩ : ∃ m, n = m + 1 := ⟨n - 1, by omega⟩
    rw [eRun_one, h]
  | on h _ ih =>
    intro n hn
    obtain ⟨m, rfl⟩ : ∃ m, n = m + 1 := ⟨n - 1, by omega⟩
    rw [eRun_one, h]
    exact ih m (by have := eOne_less h; omega)
theorem Rn.of_run {us : List FnV} {cd : List CodeV} {rs : List (Option Int)} {most : Nat} : ∀ (n : Nat) {s : EgV} {r : Int × EgV}, eRun us cd rs most n s = some r → Rn us cd rs most s r
  | 0, s, r, h => by rw [eRun] at h; cases h
  | n + 1, s, r, h => by
    rw [eRun_one] at h
    cases h1 : eOne us cd rs most s with
    | stuck => rw [h1] at h; cases h
    | stop q => rw [h1] at h; injection h with h; subst h; exact .stop h1
    | on s' => rw [h1] at h; exact .on h1 (Rn.of_run n h)
end Go.Proofs.Ytnohfdojcdhfoaa
namespace Go.Proofs.Ytnohfdojcdhfoaa
open Go.RowKit
theorem one_cases {P : EP} {s : EgV} {r : Int × EgV} (h : Rn P.us P.cd P.rs P.most s r) : (s.cs = [] ∧ r = (0, s)) ∨ ∃ ys c x, s.cs = ys ++ [c] ∧ P.xs[c.fn]? = some x ∧
    ((c.next = x.c.ts.length ∧ Rn P.us P.cd P.rs P.most (s.calls ys) r) ∨ (c.next ≠ x.c.ts.length ∧ s.fuel = 0 ∧ r = (1, s)) ∨
      (c.next ≠ x.c.ts.length ∧ s.fuel ≠ 0 ∧ ∃ t go tr s3, x.c.ts[c.next]? = some t ∧ x.c.go[c.next]? = some go ∧ eStep P.us P.cd P.rs P.most t go ⟨s.fuel - 1, s.st, ys ++ [c.at_ (c.next + 1)], s.L, s.V, s.qs⟩ = some (tr, s3) ∧
        ((tr = 0 ∧ Rn P.us P.cd P.rs P.most s3 r) ∨ (tr ≠ 0 ∧ r = (tr, s3))))) := by
  have key : ∀ R, eOne P.us P.cd P.rs P.most s = R → (R = .stop r ∨ ∃ s', R = .on s' ∧ Rn P.us P.cd P.rs P.most s' r) → (s.cs = [] ∧ r = (0, s)) ∨ ∃ ys c x, s.cs = ys ++ [c] ∧ P.xs[c.fn]? = some x ∧
    ((c.next = x.c.ts.length ∧ Rn P.us P.cd P.rs P.most (s.calls ys) r) ∨ (c.next ≠ x.c.ts.length ∧ s.fuel = 0 ∧ r = (1, s)) ∨
      (c.next ≠ x.c.ts.length ∧ s.fuel ≠ 0 ∧ ∃ t go tr s3, x.c.ts[c.next]? = some t ∧ x.c.go[c.next]? = some go ∧ eStep P.us P.cd P.rs P.most t go ⟨s.fuel - 1, s.st, ys ++ [c.at_ (c.next + 1)], s.L, s.V, s.qs⟩ = some (tr, s3) ∧
        ((tr = 0 ∧ Rn P.us P.cd P.rs P.most s3 r) ∨ (tr ≠ 0 ∧ r = (tr, s3))))) := by
    intro R hR hq
    unfold eOne at hR
    cases hl : s.cs.getLast? with
    | none =>
      rw [hl] at hR
      simp only at hR
      subst hR
      refine .inl ⟨by simpa using hl, ?_⟩
      rcases hq with hq | ⟨s', hq, _⟩
      · injection hq with hq; exact hq.symm
      · cases hq
    | some c =>
      obtain ⟨ys, hcs, hdl⟩ := last_some hl
      rw [hl, hdl] at hR
      simp only at hR
      unfold EP.cd at hR
      rw [List.getElem?_map] at hR
      cases hx : P.xs[c.fn]? with
      | none =>
        rw [hx] at hR
        simp only [Option.map_none] at hR
        subst hR
        rcases hq with hq | ⟨s', hq, _⟩ <;> cases hq
      | some x =>
        rw [hx] at hR
        simp only [Option.map_some] at hR
        refine .inr ⟨ys, c, x, hcs, hx, ?_⟩
        by_cases h1 : c.next = x.c.ts.length
        · rw [if_pos h1] at hR
          subst hR
          rcases hq with hq | ⟨s', hq, hs'⟩
          · cases hq
          · injection hq with hq; subst hq; exact .inl ⟨h1, hs'⟩
        rw [if_neg h1] at hR
        by_cases h2 : s.fuel = 0
        · rw [if_pos h2] at hR
          subst hR
          rcases hq with hq | ⟨s', hq, hs'⟩
          · injection hq with hq; exact .inr (.inl ⟨h1, h2, hq.symm⟩)
          · cases hq
        rw [if_neg h2] at hR
        cases ht : x.c.ts[c.next]? with
        | none =>
          rw [ht] at hR
          simp only at hR
          subst hR
          rcases hq with hq | ⟨s', hq, _⟩ <;> cases hq
        | some t =>
          cases hg : x.c.go[c.next]? with
          | none =>
            rw [ht, hg] at hR
            simp only at hR
            subst hR
            rcases hq with hq | ⟨s', hq, _⟩ <;> cases hq
          | some go =>
            rw [ht, hg] at hR
            simp only at hR
            have hcd : List.map (fun x => x.c) P.xs = P.cd := rfl
            rw [hcd] at hR
            cases hs : eStep P.us P.cd P.rs P.most t go ⟨s.fuel - 1, s.st, ys ++ [c.at_ (c.next + 1)], s.L, s.V, s.qs⟩ with
            | none =>
              rw [hs] at hR
              simp only at hR
              subst hR
              rcases hq with hq | ⟨s', hq, _⟩ <;> cases hq
            | some q =>
              obtain ⟨tr, s3⟩ := q
              rw [hs] at hR
              simp only at hR
              refine .inr (.inr ⟨h1, h2, t, go, tr, s3, rfl, rfl, hs, ?_⟩)
              by_cases h3 : tr = 0
              · rw [if_pos h3] at hR
                subst hR
                rcases hq with hq | ⟨s', hq, hs'⟩
                · cases hq
                · injection hq with hq; subst hq; exact .inl ⟨h3, hs'⟩
              · rw [if_neg h3] at hR
                subst hR
                rcases hq with hq | ⟨s', hq, hs'⟩
                · injection hq with hq; exact .inr ⟨h3, hq.symm⟩
                · cases hq
  cases h with
  | stop h => exact key _ h (.inl rfl)
  | on h h2 => exact key _ h (.inr ⟨_, rfl, h2⟩)
/-- What the loop's measure reads. -/
def runM (g : Nat) (w : World) : Nat := (match w.cell? ⟨g, 6, none⟩ with | some (.int _ f) => 2 * f.toNat | _ => 0) + (match w.cell? ⟨g, 8, none⟩ with | some (.slice _ n _) => n | _ => 0)
section
variable {P : EP} {W W' : World} {vs vc : Value} {s : EgV}
theorem Eg.runM (h : Eg P W vs vc s) : runM P.g W = 2 * s.fuel + s.cs.length := by
  obtain ⟨A, n, c, rfl, hn, _⟩ := h.cslice
  have k6 : W.cell? ⟨P.g, 6, none⟩ = some (.int .i64 (s.fuel : Int)) := h.rec_.cell 6
  have k8 : W.cell? ⟨P.g, 8, none⟩ = some (.slice A n c) := h.rec_.cell 8
  unfold Go.Proofs.Ytnohfdojcdhfoaa.runM
  rw [k6, k8]
  simp only [Int.toNat_natCast]
  omega
/-- The last call is taken away. -/
theorem Eg.back (h : Eg P W vs vc s) {ys : List CallV} {c : CallV} (hcs : s.cs = ys ++ [c]) {g cap : Nat} (hv : vc = .slice (some ⟨g, 0, none⟩) (ys.length + 1) cap) {W2 : World} (hc : Chg [] W W2) :
    Eg P (W2.setCell ⟨P.g, 8, none⟩ (.slice (some ⟨g, 0, none⟩) ys.length cap)) vs (.slice (some ⟨g, 0, none⟩) ys.length cap) (s.calls ys) ∧ Fe P.K egT W (W2.setCell ⟨P.g, 8, none⟩ (.slice (some ⟨g, 0, none⟩) ys.length cap)) := by
  subst hv
  have h2 := h.keep hc
  have hloc := h.loc
  rw [hcs] at hloc
  have ho := h2.cal
  rw [hcs, show (ys ++ [c]).length = ys.length + 1 from by simp] at ho
  have ht := rown_take (q' := ys.length) ho (by omega) (by simp)
  rw [clCs_app, List.take_left' (by rw [clCs_len (Loc26.app.1 hloc).1])] at ht
  have hf : Fe P.K eg3 W (W2.setCell ⟨P.g, 8, none⟩ (.slice (some ⟨g, 0, none⟩) ys.length cap)) := (Fe.of_chg hc).setw h2.rec_ h.kg (by simp [eg3]) _
  exact ⟨h.upd hf eg3_is (h2.rec_.set_ 8 _) (rown_lay h2.stk h2.rec_ (by decide)) (rown_lay ht h2.rec_ (by decide)) (Loc26.app.1 hloc).1 (Nat.le_refl _) h.stkb (by have := h.calb; rw [hcs] at this; simp at this; omega), hf.sub eg3_sub⟩
/-- The fuel. -/
theorem Eg.burn (h : Eg P W vs vc s) (hf0 : s.fuel ≠ 0) : Eg P (W.setCell ⟨P.g, 6, none⟩ (.int .i64 ((s.fuel : Int) - 1))) vs vc ⟨s.fuel - 1, s.st, s.cs, s.L, s.V, s.qs⟩ ∧ Fe P.K egT W (W.setCell ⟨P.g, 6, none⟩ (.int .i64 ((s.fuel : Int) - 1))) := by
  have hf : Fe P.K eg3 W (W.setCell ⟨P.g, 6, none⟩ (.int .i64 ((s.fuel : Int) - 1))) := (Fe.refl _ _ _).setw h.rec_ h.kg (by simp [eg3]) _
  refine ⟨h.upd hf eg3_is ?_ (rown_lay h.stk h.rec_ (by decide)) (rown_lay h.cal h.rec_ (by decide)) h.loc (by omega) (by have := h.stkb; omega) h.calb, hf.sub eg3_sub⟩
  have := h.rec_.set_ 6 (.int .i64 ((s.fuel : Int) - 1))
  rw [show (s.fuel : Int) - 1 = ((s.fuel - 1 : Nat) : Int) from by omega] at this ⊢
  exact this
end
end Go.Proofs.Ytnohfdojcdhfoaa
namespace Go.Proofs.Ytnohfdojcdhfoaa
open Go.RowKit
section
variable {P : EP} {W W' : World} {vs vc : Value} {s : EgV}
set_option maxHeartbeats 16000000 in
set_option maxRecDepth 100000 in
theorem erun_any {tr : Int} {s' : EgV} (h : Eg P W vs vc s) (hr : Rn P.us P.cd P.rs P.most s (tr, s')) : Calls Try.prog 52 #[.pointer (some ⟨P.g, 0, none⟩)] W (EgPost P W s' (.int .i64 tr)) := by
  obtain ⟨gp, hgp⟩ : ∃ gp, gp = P.g := ⟨_, rfl⟩
  have HGP := Lib.hid hgp
  rw [← hgp]
  have H0 := Lib.hid h
  have HR0 := Lib.hid hr
  clear h hr hgp
  go_enter Try.func52, Try.ntmps52
  go_wp2_with fail
  go_loopw [] (fun wr => ∃ s2 vs2 vc2, Hid (Eg P wr vs2 vc2 s2) ∧ Hid (Rn P.us P.cd P.rs P.most s2 (tr, s')) ∧ Hid (Fe P.K egT W wr)) (fun wr => runM gp wr)
  case atStart => exact ⟨s, vs, vc, H0, HR0, Lib.hid (Fe.refl _ _ _)⟩
  case round =>
    obtain ⟨s2, vs2, vc2, H2, HR2, HF2⟩ := hrel
    have HM := Lib.hid (show runM gp wr = 2 * s2.fuel + s2.cs.length from by rw [HGP.out]; exact H2.out.runM)
    obtain ⟨A8, n8, c8, hv8, hn8, _⟩ := H2.out.cslice
    have k8 : wr.cell? ⟨gp, 8, none⟩ = some (.slice A8 n8 c8) := by rw [HGP.out, ← hv8]; exact H2.out.rec_.cell 8
    rcases one_cases HR2.out with ⟨hcs, hr⟩ | ⟨ys, c, x, hcs, hx, hway⟩
    · have h0 : n8 = 0 := by rw [hn8, hcs]; rfl
      subst h0
      injection hr with hr1 hr2
      have HP := Lib.hid (show EgPost P W s' (.int .i64 tr) (.returned (.int .i64 0)) wr from by rw [hr1, hr2]; exact ⟨rfl, ⟨_, _, H2.out⟩, HF2.out⟩)
      clear hr1 hr2 hcs hn8 hv8
      go_wp2_with fail
      go_ret
      exact HP.out
    · clear k8 hv8 hn8
      obtain ⟨gc, cap, hv, hcap, hk, hlen, hcell, hfro⟩ := H2.out.cur hcs
      obtain ⟨k, hkk⟩ : ∃ k, k = ys.length := ⟨_, rfl⟩
      rw [← hkk] at hv hcap hk
      have HK := Lib.hid hkk
      have HV := Lib.hid hv
      have HCS := Lib.hid hcs
      have HX := Lib.hid hx
      have HLEN := Lib.hid hlen
      have k8 : wr.cell? ⟨gp, 8, none⟩ = some (.slice (some ⟨gc, 0, none⟩) (k + 1) cap) := by rw [HGP.out, ← hv]; exact H2.out.rec_.cell 8
      have HNOW := Lib.hid (now_any H2.out hv hk)
      rw [← HGP.out] at HNOW
      have c0 : wr.cell? ⟨gc, k * 28, none⟩ = some (.int .i64 (c.fn : Int)) := by rw [hkk]; exact hcell 0 _ rfl
      have c1 : wr.cell? ⟨gc, k * 28 + 1, none⟩ = some (.int .i64 (c.next : Int)) := by rw [hkk]; exact hcell 1 _ rfl
      clear hcell hfro hkk hv hcs hx
      go_wp2_with fail
      refine HNOW.out.mono ?_
      rintro e w1 ⟨rfl, hc1⟩
      have H3 := Lib.hid (H2.out.keep hc1)
      have HC1 := Lib.hid hc1
      have d0 := cell_keep c0 hc1
      have d1 := cell_keep c1 hc1
      have d8 := cell_keep k8 hc1
      clear hc1 c0 c1 k8 HNOW
      have d3 : w1.cell? ⟨gp, 3, none⟩ = some P.cv := by rw [HGP.out]; exact H3.out.rec_.cell 3
      obtain ⟨Av, cv, hcv, _⟩ := rown_slice H3.out.cod.own
      have hkx : c.fn < P.xs.length := (List.getElem?_eq_some_iff.1 HX.out).1
      have hx32 := H3.out.cod.lenb
      obtain ⟨gv, rfl, e0⟩ := rown_cell H3.out.cod.own hcv ((cdCs_get P.xs c.fn x 0 HX.out (by omega)).trans rfl)
      obtain ⟨_, hq, e1⟩ := rown_cell H3.out.cod.own hcv ((cdCs_get P.xs c.fn x 1 HX.out (by omega)).trans rfl)
      injection hq with hq; injection hq with hq; subst hq
      obtain ⟨_, hq, e2⟩ := rown_cell H3.out.cod.own hcv ((cdCs_get P.xs c.fn x 2 HX.out (by omega)).trans rfl)
      injection hq with hq; injection hq with hq; subst hq
      rw [Nat.add_zero] at e0
      rw [hcv] at d3
      have hmem : x ∈ P.xs := List.mem_of_getElem? HX.out
      have htok := H3.out.cod.toks x hmem
      have hgo := H3.out.cod.gos x hmem
      obtain ⟨hts, hgl⟩ := H3.out.cod.few x hmem
      obtain ⟨At, ct, htv, htc, _⟩ := rown_slice htok
      obtain ⟨Ag, cg, hgv, hgc, _⟩ := rown_slice hgo
      rw [htv] at e1
      rw [hgv] at e2
      have HTOK := Lib.hid htok
      have HGO := Lib.hid hgo
      have HTV := Lib.hid htv
      have HGV := Lib.hid hgv
      have HGL := Lib.hid hgl
      generalize hnt : x.c.ts.length = nt at e1 htc hts hway
      generalize hng : x.c.go.length = ng at e2 hgc
      have HNT := Lib.hid hnt
      have HNG := Lib.hid hng
      have hngt : ng = nt := by rw [← hng, ← hnt]; exact hgl
      subst hngt
      generalize hfn : c.fn = fn at d0 e0 e1 e2 hkx
      have HFN := Lib.hid hfn
      generalize hnx : c.next = nx at d1 hway
      have HNX := Lib.hid hnx
      generalize P.xs.length = np at *
      generalize (x.c.args : Int) = xa at e0
      clear hcv hmem htok hgo htv hgv hgl hnt hng hfn hnx
      have hfn0 : (0 : Int) ≤ (fn : Int) := by omega
      have hfn1 : (fn : Int) < (np : Int) := by omega
      go_wp2_with fail
      have hal := (Chg.refl [] w1).alloc (.cells #[.int .i64 0, .slice none 0 0, .slice none 0 0] 113)
      have q0 := cell_keep d0 hal
      have q3 := cell_keep d3 hal
      have p0 := cell_keep e0 hal
      have p1 := cell_keep e1 hal
      have p2 := cell_keep e2 hal
      go_region
      have hX := (Whole.new w1 113 [.int .i64 xa, .slice At ng ct, .slice Ag ng cg]).drew
      have hc2 := ((Chg.refl [] w1).alloc (.cells #[.int .i64 xa, .slice At ng ct, .slice Ag ng cg] 113)).drew
      obtain ⟨g4, hg4⟩ : ∃ g4, g4 = w1.heap.size := ⟨_, rfl⟩
      rw [← hg4] at hX ⊢
      have HG4 := Lib.hid (show P.g < g4 from by rw [hg4]; exact H3.out.rec_.lt)
      generalize (w1.alloc (.cells #[.int .i64 xa, .slice At ng ct, .slice Ag ng cg] 113)).drew = w2 at hX hc2 ⊢
      have H4 := Lib.hid (H3.out.keep hc2)
      have HX4 := Lib.hid hX
      have HC2 := Lib.hid (HC1.out.new hc2)
      have c1 := cell_keep d1 hc2
      have c8 := cell_keep d8 hc2
      clear d0 d1 d3 d8 e0 e1 e2 q0 q3 p0 p1 p2 hal hX hc2 hg4 H3 HC1
      have x1 := HX4.out.cell 1
      have x2 := HX4.out.cell 2
      rcases hway with ⟨hnn, hr⟩ | ⟨hnn, hf0, hr⟩ | ⟨hnn, hf0, t, go, tr1, s3, ht, hg, hst, hend⟩
      · subst hnn
        have HRN := Lib.hid hr
        clear hr
        go_wp2_with fail
        go_quiet (fail)
        have hc3 : Chg [] w2 (w2.drewN nq) := (Chg.refl [] w2).drewN nq
        generalize w2.drewN nq = w3 at hc3 ⊢
        have H5 := Lib.hid (H4.out.keep hc3)
        have HC3 := Lib.hid (HC2.out.new hc3)
        have b8 := cell_keep c8 hc3
        clear hc3 c1 c8 x1 x2 H4 HX4 HC2
        have f8 : w3.frozen? ⟨gp, 8, none⟩ = false := by rw [HGP.out]; exact H5.out.rec_.frozen 8
        have hkI : IntKind.i64.wrap ((k : Int) + 1 - 1) = (k : Int) := by rw [show (k : Int) + 1 - 1 = (k : Int) from by omega]; exact IntWalk.i64_in _ (by omega)
        have hk2 : IntKind.i64.wrap (k : Int) = (k : Int) := IntWalk.i64_in _ (by omega)
        have hk3 : (k : Int).toNat = k := Int.toNat_natCast _
        have hk5 : (k : Int) ≤ (cap : Int) := by omega
        have hk6 : (0 : Int) ≤ (k : Int) := by omega
        have hk7 : k ≤ cap := by omega
        have b8d : w3.drew.cell? ⟨gp, 8, none⟩ = some (.slice (some ⟨gc, 0, none⟩) (k + 1) cap) := b8
        have f8d : w3.drew.frozen? ⟨gp, 8, none⟩ = false := f8
        have HB := Lib.hid (show Eg P (w3.drew.setCell ⟨gp, 8, none⟩ (.slice (some ⟨gc, 0, none⟩) k cap)) vs2 (.slice (some ⟨gc, 0, none⟩) k cap) (s2.calls ys) ∧ Fe P.K egT w3 (w3.drew.setCell ⟨gp, 8, none⟩ (.slice (some ⟨gc, 0, none⟩) k cap)) from by
          have := H5.out.back HCS.out (by rw [← HK.out]; exact HV.out) ((Chg.refl [] w3).drew)
          rw [← HK.out] at this
          rw [HGP.out]
          exact this)
        go_wp2_with fail
        go_still_tail 14, (by kernel_rfl)
        change wpList _ _ _ _ _ w3.drew
        go_wp2_with fail
        go_roundw
        case rel => exact ⟨_, _, _, Lib.hid HB.out.1, HRN, Lib.hid ((HF2.out.new HC3.out).trans HB.out.2)⟩
        case measure =>
          have := HB.out.1.runM
          rw [← HGP.out] at this
          change runM gp (w3.drew.setCell ⟨gp, 8, none⟩ (.slice (some ⟨gc, 0, none⟩) k cap)) < runM gp wr
          rw [this, HM.out]
          show 2 * s2.fuel + ys.length < _
          rw [HCS.out]
          simp
      · have hne : ((nx : Int) == (ng : Int)) = false := by simp; omega
        injection hr with hr1 hr2
        have HR := Lib.hid (And.intro hr1 hr2)
        clear hnn hr1 hr2
        go_wp2_with fail
        go_quiet (fail)
        have hc3 : Chg [] w2 (w2.drewN nq) := (Chg.refl [] w2).drewN nq
        generalize w2.drewN nq = w3 at hc3 ⊢
        have H5 := Lib.hid (H4.out.keep hc3)
        have HC3 := Lib.hid (HC2.out.new hc3)
        clear hc3 c1 c8 x1 x2 H4 HX4 HC2
        have b6 : w3.cell? ⟨gp, 6, none⟩ = some (.int .i64 0) := by rw [HGP.out]; have := H5.out.rec_.cell 6; rw [this]; unfold wkC; rw [hf0]; rfl
        have HP := Lib.hid (show EgPost P W s' (.int .i64 tr) (.returned (.int .i64 1)) w3 from by rw [HR.out.1, HR.out.2]; exact ⟨rfl, ⟨_, _, H5.out⟩, HF2.out.new HC3.out⟩)
        clear hf0
        go_wp2_with fail
        go_ret
        exact HP.out
      · have hne : ((nx : Int) == (ng : Int)) = false := by simp; omega
        have hlt : nx < ng := by rw [← HNT.out]; exact (List.getElem?_eq_some_iff.1 ht).1
        clear hnn
        go_wp2_with fail
        go_quiet (fail)
        have hc3 : Chg [] w2 (w2.drewN nq) := (Chg.refl [] w2).drewN nq
        generalize w2.drewN nq = w3 at hc3 ⊢
        have H5 := Lib.hid (H4.out.keep hc3)
        have HC3 := Lib.hid (HC2.out.new hc3)
        have HX5 := Lib.hid (HX4.out.keep hc3)
        clear hc3 c1 c8 x1 x2 H4 HX4 HC2
        have hfb := H5.out.fuelb
        have HBU := Lib.hid (H5.out.burn hf0)
        have b6 : w3.cell? ⟨gp, 6, none⟩ = some (.int .i64 (s2.fuel : Int)) := by rw [HGP.out]; exact H5.out.rec_.cell 6
        have f6 : w3.frozen? ⟨gp, 6, none⟩ = false := by rw [HGP.out]; exact H5.out.rec_.frozen 6
        obtain ⟨fu, hfu⟩ : ∃ fu, fu = s2.fuel := ⟨_, rfl⟩
        rw [← hfu] at b6 hf0 hfb
        have HFU := Lib.hid hfu
        have hz : ((fu : Int) == 0) = false := by simp; omega
        have hw6 : IntKind.i64.wrap ((fu : Int) - 1) = (fu : Int) - 1 := IntWalk.i64_in _ (by omega)
        rw [← HGP.out, ← hfu] at HBU
        clear hfu
        go_upto_region 9 with fail
        have HX6 := Lib.hid (HX5.out.far (p := ⟨gp, 6, none⟩) (by have := HG4.out; have := HGP.out; simp only; omega) (.int .i64 ((fu : Int) - 1)))
        generalize w3.setCell ⟨gp, 6, none⟩ (.int .i64 ((fu : Int) - 1)) = w4 at HBU HX6 ⊢
        have H6 := Lib.hid HBU.out.1
        have HF6 := Lib.hid ((HF2.out.new HC3.out).trans HBU.out.2)
        clear b6 f6 HBU HX5 H5 HC3
        obtain ⟨_, _, hvv, _, _, _, hcell, hfro⟩ := H6.out.cur (ys := ys) (c := c) HCS.out
        rw [HV.out] at hvv
        injection hvv with hvv _ _; injection hvv with hvv; injection hvv with hvv
        subst hvv
        have d1 : w4.cell? ⟨gc, k * 28 + 1, none⟩ = some (.int .i64 (nx : Int)) := by rw [HK.out, ← HNX.out]; exact hcell 1 _ rfl
        clear hcell hfro
        have hmem : x ∈ P.xs := List.mem_of_getElem? HX.out
        have htok := H6.out.cod.toks x hmem
        have hgo := H6.out.cod.gos x hmem
        rw [HTV.out, HNT.out] at htok
        rw [HGV.out, HNG.out] at hgo
        obtain ⟨tsg, tn, tnm⟩ := t
        obtain ⟨gt, rfl, y0⟩ := rown_cell htok rfl ((tkCs_get x.c.ts nx ⟨tsg, tn, tnm⟩ 0 ht (by omega)).trans (show (tkC ⟨tsg, tn, tnm⟩)[0]? = some (.int .i32 tsg) from rfl))
        obtain ⟨_, hq, y1⟩ := rown_cell htok rfl ((tkCs_get x.c.ts nx ⟨tsg, tn, tnm⟩ 1 ht (by omega)).trans (show (tkC ⟨tsg, tn, tnm⟩)[1]? = some (.int .i64 tn) from rfl))
        injection hq with hq; injection hq with hq; subst hq
        obtain ⟨_, hq, y2⟩ := rown_cell htok rfl ((tkCs_get x.c.ts nx ⟨tsg, tn, tnm⟩ 2 ht (by omega)).trans (show (tkC ⟨tsg, tn, tnm⟩)[2]? = some (.int .i32 tnm) from rfl))
        injection hq with hq; injection hq with hq; subst hq
        obtain ⟨gg, rfl, z0⟩ := rown_cell (j := nx) (u := .int .i64 go) hgo rfl (by simp [nms, hg])
        rw [Nat.add_zero] at y0
        have x1 := HX6.out.cell 1
        have x2 := HX6.out.cell 2
        have hal := (Chg.refl [] w4).alloc (.cells #[.int .i32 0, .int .i64 0, .int .i32 0] 121)
        have q1 := cell_keep d1 hal
        have q2 := cell_keep (show w4.cell? ⟨g4, 1, none⟩ = some (.slice (some ⟨gt, 0, none⟩) ng ct) from x1) hal
        have q3 := cell_keep (show w4.cell? ⟨g4, 2, none⟩ = some (.slice (some ⟨gg, 0, none⟩) ng cg) from x2) hal
        have p0 := cell_keep y0 hal
        have p1 := cell_keep y1 hal
        have p2 := cell_keep y2 hal
        have p3 := cell_keep z0 hal
        have hal2 := (Chg.refl [] w4).alloc (.cells #[.int .i32 tsg, .int .i64 tn, .int .i32 tnm] 121)
        have v1 := cell_keep d1 hal2
        have v2 := cell_keep (show w4.cell? ⟨g4, 1, none⟩ = some (.slice (some ⟨gt, 0, none⟩) ng ct) from x1) hal2
        have v3 := cell_keep (show w4.cell? ⟨g4, 2, none⟩ = some (.slice (some ⟨gg, 0, none⟩) ng cg) from x2) hal2
        have v4 := cell_keep z0 hal2
        have hn0 : (0 : Int) ≤ (nx : Int) := by omega
        have hn1 : (nx : Int) < (ng : Int) := by omega
        have HT := Lib.hid ht
        have HG := Lib.hid hg
        clear htok hgo hmem hlt ht hg
        obtain ⟨g5, hg5⟩ : ∃ g5, g5 = w4.heap.size := ⟨_, rfl⟩
        have HG5 := Lib.hid (show gc < g5 from by rw [hg5]; have := block_lt_of_cell d1; simpa using this)
        have HREL := Lib.hid (show ∃ g5, Value.pointer (some ⟨w4.heap.size, 0, none⟩) = .pointer (some ⟨g5, 0, none⟩) ∧ Value.int .i64 go = .int .i64 go ∧ gc < g5 ∧ Hid (Chg [] w4 (w4.alloc (.cells #[.int .i32 tsg, .int .i64 tn, .int .i32 tnm] 121)).drew) ∧ Hid (Whole (w4.alloc (.cells #[.int .i32 tsg, .int .i64 tn, .int .i32 tnm] 121)).drew g5 121 [.int .i32 tsg, .int .i64 tn, .int .i32 tnm]) from
          ⟨g5, by rw [hg5], rfl, HG5.out, Lib.hid hal2.drew, Lib.hid (by rw [hg5]; exact (Whole.new w4 121 [.int .i32 tsg, .int .i64 tn, .int .i32 tnm]).drew)⟩)
        clear hg5 HG5
        go_cut [5, 6] (fun a b wx => ∃ g5, a = .pointer (some ⟨g5, 0, none⟩) ∧ b = .int .i64 go ∧ gc < g5 ∧ Hid (Chg [] w4 wx) ∧ Hid (Whole wx g5 121 [.int .i32 tsg, .int .i64 tn, .int .i32 tnm]))
        case first =>
          go_region
          go_wp2_with fail
          go_meet
          obtain ⟨g5, e1, _, e3, e4, e5⟩ := HREL.out
          exact ⟨g5, e1, rfl, e3, e4, e5⟩
        case rest =>
        obtain ⟨g5, rfl, rfl, hg5, HCW, HXW⟩ := hcut
        clear q1 q2 q3 p0 p1 p2 p3 v1 v2 v3 v4 hal hal2 y0 y1 y2 z0 x1 x2 HREL
        obtain ⟨w5, hw5⟩ : ∃ w5 : World, w5 = wc := ⟨_, rfl⟩
        subst hw5
        have hc5 := HCW.out
        have hX := HXW.out
        have HG5 := Lib.hid hg5
        have H7 := Lib.hid (H6.out.keep hc5)
        have HF7 := Lib.hid (HF6.out.new hc5)
        have c1 := cell_keep d1 hc5
        have HX7 := Lib.hid hX
        have HSET := Lib.hid (H7.out.callset (ys := ys) (c := c) HCS.out HV.out (Chg.refl [] w5) (j := 1) (.int .i64 ((nx : Int) + 1)) (clC_next c ((nx : Int) + 1) (by omega)) HLEN.out)
        rw [← HK.out] at HSET
        have fc : w5.frozen? ⟨gc, k * 28 + 1, none⟩ = false := by
          obtain ⟨_, _, hv2, _, _, _, _, hf2⟩ := H7.out.cur (ys := ys) (c := c) HCS.out
          rw [HV.out] at hv2
          injection hv2 with e _ _; injection e with e; injection e with e
          rw [e]
          exact hf2 _
        clear d1 hX hc5 hg5 H6 HX6 HCW HXW
        have hwn : IntKind.i64.wrap ((nx : Int) + 1) = (nx : Int) + 1 := IntWalk.i64_in _ (by omega)
        go_upto_region 11 with fail
        have HX8 := Lib.hid (HX7.out.far (p := ⟨gc, k * 28 + 1, none⟩) (by have := HG5.out; simp only; omega) (.int .i64 ((nx : Int) + 1)))
        generalize w5.setCell ⟨gc, k * 28 + 1, none⟩ (.int .i64 ((nx : Int) + 1)) = w6 at HSET HX8 ⊢
        clear c1 fc
        have e0 := HX8.out.cell 0
        have e1 := HX8.out.cell 1
        have e2 := HX8.out.cell 2
        have HSTP := Lib.hid (show StepC P w6 ⟨tsg, tn, tnm⟩ go tr1 s3 from by
          have hEg := HSET.out.1
          rw [show ((nx : Int) + 1).toNat = nx + 1 from by omega, HFU.out] at hEg
          refine estep_any (s := ⟨s2.fuel - 1, s2.st, ys ++ [c.at_ (nx + 1)], s2.L, s2.V, s2.qs⟩) hEg hst ?_ ?_
          · have := H2.out.stkb
            show s2.st.length + (s2.fuel - 1) ≤ _
            have := HFU.out
            omega
          · have := H2.out.qsb
            show s2.qs.length + (s2.fuel - 1) ≤ _
            have := HFU.out
            omega)
        unfold StepC at HSTP
        simp only [tkC] at HSTP
        rw [← HGP.out] at HSTP
        have HF8 := Lib.hid (HF7.out.trans HSET.out.2)
        have HLESS := Lib.hid (show 2 * s3.fuel + s3.cs.length < 2 * s2.fuel + s2.cs.length from by
          have q1 := step_fu hst
          have q2 := step_cs hst
          have q3 := HCS.out
          have q4 := HFU.out
          simp only [List.length_append, List.length_singleton] at q1 q2
          rw [q3, List.length_append, List.length_singleton]
          omega)
        clear hst
        go_wp2_with fail
        refine HSTP.out.mono ?_
        rintro e w8 ⟨rfl, ⟨vs8, vc8, h8⟩, hf8⟩
        have H8 := Lib.hid h8
        have HF9 := Lib.hid (HF8.out.trans hf8)
        clear h8 hf8 e0 e1 e2
        rcases hend with ⟨rfl, hrn⟩ | ⟨htr, hend⟩
        · have HRN := Lib.hid hrn
          clear hrn
          go_wp2_with fail
          go_roundw
          case rel => exact ⟨_, _, _, H8, HRN, HF9⟩
          case measure =>
            have := H8.out.runM
            rw [← HGP.out] at this
            rw [this, HM.out]
            exact HLESS.out
        · injection hend with he1 he2
          have hz1 : (tr1 != 0) = true := by simpa using htr
          have HP := Lib.hid (show EgPost P W s' (.int .i64 tr) (.returned (.int .i64 tr1)) w8 from by rw [he1, he2]; exact ⟨rfl, ⟨_, _, H8.out⟩, HF9.out⟩)
          clear he1 he2 htr
          go_wp2_with fail
          go_ret
          exact HP.out
end
end Go.Proofs.Ytnohfdojcdhfoaa
namespace Go.Proofs.Ytnohfdojcdhfoaa
open Go.RowKit
def QR (a b : EgV) : Prop := ∃ z, a.qs = b.qs ++ z
theorem QR.same {a b : EgV} (h : a.qs = b.qs) : QR a b := ⟨[], by simp [h]⟩
theorem QR.trans {a b c : EgV} (h : QR a b) (k : QR b c) : QR a c := by
  obtain ⟨z, hz⟩ := h
  obtain ⟨y, hy⟩ := k
  exact ⟨y ++ z, by rw [hz, hy, List.append_assoc]⟩
theorem pop_qs {s s1 : EgV} {x : Int} (h : s.pop = some (x, s1)) : QR s1 s := by
  unfold EgV.pop at h
  split at h
  · cases h
  · injection h with h; injection h with _ h; subst h; exact QR.same rfl
theorem jump_qs {s s1 : EgV} {v : Int} (h : s.jump v = some s1) : QR s1 s := by
  unfold EgV.jump at h
  split at h
  · cases h
  · split at h
    · cases h
    · injection h with h
      subst h
      exact QR.same rfl
theorem call_qs {cd : List CodeV} {k : Nat} {s s1 : EgV} (h : eCall cd k s = some s1) : QR s1 s := by
  unfold eCall at h
  split at h
  · cases h
  · split at h
    · cases h
    · injection h with h
      subst h
      exact QR.same rfl
theorem mem_qs {most : Nat} {sg tr : Int} {s s1 : EgV} (h : eMem most sg s = some (tr, s1)) : QR s1 s := by
  unfold eMem at h
  split at h
  · injection h with h; injection h with _ h; subst h; exact QR.same rfl
  · split at h
    · cases h
    · rename_i x s2 hp
      have e := pop_qs hp
      split at h
      · split at h <;> (injection h with h; injection h with _ h; subst h; exact (QR.same rfl).trans e)
      · split at h
        · split at h <;> (injection h with h; injection h with _ h; subst h; exact (QR.same rfl).trans e)
        · split at h
          · cases h
          · rename_i k s3 hp3
            have e3 := pop_qs hp3
            by_cases hc : 0 ≤ k ∧ k + (if sg = 36 then 8 else 1) ≤ (s3.L.length : Int)
            · rw [if_pos hc] at h
              injection h with h; injection h with _ h; subst h; exact (QR.same rfl).trans (e3.trans e)
            · rw [if_neg hc] at h
              injection h with h; injection h with _ h; subst h; exact (QR.same rfl).trans (e3.trans e)
theorem reckon_qs {sg tr : Int} {s s1 : EgV} (h : eReckon sg s = some (tr, s1)) : QR s1 s := by
  unfold eReckon at h
  split at h
  · split at h
    · cases h
    · split at h
      · cases h
      · injection h with h; injection h with _ h; subst h; exact QR.same rfl
  · split at h
    · split at h
      · cases h
      · rename_i x s2 hp
        have e := pop_qs hp
        split at h
        · cases h
        · injection h with h; injection h with _ h; subst h
          exact (QR.same rfl).trans e
    · have hb : ∀ b s2, (if sg = 33 then some ((0 : Int), s) else s.pop) = some (b, s2) → QR s2 s := fun b s2 hh => by
        by_cases h33 : sg = 33
        · rw [if_pos h33] at hh; injection hh with hh; injection hh with _ hh; subst hh; exact QR.same rfl
        · rw [if_neg h33] at hh; exact pop_qs hh
      generalize (if sg = 33 then some ((0 : Int), s) else s.pop) = q at h hb
      cases q with
      | none => cases h
      | some q =>
        obtain ⟨b, s2⟩ := q
        have e := hb b s2 rfl
        simp only at h
        split at h
        · cases h
        · rename_i a s3 hp
          have e3 := pop_qs hp
          injection h with h; injection h with _ h; subst h
          split
          · exact (QR.same rfl).trans (e3.trans e)
          · exact e3.trans e
theorem step_qs {us : List FnV} {cd : List CodeV} {rs : List (Option Int)} {most : Nat} {t : TkV} {v tr : Int} {s s1 : EgV} (h : eStep us cd rs most t v s = some (tr, s1)) : QR s1 s := by
  have fin : ∀ {q : Option EgV}, (∀ z, q = some z → QR z s) → q.map (fun z => ((0 : Int), z)) = some (tr, s1) → QR s1 s := fun {q} hq hh => by
    cases q with
    | none => cases hh
    | some z => simp only [Option.map_some] at hh; injection hh with hh; injection hh with _ hh; subst hh; exact hq z rfl
  unfold eStep at h
  by_cases c1 : t.sign = 48
  · rw [if_pos c1] at h
    injection h with h; injection h with _ h; subst h; exact QR.same rfl
  rw [if_neg c1] at h
  by_cases c2 : t.sign = 46
  · rw [if_pos c2] at h
    split at h
    · cases h
    · injection h with h; injection h with _ h; subst h; exact QR.same rfl
  rw [if_neg c2] at h
  by_cases c3 : t.sign = 44
  · rw [if_pos c3] at h
    cases hp : s.pop with
    | none => rw [hp] at h; cases h
    | some q =>
      obtain ⟨x, s2⟩ := q
      rw [hp] at h
      simp only [Option.map_some] at h
      injection h with h; injection h with _ h; subst h
      exact pop_qs hp
  rw [if_neg c3] at h
  by_cases c4 : t.sign = 63
  · rw [if_pos c4] at h
    split at h
    · cases h
    · rename_i x s2 hp
      have e := pop_qs hp
      split at h
      · exact fin (fun z hz => (jump_qs hz).trans e) h
      · injection h with h; injection h with _ h; subst h; exact e
  rw [if_neg c4] at h
  by_cases c5 : t.sign = 58 ∨ t.sign = 93 ∨ t.sign = 126
  · rw [if_pos c5] at h
    exact fin (fun z hz => jump_qs hz) h
  rw [if_neg c5] at h
  by_cases c6 : t.sign = 59 ∨ t.sign = 91
  · rw [if_pos c6] at h
    injection h with h; injection h with _ h; subst h; exact QR.same rfl
  rw [if_neg c6] at h
  by_cases c7 : t.sign = 35 ∨ t.sign = 164 ∨ t.sign = 64 ∨ t.sign = 169 ∨ t.sign = 36 ∨ t.sign = 174
  · rw [if_pos c7] at h
    exact mem_qs h
  rw [if_neg c7] at h
  by_cases c8 : t.sign = 955
  · rw [if_pos c8] at h
    split at h
    · injection h with h; injection h with _ h; subst h; exact QR.same rfl
    · split at h
      · cases h
      · exact fin (fun z hz => call_qs hz) h
  rw [if_neg c8] at h
  by_cases c9 : t.sign = 960
  · rw [if_pos c9] at h
    split at h
    · cases h
    · rename_i x s2 hp
      have e := pop_qs hp
      split at h
      · injection h with h; injection h with _ h; subst h; exact QR.trans (b := s2) ⟨_, rfl⟩ e
      · injection h with h; injection h with _ h; subst h; exact QR.trans (b := s2) ⟨_, rfl⟩ e
  rw [if_neg c9] at h
  by_cases c10 : t.sign = 161
  · rw [if_pos c10] at h
    injection h with h; injection h with _ h; subst h; exact QR.same rfl
  · rw [if_neg c10] at h
    exact reckon_qs h
theorem one_qs {us : List FnV} {cd : List CodeV} {rs : List (Option Int)} {most : Nat} {s : EgV} : (∀ s', eOne us cd rs most s = .on s' → QR s' s) ∧ (∀ r, eOne us cd rs most s = .stop r → QR r.2 s) := by
  have key : ∀ R, eOne us cd rs most s = R → (∀ s', R = .on s' → QR s' s) ∧ (∀ r, R = .stop r → QR r.2 s) := by
    intro R h
    unfold eOne at h
    split at h
    · subst h
      exact ⟨fun s' e => (by cases e), fun r e => by injection e with e; subst e; exact QR.same rfl⟩
    · split at h
      · subst h
        exact ⟨fun s' e => (by cases e), fun r e => (by cases e)⟩
      · split at h
        · subst h
          exact ⟨fun s' e => by injection e with e; subst e; exact QR.same rfl, fun r e => (by cases e)⟩
        · split at h
          · subst h
            exact ⟨fun s' e => (by cases e), fun r e => by injection e with e; subst e; exact QR.same rfl⟩
          · split at h
            · split at h
              · subst h
                exact ⟨fun s' e => (by cases e), fun r e => (by cases e)⟩
              · rename_i hs
                have e1 := step_qs hs
                split at h
                · subst h
                  exact ⟨fun s' e => by injection e with e; subst e; exact e1.trans (QR.same rfl), fun r e => (by cases e)⟩
                · subst h
                  exact ⟨fun s' e => (by cases e), fun r e => by injection e with e; subst e; exact e1.trans (QR.same rfl)⟩
            · subst h
              exact ⟨fun s' e => (by cases e), fun r e => (by cases e)⟩
  exact key _ rfl
theorem Rn.qs {us : List FnV} {cd : List CodeV} {rs : List (Option Int)} {most : Nat} {s : EgV} {r : Int × EgV} (h : Rn us cd rs most s r) : QR r.2 s := by
  induction h with
  | stop h => exact one_qs.2 _ h
  | on h _ ih => exact ih.trans (one_qs.1 _ h)
end Go.Proofs.Ytnohfdojcdhfoaa
