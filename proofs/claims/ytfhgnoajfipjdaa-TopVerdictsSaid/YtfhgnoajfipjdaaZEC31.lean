/-
  EC: EgRem3, EgStep1, EgStep2.
-/
import Derived.Test.YtfhgnoajfipjdaaZEC30
namespace Go.Proofs.Ytfhgnoajfipjdaa
open Go.RowKit
section
variable {P : EP} {W W' : World} {vs vc : Value} {s : EgV}
set_option maxHeartbeats 8000000 in
set_option maxRecDepth 100000 in
theorem rem_load {sg tr : Int} {s' : EgV} (hs : sg = 64 ∨ sg = 169) (h : Eg P W vs vc s) (hr : eMem P.most sg s = some (tr, s')) : Calls Try.prog 141 #[.pointer (some ⟨P.g, 0, none⟩), .int .i32 sg] W (EgPost P W s' (.int .i64 tr)) := by
  unfold eMem at hr
  rw [if_neg (by omega)] at hr
  cases hp : s.pop with
  | none => rw [hp] at hr; cases hr
  | some q =>
    obtain ⟨x, s1⟩ := q
    rw [hp] at hr
    simp only at hr
    rw [if_neg (by omega), if_pos hs] at hr
    obtain ⟨wide, hw⟩ : ∃ wide, wide = (sg == 64) := ⟨_, rfl⟩
    have hwi : (if sg = 64 then 8 else 1) = (if wide then 8 else 1) := by rw [hw]; simp
    rw [hwi] at hr
    obtain ⟨o, ho⟩ : ∃ o, o = loadR s1.L x (if wide then 8 else 1) := ⟨_, rfl⟩
    rw [← ho] at hr
    have k4 : W.cell? ⟨P.g, 4, none⟩ = some (.pointer (some ⟨P.p, 0, none⟩)) := h.rec_.cell 4
    have hl := pop_len hp
    have hsb := h.stkb
    have HL := Lib.hid (show s1.st.length + s1.fuel ≤ 2999999 from by omega)
    have HPOP := Lib.hid (fun (W1 : World) (hc : Chg [] W W1) => epop_any (h.keep hc) hp)
    have HLD := Lib.hid (fun (w1 : World) (vs1 vc1 : Value) (k1 : Eg P w1 vs1 vc1 s1) => eload_any k1 x wide)
    rw [← ho] at HLD
    have HPU := Lib.hid (fun (w2 : World) (vs2 vc2 : Value) (k2 : Eg P w2 vs2 vc2 s1) (n : Int) => push_any k2 n HL.out)
    have HR := Lib.hid hr
    obtain ⟨gp, hgp⟩ : ∃ gp, gp = P.g := ⟨_, rfl⟩
    have HGP := Lib.hid hgp
    rw [← hgp] at HPOP HPU k4 ⊢
    have hw2 : (sg == 64) = wide := hw.symm
    clear h hp hgp hr ho hwi hw
    rcases hs with rfl | rfl <;>
    · go_enter Try.func141, Try.ntmps141
      simp only [show ((64 : Int) == 64) = true from rfl, show ((169 : Int) == 64) = false from rfl] at hw2
      subst hw2
      go_wp2_with fail
      go_region_with (first
        | (go_at_call 55
           refine (HPOP.out _ ((Chg.refl [] W).drew)).mono ?_
           rintro e w1 ⟨rfl, ⟨vs1, vc1, h1⟩, hf1⟩
           have m4 : w1.cell? ⟨gp, 4, none⟩ = some (.pointer (some ⟨P.p, 0, none⟩)) := by rw [HGP.out]; exact h1.rec_.cell 4
           have H1 := Lib.hid h1
           have HF1 := Lib.hid ((Fe.of_chg ((Chg.refl [] W).drew)).trans hf1)
           clear h1 hf1)
        | (go_at_call 170
           refine (HLD.out w1 vs1 vc1 H1.out).mono ?_
           rintro e w2 ⟨rfl, rfl⟩))
      all_goals
        cases o with
        | none =>
          have hre := HR.out
          simp only at hre
          injection hre with hre
          injection hre with hr1 hr2
          have HP := Lib.hid (show EgPost P W s' (.int .i64 tr) (.returned (.int .i64 5)) w1 from by rw [← hr1, ← hr2]; exact ⟨rfl, ⟨_, _, H1.out⟩, HF1.out⟩)
          simp only [Option.getD_none, Option.isSome_none]
          clear hr1 hr2
          go_wp2_with fail
          go_ret
          exact HP.out
        | some n =>
          have hre := HR.out
          simp only at hre
          injection hre with hre
          injection hre with hr1 hr2
          have HPX := Lib.hid (HPU.out w1 vs1 vc1 H1.out n)
          have HE := Lib.hid (And.intro hr1 hr2)
          simp only [Option.getD_some, Option.isSome_some]
          clear hr1 hr2
          go_wp2_with fail
          refine HPX.out.mono ?_
          rintro e w3 ⟨rfl, h3, hf3⟩
          have HP := Lib.hid (show EgPost P W s' (.int .i64 tr) (.returned (.int .i64 0)) w3 from by rw [← HE.out.1, ← HE.out.2]; exact ⟨rfl, h3, HF1.out.trans hf3⟩)
          clear h3 hf3
          go_wp2_with fail
          go_ret
          exact HP.out
set_option maxHeartbeats 8000000 in
set_option maxRecDepth 100000 in
theorem rem_store {sg tr : Int} {s' : EgV} (hs : sg = 36 ∨ sg = 174) (h : Eg P W vs vc s) (hr : eMem P.most sg s = some (tr, s')) : Calls Try.prog 141 #[.pointer (some ⟨P.g, 0, none⟩), .int .i32 sg] W (EgPost P W s' (.int .i64 tr)) := by
  unfold eMem at hr
  rw [if_neg (by omega)] at hr
  cases hp : s.pop with
  | none => rw [hp] at hr; cases hr
  | some q =>
    obtain ⟨x, s1⟩ := q
    rw [hp] at hr
    simp only at hr
    rw [if_neg (by omega), if_neg (by omega)] at hr
    cases hp2 : s1.pop with
    | none => rw [hp2] at hr; cases hr
    | some q =>
    obtain ⟨k, s2⟩ := q
    rw [hp2] at hr
    simp only at hr
    obtain ⟨wide, hw⟩ : ∃ wide, wide = (sg == 36) := ⟨_, rfl⟩
    have hwi : (if sg = 36 then 8 else 1) = (if wide then 8 else 1) := by rw [hw]; simp
    have hwI : (if sg = 36 then (8 : Int) else 1) = (if wide then (8 : Int) else 1) := by rw [hw]; simp
    rw [hwi, hwI] at hr
    have hq : tr = (if (storeS wide k x s2).1 then 0 else 5) ∧ s' = (storeS wide k x s2).2 := by
      unfold storeS
      by_cases hx : 0 ≤ k ∧ k + (if wide then 8 else 1) ≤ s2.L.length
      · rw [if_pos hx] at hr ⊢
        injection hr with hr; injection hr with h1 h2
        exact ⟨h1.symm, h2.symm⟩
      · rw [if_neg hx] at hr ⊢
        injection hr with hr; injection hr with h1 h2
        exact ⟨h1.symm, h2.symm⟩
    have HR := Lib.hid hq
    have k4 : W.cell? ⟨P.g, 4, none⟩ = some (.pointer (some ⟨P.p, 0, none⟩)) := h.rec_.cell 4
    have HPOP := Lib.hid (epop_any h hp)
    have HPOP2 := Lib.hid (fun (w1 : World) (vs1 vc1 : Value) (k1 : Eg P w1 vs1 vc1 s1) => epop_any k1 hp2)
    have HST := Lib.hid (fun (w1 : World) (vs1 vc1 : Value) (k1 : Eg P w1 vs1 vc1 s2) => estore_any k1 k x wide)
    obtain ⟨G, hG⟩ : ∃ G, G = storeS wide k x s2 := ⟨_, rfl⟩
    rw [← hG] at HST HR
    obtain ⟨gp, hgp⟩ : ∃ gp, gp = P.g := ⟨_, rfl⟩
    have HGP := Lib.hid hgp
    rw [← hgp] at HPOP HPOP2 k4 ⊢
    have hw2 : (sg == 36) = wide := hw.symm
    clear h hp hp2 hgp hr hwi hwI hw hq hG
    rcases hs with rfl | rfl <;>
    · go_enter Try.func141, Try.ntmps141
      simp only [show ((36 : Int) == 36) = true from rfl, show ((174 : Int) == 36) = false from rfl] at hw2
      subst hw2
      go_wp2_with fail
      refine HPOP.out.mono ?_
      rintro e w1 ⟨rfl, ⟨vs1, vc1, h1⟩, hf1⟩
      have m4 : w1.cell? ⟨gp, 4, none⟩ = some (.pointer (some ⟨P.p, 0, none⟩)) := by rw [HGP.out]; exact h1.rec_.cell 4
      have H1 := Lib.hid h1
      have HF1 := Lib.hid hf1
      have HPD := Lib.hid (HPOP2.out w1.drew vs1 vc1 (h1.keep ((Chg.refl [] w1).drew)))
      clear h1 hf1
      go_wp2_with fail
      go_region_with (first
        | (go_at_call 55
           refine HPD.out.mono ?_
           rintro e w2 ⟨rfl, ⟨vs2, vc2, h2⟩, hf2⟩
           have n4 : w2.cell? ⟨gp, 4, none⟩ = some (.pointer (some ⟨P.p, 0, none⟩)) := by rw [HGP.out]; exact h2.rec_.cell 4
           have H2 := Lib.hid h2
           have HF2 := Lib.hid ((HF1.out.new ((Chg.refl [] w1).drew)).trans hf2)
           clear h2 hf2)
        | (go_at_call 171
           refine (HST.out w2 vs2 vc2 H2.out).mono ?_
           rintro e w3 ⟨rfl, H3, HF3⟩))
      all_goals
        have HP := Lib.hid (show EgPost P W s' (.int .i64 tr) (.returned (.int .i64 (if G.1 then 0 else 5))) w3 from by rw [HR.out.1, HR.out.2]; exact ⟨rfl, ⟨_, _, H3.out⟩, HF2.out.trans HF3.out⟩)
        generalize G.1 = b at HP ⊢
        cases b <;>
        · go_wp2_with fail
          go_ret
          exact HP.out
theorem rem_any {sg tr : Int} {s' : EgV} (hs : sg = 35 ∨ sg = 164 ∨ sg = 64 ∨ sg = 169 ∨ sg = 36 ∨ sg = 174) (h : Eg P W vs vc s) (hr : eMem P.most sg s = some (tr, s')) (hroom : s.st.length + s.fuel ≤ 2999999) : Calls Try.prog 141 #[.pointer (some ⟨P.g, 0, none⟩), .int .i32 sg] W (EgPost P W s' (.int .i64 tr)) := by
  rcases hs with rfl | rfl | hs | hs | hs | hs
  · exact rem_35 h hr hroom
  · exact rem_164 h hr
  · exact rem_load (.inl hs) h hr
  · exact rem_load (.inr hs) h hr
  · exact rem_store (.inl hs) h hr
  · exact rem_store (.inr hs) h hr
end
end Go.Proofs.Ytfhgnoajfipjdaa
namespace Go.Proofs.Ytfhgnoajfipjdaa
open Go.RowKit
section
variable {P : EP} {W W' : World} {vs vc : Value} {s : EgV}
/-- What step's world is when it begins. -/
theorem step_boxed {x : TkV} (h : Eg P W vs vc s) : Eg P (W.alloc (.cells #[.int .i32 x.sign, .int .i64 x.n, .int .i32 x.name] 167)) vs vc s := h.keep ((Chg.refl [] W).alloc _)
def StepC (P : EP) (W : World) (t : TkV) (go : Int) (tr : Int) (s' : EgV) : Prop := Calls Try.prog 97 #[.pointer (some ⟨P.g, 0, none⟩), .agg (tkC t).toArray, .int .i64 go] W (EgPost P W s' (.int .i64 tr))
theorem EgPost.boxed {o : Obj} {s' : EgV} {r : Value} {e : Ending} {w' : World} (h : EgPost P (W.alloc o) s' r e w') : EgPost P W s' r e w' := ⟨h.1, h.2.1, (Fe.of_chg ((Chg.refl [] W).alloc o)).trans h.2.2⟩
set_option maxHeartbeats 4000000 in
set_option maxRecDepth 100000 in
theorem estep_num {n nm go : Int} (h : Eg P W vs vc s) (hroom : s.st.length + s.fuel ≤ 2999999) : StepC P W ⟨48, n, nm⟩ go 0 (s.push n) := by
  unfold StepC
  simp only [tkC]
  have hN := Whole.new W 167 [.int .i32 48, .int .i64 n, .int .i32 nm]
  have HPU := Lib.hid (push_any (step_boxed (x := ⟨48, n, nm⟩) h) n hroom)
  generalize P.g = gp at *
  have t0 := hN.cell 0
  have t1 := hN.cell 1
  clear h hN
  go_enter Try.func97, Try.ntmps97
  go_wp2_with fail
  refine HPU.out.mono ?_
  rintro e w2 ⟨rfl, h2, hf2⟩
  have HP := Lib.hid (EgPost.boxed (show EgPost P _ (s.push n) (.int .i64 0) (.returned (.int .i64 0)) w2 from ⟨rfl, h2, hf2⟩))
  clear h2 hf2
  go_wp2_with fail
  go_ret
  exact HP.out
set_option maxHeartbeats 4000000 in
set_option maxRecDepth 100000 in
theorem estep_drop {x n nm go : Int} {s' : EgV} (h : Eg P W vs vc s) (hp : s.pop = some (x, s')) : StepC P W ⟨44, n, nm⟩ go 0 s' := by
  unfold StepC
  simp only [tkC]
  have hN := Whole.new W 167 [.int .i32 44, .int .i64 n, .int .i32 nm]
  have HPU := Lib.hid (epop_any (step_boxed (x := ⟨44, n, nm⟩) h) hp)
  generalize P.g = gp at *
  have t0 := hN.cell 0
  clear h hN hp
  go_enter Try.func97, Try.ntmps97
  go_wp2_with fail
  refine HPU.out.mono ?_
  rintro e w2 ⟨rfl, h2, hf2⟩
  have HP := Lib.hid (EgPost.boxed (show EgPost P _ s' (.int .i64 0) (.returned (.int .i64 0)) w2 from ⟨rfl, h2, hf2⟩))
  clear h2 hf2
  go_wp2_with fail
  go_ret
  exact HP.out
set_option maxHeartbeats 4000000 in
set_option maxRecDepth 100000 in
theorem estep_halt {n nm go : Int} (h : Eg P W vs vc s) : StepC P W ⟨161, n, nm⟩ go 2 s := by
  unfold StepC
  simp only [tkC]
  have hN := Whole.new W 167 [.int .i32 161, .int .i64 n, .int .i32 nm]
  have HP := Lib.hid (EgPost.of_chg (r := .int .i64 2) h ((Chg.refl [] W).alloc (.cells #[.int .i32 161, .int .i64 n, .int .i32 nm] 167)))
  generalize P.g = gp at *
  have t0 := hN.cell 0
  clear h hN
  go_enter Try.func97, Try.ntmps97
  go_wp2_with fail
  go_ret
  exact HP.out
set_option maxHeartbeats 8000000 in
set_option maxRecDepth 100000 in
theorem estep_turn {sg n nm go : Int} {s' : EgV} (hs : sg = 63 ∨ sg = 58 ∨ sg = 59 ∨ sg = 91 ∨ sg = 93 ∨ sg = 126) (HT : Calls Try.prog 140 #[.pointer (some ⟨P.g, 0, none⟩), .int .i32 sg, .int .i64 go] (W.alloc (.cells #[.int .i32 sg, .int .i64 n, .int .i32 nm] 167)) (EgPost P (W.alloc (.cells #[.int .i32 sg, .int .i64 n, .int .i32 nm] 167)) s' (.tuple #[]))) : StepC P W ⟨sg, n, nm⟩ go 0 s' := by
  unfold StepC
  simp only [tkC]
  have hN := Whole.new W 167 [.int .i32 sg, .int .i64 n, .int .i32 nm]
  have HTT := Lib.hid HT
  generalize P.g = gp at *
  have t0 := hN.cell 0
  clear hN HT
  rcases hs with rfl | rfl | rfl | rfl | rfl | rfl <;>
  · go_enter Try.func97, Try.ntmps97
    go_wp2_with fail
    refine HTT.out.mono ?_
    rintro e w2 ⟨rfl, h2, hf2⟩
    have HP := Lib.hid (EgPost.boxed (show EgPost P _ s' (.int .i64 0) (.returned (.int .i64 0)) w2 from ⟨rfl, h2, hf2⟩))
    clear h2 hf2
    go_wp2_with fail
    go_ret
    exact HP.out
set_option maxHeartbeats 8000000 in
set_option maxRecDepth 100000 in
theorem estep_mem {sg n nm go tr : Int} {s' : EgV} (hs : sg = 35 ∨ sg = 164 ∨ sg = 64 ∨ sg = 169 ∨ sg = 36 ∨ sg = 174) (HT : Calls Try.prog 141 #[.pointer (some ⟨P.g, 0, none⟩), .int .i32 sg] (W.alloc (.cells #[.int .i32 sg, .int .i64 n, .int .i32 nm] 167)) (EgPost P (W.alloc (.cells #[.int .i32 sg, .int .i64 n, .int .i32 nm] 167)) s' (.int .i64 tr))) : StepC P W ⟨sg, n, nm⟩ go tr s' := by
  unfold StepC
  simp only [tkC]
  have hN := Whole.new W 167 [.int .i32 sg, .int .i64 n, .int .i32 nm]
  have HTT := Lib.hid HT
  generalize P.g = gp at *
  have t0 := hN.cell 0
  clear hN HT
  rcases hs with rfl | rfl | rfl | rfl | rfl | rfl <;>
  · go_enter Try.func97, Try.ntmps97
    go_wp2_with fail
    refine HTT.out.mono ?_
    rintro e w2 ⟨rfl, h2, hf2⟩
    have HP := Lib.hid (EgPost.boxed (show EgPost P _ s' (.int .i64 tr) (.returned (.int .i64 tr)) w2 from ⟨rfl, h2, hf2⟩))
    clear h2 hf2
    go_wp2_with fail
    go_ret
    exact HP.out
set_option maxHeartbeats 8000000 in
set_option maxRecDepth 100000 in
theorem estep_ask {n nm go tr : Int} {s' : EgV} (HT : Calls Try.prog 143 #[.pointer (some ⟨P.g, 0, none⟩), .int .i32 nm] (W.alloc (.cells #[.int .i32 960, .int .i64 n, .int .i32 nm] 167)) (EgPost P (W.alloc (.cells #[.int .i32 960, .int .i64 n, .int .i32 nm] 167)) s' (.int .i64 tr))) : StepC P W ⟨960, n, nm⟩ go tr s' := by
  unfold StepC
  simp only [tkC]
  have hN := Whole.new W 167 [.int .i32 960, .int .i64 n, .int .i32 nm]
  have HTT := Lib.hid HT
  generalize P.g = gp at *
  have t0 := hN.cell 0
  have t2 := hN.cell 2
  clear hN HT
  go_enter Try.func97, Try.ntmps97
  go_wp2_with fail
  refine HTT.out.mono ?_
  rintro e w2 ⟨rfl, h2, hf2⟩
  have HP := Lib.hid (EgPost.boxed (show EgPost P _ s' (.int .i64 tr) (.returned (.int .i64 tr)) w2 from ⟨rfl, h2, hf2⟩))
  clear h2 hf2
  go_wp2_with fail
  go_ret
  exact HP.out
end
end Go.Proofs.Ytfhgnoajfipjdaa
namespace Go.Proofs.Ytfhgnoajfipjdaa
open Go.RowKit
section
variable {P : EP} {W W' : World} {vs vc : Value} {s : EgV}
set_option maxHeartbeats 8000000 in
set_option maxRecDepth 100000 in
theorem estep_dup {x n nm go : Int} (h : Eg P W vs vc s) (hx : s.st.getLast? = some x) (hroom : s.st.length + s.fuel ≤ 2999999) : StepC P W ⟨46, n, nm⟩ go 0 (s.push x) := by
  unfold StepC
  simp only [tkC]
  have hpop : s.pop = some (x, ⟨s.fuel, s.st.dropLast, s.cs, s.L, s.V, s.qs⟩) := by unfold EgV.pop; rw [hx]
  obtain ⟨st, hst, _⟩ := pop_some hpop
  have hN := Whole.new W 167 [.int .i32 46, .int .i64 n, .int .i32 nm]
  have hal : Chg [] W (W.alloc (.cells #[.int .i32 46, .int .i64 n, .int .i32 nm] 167)) := (Chg.refl [] W).alloc _
  have t0 := hN.cell 0
  have HH := Lib.hid h
  have HST := Lib.hid hst
  have HAL := Lib.hid hal
  have HR := Lib.hid hroom
  have hl : st.length ≤ 3000000 := by have hb := h.stkb; rw [hst] at hb; simp at hb; omega
  obtain ⟨gp, hgp⟩ : ∃ gp, gp = P.g := ⟨_, rfl⟩
  have HGP := Lib.hid hgp
  rw [← hgp]
  obtain ⟨s', hs'⟩ : ∃ s', s' = s.push x := ⟨_, rfl⟩
  have HS' := Lib.hid hs'
  rw [← hs']
  clear h hst hal hN hpop hx hgp hs' hroom
  go_enter Try.func97, Try.ntmps97
  go_upto_region 6 with fail
  generalize W.alloc (.cells #[.int .i32 46, .int .i64 n, .int .i32 nm] 167) = w1 at HAL ⊢
  clear t0
  have h1 := HH.out.keep HAL.out
  obtain ⟨gs, c, rfl, hc, hx1⟩ := h1.top HST.out
  have k7 : w1.cell? ⟨gp, 7, none⟩ = some (.slice (some ⟨gs, 0, none⟩) (st.length + 1) c) := by rw [HGP.out]; exact h1.rec_.cell 7
  have HPU := Lib.hid (push_any (h1.keep ((Chg.refl [] w1).drew)) x HR.out)
  rw [← HGP.out, ← HS'.out] at HPU
  clear h1
  generalize st.length = q at *
  have hsub : IntKind.i64.wrap (((q + 1 : Nat) : Int) - 1) = (q : Int) := by rw [IntWalk.i64_in _ (by omega)]; omega
  have hq0 : (0 : Int) ≤ (q : Int) := by omega
  have hq1 : (q : Int) < ((q + 1 : Nat) : Int) := by omega
  have hk1 : IntKind.i64.wrap ((q : Int) + 1 - 1) = (q : Int) := by rw [show (q : Int) + 1 - 1 = (q : Int) from by omega]; exact IntWalk.i64_in _ (by omega)
  have hk2 : IntKind.i64.wrap (q : Int) = (q : Int) := IntWalk.i64_in _ (by omega)
  have hk3 : (q : Int).toNat = q := Int.toNat_natCast _
  have hk5 : (q : Int) < (q : Int) + 1 := by omega
  have d7 : w1.drew.cell? ⟨gp, 7, none⟩ = some (.slice (some ⟨gs, 0, none⟩) (q + 1) c) := k7
  have dx : w1.drew.cell? ⟨gs, q, none⟩ = some (.int .i64 x) := hx1
  go_still_tail 13, (by kernel_rfl)
  change wpList _ _ _ _ _ w1.drew
  go_wp2_with fail
  refine HPU.out.mono ?_
  rintro e w2 ⟨rfl, h2, hf2⟩
  have HP := Lib.hid (show EgPost P W s' (.int .i64 0) (.returned (.int .i64 0)) w2 from ⟨rfl, h2, (Fe.of_chg (HAL.out.drew)).trans hf2⟩)
  clear h2 hf2
  go_wp2_with fail
  go_ret
  exact HP.out
set_option maxHeartbeats 8000000 in
set_option maxRecDepth 100000 in
theorem estep_call {n nm go tr : Int} {s' : EgV} (h : Eg P W vs vc s) (HT : ∀ w1, Chg [] W w1 → Calls Try.prog 142 #[.pointer (some ⟨P.g, 0, none⟩), .int .i64 (findI P.us nm)] w1 (EgPost P w1 s' (.int .i64 tr))) : StepC P W ⟨955, n, nm⟩ go tr s' := by
  unfold StepC
  simp only [tkC]
  have hN := Whole.new W 167 [.int .i32 955, .int .i64 n, .int .i32 nm]
  have hal : Chg [] W (W.alloc (.cells #[.int .i32 955, .int .i64 n, .int .i32 nm] 167)) := (Chg.refl [] W).alloc _
  have t0 := hN.cell 0
  have HH := Lib.hid h
  have HAL := Lib.hid hal
  have HTT := Lib.hid HT
  have HN := Lib.hid hN
  obtain ⟨gp, hgp⟩ : ∃ gp, gp = P.g := ⟨_, rfl⟩
  have HGP := Lib.hid hgp
  rw [← hgp] at HTT ⊢
  clear h hal hN hgp HT
  go_enter Try.func97, Try.ntmps97
  go_upto_region 24 with fail
  generalize hw1 : W.alloc (.cells #[.int .i32 955, .int .i64 n, .int .i32 nm] 167) = w1 at HAL HN t0 ⊢
  have H1 := Lib.hid (HH.out.keep HAL.out)
  have t2 : w1.cell? ⟨W.heap.size, 2, none⟩ = some (.int .i32 nm) := HN.out.cell 2
  have k0 : w1.cell? ⟨gp, 0, none⟩ = some (.int .i64 P.pages) := by rw [HGP.out]; exact H1.out.rec_.cell 0
  have k1 : w1.cell? ⟨gp, 1, none⟩ = some (.int .i64 P.mst) := by rw [HGP.out]; exact H1.out.rec_.cell 1
  have k2 : w1.cell? ⟨gp, 2, none⟩ = some (.slice P.A P.n P.c) := by rw [HGP.out]; exact H1.out.rec_.cell 2
  have HFI := Lib.hid (cfind_any (pages := P.pages) (most := P.mst) (H1.out.keep ((Chg.refl [] w1).drew)).fns nm)
  unfold unitV at HFI
  clear t0 hw1
  generalize W.heap.size = gt at *
  go_region_with (first
    | (go_at_call 51
       refine HFI.out.mono ?_
       rintro e w2 ⟨rfl, hc2⟩
       have HC2 := Lib.hid ((HAL.out.drew).new hc2)
       clear hc2)
    | (go_at_call 142
       refine (HTT.out w2 HC2.out).mono ?_
       rintro e w3 ⟨rfl, h3, hf3⟩
       have HP := Lib.hid (show EgPost P W s' (.int .i64 tr) (.returned (.int .i64 tr)) w3 from ⟨rfl, h3, (Fe.of_chg HC2.out).trans hf3⟩)
       clear h3 hf3))
  all_goals
    go_wp2_with fail
    go_ret
    exact HP.out
set_option maxHeartbeats 8000000 in
set_option maxRecDepth 100000 in
theorem estep_else {sg n nm go tr : Int} {s' : EgV} (hs : sg ≠ 48 ∧ sg ≠ 46 ∧ sg ≠ 44 ∧ sg ≠ 63 ∧ sg ≠ 58 ∧ sg ≠ 59 ∧ sg ≠ 91 ∧ sg ≠ 93 ∧ sg ≠ 126 ∧ sg ≠ 35 ∧ sg ≠ 164 ∧ sg ≠ 64 ∧ sg ≠ 169 ∧ sg ≠ 36 ∧ sg ≠ 174 ∧ sg ≠ 955 ∧ sg ≠ 960 ∧ sg ≠ 161) (HT : Calls Try.prog 144 #[.pointer (some ⟨P.g, 0, none⟩), .int .i32 sg] (W.alloc (.cells #[.int .i32 sg, .int .i64 n, .int .i32 nm] 167)) (EgPost P (W.alloc (.cells #[.int .i32 sg, .int .i64 n, .int .i32 nm] 167)) s' (.int .i64 tr))) : StepC P W ⟨sg, n, nm⟩ go tr s' := by
  unfold StepC
  simp only [tkC]
  have hN := Whole.new W 167 [.int .i32 sg, .int .i64 n, .int .i32 nm]
  have HTT := Lib.hid HT
  generalize P.g = gp at *
  have t0 := hN.cell 0
  obtain ⟨h1, h2, h3, h4, h5, h6, h7, h8, h9, h10, h11, h12, h13, h14, h15, h16, h17, h18⟩ := hs
  have q1 : (sg == 48) = false := by simpa using h1
  have q2 : (sg == 46) = false := by simpa using h2
  have q3 : (sg == 44) = false := by simpa using h3
  have q4 : (sg == 63) = false := by simpa using h4
  have q5 : (sg == 58) = false := by simpa using h5
  have q6 : (sg == 59) = false := by simpa using h6
  have q7 : (sg == 91) = false := by simpa using h7
  have q8 : (sg == 93) = false := by simpa using h8
  have q9 : (sg == 126) = false := by simpa using h9
  have q10 : (sg == 35) = false := by simpa using h10
  have q11 : (sg == 164) = false := by simpa using h11
  have q12 : (sg == 64) = false := by simpa using h12
  have q13 : (sg == 169) = false := by simpa using h13
  have q14 : (sg == 36) = false := by simpa using h14
  have q15 : (sg == 174) = false := by simpa using h15
  have q16 : (sg == 955) = false := by simpa using h16
  have q17 : (sg == 960) = false := by simpa using h17
  have q18 : (sg == 161) = false := by simpa using h18
  clear hN HT h1 h2 h3 h4 h5 h6 h7 h8 h9 h10 h11 h12 h13 h14 h15 h16 h17 h18
  go_enter Try.func97, Try.ntmps97
  go_wp2_with fail
  refine HTT.out.mono ?_
  rintro e w2 ⟨rfl, h2, hf2⟩
  have HP := Lib.hid (EgPost.boxed (show EgPost P _ s' (.int .i64 tr) (.returned (.int .i64 tr)) w2 from ⟨rfl, h2, hf2⟩))
  clear h2 hf2
  go_wp2_with fail
  go_ret
  exact HP.out
/-- A token. -/
theorem estep_any {t : TkV} {go tr : Int} {s' : EgV} (h : Eg P W vs vc s) (hr : eStep P.us P.cd P.rs P.most t go s = some (tr, s')) (hroom : s.st.length + s.fuel ≤ 2999999) (hq : s.qs.length + s.fuel ≤ 899999999) : StepC P W t go tr s' := by
  obtain ⟨sg, n, nm⟩ := t
  have hb := step_boxed (x := ⟨sg, n, nm⟩) h
  simp only at hb
  have fin : ∀ {q : Option EgV}, q.map (fun z => ((0 : Int), z)) = some (tr, s') → q = some s' ∧ tr = 0 := fun {q} hh => by
    cases q with
    | none => cases hh
    | some z => simp only [Option.map_some] at hh; injection hh with hh; injection hh with h1 h2; exact ⟨by rw [h2], h1.symm⟩
  unfold eStep at hr
  simp only at hr
  by_cases c1 : sg = 48
  · subst c1
    rw [if_pos rfl] at hr
    injection hr with hr; injection hr with h1 h2; subst h1; subst h2
    exact estep_num h hroom
  rw [if_neg c1] at hr
  by_cases c2 : sg = 46
  · subst c2
    rw [if_pos rfl] at hr
    cases hx : s.st.getLast? with
    | none => rw [hx] at hr; cases hr
    | some x =>
      rw [hx] at hr
      injection hr with hr; injection hr with h1 h2; subst h1; subst h2
      exact estep_dup h hx hroom
  rw [if_neg c2] at hr
  by_cases c3 : sg = 44
  · subst c3
    rw [if_pos rfl] at hr
    cases hp : s.pop with
    | none => rw [hp] at hr; cases hr
    | some q =>
      rw [hp] at hr
      simp only [Option.map_some] at hr
      injection hr with hr; injection hr with h1 h2; subst h1; subst h2
      exact estep_drop h hp
  rw [if_neg c3] at hr
  by_cases c4 : sg = 63
  · subst c4
    rw [if_pos rfl] at hr
    cases hp : s.pop with
    | none => rw [hp] at hr; cases hr
    | some q =>
      obtain ⟨x, s1⟩ := q
      rw [hp] at hr
      simp only at hr
      have hj : (if x = 0 then s1.jump go else some s1) = some s' ∧ tr = 0 := by
        by_cases hx : x = 0
        · rw [if_pos hx] at hr ⊢
          exact fin hr
        · rw [if_neg hx] at hr ⊢
          injection hr with hr; injection hr with h1 h2
          exact ⟨by rw [h2], h1.symm⟩
      obtain ⟨hj, rfl⟩ := hj
      exact estep_turn (.inl rfl) (turn_ask hb hp hj)
  rw [if_neg c4] at hr
  by_cases c5 : sg = 58 ∨ sg = 93 ∨ sg = 126
  · rw [if_pos c5] at hr
    obtain ⟨hj, rfl⟩ := fin hr
    exact estep_turn (by omega) (turn_go hb hj c5)
  rw [if_neg c5] at hr
  by_cases c6 : sg = 59 ∨ sg = 91
  · rw [if_pos c6] at hr
    injection hr with hr; injection hr with h1 h2; subst h1; subst h2
    exact estep_turn (by omega) (turn_not hb c6)
  rw [if_neg c6] at hr
  by_cases c7 : sg = 35 ∨ sg = 164 ∨ sg = 64 ∨ sg = 169 ∨ sg = 36 ∨ sg = 174
  · rw [if_pos c7] at hr
    exact estep_mem c7 (rem_any c7 hb hr hroom)
  rw [if_neg c7] at hr
  by_cases c8 : sg = 955
  · subst c8
    rw [if_pos rfl] at hr
    refine estep_call h fun w1 hc1 => ?_
    by_cases hd : 32 ≤ s.cs.length
    · rw [if_pos hd] at hr
      injection hr with hr; injection hr with h1 h2; subst h1; subst h2
      exact enter_deep (h.keep hc1) hd _
    · rw [if_neg hd] at hr
      by_cases hf : findI P.us nm < 0
      · rw [if_pos hf] at hr; cases hr
      · rw [if_neg hf] at hr
        obtain ⟨hj, rfl⟩ := fin hr
        have := enter_go (h.keep hc1) hj (by omega)
        rwa [Int.toNat_of_nonneg (by omega)] at this
  rw [if_neg c8] at hr
  by_cases c9 : sg = 960
  · subst c9
    rw [if_pos rfl] at hr
    cases hp : s.pop with
    | none => rw [hp] at hr; cases hr
    | some q =>
      obtain ⟨x, s1⟩ := q
      rw [hp] at hr
      simp only at hr
      have he : askS P.rs nm x s1 = (tr, s') := by
        unfold askS askO
        cases ho : ansR P.rs s1.qs.length with
        | none => rw [ho] at hr; simp only at hr; injection hr
        | some y => rw [ho] at hr; simp only at hr; injection hr
      have := eask_any hb hp nm hq
      rw [he] at this
      exact estep_ask this
  rw [if_neg c9] at hr
  by_cases c10 : sg = 161
  · subst c10
    rw [if_pos rfl] at hr
    injection hr with hr; injection hr with h1 h2; subst h1; subst h2
    exact estep_halt h
  rw [if_neg c10] at hr
  refine estep_else (by omega) ?_
  by_cases l1 : 97 ≤ sg ∧ sg ≤ 122
  · exact reck_low hb l1 hr hroom
  by_cases l2 : 65 ≤ sg ∧ sg ≤ 90
  · exact reck_up hb l2 hr
  · exact reck_word hb l1 l2 hr
end
end Go.Proofs.Ytfhgnoajfipjdaa
