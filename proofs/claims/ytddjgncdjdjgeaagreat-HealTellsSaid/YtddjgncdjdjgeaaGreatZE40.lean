/-
  E: Dgm, RefDeeds, PrD, LawHealE.
-/
import Derived.Test.YtddjgncdjdjgeaaGreatZE6
import Derived.Test.YtddjgncdjdjgeaaGreatZE11
import Derived.Test.YtddjgncdjdjgeaaGreatZE38
import Derived.Test.YtddjgncdjdjgeaaGreatZE39
namespace Go.Proofs.YtddjgncdjdjgeaaGreat
open Go.RowKit
def mW (m : Int) : Nat → Int
  | 0 => m
  | k + 1 => mW (wrap64 (m + 1)) k
theorem Dg.run_cut : ∀ (ds : List Deed) (s : St) (k : Nat) (m : Int), k ≤ 1000 → Dg.run ⟨s, (k : Int), m⟩ ds = ⟨doD s (ds.take k), ((k - ds.length : Nat) : Int), mW m (min k ds.length)⟩
  | [], s, k, m, _ => by simp [Dg.run, doD, mW]
  | d :: ds, s, 0, m, _ => by
    have e : Dg.step ⟨s, ((0 : Nat) : Int), m⟩ d = ⟨s, ((0 : Nat) : Int), m⟩ := by unfold Dg.step; exact if_pos rfl
    show Dg.run (Dg.step ⟨s, ((0 : Nat) : Int), m⟩ d) ds = _
    rw [e, Dg.run_cut ds s 0 m (by omega)]
    simp [doD, mW]
  | d :: ds, s, k + 1, m, hk => by
    have e : Dg.step ⟨s, ((k + 1 : Nat) : Int), m⟩ d = ⟨dOne s d, (k : Int), wrap64 (m + 1)⟩ := by
      unfold Dg.step lfD
      show (if ((k + 1 : Nat) : Int) = 0 then _ else _) = _
      rw [if_neg (by omega)]
      show Dg.mk _ (if 0 < ((k + 1 : Nat) : Int) then wrap64 (((k + 1 : Nat) : Int) - 1) else _) _ = _
      rw [if_pos (by omega), show wrap64 (((k + 1 : Nat) : Int) - 1) = (k : Int) from by unfold wrap64; omega]
    show Dg.run (Dg.step ⟨s, ((k + 1 : Nat) : Int), m⟩ d) ds = _
    rw [e, Dg.run_cut ds (dOne s d) k _ (by omega)]
    simp only [List.take_succ_cons, List.length_cons, Nat.add_sub_add_right, Nat.add_min_add_right]
    rfl
theorem Dg.run_all : ∀ (ds : List Deed) (s : St) (m : Int), Dg.run ⟨s, -1, m⟩ ds = ⟨doD s ds, -1, mW m ds.length⟩
  | [], s, m => rfl
  | d :: ds, s, m => by
    have e : Dg.step ⟨s, -1, m⟩ d = ⟨dOne s d, -1, wrap64 (m + 1)⟩ := by
      unfold Dg.step lfD
      show (if (-1 : Int) = 0 then _ else Dg.mk _ (if 0 < (-1 : Int) then _ else -1) _) = _
      rw [if_neg (by decide), if_neg (by decide)]
    show Dg.run (Dg.step ⟨s, -1, m⟩ d) ds = _
    rw [e, Dg.run_all ds (dOne s d) _]
    rfl
theorem mW_mod : ∀ (k : Nat) (m : Int), ∃ z : Int, mW m k = m + k + z * 18446744073709551616
  | 0, m => ⟨0, by simp [mW]⟩
  | k + 1, m => by
    obtain ⟨z, hz⟩ := mW_mod k (wrap64 (m + 1))
    have h1 : wrap64 (m + 1) = (m + 1) - ((m + 1 + 9223372036854775808) / 18446744073709551616) * 18446744073709551616 := by unfold wrap64; omega
    refine ⟨z - (m + 1 + 9223372036854775808) / 18446744073709551616, ?_⟩
    show mW (wrap64 (m + 1)) k = _
    rw [hz, h1]
    omega
theorem mW_sub (k : Nat) (m : Int) (hk : k ≤ 1000) : wrap64 (mW m k - m) = (k : Int) := by
  obtain ⟨z, hz⟩ := mW_mod k m
  rw [hz]; unfold wrap64; omega
theorem mW_nat : ∀ (k : Nat) (m : Nat), m + k ≤ 2000 → mW (m : Int) k = ((m + k : Nat) : Int)
  | 0, m, _ => rfl
  | k + 1, m, h => by
    show mW (wrap64 ((m : Int) + 1)) k = _
    rw [show wrap64 ((m : Int) + 1) = ((m + 1 : Nat) : Int) from by unfold wrap64; omega, mW_nat k (m + 1) (by omega)]
    omega
theorem homeDs_len (x : SV) : ∀ k, (homeDs x k).length ≤ k
  | 0 => Nat.le_refl _
  | k + 1 => by
    have ih := homeDs_len x k
    rw [homeDs, List.length_append]
    split
    · simp only [List.length_cons, List.length_nil]; omega
    · simp only [List.length_nil]; omega
theorem opDs_len (s : St) : (opDs s).length ≤ 68 := by
  unfold opDs
  split
  · rename_i h
    have hr := (bestK_right s.V.length s.S 2).resolve_left (by omega)
    have hr2 := rightR_true.1 hr
    have hp : (openV s (bestK s.V.length s.S 2)).P = (bestK s.V.length s.S 2).pages := (turn_same _ _).2.1
    have h3 := homeDs_len (openV s (bestK s.V.length s.S 2)) (openV s (bestK s.V.length s.S 2)).P
    unfold ckDs
    simp only [List.length_cons, List.length_append, List.length_nil]
    omega
  · simp
end Go.Proofs.YtddjgncdjdjgeaaGreat
namespace Go.Proofs.YtddjgncdjdjgeaaGreat
open Go.RowKit
def RPartPost (w : World) (q gL gN gW : Nat) (rL rN : List Value) (s : St) (n : Int) (e : Ending) (w' : World) : Prop :=
  e = .returned (.int .i64 ((clampN n (opDs s).length : Nat) : Int)) ∧ (∃ gW' m', Rfd w' q gL gN gW' rL rN m' (doD s ((opDs s).take (clampN n (opDs s).length))) ∧ (gW' = gW ∨ w.heap.size ≤ gW')) ∧ Chg [q, gL, gN, gW] w w'
section
variable {w : World} {q gL gN gW : Nat} {rL rN : List Value} {lf m : Int} {s : St}
set_option maxHeartbeats 4000000 in
set_option maxRecDepth 100000 in
theorem rdeeds_any (h : Rfx w q gL gN gW rL rN lf m s) (h1 : 1 ≤ s.V.length) : Calls Tryz.prog 35 #[.pointer (some ⟨q, 0, none⟩)] w fun e w' => e = .returned (.int .i64 ((opDs s).length : Int)) ∧ Chg [] w w' := by
  have hS := h.lenS
  have hle := h.le
  have c1 := h.rec_.cell 1
  have hsrc : Src w (some ⟨gN, 0, none⟩) (bts s.S) := by
    have := Src.of_whole h.now 0 s.S.length
    rwa [List.drop_zero, List.take_append_of_le_length (by rw [bts_len]; exact Nat.le_refl _), List.take_of_length_le (by rw [bts_len]; exact Nat.le_refl _)] at this
  have HOF := Lib.hid (rof_zero (n := s.S.length) (c := s.S.length + rN.length) rfl hsrc (by omega) (by omega) (by omega))
  have HV := Lib.hid (show s.S.length / 64 = s.V.length by omega)
  rw [HV.out] at HOF
  obtain ⟨nS, hnS⟩ : ∃ nS, nS = s.S.length := ⟨_, rfl⟩
  rw [← hnS] at c1 HOF
  clear h h1 hS hle hsrc hnS
  go_enter Tryz.func35, Tryz.ntmps35
  go_wp2_with fail
  refine HOF.out.mono ?_
  rintro e w1 ⟨p, bL, bN, bW, r1, r2, rfl, hd1, hp, hbL, hbN, hbW, hc1⟩
  have HC1 := Lib.hid hc1
  have HFR := Lib.hid (show ∀ i ∈ [p, bL, bN, bW], w.heap.size ≤ i from fun i hi => by
    simp only [List.mem_cons, List.not_mem_nil, or_false] at hi
    rcases hi with rfl | rfl | rfl | rfl <;> omega)
  have HEQ := Lib.hid (opDs_eq (s := s) (s' := ⟨s.S, s.S, falses s.V.length⟩) rfl (falses_len _))
  obtain ⟨s1, hs1⟩ : ∃ s1, s1 = St.mk s.S s.S (falses s.V.length) := ⟨_, rfl⟩
  rw [← hs1] at hd1 HEQ
  have HOP := Lib.hid (ropen_any (d := ⟨s1, -1, 0⟩) hd1 (ex := []) (fun i hi => by cases hi))
  clear hd1 hc1 hp hbL hbN hbW HOF c1 hs1
  go_wp2_with fail
  refine HOP.out.mono ?_
  rintro e w2 hO
  unfold ROpenPost at hO
  simp only at hO
  rcases hO with ⟨h0, rfl, hc2⟩ | ⟨h0, rfl, hc2⟩ | ⟨h0, h1, g, gP, gM, gW', us, rP, rfl, _, _, _, _, hst, hc2⟩
  · have HP := Lib.hid (show (0 : Int) = ((opDs s).length : Int) ∧ Chg [] w w2 from ⟨by rw [← HEQ.out]; unfold opDs; rw [if_neg (by omega)]; rfl, HC1.out.new hc2⟩)
    clear hc2 h0 HOP
    go_wp2_with fail
    go_ret
    exact ⟨by rw [← HP.out.1]; rfl, HP.out.2⟩
  · have HP := Lib.hid (show (0 : Int) = ((opDs s).length : Int) ∧ Chg [] w w2 from ⟨by rw [← HEQ.out]; unfold opDs; rw [if_neg (by omega)]; rfl, HC1.out.new hc2⟩)
    clear hc2 h0 HOP
    go_wp2_with fail
    go_ret
    exact ⟨by rw [← HP.out.1]; rfl, HP.out.2⟩
  · have hop : opDs s1 = ckDs (openV s1 (bestK s1.V.length s1.S 2)) := by unfold opDs; rw [if_pos ⟨h0, h1⟩]
    rw [← hop, Dg.run_all] at hst
    have hm : mW 0 (opDs s1).length = ((opDs s).length : Int) := by
      have h2 := opDs_len s1
      have h3 := mW_nat (opDs s1).length 0 (by omega)
      rw [HEQ.out] at h3 ⊢
      simpa using h3
    rw [hm] at hst
    have k4 := hst.dsk.rec_.cell 4
    have HP := Lib.hid (show Chg [] w w2 from HC1.out.then_ hc2 (fun i hi hw => by have := HFR.out i hi; omega))
    clear hc2 h0 h1 HOP hst hop hm
    go_wp2_with fail
    go_ret
    exact ⟨rfl, HP.out⟩
theorem Rfx.left (h : Rfx w q gL gN gW rL rN lf m s) (k : Int) : Rfx (w.setCell ⟨q, 3, none⟩ (.int .i64 k)) q gL gN gW rL rN k m s :=
  ⟨h.rec_.set_ 3 _, h.last.far (h.last.ne_ h.rec_ (by decide)) _, h.now.far (h.now.ne_ h.rec_ (by decide)) _, h.wait.far (h.wait.ne_ h.rec_ (by decide)) _, h.lenL, h.lenS, h.le, h.ne⟩
set_option maxHeartbeats 4000000 in
set_option maxRecDepth 100000 in
theorem rpart_any (h : Rfd w q gL gN gW rL rN m s) (h1 : 1 ≤ s.V.length) (n : Int) : Calls Tryz.prog 38 #[.pointer (some ⟨q, 0, none⟩), .int .i64 n] w (RPartPost w q gL gN gW rL rN s n) := by
  have HDD := Lib.hid (rdeeds_any h h1)
  have H := Lib.hid h
  obtain ⟨D, hD⟩ : ∃ D, D = (opDs s).length := ⟨_, rfl⟩
  have HD := Lib.hid hD
  have h68 := opDs_len s
  rw [← hD] at HDD h68
  obtain ⟨z, hz⟩ : ∃ z : Nat, z = n.toNat := ⟨_, rfl⟩
  obtain ⟨K, hK⟩ : ∃ K, K = clampN n D := ⟨_, rfl⟩
  have e1 : max n 0 = (z : Int) := by omega
  have e2 : min (z : Int) (D : Int) = (K : Int) := by rw [hK]; unfold clampN; omega
  have hKD : K ≤ D := by rw [hK]; exact Nat.min_le_right _ _
  have HK := Lib.hid (show K = clampN n (opDs s).length by rw [hK, hD])
  clear h h1 hD hz hK
  go_enter Tryz.func38, Tryz.ntmps38
  go_wp2_with fail
  refine HDD.out.mono ?_
  rintro e w1 ⟨rfl, hc1⟩
  have HC1 := Lib.hid hc1
  have HR1 := Lib.hid (Rfx.keep H.out hc1)
  clear hc1
  by_cases h0 : K = 0
  · subst h0
    have e3 : (((0 : Nat) : Int) == 0) = true := rfl
    have HP := Lib.hid (show RPartPost w q gL gN gW rL rN s n (.returned (.int .i64 ((0 : Nat) : Int))) w1 from by
      unfold RPartPost
      rw [← HK.out]
      exact ⟨rfl, ⟨gW, m, HR1.out, .inl rfl⟩, HC1.out.sub (fun _ h => by cases h)⟩)
    go_wp2_with fail
    go_ret
    exact HP.out
  · have e3 : ((K : Int) == 0) = false := by simp; omega
    have f3 := HR1.out.rec_.frozen 3
    have k3 := HR1.out.rec_.cell 3
    have k4 := HR1.out.rec_.cell 4
    go_upto_region 6 with fail
    have HR2 := Lib.hid (Rfx.left HR1.out (K : Int))
    have HC2 := Lib.hid (show Chg [q] w (w1.setCell ⟨q, 3, none⟩ (.int .i64 (K : Int))) from (HC1.out.sub (fun _ h => by cases h)).setCell (by simp) _)
    generalize w1.setCell ⟨q, 3, none⟩ (.int .i64 (K : Int)) = w2 at HR2 HC2 ⊢
    have HOP := Lib.hid (ropen_any (d := ⟨s, (K : Int), m⟩) HR2.out (ex := []) (fun i hi => by cases hi))
    clear f3 k4 k3
    go_wp2_with fail
    refine HOP.out.mono ?_
    rintro e w3 hO
    unfold ROpenPost at hO
    simp only at hO
    obtain ⟨v3, gW', mm, rfl, hd3, hmm, hgw, hc3⟩ : ∃ v3 gW' mm, e = .returned (.tuple #[v3, .int .i64 0]) ∧ Rfx w3 q gL gN gW' rL rN ((K - D : Nat) : Int) mm (doD s ((opDs s).take K)) ∧ wrap64 (mm - m) = (K : Int) ∧ (gW' = gW ∨ w2.heap.size ≤ gW') ∧ Chg [q, gL, gN, gW] w2 w3 := by
      have hpos : (opDs s).length ≠ 0 := by rw [← HD.out]; omega
      rcases hO with ⟨h2, _⟩ | ⟨h2, _⟩ | ⟨h2, h3, g, gP, gM, gW', us, rP, rfl, _, _, _, hg, hst, hc2⟩
      · exact absurd (by unfold opDs; rw [if_neg (by omega)]; rfl) hpos
      · exact absurd (by unfold opDs; rw [if_neg (by omega)]; rfl) hpos
      · have hop : opDs s = ckDs (openV s (bestK s.V.length s.S 2)) := by unfold opDs; rw [if_pos ⟨h2, h3⟩]
        rw [← hop, Dg.run_cut _ _ _ _ (by omega), ← HD.out, Nat.min_eq_left hKD] at hst
        exact ⟨_, gW', mW m K, rfl, hst.dsk, mW_sub K m (by omega), hg, hc2⟩
    have f3 := hd3.rec_.frozen 3
    have k3 := hd3.rec_.cell 3
    have k4 := (Rfx.left hd3 (-1)).rec_.cell 4
    have HR4 := Lib.hid (Rfx.left hd3 (-1))
    have HC4 := Lib.hid (show Chg [q, gL, gN, gW] w (w3.setCell ⟨q, 3, none⟩ (.int .i64 (-1))) from ((HC2.out.sub (T' := [q, gL, gN, gW]) (fun i h => by simp only [List.mem_singleton] at h; subst h; simp)).trans hc3).setCell (by simp) _)
    have HGW := Lib.hid (show gW' = gW ∨ w.heap.size ≤ gW' from hgw.imp id (fun h => by have := HC2.out.size; omega))
    clear hO HOP hd3 hgw hc3
    go_upto_region 8 with fail
    generalize w3.setCell ⟨q, 3, none⟩ (.int .i64 (-1)) = w4 at HR4 HC4 k4 ⊢
    clear f3 k3
    go_wp2_with fail
    go_ret
    unfold RPartPost
    rw [← HK.out]
    refine ⟨?_, ⟨gW', mm, HR4.out, HGW.out⟩, HC4.out⟩
    rw [← hmm]; rfl
end
end Go.Proofs.YtddjgncdjdjgeaaGreat
namespace Go.Proofs.YtddjgncdjdjgeaaGreat
open Go.RowKit
/-- A disk and the reference's, alike and apart. -/
structure PrD (w : World) (p bL bS bW q gL gN gW : Nat) (rL rN : List Value) (m : Int) (s : St) : Prop where
  d : DskS w p bL bS bW s
  r : Rfd w q gL gN gW rL rN m s
  sep : ∀ i ∈ [p, bL, bS, bW], i ∉ [q, gL, gN, gW]
section
variable {w w' : World} {p bL bS bW q gL gN gW : Nat} {rL rN : List Value} {m : Int} {s : St}
theorem PrD.keep (h : PrD w p bL bS bW q gL gN gW rL rN m s) (hc : Chg [] w w') : PrD w' p bL bS bW q gL gN gW rL rN m s := ⟨Dsk.keep h.d hc, Rfx.keep h.r hc, h.sep⟩
theorem PrD.lts (h : PrD w p bL bS bW q gL gN gW rL rN m s) : p < w.heap.size ∧ bL < w.heap.size ∧ bS < w.heap.size ∧ bW < w.heap.size := ⟨(Dsk.rec_ h.d).lt, (Dsk.last h.d).lt, (Dsk.seen h.d).lt, (Dsk.wait h.d).lt⟩
/-- The disk is written. -/
theorem PrD.ref (h : PrD w p bL bS bW q gL gN gW rL rN m s) (hc : Chg [bL, bS, bW] w w') : Rfd w' q gL gN gW rL rN m s := by
  have key : ∀ j ∈ [q, gL, gN, gW], j ∉ [bL, bS, bW] := fun j hj hm => h.sep j (List.mem_cons_of_mem _ hm) hj
  exact Rfx.away h.r hc (key _ (by simp)) (key _ (by simp)) (key _ (by simp)) (key _ (by simp))
/-- The reference's is written. -/
theorem PrD.dsk {s' : St} (h : PrD w p bL bS bW q gL gN gW rL rN m s) {v : World} (hd : DskS v p bL bS bW s') (hc : Chg [q, gL, gN, gW] v w') : DskS w' p bL bS bW s' :=
  Dsk.away hd hc (h.sep _ (by simp)) (h.sep _ (by simp)) (h.sep _ (by simp)) (h.sep _ (by simp))
theorem PrD.sep' (h : PrD w p bL bS bW q gL gN gW rL rN m s) {v : World} (hv : w.heap.size ≤ v.heap.size) {gW' : Nat} (hg : gW' = gW ∨ v.heap.size ≤ gW') : ∀ i ∈ [p, bL, bS, bW], i ∉ [q, gL, gN, gW'] := fun i hi hm => by
  have h1 := h.sep i hi
  have h2 := h.lts
  simp only [List.mem_cons, List.not_mem_nil, or_false] at hi hm h1
  rcases hg with rfl | hg
  · exact h1 hm
  · rcases hm with e | e | e | e
    · exact h1 (.inl e)
    · exact h1 (.inr (.inl e))
    · exact h1 (.inr (.inr (.inl e)))
    · rcases hi with rfl | rfl | rfl | rfl <;> omega
def SameDPost (w : World) (p bL bS bW q gL gN gW : Nat) (rL rN : List Value) (s : St) (n : Int) (e : Ending) (w' : World) : Prop :=
  e = .returned (.bool true) ∧ (∃ gW' m', PrD w' p bL bS bW q gL gN gW' rL rN m' (doD s ((opDs s).take (clampN n (opDs s).length))) ∧ (gW' = gW ∨ w.heap.size ≤ gW')) ∧ Chg [bL, bS, bW, q, gL, gN, gW] w w'
set_option maxHeartbeats 4000000 in
set_option maxRecDepth 100000 in
theorem sameD_any (h : PrD w p bL bS bW q gL gN gW rL rN m s) (h1 : 1 ≤ s.V.length) (n : Int) :
    Calls Tryz.prog 9 #[.pointer (some ⟨p, 0, none⟩), .pointer (some ⟨q, 0, none⟩), .int .i64 n] w (SameDPost w p bL bS bW q gL gN gW rL rN s n) := by
  have H := Lib.hid h
  have H1 := Lib.hid h1
  clear h h1
  go_enter Tryz.func9, Tryz.ntmps9
  go_wp2_with fail
  refine (hdeeds_any H.out.d).mono ?_
  rintro e w1 ⟨rfl, hc1⟩
  have H1' := Lib.hid (H.out.keep hc1)
  have HC1 := Lib.hid hc1
  obtain ⟨D, hD⟩ : ∃ D, D = (opDs s).length := ⟨_, rfl⟩
  have HD := Lib.hid hD
  rw [← hD]
  clear hc1 hD
  go_wp2_with fail
  refine (rdeeds_any H1'.out.r H1.out).mono ?_
  rintro e w2 ⟨rfl, hc2⟩
  rw [← HD.out]
  have H2 := Lib.hid (H1'.out.keep hc2)
  have HC2 := Lib.hid (HC1.out.new hc2)
  clear hc2
  go_wp2_with fail
  refine (alikeL_yes H2.out.d H2.out.r).mono ?_
  rintro e w3 ⟨rfl, hc3⟩
  have H3 := Lib.hid (H2.out.keep hc3)
  have HC3 := Lib.hid (HC2.out.new hc3)
  clear hc3
  go_wp2_with fail
  refine (part_any H3.out.d n).mono ?_
  rintro e w4 ⟨rfl, hd4, hc4⟩
  have HR4 := Lib.hid (H3.out.ref hc4)
  have HD4 := Lib.hid hd4
  have HC4 := Lib.hid (show Chg [bL, bS, bW, q, gL, gN, gW] w w4 from (HC3.out.sub (fun _ h => by cases h)).trans (hc4.sub (by simp)))
  have HSZ := Lib.hid (show w3.heap.size ≤ w4.heap.size from hc4.size)
  have HSZ3 := Lib.hid (show w.heap.size ≤ w3.heap.size from HC3.out.size)
  obtain ⟨K, hK⟩ : ∃ K, K = clampN n (opDs s).length := ⟨_, rfl⟩
  have HK := Lib.hid hK
  rw [← hK] at HD4 ⊢
  clear hd4 hc4 hK
  go_wp2_with fail
  refine (rpart_any HR4.out H1.out n).mono ?_
  rintro e w5 ⟨rfl, ⟨gW', m', hr5, hg⟩, hc5⟩
  rw [← HK.out] at hr5 ⊢
  have HP5 := Lib.hid (show PrD w5 p bL bS bW q gL gN gW' rL rN m' (doD s ((opDs s).take K)) from ⟨H3.out.dsk HD4.out hc5, hr5, H3.out.sep' HSZ.out hg⟩)
  have HC5 := Lib.hid (show Chg [bL, bS, bW, q, gL, gN, gW] w w5 from HC4.out.trans (hc5.sub (by simp)))
  have HG := Lib.hid (show gW' = gW ∨ w.heap.size ≤ gW' from hg.imp id (fun h => by have h1 := HSZ.out; have h2 := HSZ3.out; omega))
  clear hr5 hg hc5
  go_wp2_with fail
  refine (alikeL_yes HP5.out.d HP5.out.r).mono ?_
  rintro e w6 ⟨rfl, hc6⟩
  have HP := Lib.hid (show SameDPost w p bL bS bW q gL gN gW rL rN s n (.returned (.bool true)) w6 from by
    unfold SameDPost
    rw [← HK.out]
    exact ⟨rfl, ⟨gW', m', HP5.out.keep hc6, HG.out⟩, HC5.out.new hc6⟩)
  clear hc6
  go_wp2_with fail
  go_ret
  exact HP.out
end
theorem Sa.doD : ∀ (ds : List Deed) {s : St}, Sa s → (∀ d ∈ ds, okD s.V.length d) → Sa (doD s ds)
  | [], _, h, _ => h
  | d :: ds, s, h, ho => by
    have hd := ho d List.mem_cons_self
    have h1 : Sa (dOne s d) := by
      cases d with
      | none => exact h.flA
      | some y => exact h.write hd.1 hd.2
    exact Sa.doD ds h1 (fun d' h' => by rw [dOne_len]; exact ho d' (List.mem_cons_of_mem _ h'))
theorem Sa.part {s : St} (h : Sa s) (k : Nat) : Sa (Go.Proofs.YtddjgncdjdjgeaaGreat.doD s ((opDs s).take k)) := Sa.doD _ h (fun d hd => okD_op h.ls d (List.mem_of_mem_take hd))
end Go.Proofs.YtddjgncdjdjgeaaGreat
namespace Go.Proofs.YtddjgncdjdjgeaaGreat
open Go.RowKit
section
variable {w : World} {A : Option Addr} {n c : Nat} {l : List UInt8}
set_option maxHeartbeats 1000000 in
set_option maxRecDepth 100000 in
theorem pairD_no (hn : n ≤ 1000000) (h : n < 64 ∨ 10304 ≤ n ∨ n % 64 ≠ 0) : Calls Tryz.prog 10 #[.slice A n c] w fun e w' => e = .returned (.tuple #[.pointer none, .pointer none]) ∧ Chg [] w w' := by
  have HO := Lib.hid (fun W : World => of_no (w := W) (A := A) (c := c) hn h)
  have HR := Lib.hid (fun W : World => rof_no (w := W) (A := A) (c := c) hn h)
  clear hn h
  go_enter Tryz.func10, Tryz.ntmps10
  go_wp2_with fail
  refine (HO.out _).mono ?_
  rintro e w1 ⟨rfl, rfl⟩
  go_wp2_with fail
  refine (HR.out _).mono ?_
  rintro e w2 ⟨rfl, rfl⟩
  go_wp2_with fail
  go_ret2
  exact ⟨rfl, Chg.refl _ _⟩
theorem pairD_any (hb : Bs w A n c l) (hn : n ≤ 640) : Calls Tryz.prog 10 #[.slice A n c] w fun e w' => (e = .returned (.tuple #[.pointer none, .pointer none]) ∧ Chg [] w w') ∨ ((64 ≤ n ∧ n < 10304) ∧ PairPost w (n / 64) l e w') := by
  by_cases h : n < 64 ∨ n % 64 ≠ 0
  · exact (pairD_no (by omega) (by omega)).mono fun _ _ hp => .inl hp
  · exact (pair_yes hb.len hb.src (by omega) (by omega) (by omega)).mono fun _ _ hp => .inr ⟨⟨by omega, by omega⟩, hp⟩
end
section
variable {w : World} {A C A4 A5 : Option Addr} {n c m d n4 c4 n5 c5 : Nat} {xs cs ys : List Int} {l5 : List UInt8}
set_option maxHeartbeats 16000000 in
set_option maxRecDepth 100000 in
theorem healTells_any (hl : xs.length = n) (hs : Src w A (nms xs)) (hsp : 0 < n → ∀ ad, A = some ad → ad.spot = none ∧ ad.block < w.heap.size) (hr : ∀ x ∈ xs, -9223372036854775808 ≤ x ∧ x ≤ 9223372036854775807) (hnm : n ≤ 9223372036854775807)
    (hcl : cs.length = m) (hcs : Src w C (nms cs)) (hcsp : 0 < m → ∀ ad, C = some ad → ad.spot = none ∧ ad.block < w.heap.size)
    (n2 n3 : Int) (h20 : -9223372036854775808 ≤ n2) (h21 : n2 ≤ 9223372036854775807) (h30 : -9223372036854775808 ≤ n3) (h31 : n3 ≤ 9223372036854775807)
    (hal : ys.length = n4) (has : Src w A4 (nms ys)) (hasp : 0 < n4 → ∀ ad, A4 = some ad → ad.spot = none ∧ ad.block < w.heap.size) (ham : n4 ≤ 9223372036854775807)
    (hi : Bs w A5 n5 c5 l5) :
    Calls Tryz.prog 4 #[.slice A n c, .slice C m d, .int .i64 n2, .int .i64 n3, .slice A4 n4 c4, .slice A5 n5 c5] w (LawPost w) := by
  have HMD := Lib.hid (made_any (c := c) (d := d) hl hs hsp hr hnm hcl hcs hcsp)
  have HAL := Lib.hid hal
  have HAS := Lib.hid has
  have HASP := Lib.hid hasp
  have HB := Lib.hid hi
  have hi5 := hi.cap
  have hm5 := hi.max
  clear hl hs hsp hr hcl hcs hcsp hal has hasp hi
  go_enter Tryz.func4, Tryz.ntmps4
  go_wp2_with fail
  refine HMD.out.mono ?_
  rintro e w1 ⟨l, hmi, p, bL, bS, bW, q, gL, gN, gW, rL, rN, mm, rfl, hd1, hr1, hge, hsep, hc1⟩
  have hl64 : l.length = 1536 := by obtain ⟨_, _, _, _, _, _, h, _⟩ := hmi; exact h
  obtain ⟨s0, hs0⟩ : ∃ s0, s0 = (⟨l, l, falses 24⟩ : St) := ⟨_, rfl⟩
  rw [← hs0] at hd1 hr1
  have HSA := Lib.hid (show Sa s0 ∧ s0.V.length = 24 from ⟨by rw [hs0]; exact Sa.of_len (by omega), by rw [hs0]; exact falses_len 24⟩)
  have HP1 := Lib.hid (PrD.mk hd1 hr1 hsep)
  have HFR := Lib.hid (show ∀ i ∈ [bL, bS, bW, q, gL, gN], w.heap.size ≤ i from fun i hi => hge i (by simp only [List.mem_cons, List.not_mem_nil, or_false] at hi ⊢; rcases hi with h | h | h | h | h | h <;> simp [h]))
  have HGW := Lib.hid (show w.heap.size ≤ gW from hge _ (by simp))
  have HF7 := Lib.hid (show ∀ gX, w.heap.size ≤ gX → ∀ i ∈ [bL, bS, bW, q, gL, gN, gX], w.heap.size ≤ i from fun gX hg i hi => by
    simp only [List.mem_cons, List.not_mem_nil, or_false] at hi
    rcases hi with rfl | rfl | rfl | rfl | rfl | rfl | rfl
    · exact HFR.out _ (by simp)
    · exact HFR.out _ (by simp)
    · exact HFR.out _ (by simp)
    · exact HFR.out _ (by simp)
    · exact HFR.out _ (by simp)
    · exact HFR.out _ (by simp)
    · exact hg)
  have HC1 := Lib.hid hc1
  clear hmi hl64 hd1 hr1 hge hsep hc1 HMD hs0
  go_wp2_with fail
  with_reducible refine (within_is n2 (-1) 12 (by omega) (by omega) (by omega) h20 h21).mono ?_
  rintro e w' ⟨rfl, rfl⟩
  obtain ⟨k2, hk2⟩ : ∃ k2, k2 = withinI n2 (-1) 12 := ⟨_, rfl⟩
  rw [← hk2]
  clear hk2
  go_wp2_with fail
  refine (sameD_any HP1.out (by rw [HSA.out.2]; omega) k2).mono ?_
  rintro e w2 ⟨rfl, ⟨gW2, m2, hp2, hg2⟩, hc2⟩
  obtain ⟨s2, hs2⟩ : ∃ s2, s2 = doD s0 ((opDs s0).take (clampN k2 (opDs s0).length)) := ⟨_, rfl⟩
  have HSA2 := Lib.hid (show Sa s2 ∧ s2.V.length = 24 from by rw [hs2]; exact ⟨HSA.out.1.part _, by rw [doD_len]; exact HSA.out.2⟩)
  rw [← hs2] at hp2
  have HP2 := Lib.hid hp2
  have HGW2 := Lib.hid (show w.heap.size ≤ gW2 from by have h1 := HGW.out; have h2 := HC1.out.size; rcases hg2 with h | h <;> omega)
  have HC2 := Lib.hid (HC1.out.then_ hc2 (fun i hi hw => by have := HF7.out _ HGW.out i hi; omega))
  clear hp2 hg2 hc2 hs2 HP1
  have hcaA : 0 < ys.length → ∀ ad, A4 = some ad → ad.spot = none ∧ ad.block < w.heap.size := fun h0 ad e => HASP.out (by rw [← HAL.out]; exact h0) ad e
  have HCA := Lib.hid (crash_any (c := c4) HP2.out.d HAL.out (HAS.out.keep HC2.out) (fun h0 ad e => (hcaA h0 ad e).1) (fun h0 ad e hm => by
    have h1 := (hcaA h0 ad e).2
    have h2 := HFR.out ad.block (by simp only [List.mem_cons, List.not_mem_nil, or_false] at hm ⊢; rcases hm with h | h | h <;> simp [h])
    omega) ham)
  obtain ⟨nw, hnw⟩ : ∃ nw, nw = (wl s2.V s2.V.length).length := ⟨_, rfl⟩
  have HNW := Lib.hid hnw
  rw [← hnw] at HCA
  clear hnw
  go_wp2_with fail
  refine HCA.out.mono ?_
  rintro e w3 ⟨rfl, hd3, hc3⟩
  rw [HNW.out] at hd3
  have HR3 := Lib.hid (HP2.out.ref hc3)
  have HD3 := Lib.hid hd3
  have HC3 := Lib.hid (HC2.out.then_ hc3 (fun i hi hw => by have h2 := HFR.out i (by simp only [List.mem_cons, List.not_mem_nil, or_false] at hi ⊢; rcases hi with h | h | h <;> simp [h]); omega))
  have HSZ3 := Lib.hid (show w2.heap.size ≤ w3.heap.size from hc3.size)
  have HRC := Lib.hid (rcrash_any HR3.out (c := c4) HAL.out (HAS.out.keep HC3.out) (fun h0 ad e => (hcaA h0 ad e).1) (fun h0 ad e hm => by
    have h1 := (hcaA h0 ad e).2
    have h2 := HFR.out ad.block (by simp only [List.mem_cons, List.not_mem_nil, or_false] at hm ⊢; rcases hm with h | h | h <;> simp [h])
    omega))
  clear hd3 hc3 HCA hcaA
  go_wp2_with fail
  refine HRC.out.mono ?_
  rintro e w4 ⟨gW4, rfl, hr4, hg4, hc4⟩
  rw [← HNW.out]
  obtain ⟨l4, hl4, hle⟩ := HSA2.out.1.crash ys
  have hrl : rcL s2 (wl s2.V s2.V.length) ys (wl s2.V s2.V.length).length = l4 := by
    rw [rcL_eq HSA2.out.1 (wl s2.V s2.V.length) ys (fun i hi => wl_lt s2.V s2.V.length i hi) (wl_rises _ _) _ (Nat.le_refl _), hle]
  rw [hrl] at hr4
  have hd4 := HP2.out.dsk HD3.out (hc4.sub (T' := [q, gL, gN, gW2]) (fun i h => by simp only [List.mem_cons, List.not_mem_nil, or_false] at h ⊢; rcases h with h | h | h <;> simp [h]))
  have hle' : St.crash ⟨s2.L, s2.S, s2.V⟩ (wl s2.V s2.V.length) ys (wl s2.V s2.V.length).length = ⟨l4, l4, falses s2.V.length⟩ := hle
  rw [hle'] at hd4
  rw [HSA2.out.2] at hd4 hr4 hl4
  obtain ⟨s4, hs4⟩ : ∃ s4, s4 = (⟨l4, l4, falses 24⟩ : St) := ⟨_, rfl⟩
  rw [← hs4] at hd4 hr4
  have HSA4 := Lib.hid (show Sa s4 ∧ s4.V.length = 24 from ⟨by rw [hs4]; exact Sa.of_len hl4, by rw [hs4]; exact falses_len 24⟩)
  have HP4 := Lib.hid (PrD.mk hd4 hr4 (HP2.out.sep' HSZ3.out (.inr hg4)))
  have HGW4 := Lib.hid (show w.heap.size ≤ gW4 from by have := HC3.out.size; omega)
  have HC4 := Lib.hid (HC3.out.then_ hc4 (fun i hi hw => by have h2 := HFR.out i (by simp only [List.mem_cons, List.not_mem_nil, or_false] at hi ⊢; rcases hi with h | h | h <;> simp [h]); omega))
  clear hr4 hg4 hc4 hl4 hle hle' hrl hd4 hs4 HRC HD3 HR3
  go_wp2_with fail
  with_reducible refine (within_is n3 (-1) 12 (by omega) (by omega) (by omega) h30 h31).mono ?_
  rintro e w' ⟨rfl, rfl⟩
  obtain ⟨k3, hk3⟩ : ∃ k3, k3 = withinI n3 (-1) 12 := ⟨_, rfl⟩
  rw [← hk3]
  clear hk3
  go_wp2_with fail
  refine (sameD_any HP4.out (by rw [HSA4.out.2]; omega) k3).mono ?_
  rintro e w5 ⟨rfl, ⟨gW5, m5, hp5, hg5⟩, hc5⟩
  obtain ⟨s5, hs5⟩ : ∃ s5, s5 = doD s4 ((opDs s4).take (clampN k3 (opDs s4).length)) := ⟨_, rfl⟩
  have HSA5 := Lib.hid (show s5.V.length = 24 from by rw [hs5, doD_len]; exact HSA4.out.2)
  rw [← hs5] at hp5
  have HP5 := Lib.hid hp5
  have HGW5 := Lib.hid (show w.heap.size ≤ gW5 from by have h1 := HGW4.out; have h2 := HC4.out.size; rcases hg5 with h | h <;> omega)
  have HC5 := Lib.hid (HC4.out.then_ hc5 (fun i hi hw => by have := HF7.out _ HGW4.out i hi; omega))
  clear hp5 hg5 hc5 hs5
  go_wp2_with fail
  refine (sameD_any HP5.out (by rw [HSA5.out]; omega) n2).mono ?_
  rintro e w9 ⟨rfl, _, hc9⟩
  have HC9 := Lib.hid (HC5.out.then_ hc9 (fun i hi hw => by have := HF7.out _ HGW5.out i hi; omega))
  clear hc9
  have HB9 := Lib.hid (HB.out.keep HC9.out)
  by_cases h640 : 640 < n5
  · have hI : (640 : Int) < (n5 : Int) := by omega
    have e3 : (640 : Int) ≤ (c5 : Int) := by omega
    have e4 : 640 ≤ c5 := by omega
    have HI := Lib.hid (show Bs w9 A5 640 c5 (l5.take 640) from by
      have hb := HB9.out
      refine ⟨by rw [List.length_take, hb.len]; omega, fun h0 => ?_, by omega, hb.max, fun _ => hb.spot (by omega)⟩
      obtain ⟨ad, e, hlt, hcell⟩ := hb.src (by rw [bts_len, hb.len]; omega)
      exact ⟨ad, e, hlt, fun j v hj => hcell j v (by
        have h2 : bts (l5.take 640) = (bts l5).take 640 := by simp [bts, List.map_take]
        rw [h2, List.getElem?_take] at hj
        split at hj
        · exact hj
        · cases hj)⟩)
    have hn640 : (640 : Nat) ≤ 640 := Nat.le_refl _
    go_wp2_with fail
    refine (pairD_any HI.out hn640).mono ?_
    rintro e wp hP
    rcases hP with ⟨rfl, hcp⟩ | ⟨hok, p', bL', bS', bW', q', gL', gN', gW'', rL', rN', m'', rfl, hd', hr', hge', hsep', hcp⟩
    · have HCP := Lib.hid (HC9.out.new hcp)
      clear hcp
      go_wp2_with fail
      refine known19.mono ?_
      rintro e wk ⟨rfl, hck⟩
      have HCK := Lib.hid (HCP.out.new hck)
      clear hck
      go_wp2_with fail
      go_ret
      exact ⟨rfl, HCK.out⟩
    · have HPX := Lib.hid (PrD.mk hd' hr' hsep')
      have HGE := Lib.hid hge'
      have HCP := Lib.hid (HC9.out.new hcp)
      have HSZ9 := Lib.hid (show w.heap.size ≤ w9.heap.size from HC9.out.size)
      have h1v : 1 ≤ (St.mk (l5.take 640) (l5.take 640) (falses (640 / 64))).V.length := by rw [falses_len]; omega
      clear hd' hr' hge' hsep' hcp
      go_wp2_with fail
      refine (sameD_any HPX.out h1v n2).mono ?_
      rintro e ws ⟨rfl, _, hcs⟩
      have HCS := Lib.hid (HCP.out.then_ hcs (fun i hi hw => by have h1 := HGE.out i (by simp only [List.mem_cons, List.not_mem_nil, or_false] at hi ⊢; rcases hi with h | h | h | h | h | h | h <;> simp [h]); have h2 := HSZ9.out; omega))
      clear hcs h1v
      go_wp2_with fail
      refine known19.mono ?_
      rintro e wk ⟨rfl, hck⟩
      have HCK := Lib.hid (HCS.out.new hck)
      clear hck
      go_wp2_with fail
      go_ret
      exact ⟨rfl, HCK.out⟩
  · have hI : ¬ (640 : Int) < (n5 : Int) := by omega
    have HI := HB9
    have hn640 : n5 ≤ 640 := by omega
    go_wp2_with fail
    refine (pairD_any HI.out hn640).mono ?_
    rintro e wp hP
    rcases hP with ⟨rfl, hcp⟩ | ⟨hok, p', bL', bS', bW', q', gL', gN', gW'', rL', rN', m'', rfl, hd', hr', hge', hsep', hcp⟩
    · have HCP := Lib.hid (HC9.out.new hcp)
      clear hcp
      go_wp2_with fail
      refine known19.mono ?_
      rintro e wk ⟨rfl, hck⟩
      have HCK := Lib.hid (HCP.out.new hck)
      clear hck
      go_wp2_with fail
      go_ret
      exact ⟨rfl, HCK.out⟩
    · have HPX := Lib.hid (PrD.mk hd' hr' hsep')
      have HGE := Lib.hid hge'
      have HCP := Lib.hid (HC9.out.new hcp)
      have HSZ9 := Lib.hid (show w.heap.size ≤ w9.heap.size from HC9.out.size)
      have h1v : 1 ≤ (St.mk l5 l5 (falses (n5 / 64))).V.length := by rw [falses_len]; omega
      clear hd' hr' hge' hsep' hcp
      go_wp2_with fail
      refine (sameD_any HPX.out h1v n2).mono ?_
      rintro e ws ⟨rfl, _, hcs⟩
      have HCS := Lib.hid (HCP.out.then_ hcs (fun i hi hw => by have h1 := HGE.out i (by simp only [List.mem_cons, List.not_mem_nil, or_false] at hi ⊢; rcases hi with h | h | h | h | h | h | h <;> simp [h]); have h2 := HSZ9.out; omega))
      clear hcs h1v
      go_wp2_with fail
      refine known19.mono ?_
      rintro e wk ⟨rfl, hck⟩
      have HCK := Lib.hid (HCS.out.new hck)
      clear hck
      go_wp2_with fail
      go_ret
      exact ⟨rfl, HCK.out⟩
end
end Go.Proofs.YtddjgncdjdjgeaaGreat
