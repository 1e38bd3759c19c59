/-
  UN: LawUNm.
-/
import Derived.Test.YtodbeeodhekpeaaDoorZUN2
import Derived.Test.YtodbeeodhekpeaaDoorZUN37
import Derived.Test.YtodbeeodhekpeaaDoorZUN46
import Derived.Test.YtodbeeodhekpeaaDoorZUN47
namespace Go.Proofs.YtodbeeodhekpeaaDoor
open Go.RowKit
open Go.Lib (decDigits encodeRune)
theorem own_empty (w : World) (e k : Nat) : (w.alloc (.cells #[] e)).ownsRow w.heap.size e k (.slice (some ⟨w.heap.size, 0, none⟩) 0 0) 0 [] :=
  ⟨by simp, .inr ⟨w.heap.size, 0, #[], rfl, Nat.le_refl _, heap_alloc_new w _, Nat.le_refl _, by unfold maxLen; omega, by simp, by simp⟩⟩
theorem fnCs_one_cell (l : List FnV) : ∀ u ∈ fnCs l, u.oneCell' = true := by
  induction l with
  | nil => intro u hu; simp [fnCs] at hu
  | cons f l ih =>
    intro u hu
    rw [show fnCs (f :: l) = fnC f ++ fnCs l from rfl, List.mem_append] at hu
    rcases hu with hu | hu
    · simp only [fnC, List.mem_cons, List.not_mem_nil, or_false] at hu
      rcases hu with rfl | rfl | rfl <;> rfl
    · exact ih u hu
theorem exec_app {ev : Operand → Value} {d : Option Tmp} {ty t : TypeId} {pos : String} {af : Array Go.Edge} {g : Option (Nat × Bool)} {s x : Operand} {W w' : World} {v' V X : Value} (e1 : ev s = V) (e2 : ev x = X)
    (hrun : (Builtin.append_ #[t, t] ty #[V, X]).run Tryd.prog W = .ok v' w') : (execOp ev ⟨d, .call { callee := .builtin .append, args := #[s, x], argTypes := #[t, t] }, ty, pos, af, g⟩).run Tryd.prog W = .ok (.value v') w' := by
  unfold execOp
  simp only [resolve, invoke, builtin, Sem.run_bind, Sem.run_pure, Result.andThen_ok, List.map_toArray, List.map_cons, List.map_nil, e1, e2, hrun]
section
variable (gw B : Nat) (pg ms : Int) (S0 : Value) (m : Nat) (X : List FnV)
/-- The program is written. -/
def nmPh (W : World) : Prop := ∃ A c, Whole W gw 25 [.int .i64 pg, .int .i64 ms, .slice A m c] ∧ W.ownsRow B 32 3 (.slice A m c) m (fnCs X)
def nmEx (W : World) : Prop := Whole W gw 25 [.int .i64 pg, .int .i64 ms, S0] ∨ nmPh gw B pg ms m X W
structure NmH (a b : World) : Prop where
  os : b.os = a.os
  tape : b.tape = a.tape
  output : b.output = a.output
  size : a.heap.size ≤ b.heap.size
  old : ∀ k, k < a.heap.size → k < B → k ≠ gw → b.heap[k]? = a.heap[k]?
  st : nmEx gw B pg ms S0 m X a → nmEx gw B pg ms S0 m X b
  fin : nmPh gw B pg ms m X a → nmPh gw B pg ms m X b
end
section
variable {gw B : Nat} {pg ms : Int} {S0 : Value} {m : Nat} {X : List FnV} {a b : World}
theorem nmPh_keep (hc : Chg [] a b) (h : nmPh gw B pg ms m X a) : nmPh gw B pg ms m X b := by
  obtain ⟨A, c, h1, h2⟩ := h
  exact ⟨A, c, h1.keep hc, rown_keep h2 hc⟩
theorem NmH.of_chg (hc : Chg [] a b) : NmH gw B pg ms S0 m X a b := ⟨hc.os, hc.tape, hc.output, hc.size, fun k hk _ _ => hc.block k hk (by simp), fun h => h.imp (fun h => h.keep hc) (nmPh_keep hc), nmPh_keep hc⟩
theorem NmH.whole (h : NmH gw B pg ms S0 m X a b) {g t : Nat} {cs : List Value} (hW : Whole a g t cs) (hg : g < B) (hne : g ≠ gw) : Whole b g t cs := (h.old g hW.lt hg hne).trans hW
def nmT (gw B : Nat) (pg ms : Int) (S0 : Value) (m : Nat) (X : List FnV) : Turns := ⟨Chg [], NmH gw B pg ms S0 m X, [11, 13], [3, 10, 11]⟩
theorem nmT_ok : (nmT gw B pg ms S0 m X).Ok := ⟨Chg.refl [], fun _ _ h => NmH.of_chg h, fun _ _ _ h k => ⟨k.os.trans h.os, k.tape.trans h.tape, k.output.trans h.output, Nat.le_trans h.size k.size, fun i hi h1 h2 => (k.old i (Nat.lt_of_lt_of_le hi h.size) h1 h2).trans (h.old i hi h1 h2), fun e => k.st (h.st e), fun e => k.fin (h.fin e)⟩⟩
def own3 (B : Nat) (xs : List FnV) : Fact := fun v W => ∃ A c, v = .slice A xs.length c ∧ W.ownsRow B 32 3 v xs.length (fnCs xs)
theorem keeps_own3 (B : Nat) (xs : List FnV) : Keeps (Chg []) (own3 B xs) := fun _ _ _ ⟨A, c, e, h⟩ hc => ⟨A, c, e, rown_keep h hc⟩
def empF : Fact := fun v _ => ∃ g, v = .slice (some ⟨g, 0, none⟩) 0 0
def rowN (B : Nat) (x : FnV) : Fact := fun v W => ∃ g, v = .slice (some ⟨g, 0, none⟩) 1 1 ∧ B ≤ g ∧ Whole W g 32 (fnC x)
theorem keeps_rowN (B : Nat) (x : FnV) : Keeps (Chg []) (rowN B x) := fun _ _ _ ⟨g, e, h, hw⟩ hc => ⟨g, e, h, hw.keep hc⟩
end
section
variable {w : World} {A : Option Addr} {n c : Nat} {a1 : Int}
set_option maxHeartbeats 8000000 in
set_option maxRecDepth 100000 in
theorem unitNames_any (HUN : Hid (Calls Tryd.prog 8 #[.slice A n c] w (UnitPost w))) (ha1 : -9223372036854775808 ≤ a1 ∧ a1 ≤ 9223372036854775807) (hP : PowB w.heap.size w) : Calls Tryd.prog 3 #[.slice A n c, .int .i64 a1] w (BoolPost true w) := by
  obtain ⟨i0, hi0, hz0, hz1, hz2⟩ := info_parts info_fn3
  have HP := Lib.hid hP
  have HWI := Lib.hid (fun (W : World) => within_any (w := W) a1 0 4 (by decide) (by decide) (by decide) ha1.1 ha1.2)
  have HKN := Lib.hid (fun (W : World) (h : PowB W.heap.size W) => ul_known h)
  unfold BoolPost at HKN ⊢
  clear hP ha1
  go_enter Tryd.func3, Tryd.ntmps3
  go_upto_region 2 with (go_at_call 8
                         refine HUN.out.mono ?_
                         rintro e w1 ⟨pg, ms, v, l, rfl, h0, h1, h2, h3, ho, hG, hl0, hc⟩
                         have hG3 := hG.lo
                         obtain ⟨A1, c1, rfl, hfr⟩ := Fnr.of_own ho (by omega) (fun f hf => by have := hG.args f hf; omega)
                         have HFR := Lib.hid hfr
                         have HGU := Lib.hid hG
                         have HC1 := Lib.hid hc
                         clear ho hG hc hfr)
  obtain ⟨f0, hf0⟩ : ∃ f0, l[0]? = some f0 := ⟨l[0]'hl0, by simp⟩
  have HF0 := Lib.hid hf0
  obtain ⟨b, o, rfl, _, _, _, _⟩ := HFR.out.cell hf0
  clear hf0
  have HRF := Lib.hid (HGU.out.rightF (pg := pg) (ms := ms) h0 (by omega) (by omega))
  have HSM := Lib.hid (show ∀ f ∈ l, f.code.size ≤ 9223372036854775807 from fun f hf => by have := HGU.out.size f hf; omega)
  have hN := Whole.new w1 25 [.int .i64 pg, .int .i64 ms, .slice (some ⟨b, o, none⟩) l.length c1]
  have hal := (Chg.refl [] w1).alloc (.cells #[.int .i64 pg, .int .i64 ms, .slice (some ⟨b, o, none⟩) l.length c1] 25)
  have HU2 := Lib.hid hN
  have HC2 := Lib.hid (HC1.out.trans hal)
  have HFR2 := Lib.hid (HFR.out.keep hal)
  clear hN hal
  generalize w1.heap.size = gu at HU2 ⊢
  generalize w1.alloc (.cells #[.int .i64 pg, .int .i64 ms, .slice (some ⟨b, o, none⟩) l.length c1] 25) = w2 at HU2 HC2 HFR2 ⊢
  obtain ⟨q, hq⟩ : ∃ q, q = l.length := ⟨_, rfl⟩
  rw [← hq] at HU2 HFR2 hG3 hl0 ⊢
  have HQ := Lib.hid hq
  clear hq HFR
  have u0 := HU2.out.cell 0
  have u1 := HU2.out.cell 1
  have u2 := HU2.out.cell 2
  have HTX := Lib.hid (fun (W : World) (h : Fnr W (some ⟨b, o, none⟩) q c1 l) (hp : PowB W.heap.size W) => utext_any (pages := pg) (most := ms) h HSM.out hp)
  obtain ⟨T1, hT1⟩ : ∃ T, T = rText pg ms l := ⟨_, rfl⟩
  rw [← hT1] at HTX
  have HT1 := Lib.hid hT1
  clear hT1
  unfold UTextPost at HTX
  unfold unitV at HTX
  go_upto_region 5 with (first
    | (go_at_call 9
       refine (HTX.out _ HFR2.out (HP.out.here HC2.out)).mono ?_
       rintro e w3 ⟨rfl, hc3⟩
       have HU3 := Lib.hid (HU2.out.keep hc3)
       have HC3 := Lib.hid (HC2.out.trans hc3)
       have HFR3 := Lib.hid (HFR2.out.keep hc3)
       have x0 := HU3.out.cell 0
       have x1 := HU3.out.cell 1
       have x2 := HU3.out.cell 2
       clear hc3)
    | (go_at_call 10
       refine (HWI.out _).mono ?_
       rintro e w4 ⟨r, hr, rfl, rfl⟩
       have hr0 : 0 ≤ r := hr.1
       have hr4 : r ≤ 4 := hr.2.1))
  obtain ⟨k, rfl⟩ : ∃ k : Nat, r = (k : Int) := ⟨r.toNat, by omega⟩
  have hk4 : k ≤ 4 := by omega
  clear hr hr0 hr4 u0 u1 u2 x0 x1 x2
  have hN := Whole.new w3 25 [.int .i64 pg, .int .i64 ms, .slice (some ⟨b, o, none⟩) q c1]
  have hal := (Chg.refl [] w3).alloc (.cells #[.int .i64 pg, .int .i64 ms, .slice (some ⟨b, o, none⟩) q c1] 25)
  have HV5 := Lib.hid hN
  have HU5 := Lib.hid (HU3.out.keep hal)
  have HC5 := Lib.hid (HC3.out.trans hal)
  have HFR5 := Lib.hid (HFR3.out.keep hal)
  have hvw : w.heap.size ≤ w3.heap.size := HC3.out.size
  have huv : gu < w3.heap.size := HU3.out.lt
  have HK35 := Lib.hid hal
  obtain ⟨gv, hgv⟩ : ∃ g, g = w3.heap.size := ⟨_, rfl⟩
  have HGV := Lib.hid hgv
  clear hN hal
  rw [← hgv] at HV5 hvw huv ⊢
  clear hgv
  generalize w3.alloc (.cells #[.int .i64 pg, .int .i64 ms, .slice (some ⟨b, o, none⟩) q c1] 25) = w5 at HV5 HU5 HC5 HFR5 HK35 ⊢
  have u2 := HU5.out.cell 2
  have hq3 : q ≤ 3 := by have := HQ.out; omega
  have hsrc := HFR5.out.src (by rw [fnCs_len, ← HQ.out]; omega)
  obtain ⟨_, eA, _, hcells⟩ := hsrc
  injection eA with eA
  subst eA
  have HCE := Lib.hid hcells
  clear hcells
  have HAL := Lib.hid ((Chg.refl [] w5).alloc (.cells #[] 32))
  have hgu5 : gu < w5.heap.size := HU5.out.lt
  have hgv5 : gv < w5.heap.size := HV5.out.lt
  have HB5 := Lib.hid (show gv + 1 ≤ w5.heap.size from HV5.out.lt)
  go_upto_region 6 with (first
    | (at_builtin
       refine wpList_append_own _ rfl _ _ _ rfl w5.heap.size 32 i0 _ 3 32 Tryd.underlying23 hi0 hz0 hz1 hz2 rfl (by decide) (.slice (some ⟨w5.heap.size, 0, none⟩) 0 0) 0 [] rfl (own_empty w5 _ _) ⟨b, o, none⟩ q c1 (fnCs l) rfl (by rw [fnCs_len, HQ.out]) (fun j u hj => cell_keep (HCE.out j u hj) HAL.out) (fnCs_one_cell l) (by simp only [maxLen]; omega) (by omega) (by simp) ?_
       intro v6 w6 ho6 hg6 _
       have ho6' : w6.ownsRow w5.heap.size 32 3 v6 q (fnCs l) := by simpa using ho6
       obtain ⟨A6, c6, rfl, _⟩ := rown_slice ho6'
       have HO6 := Lib.hid ho6'
       have HK6 := Lib.hid (chg_grown2 HAL.out hg6 (fun g hg => by have := ((own_empty w5 32 3).lt g hg).1; omega))
       clear ho6 hg6 ho6')
    | (at_builtin
       refine wpList_append_own _ rfl _ _ _ rfl w5.heap.size 32 i0 _ 3 32 Tryd.underlying23 hi0 hz0 hz1 hz2 rfl (by decide) (.slice A6 q c6) q (fnCs l) rfl (rown_keep HO6.out ((Chg.refl [] w6).alloc (.cells #[.int .i32 65536, .int .i64 (k : Int), .string ⟨#[55]⟩] 32))) ⟨w6.heap.size, 0, none⟩ 1 1 [.int .i32 65536, .int .i64 (k : Int), .string ⟨#[55]⟩] rfl rfl (cells_page _ _ _) (by simp [Value.oneCell']) (by simp only [maxLen]; omega) (by omega) (by have := HK6.out.size; simp; omega) ?_
       intro v7 w7 ho7 hg7 _
       obtain ⟨A7, c7, rfl, _⟩ := rown_slice ho7
       have HO7 := Lib.hid ho7
       have HK7 := Lib.hid (chg_grown2 (HK6.out.trans ((Chg.refl [] w6).alloc (.cells #[.int .i32 65536, .int .i64 (k : Int), .string ⟨#[55]⟩] 32))) hg7 (fun g hg => by have := ((rown_keep HO6.out ((Chg.refl [] w6).alloc (.cells #[.int .i32 65536, .int .i64 (k : Int), .string ⟨#[55]⟩] 32))).lt g hg).1; omega))
       have z2 := (HV5.out.keep HK7.out).cell 2
       have f2 := (HV5.out.keep HK7.out).frozen 2
       clear ho7 hg7))
  have HV8 := Lib.hid (show Whole (w7.setCell ⟨gv, 2, none⟩ (.slice A7 (q + 1) c7)) gv 25 [.int .i64 pg, .int .i64 ms, .slice A7 (q + 1) c7] from by have := (HV5.out.keep HK7.out).set_ 2 (.slice A7 (q + 1) c7); simpa using this)
  have HU8 := Lib.hid ((HU5.out.keep HK7.out).far (p := ⟨gv, 2, none⟩) (by simp only; omega) (.slice A7 (q + 1) c7))
  have HO8 := Lib.hid (show (w7.setCell ⟨gv, 2, none⟩ (.slice A7 (q + 1) c7)).ownsRow w5.heap.size 32 3 (.slice A7 (q + 1) c7) (q + 1) (fnCs (l ++ [⟨65536, (k : Int), sevenC⟩])) from by
    rw [fnCs_app]
    exact rown_far (p := ⟨gv, 2, none⟩) (u := .slice A7 (q + 1) c7) HO7.out (fun hb => by have := (HO7.out.lt _ hb).1; simp only at this; omega))
  have HK8 := Lib.hid (show Chg [] w3 (w7.setCell ⟨gv, 2, none⟩ (.slice A7 (q + 1) c7)) from (HK35.out.trans HK7.out).setCell (p := ⟨gv, 2, none⟩) (fun hh => by simp only at hh; have := HGV.out; omega) (.slice A7 (q + 1) c7))
  have HC8 := Lib.hid (HC3.out.trans HK8.out)
  have HFR8 := Lib.hid (HFR3.out.keep HK8.out)
  obtain ⟨A', c', e', hFv⟩ := Fnr.of_own HO8.out (by omega) (fun f hf => by
    rcases List.mem_append.1 hf with hf | hf
    · have := HGU.out.args f hf; omega
    · rw [List.mem_singleton] at hf; subst hf; simp only; omega)
  injection e' with e1 _ e2
  subst e1; subst e2
  have HFV := Lib.hid hFv
  have HSMV := Lib.hid (show ∀ f ∈ l ++ [⟨65536, (k : Int), sevenC⟩], f.code.size ≤ 9223372036854775807 from fun f hf => by
    rcases List.mem_append.1 hf with hf | hf
    · exact HSM.out f hf
    · rw [List.mem_singleton] at hf; subst hf; show (1 : Nat) ≤ _; omega)
  have hgv8 : gv < (w7.setCell ⟨gv, 2, none⟩ (.slice A7 (q + 1) c7)).heap.size := HV8.out.lt
  clear z2 f2 u2 hFv
  generalize w7.setCell ⟨gv, 2, none⟩ (.slice A7 (q + 1) c7) = w8 at HV8 HU8 HO8 HK8 HC8 HFR8 HFV hgv8 ⊢
  have HTV := Lib.hid (utext_any (pages := pg) (most := ms) HFV.out HSMV.out (HP.out.here HC8.out))
  obtain ⟨T2, hT2⟩ : ∃ T, T = rText pg ms (l ++ [⟨65536, (k : Int), sevenC⟩]) := ⟨_, rfl⟩
  rw [← hT2] at HTV
  have HT2 := Lib.hid hT2
  clear hT2
  unfold UTextPost at HTV
  unfold unitV at HTV
  have v0 := HV8.out.cell 0
  have v1 := HV8.out.cell 1
  have v2 := HV8.out.cell 2
  go_upto_region 8 with (go_at_call 9
                         refine HTV.out.mono ?_
                         rintro e w9 ⟨rfl, hc9⟩
                         have HU9 := Lib.hid (HU8.out.keep hc9)
                         have HV9 := Lib.hid (HV8.out.keep hc9)
                         have HC9 := Lib.hid (HC8.out.trans hc9)
                         have HFR9 := Lib.hid (HFR8.out.keep hc9)
                         have HFV9 := Lib.hid (HFV.out.keep hc9)
                         have x0 := HU9.out.cell 0
                         have x1 := HU9.out.cell 1
                         have x2 := HU9.out.cell 2
                         clear hc9)
  clear v0 v1 v2 x0 x1 x2
  have hN := Whole.new w9 25 [.int .i64 pg, .int .i64 ms, .slice (some ⟨b, o, none⟩) q c1]
  have hal := (Chg.refl [] w9).alloc (.cells #[.int .i64 pg, .int .i64 ms, .slice (some ⟨b, o, none⟩) q c1] 25)
  have HW10 := Lib.hid hN
  have HU10 := Lib.hid (HU9.out.keep hal)
  have HV10 := Lib.hid (HV9.out.keep hal)
  have HC10 := Lib.hid (HC9.out.trans hal)
  have HFR10 := Lib.hid (HFR9.out.keep hal)
  have HFV10 := Lib.hid (HFV9.out.keep hal)
  have hww : w.heap.size ≤ w9.heap.size := HC9.out.size
  have huw : gu < w9.heap.size := HU9.out.lt
  have hvw2 : gv < w9.heap.size := HV9.out.lt
  have HK10 := Lib.hid hal
  obtain ⟨gw, hgw⟩ : ∃ g, g = w9.heap.size := ⟨_, rfl⟩
  have HGW := Lib.hid hgw
  clear hN hal
  rw [← hgw] at HW10 hww huw hvw2 ⊢
  clear hgw
  generalize w9.alloc (.cells #[.int .i64 pg, .int .i64 ms, .slice (some ⟨b, o, none⟩) q c1] 25) = w10 at HW10 HU10 HV10 HC10 HFR10 HFV10 HK10 ⊢
  have hwB : gw < w10.heap.size := HW10.out.lt
  have hbw : b < gw := by
    have h1 := HFR9.out.src (by rw [fnCs_len, ← HQ.out]; omega)
    obtain ⟨ad, e1, h2, _⟩ := h1
    injection e1 with e1
    subst e1
    rw [← HGW.out] at h2
    exact h2
  have hsrc := HFR10.out.src (by rw [fnCs_len, ← HQ.out]; omega)
  obtain ⟨_, eA, _, hcells⟩ := hsrc
  injection eA with eA
  subst eA
  obtain ⟨fn0, fa0, fc0⟩ := f0
  have hnm0 : w10.cell? ⟨b, o, none⟩ = some (.int .i32 fn0) := by
    obtain ⟨b', o', e1, _, h2, _⟩ := HFR10.out.cell HF0.out
    injection e1 with e1
    injection e1 with e1 e2
    subst e1; subst e2
    simpa using h2
  have HCE2 := Lib.hid hcells
  have HNM0 := Lib.hid hnm0
  clear hcells hnm0
  have hlenX : (l ++ [(⟨fn0, 0, sevenC⟩ : FnV)]).length = q + 1 := by rw [List.length_append, ← HQ.out]; rfl
  have hq0I : (0 : Int) < (q : Int) := by omega
  have TOK := nmT_ok (gw := gw) (B := w10.heap.size) (pg := pg) (ms := ms) (S0 := .slice (some ⟨b, o, none⟩) q c1) (m := q + 1) (X := l ++ [⟨fn0, 0, sevenC⟩])
  have HKW := Lib.hid (fun (W : World) (h : NmH gw w10.heap.size pg ms (.slice (some ⟨b, o, none⟩) q c1) (q + 1) (l ++ [⟨fn0, 0, sevenC⟩]) w10.drew W) (j : Nat) (u : Value) (hu : w10.cell? ⟨b, j, none⟩ = some u) => show W.cell? ⟨b, j, none⟩ = some u from by
    have hbl : b < w10.heap.size := by omega
    rw [World.cell?_of_block (h.old b hbl hbl (by omega))]
    exact hu)
  have hguB : gu < w10.heap.size := by omega
  have hgug : gu ≠ gw := by omega
  refine F2.wp_flow (by kernel_rfl) (nmT gw w10.heap.size pg ms (.slice (some ⟨b, o, none⟩) q c1) (q + 1) (l ++ [⟨fn0, 0, sevenC⟩])) TOK (by kernel_rfl) (by kernel_rfl) ?_
  refine F2.flow_op empF (fun _ _ _ h _ => h) (.inr (fun _ _ _ h _ => h)) rfl (fun ev W he hW hf => ?_) ?_
  · clear hf
    go_simp
    exact ⟨(Chg.refl [] W).alloc _, _, rfl⟩
  refine F2.flow1 (r := .pointer (some ⟨gu, 2, none⟩)) TOK rfl (.out rfl rfl) rfl (fun ev W he e1 => by go_simp) ?_
  refine F2.flow1h (r := .slice (some ⟨b, o, none⟩) q c1) TOK rfl (.inn rfl) rfl (fun ev W he hW e1 => by have r2 := (hW.whole (show Whole w10.drew gu 25 _ from HU10.out) hguB hgug).cell 2; clear hW; go_simp) ?_
  refine F2.flow_op (own3 w10.heap.size l) (keeps_own3 _ _) (.inl rfl) rfl (fun ev W he hW hf => ?_) ?_
  · obtain ⟨g0, e1⟩ : ∃ g, ev (.tmp 38) = .slice (some ⟨g, 0, none⟩) 0 0 := hf.1
    have e2 : ev (.tmp 40) = .slice (some ⟨b, o, none⟩) q c1 := hf.2.1
    obtain ⟨v', w', hrun, ho, hg⟩ := run_append_arg_grows (P := Tryd.prog) W 23 _ 32 i0 _ 3 32 Tryd.underlying23 hi0 hz0 hz1 hz2 rfl (by decide) ⟨g0, 0, none⟩ 0 0 [] (by simp) (by simp) ⟨b, o, none⟩ q c1 (fnCs l) (by rw [fnCs_len, HQ.out]) (fun j u hj => by rw [add_plain]; exact HKW.out W hW _ u (by have := HCE2.out j u hj; rwa [add_plain] at this)) (by omega) (by simp only [maxLen]; omega) (by omega)
    rw [exec_app e1 e2 hrun]
    have hc : Chg [] W w' := ⟨hg.os, hg.tape, hg.output, hg.size, fun k hk _ => hg.block k hk (by simp)⟩
    have ho' : w'.ownsRow W.heap.size 32 3 v' l.length (fnCs l) := by rw [← HQ.out]; simpa using ho
    obtain ⟨A', c', e', _⟩ := rown_slice ho'
    exact ⟨hc, A', c', e', own_more_n ho' (show w10.heap.size ≤ W.heap.size from hW.size)⟩
  refine F2.flow1 (r := .pointer (some ⟨gu, 2, none⟩)) TOK rfl (.out rfl rfl) rfl (fun ev W he e1 => by go_simp) ?_
  refine F2.flow1h (r := .slice (some ⟨b, o, none⟩) q c1) TOK rfl (.inn rfl) rfl (fun ev W he hW e1 => by have r2 := (hW.whole (show Whole w10.drew gu 25 _ from HU10.out) hguB hgug).cell 2; clear hW; go_simp) ?_
  refine F2.flow2 (r := .pointer (some ⟨b, o, none⟩)) TOK rfl (.inn rfl) (.const _) rfl (fun ev W he e1 e2 => by go_simp) ?_
  refine F2.flow1 (r := .pointer (some ⟨b, o, none⟩)) TOK rfl (.inn rfl) rfl (fun ev W he e1 => by go_simp) ?_
  refine F2.flow1h (r := .int .i32 fn0) TOK rfl (.inn rfl) rfl (fun ev W he hW e1 => by have r2 := HKW.out W hW _ _ HNM0.out; clear hW; go_simp) ?_
  refine F2.flow2 (r := .agg #[.int .i32 fn0, .int .i64 0, .string ⟨#[55]⟩]) TOK rfl (.inn rfl) (.const _) rfl (fun ev W he e1 e2 => by go_simp) ?_
  refine F2.flow_op (rowN w10.heap.size ⟨fn0, 0, sevenC⟩) (keeps_rowN _ _) (.inl rfl) rfl (fun ev W he hW hf => ?_) ?_
  · have e1 : ev (.tmp 47) = .agg #[.int .i32 fn0, .int .i64 0, .string ⟨#[55]⟩] := hf.1
    have hs : w10.heap.size ≤ W.heap.size := hW.size
    clear hf hW
    go_simp
    exact ⟨(Chg.refl [] W).alloc _, _, rfl, hs, Whole.new W _ _⟩
  refine F2.flow_early (own3 w10.heap.size (l ++ [⟨fn0, 0, sevenC⟩])) (keeps_own3 _ _) (.inl rfl) rfl rfl (fun ev W he hW hf => ?_) ?_
  · have hc0 : Chg [] w10.drew W := hW.fold (Chg.refl []) fun _ _ _ h k => h.trans k
    obtain ⟨A3, c3, e1, ho3⟩ : own3 w10.heap.size l (ev (.tmp 41)) W := hf.1
    obtain ⟨g4, e2, hg4, hw4⟩ : rowN w10.heap.size ⟨fn0, 0, sevenC⟩ (ev (.tmp 48)) W := hf.2.1
    rw [e1] at ho3
    have hws : w10.heap.size ≤ W.heap.size := hc0.size
    obtain ⟨v', w', hrun, ho, hg, _⟩ := run_append_own (P := Tryd.prog) W w10.heap.size 23 _ 32 i0 _ 3 32 Tryd.underlying23 hi0 hz0 hz1 hz2 rfl (by decide) (.slice A3 l.length c3) l.length (fnCs l) ho3 ⟨g4, 0, none⟩ 1 1 (fnC ⟨fn0, 0, sevenC⟩) rfl (fun j u hj => by rw [add_plain, Nat.zero_add, hw4.cell j]; exact hj) (by intro u hu; simp only [fnC, List.mem_cons, List.not_mem_nil, or_false] at hu; rcases hu with rfl | rfl | rfl <;> rfl) (by rw [← HQ.out]; simp only [maxLen]; omega) (by rw [← HQ.out]; omega) hws
    rw [exec_app e1 e2 hrun]
    have hWg : Whole W gw 25 _ := (show Whole w10.drew gw 25 _ from HW10.out).keep hc0
    have hWg' := whole_grown hWg ho3 (by decide) hg
    have ho' : w'.ownsRow w10.heap.size 32 3 v' (l ++ [(⟨fn0, 0, sevenC⟩ : FnV)]).length (fnCs (l ++ [⟨fn0, 0, sevenC⟩])) := by
      rw [fnCs_app, List.length_append]
      exact ho
    obtain ⟨A', c', e', _⟩ := rown_slice ho'
    refine ⟨⟨hg.os, hg.tape, hg.output, hg.size, fun k hk hB hne => hg.block k hk (fun h => ?_), fun _ => .inl hWg', fun h => ?_⟩, A', c', e', ho'⟩
    · have := (ho3.lt k h.symm).1
      omega
    · obtain ⟨A5, c5, h5, _⟩ := h
      unfold Whole at h5 hWg
      rw [hWg] at h5
      simp at h5
  refine F2.flow1 (r := .pointer (some ⟨gw, 2, none⟩)) TOK rfl (.out rfl rfl) rfl (fun ev W he e1 => by go_simp) ?_
  refine F2.flow_store (fun _ W => nmPh gw w10.heap.size pg ms (q + 1) (l ++ [⟨fn0, 0, sevenC⟩]) W) (t := 50) rfl rfl (fun _ _ _ h hc => nmPh_keep hc h) (.inr (fun _ _ _ h hc => hc.fin h)) rfl (fun ev W he hW hf => ?_) ?_
  · have e1 : ev (.tmp 50) = .pointer (some ⟨gw, 2, none⟩) := hf.1
    obtain ⟨A6, c6, e2, ho6⟩ : own3 w10.heap.size (l ++ [(⟨fn0, 0, sevenC⟩ : FnV)]) (ev (.tmp 49)) W := hf.2.1
    rw [e2] at ho6
    rw [hlenX] at e2 ho6
    have hex : nmEx gw w10.heap.size pg ms (.slice (some ⟨b, o, none⟩) q c1) (q + 1) (l ++ [⟨fn0, 0, sevenC⟩]) W := hW.st (.inl HW10.out)
    obtain ⟨x2, hw2⟩ : ∃ x2, Whole W gw 25 [.int .i64 pg, .int .i64 ms, x2] := by
      rcases hex with h | ⟨A9, c9, h, _⟩
      · exact ⟨_, h⟩
      · exact ⟨_, h⟩
    have c2 := hw2.cell 2
    have q2 := hw2.frozen 2
    have hph : nmPh gw w10.heap.size pg ms (q + 1) (l ++ [⟨fn0, 0, sevenC⟩]) (W.setCell ⟨gw, 2, none⟩ (.slice A6 (q + 1) c6)) := ⟨A6, c6, by have := hw2.set_ 2 (.slice A6 (q + 1) c6); simpa using this, rown_far (p := ⟨gw, 2, none⟩) (u := .slice A6 (q + 1) c6) ho6 (fun hb => by have := (ho6.lt _ hb).1; simp only at this; omega)⟩
    have hH : NmH gw w10.heap.size pg ms (.slice (some ⟨b, o, none⟩) q c1) (q + 1) (l ++ [⟨fn0, 0, sevenC⟩]) W (W.setCell ⟨gw, 2, none⟩ (.slice A6 (q + 1) c6)) := ⟨rfl, rfl, rfl, by rw [size_set]; exact Nat.le_refl _, fun k _ _ hne => Below.heap_setCell W ⟨gw, 2, none⟩ _ k hne, fun _ => .inr hph, fun _ => hph⟩
    clear hf hW hex ho6 hw2
    go_simp
    exact ⟨hH, hph⟩
  intro vs W hW hF hN
  have hP13 := hN 13 _ _ 50 rfl rfl rfl rfl
  obtain ⟨Aw, cw, hWw, hOw⟩ := hP13
  have hd : Chg [] w9 w10.drew := HK10.out.drew
  have HCW9 := Lib.hid (show Chg [] w9 W from ⟨hW.os.trans hd.os, hW.tape.trans hd.tape, hW.output.trans hd.output, Nat.le_trans hd.size hW.size, fun k hk _ => (hW.old k (Nat.lt_of_lt_of_le hk hd.size) (Nat.lt_of_lt_of_le hk HK10.out.size) (by have := HGW.out; omega)).trans (hd.block k hk (by simp))⟩)
  have HVW := Lib.hid (HV9.out.keep HCW9.out)
  have HFVW := Lib.hid (HFV9.out.keep HCW9.out)
  have HCW := Lib.hid (HC9.out.trans HCW9.out)
  have HWW := Lib.hid hWw
  obtain ⟨A', c', e', hFw⟩ := Fnr.of_own hOw (by omega) (fun f hf => by
    rcases List.mem_append.1 hf with hf | hf
    · have := HGU.out.args f hf; omega
    · rw [List.mem_singleton] at hf; subst hf; simp only; omega)
  injection e' with e1 _ e2
  subst e1; subst e2
  have HSMW := Lib.hid (show ∀ f ∈ l ++ [⟨fn0, 0, sevenC⟩], f.code.size ≤ 9223372036854775807 from fun f hf => by
    rcases List.mem_append.1 hf with hf | hf
    · exact HSM.out f hf
    · rw [List.mem_singleton] at hf; subst hf; show (1 : Nat) ≤ _; omega)
  have hmore := HRF.out.more (n := (k : Int)) (name := 65536) (by rw [← HQ.out]; omega) (by omega) (by decide) (fun f hf => by
    obtain ⟨j, hj, rfl⟩ := List.getElem_of_mem hf
    have := (HGU.out.find13 (List.getElem?_eq_getElem hj)).2.2
    omega)
  have HRV := Lib.hid (uright_any (pages := pg) (most := ms) HFVW.out HSMV.out)
  rw [rRight_ok.2 hmore] at HRV
  have HRW := Lib.hid (fun (W2 : World) (h : Chg [] W W2) => uright_any (pages := pg) (most := ms) (hFw.keep h) HSMW.out)
  rw [HRF.out.again (by rw [← HQ.out]; omega) HF0.out 0] at HRW
  unfold RightPost unitV at HRV HRW
  have hT2 : T2 = if 2048 < (utx pg ms (l ++ [⟨65536, (k : Int), sevenC⟩])).length then ([], 3) else (utx pg ms (l ++ [⟨65536, (k : Int), sevenC⟩]), 0) := by
    rw [HT2.out]
    unfold rText
    rw [if_pos (rRight_ok.2 hmore)]
  have hT1 : T1 = if 2048 < (utx pg ms l).length then ([], 3) else (utx pg ms l, 0) := by
    rw [HT1.out]
    unfold rText
    rw [if_pos (rRight_ok.2 HRF.out)]
  rw [utx_app, show utFs [⟨65536, (k : Int), sevenC⟩] = utF ⟨65536, (k : Int), sevenC⟩ ++ [] from rfl, List.append_nil, seven_txt k hk4, show encodeRune 65536 = [240, 144, 128, 128] from by decide] at hT2
  simp only [putAll, Act.put, List.setIfInBounds_toArray, List.set_cons_zero, List.set_cons_succ]
  obtain ⟨w11, hw11⟩ : ∃ w11 : World, w11 = W := ⟨_, rfl⟩
  rw [← hw11] at HCW9 HVW HFVW HCW HWW HRV HRW ⊢
  clear hF hN hW hWw hOw hFw hmore hw11 HKW TOK HTX HTV HT1 HT2 hd HCE HCE2 HNM0
  have HKN2 := Lib.hid (fun (W2 : World) (h : Chg [] w11 W2) => HKN.out W2 (HP.out.here (HCW.out.trans h)))
  by_cases hbig : 2048 < (utx pg ms l).length
  · rw [if_pos hbig] at hT1
    subst hT1
    clear hT2 hbig
    go_wp2_with (go_at_call 11
                 refine (HKN2.out _ (Chg.refl [] _)).mono ?_
                 rintro e w12 ⟨rfl, hc12⟩
                 have HC12 := Lib.hid (HCW.out.trans hc12)
                 clear hc12)
    go_ret
    exact ⟨rfl, HC12.out⟩
  · rw [if_neg hbig] at hT1
    subst hT1
    have v0 := HVW.out.cell 0
    have v1 := HVW.out.cell 1
    have v2 := HVW.out.cell 2
    by_cases hbig2 : 2048 < (utx pg ms l ++ ([240, 144, 128, 128] ++ [UInt8.ofNat (48 + k), 32, 55, 10])).length
    · rw [if_pos hbig2] at hT2
      subst hT2
      clear hbig hbig2
      go_wp2_with (first
        | (go_at_call 12
           with_reducible refine HRV.out.mono ?_
           rintro e w12 ⟨rfl, hc12⟩
           have HK12 := Lib.hid hc12
           have x0 := (HWW.out.keep hc12).cell 0
           have x1 := (HWW.out.keep hc12).cell 1
           have x2 := (HWW.out.keep hc12).cell 2
           clear hc12)
        | (go_at_call 12
           with_reducible refine (HRW.out _ HK12.out).mono ?_
           rintro e w13 ⟨rfl, hc13⟩
           have HK13 := Lib.hid (HK12.out.trans hc13)
           clear hc13)
        | (go_at_call 11
           refine (HKN2.out _ HK13.out).mono ?_
           rintro e w14 ⟨rfl, hc14⟩
           have HC14 := Lib.hid (HCW.out.trans (HK13.out.trans hc14))
           clear hc14))
      go_ret
      exact ⟨rfl, HC14.out⟩
    · rw [if_neg hbig2] at hT2
      subst hT2
      have hlen : (utx pg ms l).length ≤ 2048 := by omega
      have hadd1 := fun W => str_add (utx pg ms l) [240, 144, 128, 128] (by simp; omega) W
      have hadd2 := fun W => str_add_enc (utx pg ms l ++ [240, 144, 128, 128]) (48 + (k : Int)) (by simp; omega) W
      rw [enc_dig k (by omega)] at hadd2
      have hadd3 := fun W => str_add (utx pg ms l ++ [240, 144, 128, 128] ++ [UInt8.ofNat (48 + k)]) [32, 55, 10] (by simp; omega) W
      have hlst : utx pg ms l ++ [240, 144, 128, 128] ++ [UInt8.ofNat (48 + k)] ++ [32, 55, 10] = utx pg ms l ++ ([240, 144, 128, 128] ++ [UInt8.ofNat (48 + k), 32, 55, 10]) := by simp
      rw [hlst] at hadd3
      rw [show strOf [240, 144, 128, 128] = ⟨#[240, 144, 128, 128]⟩ from rfl] at hadd1
      rw [show strOf [32, 55, 10] = ⟨#[32, 55, 10]⟩ from rfl] at hadd3
      clear hlst hbig hbig2 hlen
      generalize strOf (utx pg ms l ++ ([240, 144, 128, 128] ++ [UInt8.ofNat (48 + k), 32, 55, 10])) = Z4 at *
      generalize strOf (utx pg ms l ++ [240, 144, 128, 128] ++ [UInt8.ofNat (48 + k)]) = Z3 at *
      generalize strOf (utx pg ms l ++ [240, 144, 128, 128]) = Z2 at *
      generalize strOf (utx pg ms l) = Z1 at *
      go_wp2_with (first
        | (go_at_call 12
           with_reducible refine HRV.out.mono ?_
           rintro e w12 ⟨rfl, hc12⟩
           have HK12 := Lib.hid hc12
           have x0 := (HWW.out.keep hc12).cell 0
           have x1 := (HWW.out.keep hc12).cell 1
           have x2 := (HWW.out.keep hc12).cell 2
           clear hc12)
        | (go_at_call 12
           with_reducible refine (HRW.out _ HK12.out).mono ?_
           rintro e w13 ⟨rfl, hc13⟩
           have HK13 := Lib.hid (HK12.out.trans hc13)
           clear hc13)
        | (go_at_call 11
           refine (HKN2.out _ HK13.out).mono ?_
           rintro e w14 ⟨rfl, hc14⟩
           have HC14 := Lib.hid (HCW.out.trans (HK13.out.trans hc14))
           clear hc14))
      go_ret
      exact ⟨rfl, HC14.out⟩
theorem unitNames_full {l : List Int} (hs : Src w A (nms l)) (hlen : l.length = n) (hspot : 0 < n → ∀ ad, A = some ad → ad.spot = none) (hn : n ≤ 9223372036854775807) (hrng : ∀ x ∈ l, -9223372036854775808 ≤ x ∧ x ≤ 9223372036854775807) (a1 : Int) (ha1 : -9223372036854775808 ≤ a1 ∧ a1 ≤ 9223372036854775807) (hP : PowB w.heap.size w) :
    Calls Tryd.prog 3 #[.slice A n c, .int .i64 a1] w (BoolPost true w) := unitNames_any (Lib.hid (unit_any (c := c) hs hlen hspot hn hrng)) ha1 hP
end
end Go.Proofs.YtodbeeodhekpeaaDoor
