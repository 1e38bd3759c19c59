/-
  E: AppZeros, RootFn, ShadeA.
-/
import Derived.Test.YtddjgncdjdjgeaaGreatZE1
import Derived.Test.YtddjgncdjdjgeaaGreatZE3
import Derived.Test.YtddjgncdjdjgeaaGreatZE4
import Derived.Test.YtddjgncdjdjgeaaGreatZE6
import Derived.Test.YtddjgncdjdjgeaaGreatZE8
import Derived.Test.YtddjgncdjdjgeaaGreatZE11
import Derived.Lib.AppendZerosOnto
import Derived.Deep.QuietTactic
import Derived.BigQuiet
import Derived.IntWalk
import Derived.Deep.RegionHeld3
import Derived.Deep.RegionWith
import Derived.Deep.DeepCutAuto
namespace Go.Proofs.YtddjgncdjdjgeaaGreat
open Go.RowKit
theorem zeroCells_one (z : Value) (n : Nat) : Builtin.zeroCells #[z] n = (List.replicate n z).toArray := by
  apply Array.ext
  · simp [Builtin.zeroCells]
  · intro i h1 h2
    simp [Builtin.zeroCells, Nat.mod_one]
theorem run_append_zeros {P : Program} (w : World) (base : Nat) (t tn ty e : TypeId) (i : TypeInfo) (z : Value) (bytes : Nat) (kn : IntKind) (ht : P.underlying t = some (.slice e)) (htn : P.underlying tn = some (.int kn)) (hi : P.info? e = some i) (hz : i.zero = some z)
    (hsize : i.size = 1) (hby : i.bytes = bytes) (hzc : z.cells = #[z]) (hz1 : z.oneCell' = true)
    (g n cap : Nat) (xs : List Value) (hown : w.ownsRow base e 1 (.slice (some ⟨g, 0, none⟩) n cap) n xs)
    (k : Nat) (h63 : n + k ≤ maxLen) (hbytes : (n + k) * bytes ≤ 140737488355328) (hbase : base ≤ w.heap.size) :
    ∃ g' cap' w', (Builtin.append_ #[t, tn] ty #[.slice (some ⟨g, 0, none⟩) n cap, .int .i64 (k : Int)]).run P w = .ok (.slice (some ⟨g', 0, none⟩) (n + k) cap') w' ∧
      w'.ownsRow base e 1 (.slice (some ⟨g', 0, none⟩) (n + k) cap') (n + k) (xs ++ List.replicate k z) ∧ w.grownBy w' (some g) ∧ (g' = g ∨ g' = w.heap.size) := by
  have hsmall : n + k ≤ 9223372036854775807 := by simpa only [maxLen] using h63
  have hw : IntKind.i64.wrap (k : Int) = k := by rw [IntKind.wrap_i64]; omega
  have hneg : ¬ ((k : Int) < 0) := by omega
  have h48 : k * bytes ≤ 281474976710656 := by have : k * bytes ≤ (n + k) * bytes := Nat.mul_le_mul_right _ (by omega); omega
  have h48i : ¬ (281474976710656 < (k : Int) * (i.bytes : Int)) := by rw [hby, ← Int.natCast_mul]; omega
  have hlx := hown.1
  rcases hown.2 with ⟨h, _⟩ | ⟨g', cap', cur, h, hbg, hg, hnc, hcm, hcs, htake⟩
  · simp at h
  · simp only [Value.slice.injEq, Option.some.injEq, Addr.mk.injEq, and_true, true_and] at h
    obtain ⟨rfl, rfl⟩ := h
    rw [Nat.mul_one] at hcs htake hlx
    by_cases hk0 : k = 0
    · subst hk0
      refine ⟨g, cap, w, ?_, by simpa using hown, World.grownBy.refl w _, .inl rfl⟩
      have hw0 : IntKind.i64.wrap 0 = 0 := by decide
      simp [Builtin.append_, run_underlying ht, run_underlying htn, sizeOf, typeInfo, hi, asInt, asIntOf, storeCells, hnc, hw0]
    · have hns : ¬ (k * i.size = 0) := by rw [hsize]; omega
      by_cases hroom : n + k ≤ cap
      · have hfit : n + (List.replicate k z).length ≤ cur.size := by rw [List.length_replicate]; omega
        have hst := run_storeCells_at P g n e (List.replicate k z) 0 cur w hg (by simpa using hfit) (fun u hu => by rw [(List.mem_replicate.1 hu).2]; exact hz1)
        simp only [Nat.add_zero] at hst
        rw [List.length_replicate] at hst
        have hr : (Builtin.append_ #[t, tn] ty #[.slice (some ⟨g, 0, none⟩) n cap, .int .i64 (k : Int)]).run P w = .ok (.slice (some ⟨g, 0, none⟩) (n + k) cap) (w.setRow g (cur.toList.take n ++ List.replicate k z ++ cur.toList.drop (n + k)).toArray) := by
          simp [Builtin.append_, run_underlying ht, run_underlying htn, sizeOf, typeInfo, zeroValue, hi, hz, asInt, asIntOf, hw, hneg, h48i, hk0, hroom, hsize, hzc, zeroCells_one, Addr.add_lit, hst]
        refine ⟨_, _, _, hr, ⟨by simp [hlx], .inr ⟨g, cap, _, rfl, hbg, setRow_heap w g cur _ e _ hg, hroom, hcm, ?_, ?_⟩⟩, ⟨rfl, rfl, rfl, by simp, fun j _ hj => setRow_other w g j _ (fun e => hj (by simp [e]))⟩, .inl rfl⟩
        · simp only [List.size_toArray, List.length_append, List.length_take, List.length_drop, Array.length_toList, List.length_replicate]
          omega
        · rw [htake, Nat.mul_one]
          have e1 : (xs ++ List.replicate k z).length = n + k := by rw [List.length_append, List.length_replicate, hlx]
          rw [← e1]
          exact List.take_left
      · have hf := run_firstCells_some (P := P) w.drew i.size n ⟨g, 0, none⟩ n cap xs (by rw [hsize, Nat.mul_one]; exact hlx) (fun j u hj => hown.cells (g := g) rfl j u hj)
        have hr := Lib.run_append_grow_zeros (P := P) w t tn ty e i z .i64 kn ht htn hi hz (some ⟨g, 0, none⟩) n cap xs hf k (by omega) (by omega) (by omega) (by omega) (by rw [hby]; exact h48) (by rw [hby]; exact growslice_fits (by omega) hbytes)
        rw [hzc, zeroCells_one, zeroCells_one] at hr
        have hge := grownCap_ge w (n + k) cap e
        have hcm2 : grownCap w (n + k) cap e ≤ maxLen := grownCap_le_maxLen w (n + k) cap e h63
        refine ⟨_, _, _, hr, ⟨by simp [hlx], .inr ⟨w.heap.size, _, _, rfl, hbase, heap_alloc_new w.drew _, hge, hcm2, ?_, ?_⟩⟩, ⟨rfl, rfl, rfl, by simp, fun j hj _ => Below.heap_alloc w.drew _ j hj⟩, .inr rfl⟩
        · simp only [Array.size_append, List.size_toArray, List.length_replicate, hlx]
          omega
        · simp only [Array.toList_append, Nat.mul_one]
          have e1 : (xs ++ List.replicate k z).length = n + k := by rw [List.length_append, List.length_replicate, hlx]
          rw [← e1]
          exact List.take_left
end Go.Proofs.YtddjgncdjdjgeaaGreat
namespace Go.Proofs.YtddjgncdjdjgeaaGreat
open Go.RowKit
theorem root_cells {W : World} {g : Nat} {x y z : Value} (h : Whole W g 58 [x, y, z]) : W.cell? ⟨g, 0, none⟩ = some x ∧ W.cell? ⟨g, 1, none⟩ = some y ∧ W.cell? ⟨g, 2, none⟩ = some z ∧ W.frozen? ⟨g, 0, none⟩ = false ∧ W.frozen? ⟨g, 1, none⟩ = false ∧ W.frozen? ⟨g, 2, none⟩ = false :=
  ⟨h.cell 0, h.cell 1, h.cell 2, h.frozen 0, h.frozen 1, h.frozen 2⟩
def homeI (L P page : Int) : Int := if page < 0 ∨ P ≤ page then -1 else wrap64 (wrap64 (2 + L) + page)
section
variable {w : World}
set_option maxHeartbeats 1000000 in
set_option maxRecDepth 100000 in
theorem rright_any (L P E s : Int) : Calls Tryz.prog 48 #[rootV L P E, .int .i64 s] w (BoolPost (rightR L P E s) w) := by
  unfold rootV
  by_cases h1 : L < 1
  · have HF := Lib.hid (show rightR L P E s = false from rightR_false.2 (by omega))
    have hd : decide (L < 1) = true := by simpa using h1
    go_enter Tryz.func48, Tryz.ntmps48
    go_wp2_with fail
    go_ret
    exact ⟨by rw [HF.out]; rfl, (Chg.refl _ _).alloc _⟩
  have hd1 : decide (L < 1) = false := by simpa using h1
  by_cases h2 : 64 < L
  · have HF := Lib.hid (show rightR L P E s = false from rightR_false.2 (by omega))
    go_enter Tryz.func48, Tryz.ntmps48
    go_wp2_with fail
    go_ret
    exact ⟨by rw [HF.out]; rfl, (Chg.refl _ _).alloc _⟩
  have hd2 : decide (64 < L) = false := by simpa using h2
  by_cases h3 : P < 1
  · have HF := Lib.hid (show rightR L P E s = false from rightR_false.2 (by omega))
    go_enter Tryz.func48, Tryz.ntmps48
    go_wp2_with fail
    go_ret
    exact ⟨by rw [HF.out]; rfl, (Chg.refl _ _).alloc _⟩
  have hd3 : decide (P < 1) = false := by simpa using h3
  by_cases h4 : 64 < P
  · have HF := Lib.hid (show rightR L P E s = false from rightR_false.2 (by omega))
    go_enter Tryz.func48, Tryz.ntmps48
    go_wp2_with fail
    go_ret
    exact ⟨by rw [HF.out]; rfl, (Chg.refl _ _).alloc _⟩
  have hd4 : decide (64 < P) = false := by simpa using h4
  have b1 : 1 ≤ L := by omega
  have b2 : L ≤ 64 := by omega
  have b3 : 1 ≤ P := by omega
  have b4 : P ≤ 64 := by omega
  by_cases h5 : 2 + L + P ≤ s
  · have hd5 : decide (2 + L + P ≤ s) = true := by simpa using h5
    have HF := Lib.hid (show rightR L P E s = decide (1 ≤ E) from by unfold rightR; congr 1; apply propext; omega)
    go_enter Tryz.func48, Tryz.ntmps48
    go_wp2_with fail
    go_ret
    exact ⟨by rw [HF.out]; rfl, (Chg.refl _ _).alloc _⟩
  · have hd5 : decide (2 + L + P ≤ s) = false := by simpa using h5
    have HF := Lib.hid (show rightR L P E s = false from rightR_false.2 (by omega))
    go_enter Tryz.func48, Tryz.ntmps48
    go_wp2_with fail
    go_ret
    exact ⟨by rw [HF.out]; rfl, (Chg.refl _ _).alloc _⟩
set_option maxHeartbeats 1000000 in
set_option maxRecDepth 100000 in
theorem rrright_any (L P E s : Int) : Calls Tryz.prog 52 #[rootV L P E, .int .i64 s] w (BoolPost (rightR L P E s) w) := by
  unfold rootV
  by_cases h1 : 1 ≤ L
  rotate_left
  · have HF := Lib.hid (show rightR L P E s = false from rightR_false.2 (by omega))
    have hd : decide (1 ≤ L) = false := by simpa using h1
    go_enter Tryz.func52, Tryz.ntmps52
    go_wp2_with fail
    go_ret
    exact ⟨by rw [HF.out]; rfl, (Chg.refl _ _).alloc _⟩
  by_cases h2 : L ≤ 64
  rotate_left
  · have HF := Lib.hid (show rightR L P E s = false from rightR_false.2 (by omega))
    have hd : decide (L ≤ 64) = false := by simpa using h2
    go_enter Tryz.func52, Tryz.ntmps52
    go_wp2_with fail
    go_ret
    exact ⟨by rw [HF.out]; rfl, (Chg.refl _ _).alloc _⟩
  by_cases h3 : 1 ≤ P
  rotate_left
  · have HF := Lib.hid (show rightR L P E s = false from rightR_false.2 (by omega))
    have hd : decide (1 ≤ P) = false := by simpa using h3
    go_enter Tryz.func52, Tryz.ntmps52
    go_wp2_with fail
    go_ret
    exact ⟨by rw [HF.out]; rfl, (Chg.refl _ _).alloc _⟩
  by_cases h4 : P ≤ 64
  rotate_left
  · have HF := Lib.hid (show rightR L P E s = false from rightR_false.2 (by omega))
    have hd : decide (P ≤ 64) = false := by simpa using h4
    go_enter Tryz.func52, Tryz.ntmps52
    go_wp2_with fail
    go_ret
    exact ⟨by rw [HF.out]; rfl, (Chg.refl _ _).alloc _⟩
  by_cases h5 : 2 + L + P ≤ s
  · have hd5 : decide (2 + L + P ≤ s) = true := by simpa using h5
    have HF := Lib.hid (show rightR L P E s = decide (1 ≤ E) from by unfold rightR; congr 1; apply propext; omega)
    go_enter Tryz.func52, Tryz.ntmps52
    go_wp2_with fail
    go_ret
    exact ⟨by rw [HF.out]; rfl, (Chg.refl _ _).alloc _⟩
  · have hd5 : decide (2 + L + P ≤ s) = false := by simpa using h5
    have HF := Lib.hid (show rightR L P E s = false from rightR_false.2 (by omega))
    go_enter Tryz.func52, Tryz.ntmps52
    go_wp2_with fail
    go_ret
    exact ⟨by rw [HF.out]; rfl, (Chg.refl _ _).alloc _⟩
set_option maxHeartbeats 1000000 in
set_option maxRecDepth 100000 in
theorem home_any (L P E page : Int) : Calls Tryz.prog 116 #[rootV L P E, .int .i64 page] w fun e w' => e = .returned (.int .i64 (homeI L P page)) ∧ Chg [] w w' := by
  unfold rootV
  by_cases h1 : page < 0
  · have HF := Lib.hid (show homeI L P page = -1 by unfold homeI; rw [if_pos (.inl h1)])
    go_enter Tryz.func116, Tryz.ntmps116
    go_wp2_with fail
    go_ret
    exact ⟨ret_int' HF.out.symm, (Chg.refl _ _).alloc _⟩
  have hd1 : decide (page < 0) = false := by simpa using h1
  by_cases h2 : P ≤ page
  · have HF := Lib.hid (show homeI L P page = -1 by unfold homeI; rw [if_pos (.inr h2)])
    go_enter Tryz.func116, Tryz.ntmps116
    go_wp2_with fail
    go_ret
    exact ⟨ret_int' HF.out.symm, (Chg.refl _ _).alloc _⟩
  · have hd2 : decide (P ≤ page) = false := by simpa using h2
    have HF := Lib.hid (show homeI L P page = wrap64 (wrap64 (2 + L) + page) by unfold homeI; rw [if_neg (by omega)])
    go_enter Tryz.func116, Tryz.ntmps116
    go_wp2_with fail
    go_ret
    exact ⟨ret_int' HF.out.symm, (Chg.refl _ _).alloc _⟩
set_option maxHeartbeats 1000000 in
set_option maxRecDepth 100000 in
theorem rhome_any (L P E page : Int) : Calls Tryz.prog 90 #[rootV L P E, .int .i64 page] w fun e w' => e = .returned (.int .i64 (homeI L P page)) ∧ Chg [] w w' := by
  unfold rootV
  by_cases h1 : page < 0
  · have HF := Lib.hid (show homeI L P page = -1 by unfold homeI; rw [if_pos (.inl h1)])
    go_enter Tryz.func90, Tryz.ntmps90
    go_wp2_with fail
    go_ret
    exact ⟨ret_int' HF.out.symm, (Chg.refl _ _).alloc _⟩
  have hd1 : decide (page < 0) = false := by simpa using h1
  by_cases h2 : P ≤ page
  · have HF := Lib.hid (show homeI L P page = -1 by unfold homeI; rw [if_pos (.inr h2)])
    go_enter Tryz.func90, Tryz.ntmps90
    go_wp2_with fail
    go_ret
    exact ⟨ret_int' HF.out.symm, (Chg.refl _ _).alloc _⟩
  · have hd2 : decide (P ≤ page) = false := by simpa using h2
    have HF := Lib.hid (show homeI L P page = wrap64 (wrap64 (2 + L) + page) by unfold homeI; rw [if_neg (by omega)])
    go_enter Tryz.func90, Tryz.ntmps90
    go_wp2_with fail
    go_ret
    exact ⟨ret_int' HF.out.symm, (Chg.refl _ _).alloc _⟩
end
end Go.Proofs.YtddjgncdjdjgeaaGreat
namespace Go.Proofs.YtddjgncdjdjgeaaGreat
open Go.RowKit
/-- One change. -/
def applyC (P : List (List UInt8)) (a : ChV) : List (List UInt8) := if 0 ≤ a.page ∧ a.page < P.length then P.set a.page.toNat a.B else P
def applyL (P : List (List UInt8)) (ls : List ChV) : List (List UInt8) := ls.foldl applyC P
theorem applyC_len (P : List (List UInt8)) (a : ChV) : (applyC P a).length = P.length := by unfold applyC; split <;> simp
theorem applyL_len : ∀ (ls : List ChV) (P : List (List UInt8)), (applyL P ls).length = P.length
  | [], _ => rfl
  | a :: ls, P => by show (applyL (applyC P a) ls).length = _; rw [applyL_len ls, applyC_len]
theorem applyL_take (P : List (List UInt8)) (ls : List ChV) (k : Nat) (a : ChV) (h : ls[k]? = some a) : applyL P (ls.take (k + 1)) = applyC (applyL P (ls.take k)) a := by
  obtain ⟨hk, he⟩ := List.getElem?_eq_some_iff.1 h
  unfold applyL
  rw [List.take_succ_eq_append_getElem hk, List.foldl_append, he]; rfl
/-- The first k of the slices us are fresh rows that hold P's lists. -/
structure Fr (B : Nat) (w : World) (g n : Nat) (us : List Value) (P : List (List UInt8)) (k : Nat) : Prop where
  len : us.length = n
  lenP : P.length = n
  row : Whole w g 30 us
  at_ : ∀ j, j < k → ∀ r, P[j]? = some r → ∃ x, us[j]? = some (.slice (some ⟨x, 0, none⟩) r.length r.length) ∧ Whole w x 5 (bts r) ∧ B ≤ x
theorem Fr.keep {B : Nat} {w w' : World} {g n : Nat} {us : List Value} {P : List (List UInt8)} {k : Nat} (h : Fr B w g n us P k) (hc : Chg [] w w') : Fr B w' g n us P k :=
  ⟨h.len, h.lenP, h.row.keep hc, fun j hj r hr => by obtain ⟨x, h1, h2, h3⟩ := h.at_ j hj r hr; exact ⟨x, h1, h2.keep hc, h3⟩⟩
/-- One row is set, which may be a new one. -/
theorem Fr.set_ {B : Nat} {w : World} {g n : Nat} {us : List Value} {P : List (List UInt8)} {k k' j x : Nat} {r : List UInt8} (h : Fr B w g n us P k) (hj : j < n) (hx : Whole w x 5 (bts r)) (hB : B ≤ x) (hk : ∀ i, i < k' → i < k ∨ i = j) :
    Fr B (w.setCell ⟨g, j, none⟩ (.slice (some ⟨x, 0, none⟩) r.length r.length)) g n (us.set j (.slice (some ⟨x, 0, none⟩) r.length r.length)) (P.set j r) k' := by
  refine ⟨by rw [List.length_set, h.len], by rw [List.length_set, h.lenP], h.row.set_ j _, fun i hi q hq => ?_⟩
  by_cases e : j = i
  · subst e
    rw [List.getElem?_set_self (by rw [h.lenP]; exact hj)] at hq
    injection hq with hq
    subst hq
    refine ⟨x, by rw [List.getElem?_set_self (by rw [h.len]; exact hj)], hx.far (hx.ne_ h.row (by decide)) _, hB⟩
  · rw [List.getElem?_set_ne e] at hq
    obtain ⟨y, h1, h2, h3⟩ := h.at_ i (by have := hk i hi; omega) q hq
    exact ⟨y, by rw [List.getElem?_set_ne e]; exact h1, h2.far (h2.ne_ h.row (by decide)) _, h3⟩
/-- Slices that are nil. -/
def nils (n : Nat) : List Value := List.replicate n (.slice none 0 0)
theorem nils_len (n : Nat) : (nils n).length = n := by simp [nils]
theorem make_rows (n : Nat) (h : n ≤ 1000000) (w : World) : (Instr.makeSlice 66 (.int .i64 (n : Int)) (.int .i64 (n : Int))).run Tryz.prog w = .ok (.slice (some ⟨w.heap.size, 0, none⟩) n n) (w.alloc (.cells (nils n).toArray 30)) := by
  obtain ⟨i, hi, hz, hs, hb⟩ := info_parts info_bytes
  exact run_make1 (P := Tryz.prog) 66 30 i _ rfl Tryz.underlying66 hi hz hs n (by rw [hb]; omega) (by omega) w
/-- What Apply answers: rows of its own. -/
def ApplyPost (w : World) (P : List (List UInt8)) (e : Ending) (w' : World) : Prop :=
  ∃ g us, e = .returned (.slice (some ⟨g, 0, none⟩) P.length P.length) ∧ Fr w.heap.size w' g P.length us P P.length ∧ w.heap.size ≤ g ∧ Chg [] w w'
section
variable {w : World} {A C : Option Addr} {n c m d : Nat} {vs : List Value} {P : List (List UInt8)} {ls : List ChV}
set_option maxHeartbeats 2000000 in
set_option maxRecDepth 100000 in
theorem apply_any (hA : Src w A vs) (hsp : 0 < n → ∀ ad, A = some ad → ad.spot = none) (hn : vs.length = n) (hn1 : n ≤ 1000) (hL : Lists w vs P) (hP : ∀ l ∈ P, l.length ≤ 1000000) (hC : Chs w C ls) (hm : ls.length = m) (hm1 : m ≤ 1000) (hls : ∀ a ∈ ls, a.B.length ≤ 1000000) :
    Calls Tryz.prog 99 #[.slice A n c, .slice C m d] w (ApplyPost w (applyL P ls)) := by
  have hmk := make_rows n (by omega)
  have hPn : P.length = n := by rw [← hL.1, hn]
  have HA := Lib.hid hA
  have HL := Lib.hid hL
  have HC := Lib.hid hC
  have HP := Lib.hid hP
  have HN := Lib.hid hn
  have HM := Lib.hid hm
  have HPN := Lib.hid hPn
  have HLS := Lib.hid hls
  clear hA hL hC hP hn hm hPn hls
  go_enter Tryz.func99, Tryz.ntmps99
  go_wp2_with fail
  have hW := Whole.new w 30 (nils n)
  have hc1 : Chg [] w (w.alloc (.cells (nils n).toArray 30)) := (Chg.refl [] w).alloc _
  obtain ⟨g, hg⟩ : ∃ g, g = w.heap.size := ⟨_, rfl⟩
  rw [← hg] at hW ⊢
  have hgw := Lib.hid (show w.heap.size ≤ g by omega)
  have HC1 := Lib.hid hc1
  generalize w.alloc (.cells (nils n).toArray 30) = w1 at hW HC1 ⊢
  clear hg hc1
  go_loopw [15] (fun v wr => ∃ (k : Nat) (us : List Value), k ≤ n ∧ v = .int .i64 (k : Int) ∧ Hid (Fr w.heap.size wr g n us P k) ∧ Hid (Chg [] w wr)) (fun v _ => n - (intOf v).toNat)
  case atStart => exact ⟨0, _, Nat.zero_le _, rfl, Lib.hid ⟨nils_len n, HPN.out, hW, fun j hj => absurd hj (by omega)⟩, HC1⟩
  case round =>
    obtain ⟨k, us, hk, rfl, HF, HCr⟩ := hrel
    by_cases hlt : k < n
    · have hkI : (k : Int) < (n : Int) := by omega
      obtain ⟨⟨bA, oA, sA⟩, rfl, _, hxA⟩ := (HA.out.keep HCr.out) (by rw [HN.out]; omega)
      obtain rfl : sA = none := hsp (by omega) _ rfl
      obtain ⟨xv, hxv⟩ : ∃ x, vs[k]? = some x := ⟨_, List.getElem?_eq_getElem (by rw [HN.out]; exact hlt)⟩
      obtain ⟨X, hX⟩ : ∃ X, P[k]? = some X := ⟨_, List.getElem?_eq_getElem (by rw [HPN.out]; exact hlt)⟩
      obtain ⟨A5, n5, c5, rfl, hB5⟩ := HL.out.2 k xv X hxv hX
      have ck := hxA k _ hxv
      rw [add_plain] at ck
      have hXl := HP.out X (List.mem_of_getElem? hX)
      have hlX := hB5.len
      have HB5 := Lib.hid (hB5.keep HCr.out)
      have HXk := Lib.hid hX
      clear hxA hxv hX hB5
      go_wp2_with fail
      refine (shfresh_any HB5.out (by omega)).mono ?_
      rintro e w5 ⟨rfl, hW5, hc5⟩
      have HF5 := Lib.hid (HF.out.keep hc5)
      have HC5 := Lib.hid (HCr.out.new hc5)
      have HW5 := Lib.hid hW5
      have hge := HCr.out.size
      have HGE := Lib.hid hge
      have c7 := HF5.out.row.cell k
      have f7 := HF5.out.row.frozen k
      obtain ⟨uk, huk⟩ : ∃ u, us[k]? = some u := ⟨_, List.getElem?_eq_getElem (by rw [HF.out.len]; exact hlt)⟩
      rw [huk] at c7
      clear hW5 hc5 ck huk hge
      go_wp2_with fail
      go_roundw
      case rel =>
        have hPs : P.set k X = P := by
          apply List.ext_getElem?
          intro i
          by_cases e : k = i
          · subst e; rw [List.getElem?_set_self (by rw [HPN.out]; exact hlt), HXk.out]
          · rw [List.getElem?_set_ne e]
        have := HF5.out.set_ (k' := k + 1) hlt HW5.out HGE.out (fun i hi => by omega)
        rw [hPs, hlX] at this
        exact ⟨k + 1, _, by omega, by go_num, Lib.hid this, Lib.hid (HC5.out.setCell (fun h => absurd h (by have := hgw.out; show ¬ g < _; omega)) _)⟩
      case measure => simp [intOf]; omega
    · have hkI : ¬ (k : Int) < (n : Int) := by omega
      have hkn := Lib.hid (show k = n by omega)
      have HF0 : Hid (Fr w.heap.size wr g n us P n) := Lib.hid (by have := HF.out; rwa [hkn.out] at this)
      clear hk hlt HF hkn
      go_wp2_with fail
      go_loopw [28] (fun v w5 => ∃ (k : Nat) (us : List Value), k ≤ m ∧ v = .int .i64 (k : Int) ∧ Hid (Fr w.heap.size w5 g n us (applyL P (ls.take k)) n) ∧ Hid (Chg [] w w5)) (fun v _ => m - (intOf v).toNat)
      case atStart => exact ⟨0, us, Nat.zero_le _, rfl, HF0, HCr⟩
      case round =>
        obtain ⟨q, us2, hq, rfl, HF, HC2⟩ := hrel
        clear HF0 HCr
        by_cases hlt : q < m
        · have hqI : (q : Int) < (m : Int) := by omega
          obtain ⟨gc, o, rfl, hgc, hat⟩ := (HC.out.keep HC2.out).cells (by rw [HM.out]; omega)
          obtain ⟨a, ha⟩ : ∃ a, ls[q]? = some a := ⟨_, List.getElem?_eq_getElem (by rw [HM.out]; exact hlt)⟩
          obtain ⟨d0, d1⟩ := hat q a ha
          have hok := HC.out.ok a (List.mem_of_getElem? ha)
          have HBa := Lib.hid (hok.bs.keep HC2.out)
          have hal := HLS.out a (List.mem_of_getElem? ha)
          have hbn := hok.bs.len
          have HAt := Lib.hid (applyL_take P ls q a ha)
          clear hat ha hok
          obtain ⟨pgv, bA, bn, bc, B⟩ := a
          simp only at d0 d1 HBa hal hbn
          have hn1' := hn1
          by_cases hp : 0 ≤ pgv ∧ pgv < (n : Int)
          · obtain ⟨hp0, hp1⟩ := hp
            have HApp := Lib.hid (show applyL P (ls.take (q + 1)) = (applyL P (ls.take q)).set pgv.toNat B by rw [HAt.out, applyC, if_pos (by rw [applyL_len, HPN.out]; exact ⟨hp0, hp1⟩)])
            have HB0 := Lib.hid (show wr.heap.size = wr.heap.size from rfl)
            go_upto_region 11 with fail
            have hwc := Whole.new wr 51 [.int .i64 pgv, .slice bA bn bc]
            have hal1 : Chg [] wr (wr.alloc (.cells #[.int .i64 pgv, .slice bA bn bc] 51)) := (Chg.refl [] wr).alloc _
            obtain ⟨g9, hg9⟩ : ∃ g9, g9 = wr.heap.size := ⟨_, rfl⟩
            rw [← hg9] at hwc ⊢
            have HF6 := Lib.hid (HF.out.keep hal1)
            have HB6 := Lib.hid (HBa.out.keep hal1)
            have HC6 := Lib.hid (HC2.out.new hal1)
            generalize wr.alloc (.cells #[.int .i64 pgv, .slice bA bn bc] 51) = w6 at hwc HF6 HB6 HC6 ⊢
            have k0 := hwc.cell 0
            have k1 := hwc.cell 1
            have kg := hwc.lt
            have HK := Lib.hid (show w6.heap.size = w6.heap.size from rfl)
            clear hg9 HB0
            obtain ⟨pn, hpn⟩ : ∃ pn : Nat, pgv = (pn : Int) := ⟨pgv.toNat, by omega⟩
            subst hpn
            have hpl : pn < n := by omega
            rw [Int.toNat_natCast] at HApp
            obtain ⟨uk, huk⟩ : ∃ u, us2[pn]? = some u := ⟨_, List.getElem?_eq_getElem (by rw [HF6.out.len]; exact hpl)⟩
            have HUK := Lib.hid huk
            clear huk
            go_region_with (go_at_call 123
                            refine (shfresh_any (HB6.out.keep (wdrew (Chg.refl [] _))) (by omega)).mono ?_
                            rintro e w7 ⟨rfl, hW7, hc7⟩
                            have k7 := (HF6.out.row.keep (wdrew hc7)).cell pn
                            have f7 := (HF6.out.row.keep (wdrew hc7)).frozen pn
                            rw [HUK.out] at k7
                            have d7 := cell_keep k0 (wdrew hc7)
                            have d8 := cell_keep k1 (wdrew hc7))
            all_goals go_wp2_with fail
            all_goals go_roundw
            all_goals first
              | (simp [intOf]; omega)
              | (have hfr := (HF6.out.keep (wdrew hc7)).set_ (k' := n) (r := B) hpl hW7 HC6.out.size (fun i hi => .inl hi)
                 rw [hbn] at hfr
                 exact ⟨q + 1, _, by omega, by go_num, Lib.hid (by rw [HApp.out]; exact hfr), Lib.hid ((HC6.out.new (wdrew hc7)).setCell (fun h => absurd h (by have := hgw.out; show ¬ g < _; omega)) _)⟩)
          · have HApp := Lib.hid (show applyL P (ls.take (q + 1)) = applyL P (ls.take q) by rw [HAt.out, applyC, if_neg (by rw [applyL_len, HPN.out]; exact hp)])
            by_cases hp0 : 0 ≤ pgv
            · have hp1 : ¬ pgv < (n : Int) := fun h => hp ⟨hp0, h⟩
              go_wp2_with fail
              go_roundw
              case rel => exact ⟨q + 1, us2, by omega, by go_num, Lib.hid (by rw [HApp.out]; exact HF.out.keep ((Chg.refl _ _).alloc _)), Lib.hid (HC2.out.alloc _)⟩
              case measure => simp [intOf]; omega
            · go_wp2_with fail
              go_roundw
              case rel => exact ⟨q + 1, us2, by omega, by go_num, Lib.hid (by rw [HApp.out]; exact HF.out.keep ((Chg.refl _ _).alloc _)), Lib.hid (HC2.out.alloc _)⟩
              case measure => simp [intOf]; omega
        · have hqI : ¬ (q : Int) < (m : Int) := by omega
          have HQ := Lib.hid (show ls.take q = ls from List.take_of_length_le (by rw [HM.out]; omega))
          have hlen : (applyL P ls).length = n := by rw [applyL_len, HPN.out]
          clear hlt
          go_wp2_with fail
          go_ret
          refine ⟨g, us2, by rw [hlen]; rfl, ?_, hgw.out, HC2.out⟩
          rw [hlen, ← HQ.out]
          rw [HQ.out]; have := HF.out; rw [HQ.out] at this; exact this
end
end Go.Proofs.YtddjgncdjdjgeaaGreat
