/-
  PB: UMark, URune.
-/
import Derived.Test.YtbkfhndmeljlcaaGreatDoorZPB16
import Derived.Deep.AppendSrc
import Derived.Laws.IdiomStrings
import Derived.Lib.BufferOwn
import Derived.Lib.BufferWrite
import Derived.Lib.RuneBytes
namespace Go.Proofs.YtbkfhndmeljlcaaGreatDoor
open Go.RowKit
open Go.Lib (decDigits encodeRune)
structure OwnM (w : World) (B : Nat) (v : Value) (n : Nat) (out : List UInt8) : Prop where
  len : out.length = n
  row : ∃ g cap cur fz, v = .slice (some ⟨g, 0, none⟩) n cap ∧ B ≤ g ∧ w.heap[g]? = some (.cells cur 5 fz) ∧ (fz.2 = 0 ∨ fz.1 = cur.size) ∧ n ≤ cap ∧ cap ≤ maxLen ∧ cur.size = cap ∧ cur.toList.take n = bts out
section
variable {w w' : World} {B n : Nat} {v : Value} {out : List UInt8}
theorem OwnM.keep (h : OwnM w B v n out) (hc : Chg [] w w') : OwnM w' B v n out := by
  obtain ⟨hl, g, cap, cur, fz, e, hB, hg, rest⟩ := h
  refine ⟨hl, g, cap, cur, fz, e, hB, ?_, rest⟩
  rw [hc.block g (Array.getElem?_eq_some_iff.1 hg).1 (by simp), hg]
theorem OwnM.fr (h : OwnM w B v n out) (hg : w.grownBy w' v.ownBlock) : Fr B u8T w w' := by
  obtain ⟨hl, g, cap, cur, fz, rfl, hB, hgg, rest⟩ := h
  refine ⟨hg.os, hg.tape, hg.output, hg.size, fun k hk hc => ?_⟩
  refine hg.block k hk (fun e => ?_)
  simp only [Value.ownBlock, Option.some.injEq] at e
  subst e
  rcases hc with h1 | h1
  · omega
  · exact h1 _ _ _ hgg (by simp)
theorem OwnM.cells (h : OwnM w B v n out) : ∃ g cap, v = .slice (some ⟨g, 0, none⟩) n cap ∧ (∀ j u, (bts out)[j]? = some u → w.cell? ((⟨g, 0, none⟩ : Addr).add j) = some u) ∧ n ≤ cap ∧ cap ≤ maxLen := by
  obtain ⟨hl, g, cap, cur, fz, rfl, hB, hgg, hf, hnc, hcm, hcs, htk⟩ := h
  refine ⟨g, cap, rfl, fun j u hu => ?_, hnc, hcm⟩
  have hadd : (⟨g, 0, none⟩ : Addr).add j = ⟨g, j, none⟩ := by unfold Addr.add; split <;> simp_all
  rw [hadd, cell_of_row w g j cur _ fz hgg]
  rw [← htk, List.getElem?_take] at hu
  split at hu
  · simpa using hu
  · cases hu
theorem om_frozen {g : Nat} {cur : Array Value} {t : TypeId} {fz : Nat × Nat} (hg : w.heap[g]? = some (.cells cur t fz)) (hf : fz.2 = 0 ∨ fz.1 = cur.size) (j : Nat) (hj : j < cur.size) : w.frozen? ⟨g, j, none⟩ = false := by
  obtain ⟨lo, hi⟩ := fz
  simp only [World.frozen?, hg, Bool.and_eq_false_iff, decide_eq_false_iff_not]
  simp only at hf
  omega
end
theorem take_set_succ {α : Type} (l : List α) (o : Nat) (v : α) (h : o < l.length) : (l.set o v).take (o + 1) = l.take o ++ [v] := by
  induction l generalizing o with
  | nil => simp at h
  | cons a l ih =>
    cases o with
    | zero => simp
    | succ o => simp at h ⊢; exact ih o h
theorem setCells_row (g : Nat) (t : TypeId) (fz : Nat × Nat) : ∀ (vs : List Value) (o : Nat) (cur : Array Value) (w : World), w.heap[g]? = some (.cells cur t fz) → o + vs.length ≤ cur.size →
    ∃ cur', (w.setCells g o vs).heap[g]? = some (.cells cur' t fz) ∧ cur'.size = cur.size ∧ cur'.toList.take (o + vs.length) = cur.toList.take o ++ vs
  | [], o, cur, w, hg, _ => ⟨cur, hg, rfl, by simp⟩
  | v :: r, o, cur, w, hg, hl => by
    have h1 : (w.setCell ⟨g, o, none⟩ v).heap[g]? = some (.cells (cur.setIfInBounds o v) t fz) := by
      rw [setCell_eq_setRow w g o cur t fz v hg]; exact setRow_heap w g cur _ t fz hg
    have hl' : o + (r.length + 1) ≤ cur.size := hl
    obtain ⟨c', a, b, c⟩ := setCells_row g t fz r (o + 1) (cur.setIfInBounds o v) _ h1 (by simp; omega)
    refine ⟨c', a, by rw [b]; simp, ?_⟩
    have e : o + (v :: r).length = o + 1 + r.length := by simp only [List.length_cons]; omega
    rw [e, c, Array.toList_setIfInBounds, take_set_succ _ _ _ (by simp; omega)]
    simp
theorem setCells_grown (g : Nat) : ∀ (vs : List Value) (o : Nat) (w : World), w.grownBy (w.setCells g o vs) (some g)
  | [], _, w => World.grownBy.refl w _
  | v :: r, o, w => Lib.grownBy_trans (Lib.grownBy_setCell w g o v) (setCells_grown g r (o + 1) _)
theorem run_appM (w : World) (tx ty : TypeId) (x : Value) (m : Nat) (new : List UInt8) {B n : Nat} {v : Value} {out : List UInt8} (h : OwnM w B v n out) (hs : Go.Src Tryz.prog 1 tx x m (bts new) w) (hB : B ≤ w.heap.size) (hm : n + m ≤ 1000000) :
    ∃ v' w', (Builtin.append_ #[33, tx] ty #[v, x]).run Tryz.prog w = .ok v' w' ∧ OwnM w' B v' (n + m) (out ++ new) ∧ w.grownBy w' v.ownBlock := by
  obtain ⟨i, hi, hz, h1, h2⟩ := info_parts info_u8
  have hsl : new.length = m := by have := hs.newsLen; simpa [bts] using this
  obtain ⟨hl, g, cap, cur, fz, rfl, hBg, hg, hf, hnc, hcm, hcs, htk⟩ := h
  by_cases hr : n + m ≤ cap
  · have hlen : (bts new).length = m := by simpa [bts] using hsl
    have hrun := run_append_room_src (P := Tryz.prog) w 33 tx ty 5 i Tryz.underlying33 hi g 0 n cap x m (bts new) (by rw [h1]; exact hs) hr
      (fun j hj => by rw [h1, cell_of_row w g _ cur _ fz hg]; simp; omega)
      (fun j hj => by rw [h1]; exact om_frozen hg hf _ (by omega))
    rw [h1, Nat.mul_one, Nat.zero_add] at hrun
    obtain ⟨c', a, b, c⟩ := setCells_row g 5 fz (bts new) n cur w hg (by omega)
    refine ⟨_, _, hrun, ⟨by rw [List.length_append]; omega, g, cap, c', fz, rfl, hBg, a, by rw [b]; exact hf, hr, hcm, by rw [b]; exact hcs, ?_⟩, setCells_grown g _ _ w⟩
    rw [hlen] at c
    rw [c, htk]
    simp [bts]
  · have hold : (Builtin.firstCells i.size n (.slice (some ⟨g, 0, none⟩) n cap)).run Tryz.prog w.drew = .ok (bts out).toArray w.drew := by
      refine run_firstCells_some w.drew i.size n ⟨g, 0, none⟩ n cap (bts out) (by rw [h1]; simp [bts, hl]) (fun j u hu => ?_)
      have hadd : (⟨g, 0, none⟩ : Addr).add j = ⟨g, j, none⟩ := by unfold Addr.add; split <;> simp_all
      rw [hadd]
      show w.cell? _ = _
      rw [cell_of_row w g j cur _ fz hg]
      rw [← htk, List.getElem?_take] at hu
      split at hu
      · simpa using hu
      · cases hu
    have hrun := run_append_grow_src (P := Tryz.prog) w 33 tx ty 5 i _ Tryz.underlying33 hi hz (some ⟨g, 0, none⟩) n cap (bts out) hold x m (bts new) (by rw [h1]; exact hs) (by omega) (by omega)
      (by rw [h2]; exact growslice_fits (by omega) (by omega))
    have hge := grownCap_ge w (n + m) cap 5
    refine ⟨_, _, hrun, ⟨by rw [List.length_append]; omega, w.heap.size, _, _, (0, 0), rfl, hB, heap_alloc_new w.drew _, .inl rfl, hge, grownCap_le_maxLen w (n + m) cap _ (by unfold maxLen; omega), ?_, ?_⟩, ⟨rfl, rfl, rfl, by simp, fun k hk _ => heap_alloc_old w.drew _ hk⟩⟩
    · simp only [Array.size_append, List.size_toArray, size_zeroCells, List.length_append]
      simp [bts, Value.cells, hl, hsl]
      omega
    · have : n + m = (bts out ++ bts new).length := by simp [bts, hl, hsl]
      simp only [Array.toList_append]
      rw [this, List.take_left]
      simp [bts]
section
variable (w : World)
theorem wpList_appM {ops : Array Oper} {rest : List Oper} {o : Oper} {a : Act} {Q : Exit → Act → World → Prop} (hgd : o.guard = none) (s x : Operand) (tx : TypeId)
    (hop : o.op = Op.call { callee := Callee.builtin Builtin.append, args := #[s, x], argTypes := #[33, tx] }) {B n : Nat} {v : Value} {out : List UInt8} (hs : a.eval s = v) (h : OwnM w B v n out)
    (X : Value) (m : Nat) (new : List UInt8) (hx : a.eval x = X) (hsrc : Go.Src Tryz.prog 1 tx X m (bts new) w) (hB : B ≤ w.heap.size) (hm : n + m ≤ 1000000)
    (hK : ∀ v' w', OwnM w' B v' (n + m) (out ++ new) → w.grownBy w' v.ownBlock → wpList Tryz.prog ops Q rest (a.put o.dst v') w') : wpList Tryz.prog ops Q (o :: rest) a w := by
  refine wpList_plain hgd fun K hK' => ?_
  obtain ⟨v', w', hrun, r1, r2⟩ := run_appM w tx o.type X m new h hsrc hB hm
  unfold Oper.wp
  simp [execOp, hop, resolve, invoke, builtin, hs, hx, hrun, Result.andThen]
  exact hK' _ _ (hK v' w' r1 r2)
end
/-- What has been written, and what stays. -/
def WrM (B : Nat) (w : World) (out : List UInt8) (e : Ending) (w' : World) : Prop :=
  ∃ v' n', e = .returned v' ∧ n' = out.length ∧ OwnM w' B v' n' out ∧ Fr B u8T w w'
end Go.Proofs.YtbkfhndmeljlcaaGreatDoor
namespace Go.Proofs.YtbkfhndmeljlcaaGreatDoor
open Go.RowKit
open Go.Lib (decDigits encodeRune)
set_option linter.unusedSimpArgs false
variable {w : World} {B n : Nat} {v : Value} {out : List UInt8}
theorem src_row (w : World) (xs : List Value) (m : Nat) (h1 : ∀ u ∈ xs, u.oneCell' = true) (hl : xs.length = m) : Go.Src Tryz.prog 1 33 (.slice (some ⟨w.heap.size, 0, none⟩) m m) m xs (w.alloc (.cells xs.toArray 5)) :=
  Go.Src.ofSlice _ Tryz.underlying33 ⟨w.heap.size, 0, none⟩ m m xs (by rw [hl, Nat.mul_one]) (cells_page _ _ _) h1
theorem OwnM.wrote {w' : World} {W : World} {v' : Value} {m : Nat} {new : List UInt8} (h : OwnM w B v n out) (hc : Chg [] w W) (ho : OwnM w' B v' (n + m) (out ++ new)) (hg : W.grownBy w' v.ownBlock) : WrM B w (out ++ new) (.returned v') w' :=
  ⟨v', n + m, rfl, ho.len.symm, ho, (Fr.of_chg hc).trans ((h.keep hc).fr hg)⟩
set_option maxHeartbeats 4000000 in
set_option maxRecDepth 100000 in
theorem marune_two (r : Int) (h0 : 128 ≤ r) (h1 : r ≤ 2047) (ho : OwnM w B v n out) (hB : B ≤ w.heap.size) (hm : n ≤ 900000) : Calls Tryz.prog 89 #[v, .int .i32 r] w (WrM B w (out ++ encodeRune r)) := by
  have HE := Lib.hid (show bts (encodeRune r) = [.int .u8 (192 + r / 64), .int .u8 (128 + r % 64)] from by rw [bts_cells, Lib.byteCells_encodeRune, Lib.runeCells, Lib.encodeRuneZ_two h0 h1]; rfl)
  have HO := Lib.hid ho
  clear ho
  go_enter Tryz.func89, Tryz.ntmps89
  go_wp2_with (at_builtin
               refine wpList_appM _ rfl _ _ _ rfl rfl (HO.out.keep ((Chg.refl [] w).alloc (.cells #[.int .u8 (192 + r / 64), .int .u8 (128 + r % 64)] 5))) (.slice (some ⟨w.heap.size, 0, none⟩) 2 2) 2 (encodeRune r) rfl ?src ?hB ?hm ?_)
  case src =>
    rw [HE.out]
    exact src_row w [.int .u8 (192 + r / 64), .int .u8 (128 + r % 64)] 2 (by intro u hu; simp at hu; rcases hu with rfl | rfl <;> rfl) rfl
  case hB => simp; omega
  case hm => omega
  intro v' w2 ho2 hg2
  go_wp2
  go_ret
  exact HO.out.wrote ((Chg.refl [] w).alloc _) ho2 hg2
set_option maxHeartbeats 4000000 in
set_option maxRecDepth 100000 in
theorem marune_lo (r : Int) (h0 : 2048 ≤ r) (h1 : r < 55296) (ho : OwnM w B v n out) (hB : B ≤ w.heap.size) (hm : n ≤ 900000) : Calls Tryz.prog 89 #[v, .int .i32 r] w (WrM B w (out ++ encodeRune r)) := by
  have HE := Lib.hid (show bts (encodeRune r) = [.int .u8 (224 + r / 4096), .int .u8 (128 + r / 64 % 64), .int .u8 (128 + r % 64)] from by rw [bts_cells, Lib.byteCells_encodeRune, Lib.runeCells, Lib.encodeRuneZ_three (.inl ⟨h0, h1⟩)]; rfl)
  have HO := Lib.hid ho
  clear ho
  go_enter Tryz.func89, Tryz.ntmps89
  go_wp2_with (at_builtin
               refine wpList_appM _ rfl _ _ _ rfl rfl (HO.out.keep ((Chg.refl [] w).alloc (.cells #[.int .u8 (224 + r / 4096), .int .u8 (128 + r / 64 % 64), .int .u8 (128 + r % 64)] 5))) (.slice (some ⟨w.heap.size, 0, none⟩) 3 3) 3 (encodeRune r) rfl ?src ?hB ?hm ?_)
  case src =>
    rw [HE.out]
    exact src_row w [.int .u8 (224 + r / 4096), .int .u8 (128 + r / 64 % 64), .int .u8 (128 + r % 64)] 3 (by intro u hu; simp at hu; rcases hu with rfl | rfl | rfl <;> rfl) rfl
  case hB => simp; omega
  case hm => omega
  intro v' w2 ho2 hg2
  go_wp2
  go_ret
  exact HO.out.wrote ((Chg.refl [] w).alloc _) ho2 hg2
set_option maxHeartbeats 4000000 in
set_option maxRecDepth 100000 in
theorem marune_hi (r : Int) (h0 : 57343 < r) (h1 : r ≤ 65535) (ho : OwnM w B v n out) (hB : B ≤ w.heap.size) (hm : n ≤ 900000) : Calls Tryz.prog 89 #[v, .int .i32 r] w (WrM B w (out ++ encodeRune r)) := by
  have HE := Lib.hid (show bts (encodeRune r) = [.int .u8 (224 + r / 4096), .int .u8 (128 + r / 64 % 64), .int .u8 (128 + r % 64)] from by rw [bts_cells, Lib.byteCells_encodeRune, Lib.runeCells, Lib.encodeRuneZ_three (.inr ⟨h0, h1⟩)]; rfl)
  have HO := Lib.hid ho
  clear ho
  go_enter Tryz.func89, Tryz.ntmps89
  go_wp2_with (at_builtin
               refine wpList_appM _ rfl _ _ _ rfl rfl (HO.out.keep ((Chg.refl [] w).alloc (.cells #[.int .u8 (224 + r / 4096), .int .u8 (128 + r / 64 % 64), .int .u8 (128 + r % 64)] 5))) (.slice (some ⟨w.heap.size, 0, none⟩) 3 3) 3 (encodeRune r) rfl ?src ?hB ?hm ?_)
  case src =>
    rw [HE.out]
    exact src_row w [.int .u8 (224 + r / 4096), .int .u8 (128 + r / 64 % 64), .int .u8 (128 + r % 64)] 3 (by intro u hu; simp at hu; rcases hu with rfl | rfl | rfl <;> rfl) rfl
  case hB => simp; omega
  case hm => omega
  intro v' w2 ho2 hg2
  go_wp2
  go_ret
  exact HO.out.wrote ((Chg.refl [] w).alloc _) ho2 hg2
set_option maxHeartbeats 4000000 in
set_option maxRecDepth 100000 in
theorem marune_four (r : Int) (h0 : 65536 ≤ r) (h1 : r ≤ 1114111) (ho : OwnM w B v n out) (hB : B ≤ w.heap.size) (hm : n ≤ 900000) : Calls Tryz.prog 89 #[v, .int .i32 r] w (WrM B w (out ++ encodeRune r)) := by
  have HE := Lib.hid (show bts (encodeRune r) = [.int .u8 (240 + r / 262144), .int .u8 (128 + r / 4096 % 64), .int .u8 (128 + r / 64 % 64), .int .u8 (128 + r % 64)] from by rw [bts_cells, Lib.byteCells_encodeRune, Lib.runeCells, Lib.encodeRuneZ_four h0 h1]; rfl)
  have HO := Lib.hid ho
  clear ho
  go_enter Tryz.func89, Tryz.ntmps89
  go_wp2_with (at_builtin
               refine wpList_appM _ rfl _ _ _ rfl rfl (HO.out.keep ((Chg.refl [] w).alloc (.cells #[.int .u8 (240 + r / 262144), .int .u8 (128 + r / 4096 % 64), .int .u8 (128 + r / 64 % 64), .int .u8 (128 + r % 64)] 5))) (.slice (some ⟨w.heap.size, 0, none⟩) 4 4) 4 (encodeRune r) rfl ?src ?hB ?hm ?_)
  case src =>
    rw [HE.out]
    exact src_row w [.int .u8 (240 + r / 262144), .int .u8 (128 + r / 4096 % 64), .int .u8 (128 + r / 64 % 64), .int .u8 (128 + r % 64)] 4 (by intro u hu; simp at hu; rcases hu with rfl | rfl | rfl | rfl <;> rfl) rfl
  case hB => simp; omega
  case hm => omega
  intro v' w2 ho2 hg2
  go_wp2
  go_ret
  exact HO.out.wrote ((Chg.refl [] w).alloc _) ho2 hg2
/-- A name. -/
theorem name_at {r : Int} (h : nameB r = true) : (0 ≤ r ∧ r ≤ 127) ∨ (128 ≤ r ∧ r ≤ 2047) ∨ (2048 ≤ r ∧ r < 55296) ∨ (57343 < r ∧ r ≤ 65535) ∨ (65536 ≤ r ∧ r ≤ 1114111) := by
  by_cases hs : smallB r = true
  · have : 97 ≤ r ∧ r ≤ 122 := by
      unfold smallB at hs
      simpa using hs
    omega
  · have hs' : smallB r = false := by simpa using hs
    by_cases h2 : 255 < r
    · rw [name_valid hs' h2] at h
      unfold validB at h
      simp at h
      omega
    · rw [name_low hs' h2] at h
      cases h
set_option maxHeartbeats 4000000 in
set_option maxRecDepth 100000 in
theorem marune_any (r : Int) (hr : nameB r = true) (ho : OwnM w B v n out) (hB : B ≤ w.heap.size) (hm : n ≤ 900000) : Calls Tryz.prog 59 #[v, .int .i32 r] w (WrM B w (out ++ encodeRune r)) := by
  have HN := Lib.hid (name_at hr)
  have HO := Lib.hid ho
  clear ho hr
  by_cases h127 : r ≤ 127
  · have h0 : 0 ≤ r := by have := HN.out; omega
    have HE := Lib.hid (show bts (encodeRune r) = [.int .u8 r] from by rw [bts_cells, Lib.byteCells_encodeRune, Lib.runeCells, Lib.encodeRuneZ_one h0 h127]; rfl)
    go_enter Tryz.func59, Tryz.ntmps59
    go_wp2_with (at_builtin
                 refine wpList_appM _ rfl _ _ _ rfl rfl (HO.out.keep ((Chg.refl [] w).alloc (.cells #[.int .u8 r] 5))) (.slice (some ⟨w.heap.size, 0, none⟩) 1 1) 1 (encodeRune r) rfl ?src ?hB ?hm ?_)
    case src =>
      rw [HE.out]
      exact src_row w [.int .u8 r] 1 (by intro u hu; simp at hu; subst hu; rfl) rfl
    case hB => simp; omega
    case hm => omega
    intro v' w2 ho2 hg2
    go_wp2
    go_ret
    exact HO.out.wrote ((Chg.refl [] w).alloc _) ho2 hg2
  · have h128 : 128 ≤ r := by omega
    have hmx : r ≤ 1114111 := by have := HN.out; omega
    have HC := Lib.hid (show Calls Tryz.prog 89 #[v, .int .i32 r] w (WrM B w (out ++ encodeRune r)) from by
      rcases HN.out with h | h | h | h | h
      · omega
      · exact marune_two r h.1 h.2 HO.out hB hm
      · exact marune_lo r h.1 h.2 HO.out hB hm
      · exact marune_hi r h.1 h.2 HO.out hB hm
      · exact marune_four r h.1 h.2 HO.out hB hm)
    go_enter Tryz.func59, Tryz.ntmps59
    go_wp2_with (go_at_call 89
                 refine HC.out.mono ?_
                 rintro e w5 ⟨v', n', rfl, hn', ho', hf'⟩)
    go_ret
    exact ⟨v', n', rfl, hn', ho', hf'⟩
end Go.Proofs.YtbkfhndmeljlcaaGreatDoor
