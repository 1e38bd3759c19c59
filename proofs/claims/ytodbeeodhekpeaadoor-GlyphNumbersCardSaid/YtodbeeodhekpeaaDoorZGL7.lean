/-
  GL: Runes.
-/
import Derived.Test.YtodbeeodhekpeaaDoorZGL5
import Derived.Test.YtodbeeodhekpeaaDoorZGL6
import Derived.Laws.RangeAny
import Derived.Lib.OthersKept
import Derived.Deep.DeepCutAuto
namespace Go.Proofs.YtodbeeodhekpeaaDoor
open Go.RowKit
/-- The runes from a place on. -/
def runesAt (s : ByteArray) : Nat → Nat → List Nat
  | 0, _ => []
  | f + 1, pos => if pos < s.size then (Utf8.decode s pos).1 :: runesAt s f (pos + (Utf8.decode s pos).2) else []
def runesL (s : ByteArray) : List Nat := runesAt s s.size 0
theorem width_pos (s : ByteArray) (pos : Nat) (h : pos < s.size) : 1 ≤ (Utf8.decode s pos).2 := by
  by_cases ha : (s[pos]'h).toNat < 128
  · rw [decode_ascii s pos h ha]; exact Nat.le_refl _
  · exact (decode_high s pos h (by omega)).2
theorem runesAt_more (s : ByteArray) : ∀ (f g pos : Nat), s.size - pos ≤ f → f ≤ g → runesAt s f pos = runesAt s g pos
  | 0, 0, _, _, _ => rfl
  | 0, g + 1, pos, h, _ => by
    rw [runesAt, runesAt, if_neg (by omega)]
  | f + 1, g + 1, pos, h, hg => by
    rw [runesAt, runesAt]
    by_cases hp : pos < s.size
    · rw [if_pos hp, if_pos hp, runesAt_more s f g _ (by have := width_pos s pos hp; omega) (by omega)]
    · rw [if_neg hp, if_neg hp]
theorem runesAt_len (s : ByteArray) : ∀ (f pos : Nat), (runesAt s f pos).length ≤ f
  | 0, _ => Nat.le_refl _
  | f + 1, pos => by
    rw [runesAt]
    split
    · have := runesAt_len s f (pos + (Utf8.decode s pos).2); simp; omega
    · simp
theorem runesAt_le (s : ByteArray) : ∀ (f pos : Nat), ∀ r ∈ runesAt s f pos, r ≤ 2147483647
  | 0, _, r, h => by cases h
  | f + 1, pos, r, h => by
    rw [runesAt] at h
    split at h
    · rcases List.mem_cons.1 h with rfl | h
      · exact decode_le s pos
      · exact runesAt_le s f _ r h
    · cases h
/-- Runes, as cells. -/
def r32 (l : List Nat) : List Value := l.map fun k : Nat => Value.int .i32 (k : Int)
theorem r32_len (l : List Nat) : (r32 l).length = l.length := by simp [r32]
theorem r32_app (l m : List Nat) : r32 (l ++ m) = r32 l ++ r32 m := by simp [r32]
theorem info_rune : (Tryd.prog.info? 21).map (fun i => (i.zero, i.size, i.bytes)) = some (some (.int .i32 0), 1, 4) := by kernel_rfl
def RunesPost (s : ByteArray) (w : World) (e : Ending) (w' : World) : Prop := ∃ v, e = .returned v ∧ w'.ownsRow w.heap.size 21 1 v (runesL s).length (r32 (runesL s)) ∧ Chg [] w w'
set_option maxHeartbeats 2000000 in
set_option maxRecDepth 100000 in
theorem runes_any (s : ByteArray) (w : World) (hs : s.size ≤ 1000000) : Calls Tryd.prog 56 #[.string s] w (RunesPost s w) := by
  obtain ⟨i0, hi0, hz0, hz1, hz2⟩ := info_parts info_rune
  go_enter Tryd.func56, Tryd.ntmps56
  go_upto_region 3 with fail
  have hI : (w.iter s 0).heap[w.heap.size]? = some (.stringIter s 0) := World.iter_heap w s 0
  have hc0 : Chg [] w (w.iter s 0) := (Chg.refl [] w).alloc _
  obtain ⟨kI, hkI⟩ : ∃ k, k = w.heap.size := ⟨_, rfl⟩
  have hsz : (w.iter s 0).heap.size = kI + 1 := by rw [hkI]; simp [World.iter]
  rw [← hkI] at hI ⊢
  generalize w.iter s 0 = w1 at hI hc0 hsz ⊢
  have HI := Lib.hid hI
  have HC0 := Lib.hid hc0
  have HK := Lib.hid hkI
  have HSZ := Lib.hid hsz
  clear hI hc0 hkI hsz
  go_loopw [3, 5] (fun v _ wr => (∃ out : List Nat, wr.ownsRow (kI + 1) 21 1 v out.length (r32 out) ∧ out.length ≤ 1000000 ∧ ∃ pos f, Hid (wr.heap[kI]? = some (.stringIter s pos)) ∧ s.size - pos ≤ f ∧ out.length + f ≤ s.size ∧ Hid (runesL s = out ++ runesAt s f pos)) ∧ Hid (Chg [kI] w1 wr)) (fun _ _ wr => s.size - wr.iterPos kI)
  case atStart => exact ⟨⟨[], World.ownsRow_nil _ _ _ _, by simp, 0, s.size, HI, by omega, by simp, Lib.hid rfl⟩, Lib.hid (Chg.refl _ _)⟩
  case round =>
    obtain ⟨⟨out, ho, hol, pos, f, HIr, hf, hof, HR⟩, HCr⟩ := hrel
    have HO := Lib.hid ho
    clear ho
    by_cases hlt : pos < s.size
    · obtain ⟨f', rfl⟩ : ∃ f', f = f' + 1 := ⟨f - 1, by omega⟩
      have hnx := fun ty => Lib.run_next_any_at (P := Tryd.prog) wr kI s pos ty HIr.out hlt
      go_upto_region 5 with fail
      obtain ⟨d, hd⟩ : ∃ d, d = (Utf8.decode s pos).2 := ⟨_, rfl⟩
      obtain ⟨r, hr⟩ : ∃ r, r = (Utf8.decode s pos).1 := ⟨_, rfl⟩
      have hw := width_pos s pos hlt
      rw [← hd] at hw
      have HR2 := Lib.hid (show runesL s = (out ++ [r]) ++ runesAt s f' (pos + d) from by rw [HR.out, runesAt, if_pos hlt, ← hd, ← hr]; simp)
      have HI2 := Lib.hid (Lib.iterAt_heap wr kI s pos (pos + d) HIr.out)
      have HC2 := Lib.hid (show Chg [kI] w1 (wr.iterAt kI s (pos + d)) from HCr.out.trans ⟨rfl, rfl, rfl, by rw [Lib.iterAt_size]; exact Nat.le_refl _, fun i _ hn => Lib.iterAt_other wr kI i s (pos + d) (by simpa using hn)⟩)
      have HO2 := Lib.hid (show (wr.iterAt kI s (pos + d)).ownsRow (kI + 1) 21 1 _ out.length (r32 out) from rown_chg HO.out (T := [kI]) ⟨rfl, rfl, rfl, by rw [Lib.iterAt_size]; exact Nat.le_refl _, fun i _ hn => Lib.iterAt_other wr kI i s (pos + d) (by simpa using hn)⟩ (by simp))
      rw [← hd, ← hr]
      generalize wr.iterAt kI s (pos + d) = w3 at HI2 HC2 HO2 ⊢
      have HMP := Lib.hid (show wr.iterPos kI = pos from by unfold World.iterPos; rw [HIr.out])
      have hkw : kI < w3.heap.size := Lib.hid (Array.getElem?_eq_some_iff.1 HI2.out).1 |>.out
      have hr32 : (r : Int) ≤ 2147483647 := by have := decode_le s pos; omega
      clear hr hd hnx
      go_wp2_with (at_builtin
                   refine wpList_append_own _ rfl (.tmp 11) (.tmp 13) _ rfl (kI + 1) 21 i0 _ 1 4 Tryd.underlying54 hi0 hz0 hz1 hz2 rfl (by decide) u3 out.length (r32 out) rfl (own_keep HO2.out ((Chg.refl [] w3).alloc _)) ⟨w3.heap.size, 0, none⟩ 1 1 [.int .i32 (r : Int)] rfl rfl (cells_page _ _ _) (by simp [Value.oneCell']) (by simp only [maxLen]; omega) (by omega) (by simp; omega) ?_
                   intro v' w6 ho6 hg6 _
                   have HO6 := Lib.hid ho6
                   have HG6 := Lib.hid hg6
                   clear ho6 hg6)
      have HOW := Lib.hid (own_keep HO2.out ((Chg.refl [] w3).alloc (.cells #[.int .i32 (r : Int)] 21)))
      have HI6 := Lib.hid (show w6.heap[kI]? = some (.stringIter s (pos + d)) from by
        rw [HG6.out.block kI (by simp; omega) (fun hc => by have := (HOW.out.lt kI hc.symm).1; omega)]
        exact (((Chg.refl [] w3).alloc (.cells #[.int .i32 (r : Int)] 21)).block kI hkw (by simp)).trans HI2.out)
      have HC6 := Lib.hid (show Chg [kI] w1 w6 from chg_grown2 (HC2.out.alloc _) HG6.out (fun g hg => by have := (HOW.out.lt g hg).1; have := HSZ.out; omega))
      have HP6 := Lib.hid (show w6.iterPos kI = pos + d from by unfold World.iterPos; rw [HI6.out])
      go_roundw
      case rel => exact ⟨⟨out ++ [r], by rw [List.length_append, r32_app]; exact HO6.out, by simp; omega, pos + d, f', HI6, by omega, by simp; omega, HR2⟩, HC6⟩
      case measure => rw [HP6.out, HMP.out]; omega
    · have HRZ := Lib.hid (show runesL s = out from by rw [HR.out]; cases f with
        | zero => simp [runesAt]
        | succ f => rw [runesAt, if_neg hlt]; simp)
      have hnx := fun ty => Lib.run_next_end_at (P := Tryd.prog) wr kI s pos ty HIr.out hlt
      have HCz := Lib.hid (show Chg [] w wr from HC0.out.then_ HCr.out (fun i hi hl => by have := HK.out; simp only [List.mem_cons, List.not_mem_nil, or_false] at hi; omega))
      have HOz := Lib.hid (show RunesPost s w (.returned u3) wr from ⟨_, rfl, by rw [HRZ.out]; exact own_more HO.out (by have := HK.out; omega), HCz.out⟩)
      go_wp2_with fail
      go_ret
      exact HOz.out
end Go.Proofs.YtodbeeodhekpeaaDoor
