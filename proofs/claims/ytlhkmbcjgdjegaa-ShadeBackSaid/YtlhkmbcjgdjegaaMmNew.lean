/-
  cells.New, cells.Of, Copy, Bytes, Dirty.
-/
import Derived.Test.YtlhkmbcjgdjegaaMm
import Derived.Test.YtlhkmbcjgdjegaaOwn
namespace Go.Proofs.Ytlhkmbcjgdjegaa
open Go.RowKit

/-- A new memory. -/
def NewPost (w : World) (l : List UInt8) (k most : Nat) (e : Ending) (w' : World) : Prop :=
  ∃ p gC gD, e = .returned (.pointer (some ⟨p, 0, none⟩)) ∧ Mm w' p gC gD l [] (falses k) [] most ∧ w.heap.size ≤ p ∧ w.heap.size ≤ gC ∧ w.heap.size ≤ gD ∧ Chg [] w w'

section
variable {w : World}
theorem NewPost.drew {l : List UInt8} {k most : Nat} {e : Ending} {w' : World} (h : NewPost w l k most e w') : NewPost w l k most e w'.drew := by
  obtain ⟨p, gC, gD, he, hM, h1, h2, h3, hc⟩ := h
  exact ⟨p, gC, gD, he, hM.keep (Chg.refl [] w').drew, h1, h2, h3, hc.drew⟩
theorem new_end {W : World} {q gC gD k most n : Nat} {l : List UInt8} (hq : q = W.heap.size) (hC : Whole W gC 5 (bts l)) (hD : Whole W gD 4 (bls (falses k))) (hn : l.length = n) (hl : n = 64 * k) (h1 : k ≤ most) (h2 : most ≤ 64)
    (hc : Chg [] w W) (b1 : w.heap.size ≤ gC) (b2 : w.heap.size ≤ gD) :
    NewPost w l k most (.returned (.pointer (some ⟨q, 0, none⟩))) (W.alloc (.cells #[.slice (some ⟨gC, 0, none⟩) n n, .int .i64 (most : Int), .slice (some ⟨gD, 0, none⟩) k k] 103)) := by
  subst hq hn
  have hk : ∀ o, Chg [] W (W.alloc o) := fun o => (Chg.refl [] W).alloc o
  refine ⟨W.heap.size, gC, gD, rfl, ⟨?_, by simpa using hC.keep (hk _), by simpa using hD.keep (hk _), by rw [falses_len]; exact hl, by rw [falses_len]; exact h1, h2, by unfold maxLen; simp; omega, by unfold maxLen; simp [falses_len]; omega⟩, hc.size, b1, b2, hc.alloc _⟩
  have := Whole.new W 103 [.slice (some ⟨gC, 0, none⟩) l.length l.length, .int .i64 (most : Int), .slice (some ⟨gD, 0, none⟩) k k]
  simpa [falses_len] using this

set_option maxHeartbeats 400000 in
theorem cnew_no (k most : Int) (h : k < 0 ∨ most < k ∨ 64 < most) :
    Calls Try.prog 61 #[.int .i64 k, .int .i64 most] w fun e w' => e = .returned (.pointer none) ∧ w = w' := by
  by_cases h1 : k < 0
  · have hd : decide (k < 0) = true := by simpa using h1
    clear h
    go_enter Try.func61, Try.ntmps61
    go_wp2_with fail
    go_ret
    exact ⟨rfl, rfl⟩
  · have hd1 : decide (k < 0) = false := by simpa using h1
    by_cases h2 : most < k
    · have hd : decide (most < k) = true := by simpa using h2
      clear h
      go_enter Try.func61, Try.ntmps61
      go_wp2_with fail
      go_ret
      exact ⟨rfl, rfl⟩
    · have hd2 : decide (most < k) = false := by simpa using h2
      have hd3 : decide (64 < most) = true := by simp; omega
      clear h
      go_enter Try.func61, Try.ntmps61
      go_wp2_with fail
      go_ret
      exact ⟨rfl, rfl⟩

set_option maxHeartbeats 1000000 in
set_option maxRecDepth 100000 in
theorem cnew_yes (k most : Nat) (h1 : k ≤ most) (h2 : most ≤ 64) :
    Calls Try.prog 61 #[.int .i64 (k : Int), .int .i64 (most : Int)] w (NewPost w (zeros (k * 64)) k most) := by
  have hd2 : decide ((most : Int) < (k : Int)) = false := by simp; omega
  have hd3 : decide (64 < (most : Int)) = false := by simp; omega
  have hmk : ∀ W : World, (Instr.makeSlice 22 (.int .i64 ((k : Int) * 64)) (.int .i64 ((k : Int) * 64))).run Try.prog W = .ok (.slice (some ⟨W.heap.size, 0, none⟩) (k * 64) (k * 64)) (W.alloc (.cells (bts (zeros (k * 64))).toArray 5)) :=
    fun W => by
      have := make_u8 (k * 64) (by omega) W
      simpa using this
  have hmb : ∀ W : World, (Instr.makeSlice 98 (.int .i64 (k : Int)) (.int .i64 (k : Int))).run Try.prog W = .ok (.slice (some ⟨W.heap.size, 0, none⟩) k k) (W.alloc (.cells (bls (falses k)).toArray 4)) :=
    fun W => make_bool k (by omega) W
  have hz : (zeros (k * 64)).length = k * 64 := zeros_len _
  have HZ := Lib.hid hz
  clear hz
  have hw : IntKind.i64.wrap ((k : Int) * 64) = (k : Int) * 64 := IntWalk.i64_in _ (by omega)
  go_enter Try.func61, Try.ntmps61
  go_wp2_with fail
  go_region_with fail
  all_goals
    go_wp2_with fail
    go_ret
  · have hA := Whole.new w 5 (bts (zeros (k * 64)))
    have hB := Whole.new (w.alloc (.cells (bts (zeros (k * 64))).toArray 5)) 4 (bls (falses k))
    rw [show (w.alloc (.cells (bts (zeros (k * 64))).toArray 5)).heap.size = w.heap.size + 1 by simp] at hB
    exact (new_end (W := (w.alloc (.cells (bts (zeros (k * 64))).toArray 5)).alloc (.cells (bls (falses k)).toArray 4)) (by simp) (hA.keep ((Chg.refl [] _).alloc _)) hB HZ.out (by omega) h1 h2 (((Chg.refl [] w).alloc _).alloc _) (Nat.le_refl _) (by omega)).drew
  · have hA := Whole.new w 4 (bls (falses k))
    have hB := Whole.new (w.alloc (.cells (bls (falses k)).toArray 4)) 5 (bts (zeros (k * 64)))
    rw [show (w.alloc (.cells (bls (falses k)).toArray 4)).heap.size = w.heap.size + 1 by simp] at hB
    exact (new_end (W := (w.alloc (.cells (bls (falses k)).toArray 4)).alloc (.cells (bts (zeros (k * 64))).toArray 5)) (by simp) hB (hA.keep ((Chg.refl [] _).alloc _)) HZ.out (by omega) h1 h2 (((Chg.refl [] w).alloc _).alloc _) (by omega) (Nat.le_refl _)).drew

variable {A : Option Addr} {n c : Nat} {l : List UInt8}
set_option maxHeartbeats 400000 in
theorem cof_no (hn : n ≤ 1000000) (most : Int) (h : n % 64 ≠ 0 ∨ most < (n : Int) / 64 ∨ 64 < most) :
    Calls Try.prog 24 #[.slice A n c, .int .i64 most] w fun e w' => e = .returned (.pointer none) ∧ w = w' := by
  by_cases h1 : n % 64 = 0
  · have hd : ((n : Int) % 64 != 0) = false := by simp; omega
    have H1 := Lib.hid (show (n : Int) / 64 < 0 ∨ most < (n : Int) / 64 ∨ 64 < most by omega)
    clear h h1
    go_enter Try.func24, Try.ntmps24
    go_wp2_with (go_at_call 61; refine (cnew_no _ most H1.out).mono ?_; rintro e w' ⟨rfl, rfl⟩)
    go_ret
    exact ⟨rfl, rfl⟩
  · have hd : ((n : Int) % 64 != 0) = true := by simp; omega
    clear h h1
    go_enter Try.func24, Try.ntmps24
    go_wp2_with fail
    go_ret
    exact ⟨rfl, rfl⟩
theorem of_copied {w1 w2 : World} {p gC gD k most : Nat} {z : List UInt8} (hM : Mm w1 p gC gD z [] (falses k) [] most) (hz : z.length = l.length) (hc1 : Chg [] w w1) (b0 : w.heap.size ≤ p) (b1 : w.heap.size ≤ gC) (b2 : w.heap.size ≤ gD)
    (HG : Whole w2 gC 5 (splice (bts z) 0 (bts l))) (HC : Chg [gC] w1 w2) : NewPost w l k most (.returned (.pointer (some ⟨p, 0, none⟩))) w2 := by
  have d0 := hM.rec_.ne_ hM.cel (by decide)
  have d1 := hM.dir.ne_ hM.cel (by decide)
  rw [splice_all _ _ (by rw [bts_len, bts_len, hz])] at HG
  have hr := hM.rec_.chg HC (by simpa using d0)
  have hd := hM.dir.chg HC (by simpa using d1)
  have h1 := hM.len
  have h2 := hM.capX
  rw [hz] at hr h1 h2
  refine ⟨p, gC, gD, rfl, ⟨hr, by simpa using HG, hd, h1, hM.le, hM.top, h2, hM.capY⟩, b0, b1, b2, ?_⟩
  exact hc1.then_ HC fun i hi hlt => by
    simp only [List.mem_cons, List.not_mem_nil, or_false] at hi
    omega
set_option maxHeartbeats 1000000 in
set_option maxRecDepth 100000 in
theorem cof_yes (hl : l.length = n) (hs : Src w A (bts l)) (most : Nat) (h1 : n % 64 = 0) (h2 : n / 64 ≤ most) (h3 : most ≤ 64) :
    Calls Try.prog 24 #[.slice A n c, .int .i64 (most : Int)] w (NewPost w l (n / 64) most) := by
  have hd : ((n : Int) % 64 != 0) = false := by simp; omega
  have hq : ((n : Int) / 64) = ((n / 64 : Nat) : Int) := by omega
  have HL := Lib.hid hl
  have HQ := Lib.hid hq
  have H1 := Lib.hid h1
  have hb := bts_one l
  clear hl hq h1
  go_enter Try.func24, Try.ntmps24
  go_wp2_with (first
    | (go_at_call 61
       rw [HQ.out]
       refine (cnew_yes (n / 64) most h2 h3).mono ?_
       rintro e w1 ⟨p, gC, gD, rfl, hM, b0, b1, b2, hc1⟩
       have hz : (zeros (n / 64 * 64)).length = n := by rw [zeros_len]; have := H1.out; omega
       have hsr := hs.keep hc1
       have c0 := hM.rec_.cell 0
       have hcel := hM.cel
       rw [List.append_nil] at hcel
       have Hn := Lib.hid (show (bts l).length = Nat.min n n by rw [bts_len, HL.out]; exact (Nat.min_self n).symm)
       have Hf : 0 + (bts l).length ≤ (bts (zeros (n / 64 * 64))).length := by rw [bts_len, bts_len, hz, HL.out]; omega
       have HM := Lib.hid hM
       have HZ := Lib.hid hz
       simp only [List.length_nil, Nat.add_zero, hz] at c0
       obtain ⟨Y, hY⟩ : ∃ Y, Y = bts l := ⟨_, rfl⟩
       have HY := Lib.hid hY
       rw [← hY] at hb hsr Hn Hf
       clear hY hM hz)
    | (with_reducible refine wpList_copy_chg rfl (.tmp 20) (.tmp 21) _ _ rfl 5 Try.underlying22 size_u8 (some ⟨gC, 0, none⟩) A n n n c rfl rfl gC 0 5 (bts (zeros (n / 64 * 64))) Y hcel Hn.out (fun _ => rfl) hsr Hf hb ?_
       intro w2 HG HC))
  go_ret
  rw [HY.out] at HG
  exact of_copied HM.out (by rw [HZ.out, HL.out]) hc1 b0 b1 b2 HG HC
end
end Go.Proofs.Ytlhkmbcjgdjegaa
