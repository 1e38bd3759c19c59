/-
  (*Disk).Waits: a list that the call makes.
-/
import Derived.Test.YtlhkmbcjgdjegaaSect
namespace Go.Proofs.Ytlhkmbcjgdjegaa
open Go.RowKit

/-- Numbers, as cells hold them. -/
def nmsN (l : List Nat) : List Value := l.map fun (i : Nat) => Value.int .i64 (i : Int)
theorem nmsN_len (l : List Nat) : (nmsN l).length = l.length := by simp [nmsN]
theorem nmsN_get (l : List Nat) (i : Nat) (h : i < l.length) : (nmsN l)[i]? = some (.int .i64 (l[i] : Int)) := by simp [nmsN, h]
/-- Which of the first k wait, rising. -/
def wl (V : List Bool) (k : Nat) : List Nat := (List.range k).filter fun i => V.getD i false
theorem wl_le (V : List Bool) (k : Nat) : (wl V k).length ≤ k := by
  have := List.length_filter_le (fun i => V.getD i false) (List.range k)
  simpa [wl] using this
theorem wl_yes (V : List Bool) (k : Nat) (h : k < V.length) (hv : V[k] = true) : wl V (k + 1) = wl V k ++ [k] := by
  unfold wl
  rw [List.range_succ, List.filter_append]
  simp [List.getD, h, hv]
theorem wl_no (V : List Bool) (k : Nat) (h : k < V.length) (hv : V[k] = false) : wl V (k + 1) = wl V k := by
  unfold wl
  rw [List.range_succ, List.filter_append]
  simp [List.getD, h, hv]

theorem nmsN_app (l : List Nat) (k : Nat) : nmsN (l ++ [k]) = nmsN l ++ [.int .i64 (k : Int)] := by simp [nmsN]
theorem chg_grown {T : List Nat} {a w w' : World} {row : Option Nat} (h : Chg T a w) (hg : w.grownBy w' row) (hr : ∀ g, row = some g → a.heap.size ≤ g) : Chg T a w' :=
  h.then_ (T' := row.toList) (Chg.of_grown hg fun g e _ => by simp [e]) fun i hi hlt => by
    have := hr i (by simpa using hi)
    omega

section
variable {w : World} {p bL bS bW : Nat} {L S : List UInt8} {V : List Bool}
set_option maxHeartbeats 1000000 in
theorem waits_any (h : Dsk w p bL bS bW L S V) :
    Calls Try.prog 38 #[.pointer (some ⟨p, 0, none⟩)] w fun e w' => ∃ v, e = .returned v ∧ w'.ownsRow w.heap.size 3 1 v (wl V V.length).length (nmsN (wl V V.length)) ∧ Chg [] w w' := by
  obtain ⟨i0, hi, hz0, hz1, hz2⟩ := info_parts info_int
  have c2 := h.rec_.cell 2
  have hle := h.le
  go_enter Try.func38, Try.ntmps38
  go_wp2_with fail
  go_loopw [3, 11] (fun v i wr => ∃ k : Nat, k ≤ V.length ∧ i = .int .i64 (k : Int) ∧ wr.ownsRow w.heap.size 3 1 v (wl V k).length (nmsN (wl V k)) ∧ Chg [] w wr) (fun _ i _ => V.length - (intOf i).toNat)
  case atStart => exact ⟨0, Nat.zero_le _, rfl, by simpa [wl, nmsN] using World.ownsRow_nil w w.heap.size 3 1, Chg.refl _ _⟩
  case round =>
    obtain ⟨k, hk, rfl, hown, hcg⟩ := hrel
    have hd := h.keep hcg
    have hll := wl_le V k
    have hwr := hcg.size
    by_cases hlt : k < V.length
    · have c4 := (hd.wait.cell k).trans (bls_get V k hlt)
      cases hv : V[k] with
      | true =>
        rw [hv] at c4
        have HY := Lib.hid (wl_yes V k hlt hv)
        clear hv
        obtain ⟨X, hX⟩ : ∃ X, X = nmsN (wl V k) := ⟨_, rfl⟩
        obtain ⟨N, hN⟩ : ∃ N, N = (wl V k).length := ⟨_, rfl⟩
        rw [← hX, ← hN] at hown
        have HX := Lib.hid hX
        have HN := Lib.hid hN
        rw [← hN] at hll
        clear hX hN
        go_wp2_with (first
          | (at_builtin
             refine wpList_append_own _ rfl (.tmp 17) (.tmp 19) _ rfl w.heap.size 3 i0 (.int .i64 0) 1 8 Try.underlying56 hi hz0 hz1 hz2 rfl (by decide) _ N X rfl (hown.alloc _) ⟨wr.heap.size, 0, none⟩ 1 1 [.int .i64 (k : Int)] rfl rfl ?c1 ?c2 ?c3 ?c4 ?c5 ?_
             case c1 => exact cell_one_new _ _ _
             case c2 => simp [Value.oneCell']
             case c3 => simp only [maxLen]; omega
             case c4 => omega
             case c5 => simp; omega
             intro v' w1 hown' hg' _))
        go_roundw
        case rel =>
          refine ⟨k + 1, by omega, by go_num, ?_, chg_grown (hcg.alloc _) hg' fun g hgg => (hown.lt g hgg).1⟩
          rw [HY.out, nmsN_app, List.length_append, ← HX.out, ← HN.out]
          exact hown'
        case measure => simp [intOf]; omega
      | false =>
        rw [hv] at c4
        have HY := Lib.hid (wl_no V k hlt hv)
        clear hv
        go_wp2_with fail
        go_roundw
        case rel => exact ⟨k + 1, by omega, by go_num, by rw [HY.out]; exact hown, hcg⟩
        case measure => simp [intOf]; omega
    · obtain rfl : k = V.length := by omega
      go_wp2_with fail
      go_ret
      exact ⟨_, rfl, hown, hcg⟩
end
end Go.Proofs.Ytlhkmbcjgdjegaa
