/-
  Rows of asks that the law makes itself.
-/
import Derived.Test.YtigbnmckdjlihaaDAsks
namespace Go.Proofs.Ytigbnmckdjlihaa
open Go.RowKit
section
variable {w w' : World} {B n k : Nat} {e : TypeId} {v : Value} {xs : List Value}
theorem ownN_keep (h : w.ownsRow B e k v n xs) (hc : Chg [] w w') : w'.ownsRow B e k v n xs := by
  refine ⟨h.1, h.2.imp id ?_⟩
  rintro ⟨g, cap, cur, rfl, hb, hg, r⟩
  refine ⟨g, cap, cur, rfl, hb, ?_, r⟩
  rw [hc.block g ?_ (by simp)]
  · exact hg
  · rcases Nat.lt_or_ge g w.heap.size with hlt | hge
    · exact hlt
    · rw [Array.getElem?_eq_none hge] at hg; cases hg
/-- What was appended to is the caller's own: nothing that was there has turned. -/
theorem Chg.ownN {T : List Nat} {a : World} (h : Chg T a w) (ho : w.ownsRow B e k v n xs) (hB : a.heap.size ≤ B) (hg : w.grownBy w' v.ownBlock) : Chg T a w' := by
  refine h.then_ (T' := match v.ownBlock with | some g => [g] | none => []) ?_ ?_
  · refine Chg.of_grown hg fun g hr _ => ?_
    rw [hr]; simp
  · intro i hi hlt
    exfalso
    rcases ho.2 with ⟨rfl, _⟩ | ⟨g, cap, cur, rfl, hb, _⟩
    · simp [Value.ownBlock] at hi
    · simp [Value.ownBlock] at hi; omega
end
/-- The cells of an ask; of asks. -/
def askC (a : AskV) : List Value := [.int .i64 a.kind, .int .i64 a.i, .slice a.bA a.bn a.bc, .slice a.cA a.cn a.cc]
def askCs : List AskV → List Value
  | [] => []
  | a :: l => askC a ++ askCs l
theorem askCs_len : ∀ l, (askCs l).length = l.length * 4
  | [] => rfl
  | a :: l => by rw [askCs, List.length_append, askCs_len l]; simp [askC]; omega
theorem askCs_app : ∀ l m, askCs (l ++ m) = askCs l ++ askCs m
  | [], _ => rfl
  | a :: l, m => by rw [List.cons_append, askCs, askCs, askCs_app l m, List.append_assoc]
theorem askCs_one (a : AskV) : askCs [a] = askC a := by simp [askCs]
theorem askCs_get : ∀ (l : List AskV) (k : Nat) (a : AskV) (j : Nat), l[k]? = some a → j < 4 → (askCs l)[k * 4 + j]? = (askC a)[j]?
  | [], k, a, j, h, hj => by simp at h
  | b :: l, 0, a, j, h, hj => by
    simp at h; subst h
    rw [askCs, List.getElem?_append_left (by simp [askC]; omega)]
    congr 1; omega
  | b :: l, k + 1, a, j, h, hj => by
    simp at h
    rw [askCs, List.getElem?_append_right (by simp [askC]; omega)]
    rw [← askCs_get l k a j h hj]
    congr 1; simp [askC]; omega
theorem askC_cells (a : AskV) : ∀ v ∈ askC a, v.oneCell' = true := by
  intro v hv
  simp only [askC, List.mem_cons, List.not_mem_nil, or_false] at hv
  rcases hv with rfl | rfl | rfl | rfl <;> rfl
/-- An own row of asks, as play takes it. -/
theorem asks_own {w : World} {B n : Nat} {e : TypeId} {v : Value} {l : List AskV} (h : w.ownsRow B e 4 v n (askCs l)) (hok : ∀ a ∈ l, AskOk w a) :
    ∃ A c, v = .slice A n c ∧ l.length = n ∧ Asks w A l ∧ n ≤ 9223372036854775807 := by
  have hl : l.length = n := by have := h.1; rw [askCs_len] at this; omega
  rcases h.2 with ⟨rfl, rfl⟩ | ⟨g, cap, cur, rfl, hb, hg, hn, hc, hs, ht⟩
  · exact ⟨none, 0, rfl, hl, ⟨fun h => absurd h (by omega), hok⟩, by omega⟩
  · have hgl : g < w.heap.size := by
      rcases Nat.lt_or_ge g w.heap.size with hlt | hge
      · exact hlt
      · rw [Array.getElem?_eq_none hge] at hg; cases hg
    refine ⟨_, cap, rfl, hl, ⟨fun _ => ⟨g, 0, rfl, hgl, fun k a ha => ?_⟩, hok⟩, by unfold maxLen at hc; omega⟩
    have hx : ∀ j u, (askCs l)[j]? = some u → w.cell? ((⟨g, 0, none⟩ : Addr).add j) = some u := h.cells rfl
    have q : ∀ j, j < 4 → ∀ u, (askC a)[j]? = some u → w.cell? ⟨g, k * 4 + j, none⟩ = some u := fun j hj u hu => by
      have := hx (k * 4 + j) u ((askCs_get l k a j ha hj).trans hu)
      rwa [add_plain, Nat.zero_add] at this
    simp only [Nat.zero_add]
    exact ⟨q 0 (by omega) _ rfl, q 1 (by omega) _ rfl, q 2 (by omega) _ rfl, q 3 (by omega) _ rfl⟩
theorem info_ask : (Try.prog.info? 74).map (fun i => (i.zero, i.size, i.bytes)) = some (some (.agg #[.int .i64 0, .int .i64 0, .slice none 0 0, .slice none 0 0]), 4, 64) := by kernel_rfl
theorem cells_ask : (Value.agg #[.int .i64 0, .int .i64 0, .slice none 0 0, .slice none 0 0]).cells.size = 4 := by rfl
end Go.Proofs.Ytigbnmckdjlihaa
