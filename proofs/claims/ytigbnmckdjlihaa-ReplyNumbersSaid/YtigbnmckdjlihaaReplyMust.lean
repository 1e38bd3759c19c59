/-
  Layer 12: Must, which recovers.
-/
import Derived.Test.YtigbnmckdjlihaaReply
import Derived.Laws.Pointers
namespace Go.Proofs.Ytigbnmckdjlihaa
open Go.RowKit

theorem catch_panicking (p : Addr) (x : Int) (u : TypeId) (pv : Value) (older : List PanicEntry) (w : World) (hc : w.cell? p = some (.int .i64 x)) (hz : w.frozen? p = false) :
    CallsD Try.prog 55 #[.pointer (some p)] (.panicking ({ v := .iface u pv, recovered := false } :: older)) w fun e u' w' =>
      e = .returned (.tuple #[]) ∧ u' = .panicking ({ v := .iface u pv, recovered := true } :: older) ∧ w' = w.setCell p (.int .i64 (-1)) := by
  refine callsD_of_wpS Try.func55 rfl fun c₀ cs hu => ?_
  apply wpS_seq
  apply wpS_region
  simp [wpOpsS, go_sem, recoverD, hu, Try.ntmps55, Exit.thenS]
  refine wpS_cond (t := true) (by simp [Act.eval, Array.replicate]) ?_
  simp only [if_true]
  apply wpS_region
  simp [wpOpsS, go_sem, hc, hz, bodyPostS, results, Try.results55]

theorem catch_idle (p : Addr) (w : World) :
    CallsD Try.prog 55 #[.pointer (some p)] .returning w fun e u' w' => e = .returned (.tuple #[]) ∧ u' = .returning ∧ w' = w := by
  refine callsD_of_wpS Try.func55 rfl fun c₀ cs hu => ?_
  apply wpS_seq
  apply wpS_region
  simp [wpOpsS, go_sem, recoverD, hu, Try.ntmps55, Exit.thenS]
  refine wpS_cond (t := false) (by simp [Act.eval, Array.replicate]) ?_
  simp only [Bool.false_eq_true, if_false]
  refine wpS_of_wp (wp_skip ?_)
  cases c₀
  simp_all [bodyPostS, results, Try.results55]

theorem ab_yes (n : Int) (w : World) : (Instr.typeAssert (.iface 2 (.int .i64 n)) 20 2 false).run Try.prog w = .ok (.int .i64 n) w := by kernel_rfl
theorem ab_nil (w : World) : (Instr.typeAssert .nilIface 20 2 false).run Try.prog w =
    .halt (.panic (.iface 15 (.pointer (some ⟨w.heap.size, 0, none⟩)))) (w.alloc (.cells #[typeHandle Try.prog 20, .pointer none, typeHandle Try.prog 2, strVal ""] 124)) := by kernel_rfl
section
variable {w : World} {v : Value}
set_option maxHeartbeats 1000000 in
set_option maxRecDepth 100000 in
theorem must_yes {n : Int} (h : Num v (some n)) : Calls Try.prog 39 #[v] w (NumPost n w) := by
  have hmf : ∀ (fn : Fn) (first cap : Array Value) (w : World), (Instr.makeFunc fn first cap).run Try.prog w = .ok (.func fn first cap) w := fun _ _ _ _ => rfl
  have hab := ab_yes n
  go_enter_defers Try.func39, Try.ntmps39
  go_wp2_with fail
  refine (number_any h).mono ?_
  rintro e w1 ⟨rfl, hc⟩
  simp only [numV]
  have hW := (Whole.new w 2 [.int .i64 0]).keep hc
  have c0 := hW.cell 0
  have f0 := hW.frozen 0
  have hs := hc.size
  go_wp2_with fail
  refine leaves_cons (f := 55) (args := #[.pointer (some ⟨w.heap.size, 0, none⟩)]) (by simp) (by simp [go_sem]) ?_
  refine (catch_idle ⟨w.heap.size, 0, none⟩ _).mono ?_
  rintro e u' w'' ⟨rfl, rfl, rfl⟩
  have hcc : Chg [] w (w1.setCell ⟨w.heap.size, 0, none⟩ (.int .i64 n)) := (((Chg.refl [] w).alloc _).new hc).setCell (by simp) _
  have hc1 := hW.set_ 0 (.int .i64 n)
  have c1 := hc1.cell 0
  simp at c1
  simp [Leaves, settle, results, Try.results39, go_sem, c1, NumPost, hcc]

set_option maxHeartbeats 1000000 in
set_option maxRecDepth 100000 in
theorem must_no (h : Num v none) : Calls Try.prog 39 #[v] w (NumPost (-1) w) := by
  have hmf : ∀ (fn : Fn) (first cap : Array Value) (w : World), (Instr.makeFunc fn first cap).run Try.prog w = .ok (.func fn first cap) w := fun _ _ _ _ => rfl
  have hab := ab_nil
  go_enter_defers Try.func39, Try.ntmps39
  go_wp2_with fail
  refine (number_any h).mono ?_
  rintro e w1 ⟨rfl, hc⟩
  simp only [numV]
  have hW := (Whole.new w 2 [.int .i64 0]).keep hc
  have c0 := hW.cell 0
  have f0 := hW.frozen 0
  have hs := hc.size
  go_wp2_with fail
  obtain ⟨o, ho⟩ : ∃ o : Obj, o = .cells #[typeHandle Try.prog 20, .pointer none, typeHandle Try.prog 2, strVal ""] 124 := ⟨_, rfl⟩
  rw [← ho]
  have hW2 := hW.keep ((Chg.refl [] w1).alloc o)
  refine leaves_cons (f := 55) (args := #[.pointer (some ⟨w.heap.size, 0, none⟩)]) (by simp) (by simp [go_sem]) ?_
  refine (catch_panicking ⟨w.heap.size, 0, none⟩ 0 15 _ [] _ (hW2.cell 0) (hW2.frozen 0)).mono ?_
  rintro e u' w'' ⟨rfl, rfl, rfl⟩
  have hcc : Chg [] w ((w1.alloc o).setCell ⟨w.heap.size, 0, none⟩ (.int .i64 (-1))) := ((((Chg.refl [] w).alloc _).new hc).alloc o).setCell (by simp) _
  have hc1 := hW2.set_ 0 (.int .i64 (-1))
  have c1 := hc1.cell 0
  simp at c1
  simp [Leaves, settle, results, Try.results39, go_sem, c1, NumPost, hcc]
end
end Go.Proofs.Ytigbnmckdjlihaa
