/-
  Texts in regions that draw their order: len, the front.
-/
import Derived.Test.YtlhkmbcjgdjegaaLaw
namespace Go.Proofs.Ytlhkmbcjgdjegaa
open Go.RowKit
section
variable {P : Program} {T : Turns} {w0 : World} {a0 : Act} {ops : List Oper} {Q : Exit → Act → World → Prop} {F : Said} {k : Nat} {rest : List Oper}
  {d : Option Tmp} {ty : TypeId} {pos : String} {af : Array Edge} {g : Option (Nat × Bool)}
/-- len of a text. -/
theorem flow_len_str {x : Operand} {t : TypeId} {s : ByteArray} (hT : T.Ok) (hx : Det a0 F x (.string s)) (ht : P.underlying t = some .string)
    (hg : guardIs ops F true ⟨d, .call { callee := .builtin .len, args := #[x], argTypes := #[t] }, ty, pos, af, g⟩) (h : Flow P T w0 a0 ops Q ((d, isV (.int .i64 (s.size : Int))) :: F) (k + 1) rest) :
    Flow P T w0 a0 ops Q F k (⟨d, .call { callee := .builtin .len, args := #[x], argTypes := #[t] }, ty, pos, af, g⟩ :: rest) := by
  refine flow1 (x := x) (v := .string s) (r := .int .i64 (s.size : Int)) hT (by simp [Op.operands, Call.operands]) hx hg (fun ev W he e => ?_) h
  unfold execOp
  simp only [resolve, invoke, builtin, Sem.run_bind, Sem.run_pure, Result.andThen_ok, List.map_toArray, List.map_cons, List.map_nil, e]
  simp [Builtin.len_, underlying, ht, go_sem, goInt]
/-- 's[:n]' of a text. -/
theorem flow_cut_str {x y : Operand} {t : TypeId} {s : ByteArray} {n : Nat} (hT : T.Ok) (hx : Det a0 F x (.string s)) (hy : Det a0 F y (.int .i64 (n : Int))) (ht : P.underlying t = some .string) (hn : n ≤ s.size)
    (hg : guardIs ops F true ⟨d, .slice t x none (some y) none, ty, pos, af, g⟩) (h : Flow P T w0 a0 ops Q ((d, isV (.string (s.extract 0 n))) :: F) (k + 1) rest) :
    Flow P T w0 a0 ops Q F k (⟨d, .slice t x none (some y) none, ty, pos, af, g⟩ :: rest) := by
  refine flow2 (x := x) (y := y) (v := .string s) (u := .int .i64 (n : Int)) (r := .string (s.extract 0 n)) hT (by simp [Op.operands]) hx hy hg (fun ev W he e1 e2 => ?_) h
  unfold execOp
  simp only [Sem.run_bind, Sem.run_pure, e1]
  simp [ht, go_sem, e2]
  intro h; omega
end
end Go.Proofs.Ytlhkmbcjgdjegaa
