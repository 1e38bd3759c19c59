/-
  What a law says of a call; drawn regions whose calls answer new memory; bytes in them.
-/
import Derived.Test.YtlhkmbcjgdjegaaBs
import Derived.Test.YtlhkmbcjgdjegaaFlow
namespace Go.Proofs.Ytlhkmbcjgdjegaa
open Go.RowKit
/-- What a law says of a call: true, and nothing old has turned. -/
def LawPost (w : World) (e : Ending) (w' : World) : Prop := e = .returned (.bool true) ∧ Chg [] w w'
/-- Every operation makes new blocks at most. -/
def plainT : Turns := ⟨Chg [], Chg [], [], []⟩
theorem plainT_ok : plainT.Ok := ⟨Chg.refl [], fun _ _ h => h, fun _ _ _ h k => h.trans k⟩
theorem plain_by (k : Nat) : plainT.by_ k = Chg [] := by unfold Turns.by_; split <;> rfl

/-- A value that is a row of the call's own. -/
def ownF (B : Nat) (e : TypeId) (xs : List Value) : Fact := fun v W => W.ownsRow B e 1 v xs.length xs
theorem keeps_own (B : Nat) (e : TypeId) (xs : List Value) : Keeps (Chg []) (ownF B e xs) := fun _ _ _ h hc => own_keep h hc

section
variable {P : Program} {T : Turns} {w0 : World} {a0 : Act} {ops : List Oper} {Q : Exit → Act → World → Prop} {F : Said} {k : Nat} {rest : List Oper}
  {d : Option Tmp} {ty : TypeId} {pos : String} {af : Array Edge} {g : Option (Nat × Bool)}
/-- 'string(b)' of an own row. -/
theorem flow_str {t : Tmp} {B : Nat} {e src dst : TypeId} {l : List UInt8} (hT : T.Ok) (hs : look F t = some (ownF B e (bts l))) (h1 : P.underlying src = some (.slice e)) (h2 : P.underlying e = some (.int .u8)) (h3 : P.underlying dst = some .string)
    (hg : guardIs ops F true ⟨d, .convert src dst (.tmp t), ty, pos, af, g⟩) (h : Flow P T w0 a0 ops Q ((d, isV (.string (strOf l))) :: F) (k + 1) rest) : Flow P T w0 a0 ops Q F k (⟨d, .convert src dst (.tmp t), ty, pos, af, g⟩ :: rest) := by
  refine flow_op _ (keeps_isV _) (.inr (keeps_isV _)) hg (fun ev W he hW hf => ?_) h
  have hf1 : factOf a0 F (.tmp t) (ev (.tmp t)) W := hf.1
  simp only [factOf, hs] at hf1
  obtain ⟨A, c, e1, hB, _⟩ := Bs.of_own (n := (bts l).length) hf1
  have hr := hB.str (P := P) src e dst h1 h2 h3
  simp only [execOp, e1, Sem.run_bind, hr, Result.andThen_ok, Sem.run_pure]
  exact ⟨hT.by_refl k W, rfl⟩
/-- .. of a slice that is known. -/
theorem flow_strd {x : Operand} {A : Option Addr} {n c : Nat} {e src dst : TypeId} {l : List UInt8} (hT : T.Ok) (hx : Det a0 F x (.slice A n c)) (hb : ∀ W, T.H w0 W → Bs W A n c l) (h1 : P.underlying src = some (.slice e)) (h2 : P.underlying e = some (.int .u8)) (h3 : P.underlying dst = some .string)
    (hg : guardIs ops F true ⟨d, .convert src dst x, ty, pos, af, g⟩) (h : Flow P T w0 a0 ops Q ((d, isV (.string (strOf l))) :: F) (k + 1) rest) : Flow P T w0 a0 ops Q F k (⟨d, .convert src dst x, ty, pos, af, g⟩ :: rest) := by
  refine flow_op _ (keeps_isV _) (.inr (keeps_isV _)) hg (fun ev W he hW hf => ?_) h
  have e1 := hx.at (show factOf a0 F x (ev x) W from hf.1)
  have hr := (hb W hW).str (P := P) src e dst h1 h2 h3
  simp only [execOp, e1, Sem.run_bind, hr, Result.andThen_ok, Sem.run_pure]
  exact ⟨hT.by_refl k W, rfl⟩
/-- len of a slice that is known. -/
theorem flow_lend {x : Operand} {A : Option Addr} {n c : Nat} {ats : Array TypeId} (hT : T.Ok) (hx : Det a0 F x (.slice A n c)) (hrun : ∀ ev W, EvOk ev → ev x = .slice A n c → (execOp ev ⟨d, .call { callee := .builtin .len, args := #[x], argTypes := ats }, ty, pos, af, g⟩).run P W = .ok (.value (.int .i64 (n : Int))) W)
    (hg : guardIs ops F true ⟨d, .call { callee := .builtin .len, args := #[x], argTypes := ats }, ty, pos, af, g⟩) (h : Flow P T w0 a0 ops Q ((d, isV (.int .i64 (n : Int))) :: F) (k + 1) rest) :
    Flow P T w0 a0 ops Q F k (⟨d, .call { callee := .builtin .len, args := #[x], argTypes := ats }, ty, pos, af, g⟩ :: rest) :=
  flow1 hT rfl hx hg hrun h
end
end Go.Proofs.Ytlhkmbcjgdjegaa
