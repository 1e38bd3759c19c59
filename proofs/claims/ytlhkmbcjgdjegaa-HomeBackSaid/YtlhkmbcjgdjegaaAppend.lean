/-
  'append([]T{}, src...)' of one-cell elements: a new row, said outright.
-/
import Derived.Test.YtlhkmbcjgdjegaaMem
namespace Go.Proofs.Ytlhkmbcjgdjegaa
open Go.RowKit

theorem run_append_fresh {P : Program} (w : World) (t ty e : TypeId) (i : TypeInfo) (z : Value) (bytes : Nat) (ht : P.underlying t = some (.slice e)) (hi : P.info? e = some i) (hz : i.zero = some z) (hs : i.size = 1) (hby : i.bytes = bytes) (hz1 : z.cells.size = 1)
    (b : Addr) (sp : Option Addr) (m c : Nat) (news : List Value) (hl : news.length = m) (hm : 0 < m) (hsrc : Src w sp news) (hb : m * bytes ≤ 140737488355328) (h63 : m ≤ maxLen) :
    ∃ r : List Value, (Builtin.append_ #[t, t] ty #[.slice (some b) 0 0, .slice sp m c]).run P w = .ok (.slice (some ⟨w.heap.size, 0, none⟩) m (m + r.length)) (w.drew.alloc (.cells (news ++ r).toArray e)) := by
  subst hby
  obtain ⟨ad, rfl, _, hx⟩ := hsrc (by omega)
  have h63' : m ≤ 9223372036854775807 := by simpa [maxLen] using h63
  have h := run_append_grow (P := P) w t ty e i z ht hi hz b 0 0 [] (by simp) (by simp) ad m c news (by rw [hs, hl]; omega) hx (by omega) (by omega) (growslice_fits (by omega) (by simpa using hb))
  have hge := grownCap_ge w m 0 e
  simp only [Nat.zero_add] at h
  refine ⟨(Builtin.zeroCells z.cells (grownCap w m 0 e - m)).toList, ?_⟩
  have hlen : m + (Builtin.zeroCells z.cells (grownCap w m 0 e - m)).toList.length = grownCap w m 0 e := by
    rw [Array.length_toList, size_zeroCells, hz1]; omega
  rw [h, hlen]
  congr 3
  apply Array.ext'
  simp

theorem wpList_append_fresh {P : Program} {w : World} {ops : Array Oper} {rest : List Oper} {o : Oper} {a : Act} {Q : Exit → Act → World → Prop} (hgd : o.guard = none) (s x : Operand) (t : TypeId)
    (ho : o.op = .call { callee := .builtin .append, args := #[s, x], argTypes := #[t, t] })
    (e : TypeId) (i : TypeInfo) (z : Value) (bytes : Nat) (ht : P.underlying t = some (.slice e)) (hi : P.info? e = some i) (hz : i.zero = some z) (hs : i.size = 1) (hby : i.bytes = bytes) (hz1 : z.cells.size = 1)
    (b : Addr) (hse : a.eval s = .slice (some b) 0 0) (sp : Option Addr) (m c : Nat) (hxe : a.eval x = .slice sp m c) (news : List Value) (hl : news.length = m) (hm : 0 < m) (hsrc : Src w sp news) (hb : m * bytes ≤ 140737488355328) (h63 : m ≤ maxLen)
    (h : ∀ r : List Value, wpList P ops Q rest (a.put o.dst (.slice (some ⟨w.heap.size, 0, none⟩) m (m + r.length))) (w.drew.alloc (.cells (news ++ r).toArray e))) : wpList P ops Q (o :: rest) a w := by
  refine wpList_plain hgd fun K hK => ?_
  obtain ⟨r, hrun⟩ := run_append_fresh (P := P) w t o.type e i z bytes ht hi hz hs hby hz1 b sp m c news hl hm hsrc hb h63
  unfold Oper.wp execOp
  simp only [ho, resolve, invoke, builtin, Sem.run_bind, Sem.run_pure, Result.andThen_ok, List.map_toArray, List.map_cons, List.map_nil, hse, hxe, hrun]
  exact hK _ _ (h r)

theorem step_append_fresh {P : Program} {w : World} {ops : Array Oper} {o : Oper} {a : Act} {K : Act → World → Prop} {Q : Exit → Act → World → Prop} {E : Prop} (hgd : o.guard = none) (s x : Operand) (t : TypeId)
    (ho : o.op = .call { callee := .builtin .append, args := #[s, x], argTypes := #[t, t] })
    (e : TypeId) (i : TypeInfo) (z : Value) (bytes : Nat) (ht : P.underlying t = some (.slice e)) (hi : P.info? e = some i) (hz : i.zero = some z) (hs : i.size = 1) (hby : i.bytes = bytes) (hz1 : z.cells.size = 1)
    (b : Addr) (hse : a.eval s = .slice (some b) 0 0) (sp : Option Addr) (m c : Nat) (hxe : a.eval x = .slice sp m c) (news : List Value) (hl : news.length = m) (hm : 0 < m) (hsrc : Src w sp news) (hb : m * bytes ≤ 140737488355328) (h63 : m ≤ maxLen)
    (h : ∀ (r : List Value) (O : Obj), O = .cells (news ++ r).toArray e → K (a.put o.dst (.slice (some ⟨w.heap.size, 0, none⟩) m (m + r.length))) (w.drew.alloc O)) :
    if Region.wanted o (yielded ops a.tmps) = true then Oper.wp P o a w K Q else E := by
  have hw : Region.wanted o (yielded ops a.tmps) = true := by simp [Region.wanted, hgd]
  rw [if_pos hw]
  obtain ⟨r, hrun⟩ := run_append_fresh (P := P) w t o.type e i z bytes ht hi hz hs hby hz1 b sp m c news hl hm hsrc hb h63
  unfold Oper.wp execOp
  simp only [ho, resolve, invoke, builtin, Sem.run_bind, Sem.run_pure, Result.andThen_ok, List.map_toArray, List.map_cons, List.map_nil, hse, hxe, hrun]
  exact h r _ rfl

theorem splice_app {α : Type} (L r m : List α) (o : Nat) (h : o + m.length ≤ L.length) : splice (L ++ r) o m = splice L o m ++ r := by
  unfold splice
  rw [List.take_append_of_le_length (by omega), List.drop_append_of_le_length (by omega)]
  simp
end Go.Proofs.Ytlhkmbcjgdjegaa
