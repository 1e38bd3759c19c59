/-
  PN: Read, Bs, Law, LawB, Share, KcAt.
-/
import Derived.Test.YtbkfhndmeljlcaaGreatDoorZPN1
import Derived.Test.YtbkfhndmeljlcaaGreatDoorZPN2
import Derived.Test.YtbkfhndmeljlcaaGreatDoorZPN3
import Derived.Laws.BytesArg
import Derived.Test.YtbkfhndmeljlcaaGreatDoorChecked
import Derived.Lib.SlBytesConst
namespace Go.Proofs.YtbkfhndmeljlcaaGreatDoor
open Go.RowKit

/-- A slice of integers that came in: nil, or a row of cells. -/
def IsRow (k : IntKind) (w : World) (a : Option Addr) (len cap : Nat) (zs : List Int) : Prop :=
  (a = none ∧ len = 0 ∧ cap = 0 ∧ zs = []) ∨
  ∃ x, a = some x ∧ len ≤ cap ∧ cap ≤ maxLen ∧ zs.length = cap ∧ (∀ i, i < zs.length → w.cell? (x.add i) = some (.int k (zs.getD i 0))) ∧ ∀ n ∈ zs, (Lit.int k n).wf = true

theorem row_src {k : IntKind} {w : World} {a : Option Addr} {len cap : Nat} {zs : List Int} (h : IsRow k w a len cap zs) : (zs.take len).length = len ∧ Src w a ((zs.take len).map (Value.int k)) ∧ ∀ n ∈ zs.take len, (Lit.int k n).wf = true := by
  rcases h with ⟨rfl, rfl, rfl, rfl⟩ | ⟨x, rfl, hlc, _, hz, hcell, hwf⟩
  · exact ⟨rfl, fun hp => absurd hp (by simp), by simp⟩
  · refine ⟨by rw [List.length_take]; omega, fun hp => ?_, fun n hn => hwf n (List.mem_of_mem_take hn)⟩
    have h0 : 0 < zs.length := by
      simp only [List.length_map, List.length_take] at hp
      omega
    have hb : (x.add 0).block = x.block := by unfold Addr.add; split <;> rfl
    refine ⟨x, rfl, by rw [← hb]; exact block_lt_of_cell (hcell 0 h0), fun j v hj => ?_⟩
    simp only [List.getElem?_map, List.getElem?_take] at hj
    split at hj
    · have hjl : j < zs.length := by omega
      rw [List.getElem?_eq_getElem hjl] at hj
      simp only [Option.map_some, Option.some.injEq] at hj
      rw [hcell j hjl, ← hj]
      simp [List.getD, hjl]
    · simp at hj

theorem row_spot {k : IntKind} {w : World} {a : Option Addr} {len cap : Nat} {zs : List Int} (h : IsRow k w a len cap zs) (h0 : 0 < len) : ∀ ad, a = some ad → ad.spot = none ∧ ad.block < w.heap.size := by
  rcases h with ⟨_, rfl, _, _⟩ | ⟨x, rfl, hlc, _, hz, hcell, _⟩
  · exact absurd h0 (by omega)
  · intro ad e
    injection e with e
    subst e
    have hc := hcell 0 (by omega)
    have hb : (x.add 0).block = x.block := by unfold Addr.add; split <;> rfl
    refine ⟨?_, by rw [← hb]; exact block_lt_of_cell hc⟩
    have h1 : x.add 0 = x := by simp [Addr.add]
    rw [h1] at hc
    cases hs : x.spot with
    | none => rfl
    | some v =>
      exfalso
      unfold World.cell? at hc
      rw [hs] at hc
      split at hc
      · simp at hc
      · cases hc

/-- Numbers. -/
theorem row_nums {w : World} {a : Option Addr} {len cap : Nat} {zs : List Int} (h : IsRow .i64 w a len cap zs) :
    ∃ l : List Int, l.length = len ∧ Src w a (nms l) ∧ ∀ n ∈ l, -9223372036854775808 ≤ n ∧ n ≤ 9223372036854775807 := by
  obtain ⟨h1, h2, h3⟩ := row_src h
  refine ⟨zs.take len, h1, h2, fun n hn => ?_⟩
  simpa [Lit.wf, IntKind.min, IntKind.max, IntKind.signed, IntKind.bits] using h3 n hn

end Go.Proofs.YtbkfhndmeljlcaaGreatDoor
namespace Go.Proofs.YtbkfhndmeljlcaaGreatDoor
open Go.RowKit

/-- The slice value '.slice A n c' is the bytes l. -/
structure Bs (w : World) (A : Option Addr) (n c : Nat) (l : List UInt8) : Prop where
  len : l.length = n
  src : Src w A (bts l)
  cap : n ≤ c
  max : c ≤ 9223372036854775807
  spot : 0 < n → ∀ ad, A = some ad → ad.spot = none

section
variable {w w' : World} {A : Option Addr} {n c : Nat} {l : List UInt8}
theorem Bs.keep (h : Bs w A n c l) (hc : Chg [] w w') : Bs w' A n c l := ⟨h.len, h.src.keep hc, h.cap, h.max, h.spot⟩
theorem Bs.drew (h : Bs w A n c l) : Bs w.drew A n c l := ⟨h.len, h.src, h.cap, h.max, h.spot⟩
theorem Bs.le (h : Bs w A n c l) : n ≤ 9223372036854775807 := Nat.le_trans h.cap h.max
theorem Bs.nil (w : World) : Bs w none 0 0 [] := ⟨rfl, Src.nil _ _, Nat.le_refl _, by omega, fun h => absurd h (by omega)⟩
theorem Bs.of_whole {g t cap : Nat} {cs : List Value} (h : Whole w g t cs) (hn : l.length = n) (hc : cs.take n = bts l) (hcap : n ≤ cap) (hm : cap ≤ 9223372036854775807) : Bs w (some ⟨g, 0, none⟩) n cap l := by
  refine ⟨hn, ?_, hcap, hm, fun _ ad e => by injection e with e; subst e; rfl⟩
  have := Src.of_whole h 0 n
  rwa [List.drop_zero, hc] at this
theorem Bs.of_all {g t : Nat} (h : Whole w g t (bts l)) (hm : l.length ≤ 9223372036854775807) : Bs w (some ⟨g, 0, none⟩) l.length l.length l :=
  Bs.of_whole h rfl (by rw [List.take_of_length_le (by rw [bts_len]; exact Nat.le_refl _)]) (Nat.le_refl _) hm
/-- An own row of bytes. -/
theorem Bs.of_own {B : Nat} {e : TypeId} {v : Value} (h : w.ownsRow B e 1 v n (bts l)) : ∃ A c, v = .slice A n c ∧ Bs w A n c l ∧ (∀ ad, A = some ad → ad.spot = none ∧ B ≤ ad.block ∧ ad.off = 0 ∧ ad.block < w.heap.size) := by
  obtain ⟨A, c, rfl, hl, hn, hs, hA⟩ := own_slice h
  have hm : c ≤ 9223372036854775807 := by
    rcases h.2 with ⟨h, _⟩ | ⟨g, cap, cur, h, _, _, _, hc, _⟩
    · injection h with _ _ h; omega
    · injection h with _ _ h; subst h; simpa [maxLen] using hc
  exact ⟨A, c, rfl, ⟨by rw [bts_len] at hl; exact hl, hs, hn, hm, fun _ ad e => (hA ad e).1⟩, hA⟩
theorem run_str0 {P : Program} (src e dst : TypeId) (hs : P.underlying src = some (.slice e)) (he : P.underlying e = some (.int .u8)) (hd : P.underlying dst = some .string) (A : Option Addr) (cap : Nat) (w : World) :
    (convert src dst (.slice A 0 cap)).run P w = .ok (.string (strOf [])) w := by
  rcases A with _ | ad
  · exact run_convert_bytes_nil (P := P) w src e hs he 0 cap dst hd
  · rw [run_convert_bytes_string w src dst e _ 0 cap hs he hd]
    simp [Conv.bytesToString, strOf, go_sem]
    rfl
theorem Bs.str {P : Program} (h : Bs w A n c l) (src e dst : TypeId) (hs : P.underlying src = some (.slice e)) (he : P.underlying e = some (.int .u8)) (hd : P.underlying dst = some .string) :
    (convert src dst (.slice A n c)).run P w = .ok (.string (strOf l)) w := by
  rcases Nat.eq_zero_or_pos n with h0 | h0
  · subst h0
    obtain rfl : l = [] := List.eq_nil_of_length_eq_zero h.len
    exact run_str0 src e dst hs he hd A c w
  · have hl := h.len
    subst hl
    exact run_str src e dst hs he hd A l c w h.src (h.spot h0)
end
end Go.Proofs.YtbkfhndmeljlcaaGreatDoor
namespace Go.Proofs.YtbkfhndmeljlcaaGreatDoor
open Go.RowKit
/-- Every operation makes new blocks at most. -/
def plainT : Turns := ⟨Chg [], Chg [], [], []⟩
theorem plainT_ok : plainT.Ok := ⟨Chg.refl [], fun _ _ h => h, fun _ _ _ h k => h.trans k⟩
theorem plain_by (k : Nat) : plainT.by_ k = Chg [] := by unfold Turns.by_; split <;> rfl

/-- A value that is a row of the call's own. -/
def ownF (B : Nat) (e : TypeId) (xs : List Value) : Fact := fun v W => W.ownsRow B e 1 v xs.length xs
theorem keeps_own (B : Nat) (e : TypeId) (xs : List Value) : Keeps (Chg []) (ownF B e xs) := fun _ _ _ h hc => own_keep h hc

end Go.Proofs.YtbkfhndmeljlcaaGreatDoor
namespace Go.Proofs.YtbkfhndmeljlcaaGreatDoor
open Go.RowKit

/-- What lies below B stays. -/
structure Low (B : Nat) (w w' : World) : Prop where
  os : w'.os = w.os
  tape : w'.tape = w.tape
  output : w'.output = w.output
  size : w.heap.size ≤ w'.heap.size
  block : ∀ k, k < B → k < w.heap.size → w'.heap[k]? = w.heap[k]?
theorem Low.of_chg {B : Nat} {w w' : World} (h : Chg [] w w') : Low B w w' := ⟨h.os, h.tape, h.output, h.size, fun k _ hk => h.block k hk (by simp)⟩
theorem Low.trans {B : Nat} {a b c : World} (h : Low B a b) (k : Low B b c) : Low B a c :=
  ⟨k.os.trans h.os, k.tape.trans h.tape, k.output.trans h.output, Nat.le_trans h.size k.size, fun i hB hi => (k.block i hB (Nat.lt_of_lt_of_le hi h.size)).trans (h.block i hB hi)⟩
theorem Low.chg {B : Nat} {a b : World} (h : Low B a b) (hB : a.heap.size ≤ B) : Chg [] a b := ⟨h.os, h.tape, h.output, h.size, fun k hk _ => h.block k (Nat.lt_of_lt_of_le hk hB) hk⟩
theorem Low.of_own {B n : Nat} {e : TypeId} {v : Value} {xs : List Value} {w w' : World} (ho : w.ownsRow B e 1 v n xs) (hg : w.grownBy w' v.ownBlock) : Low B w w' := by
  refine ⟨hg.os, hg.tape, hg.output, hg.size, fun k hk hl => hg.block k hl fun hc => ?_⟩
  rcases ho.2 with ⟨rfl, _⟩ | ⟨g, cap, cur, rfl, hb, _⟩
  · cases hc
  · injection hc with hc; simp only at hc; omega


section
variable {P : Program} {T : Turns} {w0 : World} {a0 : Act} {ops : List Oper} {Q : Exit → Act → World → Prop} {F : Said} {k : Nat} {rest : List Oper}
  {d : Option Tmp} {ty : TypeId} {pos : String} {af : Array Go.Edge} {g : Option (Nat × Bool)} {B : Nat} {hard soft : List Nat}

end
end Go.Proofs.YtbkfhndmeljlcaaGreatDoor
namespace Go.Proofs.YtbkfhndmeljlcaaGreatDoor
open Go.RowKit
/-- A truth, and only new memory. -/
def BoolPost (b : Bool) (w : World) (e : Ending) (w' : World) : Prop := e = .returned (.bool b) ∧ Chg [] w w'
theorem ret_bool {a b : Bool} (h : a = b) : Ending.returned (.bool a) = .returned (.bool b) := by rw [h]
theorem ret_int' {k : IntKind} {a b : Int} (h : a = b) : Ending.returned (.int k a) = .returned (.int k b) := by rw [h]
theorem whole_grown {w w' : World} {B2 e2 k2 m : Nat} {v2 : Value} {ys : List Value} {g t : Nat} {cs : List Value} (h : Whole w g t cs) (h2 : w.ownsRow B2 e2 k2 v2 m ys) (hne : t ≠ e2) (hg : w.grownBy w' v2.ownBlock) : Whole w' g t cs := by
  unfold Whole at h ⊢
  rw [hg.block g ?_ ?_]
  · exact h
  · rcases Nat.lt_or_ge g w.heap.size with hlt | hge
    · exact hlt
    · rw [Array.getElem?_eq_none hge] at h; cases h
  · intro hc
    rcases h2.2 with ⟨rfl, _⟩ | ⟨g2, cap2, cur2, rfl, hb2, hh2, _⟩
    · simp [Value.ownBlock] at hc
    · simp [Value.ownBlock] at hc
      subst hc
      rw [h] at hh2
      simp at hh2
      exact hne hh2.2
/-- append as a step of a region that draws, for elements of any size. -/
theorem step_append_n {P : Program} {w : World} {ops : Array Oper} {o : Oper} {a : Act} {K : Act → World → Prop} {Q : Exit → Act → World → Prop} {E : Prop} (hgd : o.guard = none) (s x : Operand) (t : TypeId)
    (ho : o.op = .call { callee := .builtin .append, args := #[s, x], argTypes := #[t, t] })
    (base : Nat) (e : TypeId) (i : TypeInfo) (z : Value) (size bytes : Nat) (ht : P.underlying t = some (.slice e)) (hi : P.info? e = some i) (hz : i.zero = some z)
    (hsize : i.size = size) (hby : i.bytes = bytes) (hzs : z.cells.size = size) (hsz : 0 < size)
    (v : Value) (n : Nat) (xs : List Value) (hse : a.eval s = v) (hown : w.ownsRow base e size v n xs)
    (ad : Addr) (m c : Nat) (news : List Value) (hxe : a.eval x = .slice (some ad) m c) (hl : news.length = m * size) (hnews : ∀ j u, news[j]? = some u → w.cell? (ad.add j) = some u) (h1 : ∀ u ∈ news, u.oneCell' = true)
    (h63 : n + m ≤ maxLen) (hbytes : (n + m) * bytes ≤ 140737488355328) (hbase : base ≤ w.heap.size)
    (h : ∀ v' w', w'.ownsRow base e size v' (n + m) (xs ++ news) → w.grownBy w' v.ownBlock → K (a.put o.dst v') w') :
    if Region.wanted o (yielded ops a.tmps) = true then Oper.wp P o a w K Q else E := by
  have hw : Region.wanted o (yielded ops a.tmps) = true := by simp [Region.wanted, hgd]
  rw [if_pos hw]
  obtain ⟨v', w', hrun, h2, h3, _, _⟩ := run_append_own_at (P := P) w base t o.type e i z size bytes ht hi hz hsize hby hzs hsz v n xs hown ad m c news hl hnews h1 h63 hbytes hbase
  unfold Oper.wp execOp
  simp only [ho, resolve, invoke, builtin, Sem.run_bind, Sem.run_pure, Result.andThen_ok, List.map_toArray, List.map_cons, List.map_nil, hse, hxe, hrun]
  exact h v' w' h2 h3
theorem cells_u8 : (Value.int .u8 0).cells.size = 1 := rfl
theorem nms_get (l : List Int) (i : Nat) (h : i < l.length) : (nms l)[i]? = some (.int .i64 l[i]) := by simp [nms, h]
theorem cell_keep {w w' : World} {p : Addr} {v : Value} (h : w.cell? p = some v) (hc : Chg [] w w') : w'.cell? p = some v := by
  have hs : Src w (some p) [v] := fun _ => ⟨p, rfl, by
    rcases Nat.lt_or_ge p.block w.heap.size with hlt | hge
    · exact hlt
    · simp [World.cell?, Array.getElem?_eq_none hge] at h, fun j u hj => by
    cases j with
    | zero =>
      simp at hj
      subst hj
      have e : p.add 0 = p := by simp [Addr.add]
      rw [e]; exact h
    | succ j => simp at hj⟩
  obtain ⟨ad, e, _, hx⟩ := hs.keep hc (by simp)
  injection e with e
  subst e
  have := hx 0 v rfl
  have e : p.add 0 = p := by simp [Addr.add]
  rwa [e] at this
end Go.Proofs.YtbkfhndmeljlcaaGreatDoor
namespace Go.Proofs.YtbkfhndmeljlcaaGreatDoor
open Go.RowKit
/-- '[]byte("..")' of a constant, in a world whose size has a name. -/
theorem kc_at (W : World) {s : Nat} (h : W.heap.size = s) (C : Array Value) (n c : Nat) : (convert 33 33 (.slice (some ⟨s, 0, none⟩) n c)).run Tryz.prog (W.alloc (.cells C 5)) = .ok (.slice (some ⟨s, 0, none⟩) n c) (W.alloc (.cells C 5 (C.size, C.size + 1))) := by
  subst h
  exact Lib.run_convert_bytes_const (P := Tryz.prog) W 33 5 C n c Tryz.underlying33 Tryz.underlying5
/-- A constant's row. -/
theorem bs_const (w : World) (t : TypeId) (l : List UInt8) (fz : Nat × Nat) (hm : l.length ≤ 9223372036854775807) : Bs (w.alloc (.cells (bts l).toArray t fz)) (some ⟨w.heap.size, 0, none⟩) l.length l.length l := by
  refine ⟨rfl, fun _ => ⟨_, rfl, by simp, fun j v hj => ?_⟩, Nat.le_refl _, hm, fun _ ad e => by injection e with e; subst e; rfl⟩
  rw [add_plain, Nat.zero_add, cell_of_row _ _ _ _ _ _ (heap_alloc_new w _)]
  simpa using hj
end Go.Proofs.YtbkfhndmeljlcaaGreatDoor
