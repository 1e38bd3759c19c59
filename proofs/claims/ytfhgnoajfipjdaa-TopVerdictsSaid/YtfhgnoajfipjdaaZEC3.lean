/-
  EC: Read, Own, Bs, Law, Frame, DCalls, LawB, AppZeros.
-/
import Derived.Test.YtfhgnoajfipjdaaZEC1
import Derived.Test.YtfhgnoajfipjdaaZEC2
import Derived.Maps.AppendAt
import Derived.OwnWalk
import Derived.Laws.BytesArg
import Derived.Test.YtfhgnoajfipjdaaChecked
import Derived.Deep.Slices
import Derived.Deep.Fields
import Derived.ChangeSame
import Derived.ChangeSlices
import Derived.Lib.AppendZerosOnto
namespace Go.Proofs.Ytfhgnoajfipjdaa
open Go.RowKit

/-- A slice of integers that came in: nil, or a row of cells. -/
def IsRow (k : IntKind) (w : World) (a : Option Addr) (len cap : Nat) (zs : List Int) : Prop :=
  (a = none ∧ len = 0 ∧ cap = 0 ∧ zs = []) ∨
  ∃ x, a = some x ∧ len ≤ cap ∧ cap ≤ maxLen ∧ zs.length = cap ∧ (∀ i, i < zs.length → w.cell? (x.add i) = some (.int k (zs.getD i 0))) ∧ ∀ n ∈ zs, (Lit.int k n).wf = true

theorem row_src {k : IntKind} {w : World} {a : Option Addr} {len cap : Nat} {zs : List Int} (h : IsRow k w a len cap zs) : (zs.take len).length = len ∧ Src w a ((zs.take len).map (Value.int k)) ∧ ∀ n ∈ zs.take len, (Lit.int k n).wf = true := by
  rcases h with ⟨rfl, rfl, rfl, rfl⟩ | ⟨x, rfl, hlc, _, hz, hcell, hwf⟩
  · exact ⟨rfl, fun hp => absurd hp (by simp), by simp⟩
  · refine ⟨by rw [List.length_take]; omega, fun hp => ?_, fun n hn => hwf n (List.mem_of_mem_take hn)⟩
    have h0 : 0 < zs.length := by
      simp only [List.length_map, List.length_take] at hp
      omega
    have hb : (x.add 0).block = x.block := by unfold Addr.add; split <;> rfl
    refine ⟨x, rfl, by rw [← hb]; exact block_lt_of_cell (hcell 0 h0), fun j v hj => ?_⟩
    simp only [List.getElem?_map, List.getElem?_take] at hj
    split at hj
    · have hjl : j < zs.length := by omega
      rw [List.getElem?_eq_getElem hjl] at hj
      simp only [Option.map_some, Option.some.injEq] at hj
      rw [hcell j hjl, ← hj]
      simp [List.getD, hjl]
    · simp at hj

theorem row_len {k : IntKind} {w : World} {a : Option Addr} {len cap : Nat} {zs : List Int} (h : IsRow k w a len cap zs) : len ≤ maxLen := by
  rcases h with ⟨_, rfl, _, _⟩ | ⟨_, _, hlc, hm, _⟩
  · exact Nat.zero_le _
  · omega

theorem row_spot {k : IntKind} {w : World} {a : Option Addr} {len cap : Nat} {zs : List Int} (h : IsRow k w a len cap zs) (h0 : 0 < len) : ∀ ad, a = some ad → ad.spot = none ∧ ad.block < w.heap.size := by
  rcases h with ⟨_, rfl, _, _⟩ | ⟨x, rfl, hlc, _, hz, hcell, _⟩
  · exact absurd h0 (by omega)
  · intro ad e
    injection e with e
    subst e
    have hc := hcell 0 (by omega)
    have hb : (x.add 0).block = x.block := by unfold Addr.add; split <;> rfl
    refine ⟨?_, by rw [← hb]; exact block_lt_of_cell hc⟩
    have h1 : x.add 0 = x := by simp [Addr.add]
    rw [h1] at hc
    cases hs : x.spot with
    | none => rfl
    | some v =>
      exfalso
      unfold World.cell? at hc
      rw [hs] at hc
      split at hc
      · simp at hc
      · cases hc

/-- Numbers. -/
theorem row_nums {w : World} {a : Option Addr} {len cap : Nat} {zs : List Int} (h : IsRow .i64 w a len cap zs) :
    ∃ l : List Int, l.length = len ∧ Src w a (nms l) ∧ ∀ n ∈ l, -9223372036854775808 ≤ n ∧ n ≤ 9223372036854775807 := by
  obtain ⟨h1, h2, h3⟩ := row_src h
  refine ⟨zs.take len, h1, h2, fun n hn => ?_⟩
  simpa [Lit.wf, IntKind.min, IntKind.max, IntKind.signed, IntKind.bits] using h3 n hn

end Go.Proofs.Ytfhgnoajfipjdaa
namespace Go.Proofs.Ytfhgnoajfipjdaa
open Go.RowKit

section
variable {w w' : World} {B n : Nat} {e : TypeId} {v : Value} {xs : List Value}
theorem own_keep (h : w.ownsRow B e 1 v n xs) (hc : Chg [] w w') : w'.ownsRow B e 1 v n xs := by
  refine ⟨h.1, h.2.imp id ?_⟩
  rintro ⟨g, cap, cur, rfl, hb, hg, r⟩
  refine ⟨g, cap, cur, rfl, hb, ?_, r⟩
  rw [hc.block g ?_ (by simp)]
  · exact hg
  · rcases Nat.lt_or_ge g w.heap.size with hlt | hge
    · exact hlt
    · rw [Array.getElem?_eq_none hge] at hg; cases hg
theorem own_more {B' : Nat} (h : w.ownsRow B e 1 v n xs) (hB : B' ≤ B) : w.ownsRow B' e 1 v n xs := by
  refine ⟨h.1, h.2.imp id ?_⟩
  rintro ⟨g, cap, cur, rfl, hb, r⟩
  exact ⟨g, cap, cur, rfl, Nat.le_trans hB hb, r⟩
/-- As a slice value. -/
theorem own_slice (h : w.ownsRow B e 1 v n xs) : ∃ A c, v = .slice A n c ∧ xs.length = n ∧ n ≤ c ∧ Src w A xs ∧ (∀ ad, A = some ad → ad.spot = none ∧ B ≤ ad.block ∧ ad.off = 0 ∧ ad.block < w.heap.size) := by
  have hl : xs.length = n := by simpa using h.1
  rcases h.2 with ⟨rfl, rfl⟩ | ⟨g, cap, cur, rfl, hb, hg, hn, hc, hs, ht⟩
  · exact ⟨none, 0, rfl, hl, Nat.le_refl _, fun hp => absurd hp (by omega), fun ad h => by cases h⟩
  · have hgl : g < w.heap.size := by
      rcases Nat.lt_or_ge g w.heap.size with hlt | hge
      · exact hlt
      · rw [Array.getElem?_eq_none hge] at hg; cases hg
    refine ⟨some ⟨g, 0, none⟩, cap, rfl, hl, hn, fun _ => ⟨_, rfl, hgl, fun j u hj => ?_⟩, fun ad h => by injection h with h; subst h; exact ⟨rfl, hb, rfl, hgl⟩⟩
    rw [add_plain, Nat.zero_add, cell_of_row w g j cur e (0, 0) hg]
    have hjl : j < n := by rw [← hl]; exact (List.getElem?_eq_some_iff.1 hj).1
    rw [← ht, List.getElem?_take_of_lt (by omega)] at hj
    simpa using hj
/-- A block that is known whole, as an own row of its first n cells. -/
theorem own_of_whole {g c : Nat} {cs : List Value} (h : Whole w g e cs) (hB : B ≤ g) (hc : cs.length = c) (hn : n ≤ c) (hm : c ≤ maxLen) : w.ownsRow B e 1 (.slice (some ⟨g, 0, none⟩) n c) n (cs.take n) := by
  refine ⟨by rw [List.length_take]; omega, .inr ⟨g, c, cs.toArray, rfl, hB, h, hn, hm, by simpa using hc, by simp⟩⟩
theorem own_nil (w : World) (B : Nat) (e : TypeId) : w.ownsRow B e 1 (.slice none 0 0) 0 [] := ⟨rfl, .inl ⟨rfl, rfl⟩⟩
/-- What was appended to is the caller's own: nothing that was there has turned. -/
theorem Chg.own {T : List Nat} {a : World} (h : Chg T a w) (ho : w.ownsRow B e 1 v n xs) (hB : a.heap.size ≤ B) (hg : w.grownBy w' v.ownBlock) : Chg T a w' := by
  refine h.then_ (T' := match v.ownBlock with | some g => [g] | none => []) ?_ ?_
  · refine Chg.of_grown hg fun g hr _ => ?_
    rw [hr]; simp
  · intro i hi hlt
    exfalso
    rcases ho.2 with ⟨rfl, _⟩ | ⟨g, cap, cur, rfl, hb, _⟩
    · simp [Value.ownBlock] at hi
    · simp [Value.ownBlock] at hi; omega
end

section
variable {P : Program} (w : World)
theorem run_append_src (base : Nat) (t ty e : TypeId) (i : TypeInfo) (z : Value) (bytes : Nat) (ht : P.underlying t = some (.slice e)) (hi : P.info? e = some i) (hz : i.zero = some z)
    (hsize : i.size = 1) (hby : i.bytes = bytes) (hzs : z.cells.size = 1)
    (v : Value) (n : Nat) (xs : List Value) (hown : w.ownsRow base e 1 v n xs)
    (A : Option Addr) (m c : Nat) (news : List Value) (hl : news.length = m) (hs : Src w A news) (h1 : ∀ u ∈ news, u.oneCell' = true)
    (h63 : n + m ≤ maxLen) (hbytes : (n + m) * bytes ≤ 140737488355328) (hbase : base ≤ w.heap.size) :
    ∃ v' w', (Builtin.append_ #[t, t] ty #[v, .slice A m c]).run P w = .ok v' w' ∧ w'.ownsRow base e 1 v' (n + m) (xs ++ news) ∧ w.grownBy w' v.ownBlock ∧
      (v'.ownBlock = v.ownBlock ∨ v'.ownBlock = some w.heap.size) := by
  have hnil : m = 0 → news = [] := fun h => List.eq_nil_of_length_eq_zero (by omega)
  rcases A with _ | ad
  · have hm : m = 0 := by
      rcases Nat.eq_zero_or_pos m with h0 | h0
      · exact h0
      · obtain ⟨ad, h, _⟩ := hs (by omega)
        cases h
    subst hm
    obtain rfl := hnil rfl
    refine ⟨v, w, ?_, by simpa using hown, World.grownBy.refl w _, .inl rfl⟩
    rcases hown.2 with ⟨rfl, rfl⟩ | ⟨g, cap, cur, rfl, _, _, hnc, _⟩
    · simp [Builtin.append_, run_underlying ht, sizeOf, typeInfo, hi, Builtin.lenOf, Builtin.firstCells]
    · simp [Builtin.append_, run_underlying ht, sizeOf, typeInfo, hi, Builtin.lenOf, Builtin.firstCells, hnc, storeCells]
  · have hcells : ∀ j u, news[j]? = some u → w.cell? (ad.add j) = some u := by
      intro j u hu
      obtain ⟨ad', h, _, hc⟩ := hs (by have := (List.getElem?_eq_some_iff.1 hu).1; omega)
      injection h with h
      subst h
      exact hc j u hu
    obtain ⟨v', w', hrun, h2, h3, _, h5⟩ := run_append_own_at (P := P) w base t ty e i z 1 bytes ht hi hz hsize hby hzs (by omega) v n xs hown ad m c news (by omega) hcells h1 h63 hbytes hbase
    exact ⟨v', w', hrun, h2, h3, h5⟩

theorem wpList_append_src {w : World} {ops : Array Oper} {rest : List Oper} {o : Oper} {a : Act} {Q : Exit → Act → World → Prop} (hgd : o.guard = none) (s x : Operand) (t : TypeId)
    (ho : o.op = .call { callee := .builtin .append, args := #[s, x], argTypes := #[t, t] })
    (base : Nat) (e : TypeId) (i : TypeInfo) (z : Value) (bytes : Nat) (ht : P.underlying t = some (.slice e)) (hi : P.info? e = some i) (hz : i.zero = some z)
    (hsize : i.size = 1) (hby : i.bytes = bytes) (hzs : z.cells.size = 1)
    (v : Value) (n : Nat) (xs : List Value) (hse : a.eval s = v) (hown : w.ownsRow base e 1 v n xs)
    (A : Option Addr) (m c : Nat) (news : List Value) (hxe : a.eval x = .slice A m c) (hl : news.length = m) (hs : Src w A news) (h1 : ∀ u ∈ news, u.oneCell' = true)
    (h63 : n + m ≤ maxLen) (hbytes : (n + m) * bytes ≤ 140737488355328) (hbase : base ≤ w.heap.size)
    (h : ∀ v' w', w'.ownsRow base e 1 v' (n + m) (xs ++ news) → w.grownBy w' v.ownBlock → (v'.ownBlock = v.ownBlock ∨ v'.ownBlock = some w.heap.size) → wpList P ops Q rest (a.put o.dst v') w') : wpList P ops Q (o :: rest) a w := by
  refine wpList_plain hgd fun K hK => ?_
  obtain ⟨v', w', hrun, h2, h3, h4⟩ := run_append_src (P := P) w base t o.type e i z bytes ht hi hz hsize hby hzs v n xs hown A m c news hl hs h1 h63 hbytes hbase
  unfold Oper.wp execOp
  simp only [ho, resolve, invoke, builtin, Sem.run_bind, Sem.run_pure, Result.andThen_ok, List.map_toArray, List.map_cons, List.map_nil, hse, hxe, hrun]
  exact hK _ _ (h v' w' h2 h3 h4)

end

/-- 'make([]T, 0, n)'. -/
theorem run_make0 {P : Program} (t e : TypeId) (i : TypeInfo) (z : Value) (hz1 : z.cells = #[z]) (ht : P.underlying t = some (.slice e)) (hi : P.info? e = some i) (hz : i.zero = some z) (hs : i.size = 1)
    (n : Nat) (hb : i.bytes * n ≤ 281474976710656) (h63 : n ≤ 9223372036854775807) (w : World) :
    (Instr.makeSlice t (.int .i64 0) (.int .i64 (n : Int))).run P w = .ok (.slice (some ⟨w.heap.size, 0, none⟩) 0 n) (w.alloc (.cells (List.replicate n z).toArray e)) := by
  have hb' : (i.bytes : Int) * (n : Int) ≤ 281474976710656 := by
    have h : ((i.bytes * n : Nat) : Int) ≤ 281474976710656 := by omega
    rwa [Int.natCast_mul] at h
  have h := run_make (P := P) w t e i z ht hi hz .i64 .i64 0 (n : Int) (by omega) (by omega) hb' (by omega)
  rw [h, hs, hz1, made_one]
  simp
end Go.Proofs.Ytfhgnoajfipjdaa
namespace Go.Proofs.Ytfhgnoajfipjdaa
open Go.RowKit

/-- The slice value '.slice A n c' is the bytes l. -/
structure Bs (w : World) (A : Option Addr) (n c : Nat) (l : List UInt8) : Prop where
  len : l.length = n
  src : Src w A (bts l)
  cap : n ≤ c
  max : c ≤ 9223372036854775807
  spot : 0 < n → ∀ ad, A = some ad → ad.spot = none

section
variable {w w' : World} {A : Option Addr} {n c : Nat} {l : List UInt8}
theorem Bs.keep (h : Bs w A n c l) (hc : Chg [] w w') : Bs w' A n c l := ⟨h.len, h.src.keep hc, h.cap, h.max, h.spot⟩
theorem Bs.drew (h : Bs w A n c l) : Bs w.drew A n c l := ⟨h.len, h.src, h.cap, h.max, h.spot⟩
theorem Bs.le (h : Bs w A n c l) : n ≤ 9223372036854775807 := Nat.le_trans h.cap h.max
theorem Bs.nil (w : World) : Bs w none 0 0 [] := ⟨rfl, Src.nil _ _, Nat.le_refl _, by omega, fun h => absurd h (by omega)⟩
theorem Bs.of_whole {g t cap : Nat} {cs : List Value} (h : Whole w g t cs) (hn : l.length = n) (hc : cs.take n = bts l) (hcap : n ≤ cap) (hm : cap ≤ 9223372036854775807) : Bs w (some ⟨g, 0, none⟩) n cap l := by
  refine ⟨hn, ?_, hcap, hm, fun _ ad e => by injection e with e; subst e; rfl⟩
  have := Src.of_whole h 0 n
  rwa [List.drop_zero, hc] at this
theorem Bs.of_all {g t : Nat} (h : Whole w g t (bts l)) (hm : l.length ≤ 9223372036854775807) : Bs w (some ⟨g, 0, none⟩) l.length l.length l :=
  Bs.of_whole h rfl (by rw [List.take_of_length_le (by rw [bts_len]; exact Nat.le_refl _)]) (Nat.le_refl _) hm
/-- An own row of bytes. -/
theorem Bs.of_own {B : Nat} {e : TypeId} {v : Value} (h : w.ownsRow B e 1 v n (bts l)) : ∃ A c, v = .slice A n c ∧ Bs w A n c l ∧ (∀ ad, A = some ad → ad.spot = none ∧ B ≤ ad.block ∧ ad.off = 0 ∧ ad.block < w.heap.size) := by
  obtain ⟨A, c, rfl, hl, hn, hs, hA⟩ := own_slice h
  have hm : c ≤ 9223372036854775807 := by
    rcases h.2 with ⟨h, _⟩ | ⟨g, cap, cur, h, _, _, _, hc, _⟩
    · injection h with _ _ h; omega
    · injection h with _ _ h; subst h; simpa [maxLen] using hc
  exact ⟨A, c, rfl, ⟨by rw [bts_len] at hl; exact hl, hs, hn, hm, fun _ ad e => (hA ad e).1⟩, hA⟩
/-- 's[lo:hi]' keeps the model's own 'if' on the address. -/
theorem Bs.cut (h : Bs w A n c l) {lo hi : Nat} (h1 : lo ≤ hi) (h2 : hi ≤ n) : Bs w (if c = lo then A else A.map (·.add lo)) (hi - lo) (c - lo) ((l.drop lo).take (hi - lo)) := by
  have hl := h.len
  refine ⟨by rw [List.length_take, List.length_drop]; omega, fun hp => ?_, by have := h.cap; omega, by have := h.max; omega, fun h0 ad e => ?_⟩
  · have hp' : 0 < hi - lo := by rw [bts_len, List.length_take, List.length_drop] at hp; omega
    rw [if_neg (by have := h.cap; omega)]
    obtain ⟨ad, rfl, hb, hx⟩ := h.src (by rw [bts_len]; omega)
    obtain ⟨b, o, s⟩ := ad
    obtain rfl : s = none := h.spot (by omega) _ rfl
    refine ⟨_, rfl, by simp only [add_plain]; exact hb, fun j v hj => ?_⟩
    simp only [add_plain]
    have h3 := hx (lo + j) v (by
      rw [← hj]
      unfold bts
      rw [List.getElem?_map, List.getElem?_map, List.getElem?_take]
      have : j < hi - lo := by have := (List.getElem?_eq_some_iff.1 hj).1; rw [bts_len, List.length_take] at this; omega
      rw [if_pos this, List.getElem?_drop])
    rw [add_plain] at h3
    rw [← h3, Nat.add_assoc]
  · rw [if_neg (by have := h.cap; omega)] at e
    cases hA : A with
    | none => rw [hA] at e; cases e
    | some ad0 =>
      obtain ⟨b, o, s⟩ := ad0
      obtain rfl : s = none := h.spot (by omega) _ hA
      rw [hA] at e
      simp only [Option.map_some, Option.some.injEq] at e
      subst e
      rw [add_plain]

theorem run_str0 {P : Program} (src e dst : TypeId) (hs : P.underlying src = some (.slice e)) (he : P.underlying e = some (.int .u8)) (hd : P.underlying dst = some .string) (A : Option Addr) (cap : Nat) (w : World) :
    (convert src dst (.slice A 0 cap)).run P w = .ok (.string (strOf [])) w := by
  rcases A with _ | ad
  · exact run_convert_bytes_nil (P := P) w src e hs he 0 cap dst hd
  · rw [run_convert_bytes_string w src dst e _ 0 cap hs he hd]
    simp [Conv.bytesToString, strOf, go_sem]
    rfl
theorem Bs.str {P : Program} (h : Bs w A n c l) (src e dst : TypeId) (hs : P.underlying src = some (.slice e)) (he : P.underlying e = some (.int .u8)) (hd : P.underlying dst = some .string) :
    (convert src dst (.slice A n c)).run P w = .ok (.string (strOf l)) w := by
  rcases Nat.eq_zero_or_pos n with h0 | h0
  · subst h0
    obtain rfl : l = [] := List.eq_nil_of_length_eq_zero h.len
    exact run_str0 src e dst hs he hd A c w
  · have hl := h.len
    subst hl
    exact run_str src e dst hs he hd A l c w h.src (h.spot h0)
end
end Go.Proofs.Ytfhgnoajfipjdaa
namespace Go.Proofs.Ytfhgnoajfipjdaa
open Go.RowKit
/-- What a law says of a call: true, and nothing old has turned. -/
def LawPost (w : World) (e : Ending) (w' : World) : Prop := e = .returned (.bool true) ∧ Chg [] w w'
/-- Every operation makes new blocks at most. -/
def plainT : Turns := ⟨Chg [], Chg [], [], []⟩
theorem plainT_ok : plainT.Ok := ⟨Chg.refl [], fun _ _ h => h, fun _ _ _ h k => h.trans k⟩
theorem plain_by (k : Nat) : plainT.by_ k = Chg [] := by unfold Turns.by_; split <;> rfl

/-- A value that is a row of the call's own. -/
def ownF (B : Nat) (e : TypeId) (xs : List Value) : Fact := fun v W => W.ownsRow B e 1 v xs.length xs
theorem keeps_own (B : Nat) (e : TypeId) (xs : List Value) : Keeps (Chg []) (ownF B e xs) := fun _ _ _ h hc => own_keep h hc

section
variable {P : Program} {T : Turns} {w0 : World} {a0 : Act} {ops : List Oper} {Q : Exit → Act → World → Prop} {F : Said} {k : Nat} {rest : List Oper}
  {d : Option Tmp} {ty : TypeId} {pos : String} {af : Array Go.Edge} {g : Option (Nat × Bool)}
/-- 'string(b)' of an own row. -/
theorem flow_str {t : Tmp} {B : Nat} {e src dst : TypeId} {l : List UInt8} (hT : T.Ok) (hs : look F t = some (ownF B e (bts l))) (h1 : P.underlying src = some (.slice e)) (h2 : P.underlying e = some (.int .u8)) (h3 : P.underlying dst = some .string)
    (hg : guardIs ops F true ⟨d, .convert src dst (.tmp t), ty, pos, af, g⟩) (h : Flow P T w0 a0 ops Q ((d, isV (.string (strOf l))) :: F) (k + 1) rest) : Flow P T w0 a0 ops Q F k (⟨d, .convert src dst (.tmp t), ty, pos, af, g⟩ :: rest) := by
  refine flow_op _ (keeps_isV _) (.inr (keeps_isV _)) hg (fun ev W he hW hf => ?_) h
  have hf1 : factOf a0 F (.tmp t) (ev (.tmp t)) W := hf.1
  simp only [factOf, hs] at hf1
  obtain ⟨A, c, e1, hB, _⟩ := Bs.of_own (n := (bts l).length) hf1
  have hr := hB.str (P := P) src e dst h1 h2 h3
  simp only [execOp, e1, Sem.run_bind, hr, Result.andThen_ok, Sem.run_pure]
  exact ⟨hT.by_refl k W, rfl⟩
end
end Go.Proofs.Ytfhgnoajfipjdaa
namespace Go.Proofs.Ytfhgnoajfipjdaa
open Go.RowKit
theorem arg_i64 {a : Int} (h : (Lit.int .i64 a).wf = true) : -9223372036854775808 ≤ a ∧ a ≤ 9223372036854775807 := by
  simpa [Lit.wf, IntKind.min, IntKind.max, IntKind.signed, IntKind.bits] using h
theorem law_below {w : World} {e : Ending} {w' : World} (h : LawPost w e w') : e = .returned (.bool true) ∧ Below w.heap.size w w' := ⟨h.1, h.2.below0⟩
end Go.Proofs.Ytfhgnoajfipjdaa
namespace Go.Proofs.Ytfhgnoajfipjdaa
open Go.RowKit Go.ChangeShapes Go.WideShapes Go.Deep
structure CallA where
  f : Int
  cA : Option Addr
  cn : Nat
  cc : Nat
  us : List Int
  fuel : Int
structure CallOk (w : World) (a : CallA) : Prop where
  f0 : -9223372036854775808 ≤ a.f
  f1 : a.f ≤ 9223372036854775807
  len : a.us.length = a.cn
  src : Src w a.cA (nms a.us)
  max : a.cn ≤ 9223372036854775807
  spot : 0 < a.cn → ∀ ad, a.cA = some ad → ad.spot = none
  rng : ∀ x ∈ a.us, -9223372036854775808 ≤ x ∧ x ≤ 9223372036854775807
structure Cls (w : World) (A : Option Addr) (l : List CallA) : Prop where
  cells : 0 < l.length → ∃ g o, A = some ⟨g, o, none⟩ ∧ g < w.heap.size ∧ ∀ (k : Nat) a, l[k]? = some a → w.cell? ⟨g, o + k * 3, none⟩ = some (.int .i64 a.f) ∧ w.cell? ⟨g, o + k * 3 + 1, none⟩ = some (.slice a.cA a.cn a.cc) ∧ w.cell? ⟨g, o + k * 3 + 2, none⟩ = some (.int .i64 a.fuel)
  ok : ∀ a ∈ l, CallOk w a
theorem call_list_of {α : Type} {P : Nat → α → Prop} (n : Nat) (h : ∀ i, i < n → ∃ a, P i a) : ∃ l : List α, l.length = n ∧ ∀ i a, l[i]? = some a → P i a := by
  induction n with
  | zero => exact ⟨[], rfl, fun i a h => by simp at h⟩
  | succ n ih =>
    obtain ⟨l, hl, hx⟩ := ih fun i hi => h i (by omega)
    obtain ⟨a, ha⟩ := h n (by omega)
    refine ⟨l ++ [a], by simp [hl], fun i b hb => ?_⟩
    rcases Nat.lt_trichotomy i n with hi | hi | hi
    · rw [List.getElem?_append_left (by omega)] at hb
      exact hx i b hb
    · subst hi
      rw [← hl, List.getElem?_concat_length] at hb
      cases hb
      exact ha
    · rw [List.getElem?_eq_none (by simp; omega)] at hb
      cases hb
section
variable {H : Type} {enc : TypeId × Value → H} {w : World} {base : Nat} {held : Bool}
theorem cints_row {k : IntKind} {P : Program} {t e : TypeId} {fuel : Nat} {v : Value} {x : DataW H × List MemPlace} (ht : P.underlying t = some (.slice e)) (he : P.underlying e = some (.int k)) (hc : P.cellsOf e = 1)
    (h : DataW.trod enc P w base (fun _ => true) held fuel t [v] = some x) : ∃ A n c zs, v = .slice A n c ∧ IsRow k w A n c zs := by
  rcases open_ints ht he hc h with ⟨hcs, _⟩ | ⟨x, l, c, zs, hcs, _, hl, hm, hz, hx, hcell, hwz⟩
  · simp only [List.cons.injEq, and_true] at hcs
    exact ⟨none, 0, 0, [], hcs, .inl ⟨rfl, rfl, rfl, rfl⟩⟩
  · simp only [List.cons.injEq, and_true] at hcs
    exact ⟨some x, l, c, zs, hcs, .inr ⟨x, rfl, hl, hm, by simpa using hz, hcell, hwz⟩⟩
theorem call_fields : ∃ fs, Try.prog.underlying 25 = some (.struct fs) ∧ oneCellFields Try.prog fs = true ∧ fs.map (·.type) = #[3, 23, 2] :=
  ⟨_, Try.underlying25, by kernel_rfl, by kernel_rfl⟩
theorem cthree_list {α : Type} {l : List α} (h : l.length = 3) : ∃ a b c, l = [a, b, c] := by
  match l, h with
  | [a, b, c], _ => exact ⟨a, b, c, rfl⟩
theorem cfield_at {fs : Array Field} {ts : Array TypeId} (h : fs.map (·.type) = ts) (j : Nat) (t : TypeId) (hj : ts[j]? = some t) : ∃ f : Field, fs[j]? = some f ∧ f.type = t := by
  rw [← h, Array.getElem?_map] at hj
  cases hf : fs[j]? with
  | none => rw [hf] at hj; cases hj
  | some f => rw [hf] at hj; exact ⟨f, rfl, by simpa using hj⟩
theorem cspot_none {w : World} {x : Addr} {k : Int} (hc : w.cell? x = some (.int .i64 k)) : x.spot = none := by
  cases hs : x.spot with
  | none => rfl
  | some u =>
    exfalso
    unfold World.cell? at hc
    rw [hs] at hc
    split at hc
    · simp at hc
    · cases hc
theorem calls_open {fuel : Nat} {cs : List Value} {x : DataW H × List MemPlace} (h : DataW.trod enc Try.prog w base (fun _ => true) held fuel 44 cs = some x) (v : Value) (hv : cs = [v]) :
    ∃ A n c l, v = .slice A n c ∧ l.length = n ∧ Cls w A l ∧ n ≤ c ∧ c ≤ maxLen := by
  subst hv
  rcases open_slice Try.underlying44 h with ⟨h0, _⟩ | ⟨a, len, cap, m, f, D, Pl, hcs, hb, hl, hm, hmm, hx, hi⟩
  · simp only [List.cons.injEq, and_true] at h0
    exact ⟨none, 0, 0, [], h0, rfl, ⟨fun h => absurd h (by simp), fun a ha => by simp at ha⟩, Nat.le_refl _, by unfold maxLen; omega⟩
  · simp only [List.cons.injEq, and_true] at hcs
    rw [if_pos rfl] at hmm
    subst hmm
    have key : ∀ i, i < len → ∃ q : CallA, CallOk w q ∧ w.cell? (a.add (i * 3)) = some (.int .i64 q.f) ∧ w.cell? ((a.add (i * 3)).add 1) = some (.slice q.cA q.cn q.cc) ∧ w.cell? ((a.add (i * 3)).add 2) = some (.int .i64 q.fuel) := by
      intro i hlt
      have hC : Try.prog.cellsOf 25 = 3 := by kernel_rfl
      obtain ⟨cs', hc, ht'⟩ := hi i (by omega)
      rw [hC] at hc
      obtain ⟨fs, hu, hone, hty⟩ := call_fields
      have hfs : fs.size = 3 := by have := congrArg Array.size hty; simpa using this
      obtain ⟨xs, n', hn', hy, hlen, hxl, hf⟩ := DataW.trod_struct hu ht'
      obtain ⟨_, hcl, hat⟩ := World.cells?_some hc
      rw [hfs] at hxl
      obtain ⟨f0, g0, t0⟩ := cfield_at hty 0 _ rfl
      obtain ⟨f1, g1, t1⟩ := cfield_at hty 1 _ rfl
      obtain ⟨f2, g2, t2⟩ := cfield_at hty 2 _ rfl
      obtain ⟨o0, k0⟩ := hone_of hone 0 _ g0
      obtain ⟨o1, k1⟩ := hone_of hone 1 _ g1
      obtain ⟨o2, k2⟩ := hone_of hone 2 _ g2
      have q0 := hf 0 _ g0
      have q1 := hf 1 _ g1
      have q2 := hf 2 _ g2
      rw [o0, k0, t0] at q0
      rw [o1, k1, t1] at q1
      rw [o2, k2, t2] at q2
      obtain ⟨v0, v1, v2, rfl⟩ := cthree_list hcl
      obtain ⟨y0, y1, y2, rfl⟩ := cthree_list hxl
      simp only [List.drop_zero, List.drop_succ_cons, List.take_succ_cons, List.take_zero, List.getElem?_cons_zero, List.getElem?_cons_succ] at q0 q1 q2
      obtain ⟨z0, e0, _, w0⟩ := DataW.trod_int Try.underlying3 q0
      obtain ⟨A1, n1, c1, r1, e1, w1⟩ := cints_row Try.underlying23 Try.underlying2 (by kernel_rfl) q1
      obtain ⟨z2, e2, _, w2⟩ := DataW.trod_int Try.underlying2 q2
      simp only [List.cons.injEq, and_true] at e0 e2
      subst e0 e1 e2
      have a0 := hat 0 (by omega)
      have a1 := hat 1 (by omega)
      have a2 := hat 2 (by omega)
      simp only [List.getElem?_cons_zero, List.getElem?_cons_succ] at a0 a1 a2
      obtain ⟨C, hCl, hCs, hCr⟩ := row_nums w1
      have b1 := row_len w1
      unfold maxLen at b1
      obtain ⟨i00, i01⟩ := arg_i64 w0
      exact ⟨⟨z0, A1, n1, c1, C, z2⟩, ⟨i00, i01, hCl, hCs, by show n1 ≤ _; omega, fun h ad e => (row_spot w1 h ad e).1, hCr⟩, by simpa [Addr.add] using a0, a1, a2⟩
    obtain ⟨l, hll, hlx⟩ := call_list_of len key
    refine ⟨some a, len, m, l, hcs, hll, ⟨fun h0 => ?_, fun q hq => ?_⟩, hl, hm⟩
    · obtain ⟨b, o, s⟩ := a
      have hs : s = none := by
        obtain ⟨_, h0, _⟩ := hlx 0 _ (List.getElem?_eq_getElem h0)
        have := cspot_none h0
        simpa [Addr.add] using this
      subst hs
      refine ⟨b, o, rfl, ?_, fun k q hq => ?_⟩
      · obtain ⟨_, h0, _⟩ := hlx 0 _ (List.getElem?_eq_getElem h0)
        rw [add_plain] at h0
        exact block_lt_of_cell h0
      · obtain ⟨_, h0, h1, h2⟩ := hlx k q hq
        rw [add_plain] at h0
        rw [add_plain, add_plain] at h1 h2
        exact ⟨h0, h1, h2⟩
    · obtain ⟨i, hi, rfl⟩ := List.getElem_of_mem hq
      exact (hlx i _ (List.getElem?_eq_getElem hi)).1
end
end Go.Proofs.Ytfhgnoajfipjdaa
namespace Go.Proofs.Ytfhgnoajfipjdaa
open Go.RowKit

/-- What lies below B stays. -/
structure Low (B : Nat) (w w' : World) : Prop where
  os : w'.os = w.os
  tape : w'.tape = w.tape
  output : w'.output = w.output
  size : w.heap.size ≤ w'.heap.size
  block : ∀ k, k < B → k < w.heap.size → w'.heap[k]? = w.heap[k]?
theorem Low.of_chg {B : Nat} {w w' : World} (h : Chg [] w w') : Low B w w' := ⟨h.os, h.tape, h.output, h.size, fun k _ hk => h.block k hk (by simp)⟩
theorem Low.trans {B : Nat} {a b c : World} (h : Low B a b) (k : Low B b c) : Low B a c :=
  ⟨k.os.trans h.os, k.tape.trans h.tape, k.output.trans h.output, Nat.le_trans h.size k.size, fun i hB hi => (k.block i hB (Nat.lt_of_lt_of_le hi h.size)).trans (h.block i hB hi)⟩
theorem Low.chg {B : Nat} {a b : World} (h : Low B a b) (hB : a.heap.size ≤ B) : Chg [] a b := ⟨h.os, h.tape, h.output, h.size, fun k hk _ => h.block k (Nat.lt_of_lt_of_le hk hB) hk⟩
theorem Low.of_own {B n : Nat} {e : TypeId} {v : Value} {xs : List Value} {w w' : World} (ho : w.ownsRow B e 1 v n xs) (hg : w.grownBy w' v.ownBlock) : Low B w w' := by
  refine ⟨hg.os, hg.tape, hg.output, hg.size, fun k hk hl => hg.block k hl fun hc => ?_⟩
  rcases ho.2 with ⟨rfl, _⟩ | ⟨g, cap, cur, rfl, hb, _⟩
  · cases hc
  · injection hc with hc; simp only at hc; omega


section
variable {P : Program} {T : Turns} {w0 : World} {a0 : Act} {ops : List Oper} {Q : Exit → Act → World → Prop} {F : Said} {k : Nat} {rest : List Oper}
  {d : Option Tmp} {ty : TypeId} {pos : String} {af : Array Go.Edge} {g : Option (Nat × Bool)} {B : Nat} {hard soft : List Nat}

end
end Go.Proofs.Ytfhgnoajfipjdaa
namespace Go.Proofs.Ytfhgnoajfipjdaa
open Go.RowKit
theorem zeroCells_one (z : Value) (n : Nat) : Builtin.zeroCells #[z] n = (List.replicate n z).toArray := by
  apply Array.ext
  · simp [Builtin.zeroCells]
  · intro i h1 h2
    simp [Builtin.zeroCells, Nat.mod_one]
theorem run_append_zeros {P : Program} (w : World) (base : Nat) (t tn ty e : TypeId) (i : TypeInfo) (z : Value) (bytes : Nat) (kn : IntKind) (ht : P.underlying t = some (.slice e)) (htn : P.underlying tn = some (.int kn)) (hi : P.info? e = some i) (hz : i.zero = some z)
    (hsize : i.size = 1) (hby : i.bytes = bytes) (hzc : z.cells = #[z]) (hz1 : z.oneCell' = true)
    (g n cap : Nat) (xs : List Value) (hown : w.ownsRow base e 1 (.slice (some ⟨g, 0, none⟩) n cap) n xs)
    (k : Nat) (h63 : n + k ≤ maxLen) (hbytes : (n + k) * bytes ≤ 140737488355328) (hbase : base ≤ w.heap.size) :
    ∃ g' cap' w', (Builtin.append_ #[t, tn] ty #[.slice (some ⟨g, 0, none⟩) n cap, .int .i64 (k : Int)]).run P w = .ok (.slice (some ⟨g', 0, none⟩) (n + k) cap') w' ∧
      w'.ownsRow base e 1 (.slice (some ⟨g', 0, none⟩) (n + k) cap') (n + k) (xs ++ List.replicate k z) ∧ w.grownBy w' (some g) ∧ (g' = g ∨ g' = w.heap.size) := by
  have hsmall : n + k ≤ 9223372036854775807 := by simpa only [maxLen] using h63
  have hw : IntKind.i64.wrap (k : Int) = k := by rw [IntKind.wrap_i64]; omega
  have hneg : ¬ ((k : Int) < 0) := by omega
  have h48 : k * bytes ≤ 281474976710656 := by have : k * bytes ≤ (n + k) * bytes := Nat.mul_le_mul_right _ (by omega); omega
  have h48i : ¬ (281474976710656 < (k : Int) * (i.bytes : Int)) := by rw [hby, ← Int.natCast_mul]; omega
  have hlx := hown.1
  rcases hown.2 with ⟨h, _⟩ | ⟨g', cap', cur, h, hbg, hg, hnc, hcm, hcs, htake⟩
  · simp at h
  · simp only [Value.slice.injEq, Option.some.injEq, Addr.mk.injEq, and_true, true_and] at h
    obtain ⟨rfl, rfl⟩ := h
    rw [Nat.mul_one] at hcs htake hlx
    by_cases hk0 : k = 0
    · subst hk0
      refine ⟨g, cap, w, ?_, by simpa using hown, World.grownBy.refl w _, .inl rfl⟩
      have hw0 : IntKind.i64.wrap 0 = 0 := by decide
      simp [Builtin.append_, run_underlying ht, run_underlying htn, sizeOf, typeInfo, hi, asInt, asIntOf, storeCells, hnc, hw0]
    · have hns : ¬ (k * i.size = 0) := by rw [hsize]; omega
      by_cases hroom : n + k ≤ cap
      · have hfit : n + (List.replicate k z).length ≤ cur.size := by rw [List.length_replicate]; omega
        have hst := run_storeCells_at P g n e (List.replicate k z) 0 cur w hg (by simpa using hfit) (fun u hu => by rw [(List.mem_replicate.1 hu).2]; exact hz1)
        simp only [Nat.add_zero] at hst
        rw [List.length_replicate] at hst
        have hr : (Builtin.append_ #[t, tn] ty #[.slice (some ⟨g, 0, none⟩) n cap, .int .i64 (k : Int)]).run P w = .ok (.slice (some ⟨g, 0, none⟩) (n + k) cap) (w.setRow g (cur.toList.take n ++ List.replicate k z ++ cur.toList.drop (n + k)).toArray) := by
          simp [Builtin.append_, run_underlying ht, run_underlying htn, sizeOf, typeInfo, zeroValue, hi, hz, asInt, asIntOf, hw, hneg, h48i, hk0, hroom, hsize, hzc, zeroCells_one, Addr.add_lit, hst]
        refine ⟨_, _, _, hr, ⟨by simp [hlx], .inr ⟨g, cap, _, rfl, hbg, setRow_heap w g cur _ e _ hg, hroom, hcm, ?_, ?_⟩⟩, ⟨rfl, rfl, rfl, by simp, fun j _ hj => setRow_other w g j _ (fun e => hj (by simp [e]))⟩, .inl rfl⟩
        · simp only [List.size_toArray, List.length_append, List.length_take, List.length_drop, Array.length_toList, List.length_replicate]
          omega
        · rw [htake, Nat.mul_one]
          have e1 : (xs ++ List.replicate k z).length = n + k := by rw [List.length_append, List.length_replicate, hlx]
          rw [← e1]
          exact List.take_left
      · have hf := run_firstCells_some (P := P) w.drew i.size n ⟨g, 0, none⟩ n cap xs (by rw [hsize, Nat.mul_one]; exact hlx) (fun j u hj => hown.cells (g := g) rfl j u hj)
        have hr := Lib.run_append_grow_zeros (P := P) w t tn ty e i z .i64 kn ht htn hi hz (some ⟨g, 0, none⟩) n cap xs hf k (by omega) (by omega) (by omega) (by omega) (by rw [hby]; exact h48) (by rw [hby]; exact growslice_fits (by omega) hbytes)
        rw [hzc, zeroCells_one, zeroCells_one] at hr
        have hge := grownCap_ge w (n + k) cap e
        have hcm2 : grownCap w (n + k) cap e ≤ maxLen := grownCap_le_maxLen w (n + k) cap e h63
        refine ⟨_, _, _, hr, ⟨by simp [hlx], .inr ⟨w.heap.size, _, _, rfl, hbase, heap_alloc_new w.drew _, hge, hcm2, ?_, ?_⟩⟩, ⟨rfl, rfl, rfl, by simp, fun j hj _ => Below.heap_alloc w.drew _ j hj⟩, .inr rfl⟩
        · simp only [Array.size_append, List.size_toArray, List.length_replicate, hlx]
          omega
        · simp only [Array.toList_append, Nat.mul_one]
          have e1 : (xs ++ List.replicate k z).length = n + k := by rw [List.length_append, List.length_replicate, hlx]
          rw [← e1]
          exact List.take_left
end Go.Proofs.Ytfhgnoajfipjdaa
