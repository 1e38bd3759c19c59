/-
  N: Law, LawB, Share, Space, Rown, SpaceR, Same, SrcF, Frame.
-/
import Derived.Test.YtddjgncdjdjgeaaGreatZN1
import Derived.Test.YtddjgncdjdjgeaaGreatZN2
import Derived.Test.YtddjgncdjdjgeaaGreatZN4
import Derived.Test.YtddjgncdjdjgeaaGreatChecked
import Derived.Deep.DeepCutAuto
namespace Go.Proofs.YtddjgncdjdjgeaaGreat
open Go.RowKit
/-- What a law says of a call: true, and nothing old has turned. -/
def LawPost (w : World) (e : Ending) (w' : World) : Prop := e = .returned (.bool true) ∧ Chg [] w w'
/-- Every operation makes new blocks at most. -/
def plainT : Turns := ⟨Chg [], Chg [], [], []⟩
theorem plainT_ok : plainT.Ok := ⟨Chg.refl [], fun _ _ h => h, fun _ _ _ h k => h.trans k⟩
/-- A value that is a row of the call's own. -/
def ownF (B : Nat) (e : TypeId) (xs : List Value) : Fact := fun v W => W.ownsRow B e 1 v xs.length xs
theorem keeps_own (B : Nat) (e : TypeId) (xs : List Value) : Keeps (Chg []) (ownF B e xs) := fun _ _ _ h hc => own_keep h hc

section
variable {P : Program} {T : Turns} {w0 : World} {a0 : Act} {ops : List Oper} {Q : Exit → Act → World → Prop} {F : Said} {k : Nat} {rest : List Oper}
  {d : Option Tmp} {ty : TypeId} {pos : String} {af : Array Go.Edge} {g : Option (Nat × Bool)}
/-- 'string(b)' of an own row. -/
theorem flow_str {t : Tmp} {B : Nat} {e src dst : TypeId} {l : List UInt8} (hT : T.Ok) (hs : look F t = some (ownF B e (bts l))) (h1 : P.underlying src = some (.slice e)) (h2 : P.underlying e = some (.int .u8)) (h3 : P.underlying dst = some .string)
    (hg : guardIs ops F true ⟨d, .convert src dst (.tmp t), ty, pos, af, g⟩) (h : Flow P T w0 a0 ops Q ((d, isV (.string (strOf l))) :: F) (k + 1) rest) : Flow P T w0 a0 ops Q F k (⟨d, .convert src dst (.tmp t), ty, pos, af, g⟩ :: rest) := by
  refine flow_op _ (keeps_isV _) (.inr (keeps_isV _)) hg (fun ev W he hW hf => ?_) h
  have hf1 : factOf a0 F (.tmp t) (ev (.tmp t)) W := hf.1
  simp only [factOf, hs] at hf1
  obtain ⟨A, c, e1, hB, _⟩ := Bs.of_own (n := (bts l).length) hf1
  have hr := hB.str (P := P) src e dst h1 h2 h3
  simp only [execOp, e1, Sem.run_bind, hr, Result.andThen_ok, Sem.run_pure]
  exact ⟨hT.by_refl k W, rfl⟩
/-- .. of a slice that is known. -/
theorem flow_strd {x : Operand} {A : Option Addr} {n c : Nat} {e src dst : TypeId} {l : List UInt8} (hT : T.Ok) (hx : Det a0 F x (.slice A n c)) (hb : ∀ W, T.H w0 W → Bs W A n c l) (h1 : P.underlying src = some (.slice e)) (h2 : P.underlying e = some (.int .u8)) (h3 : P.underlying dst = some .string)
    (hg : guardIs ops F true ⟨d, .convert src dst x, ty, pos, af, g⟩) (h : Flow P T w0 a0 ops Q ((d, isV (.string (strOf l))) :: F) (k + 1) rest) : Flow P T w0 a0 ops Q F k (⟨d, .convert src dst x, ty, pos, af, g⟩ :: rest) := by
  refine flow_op _ (keeps_isV _) (.inr (keeps_isV _)) hg (fun ev W he hW hf => ?_) h
  have e1 := hx.at (show factOf a0 F x (ev x) W from hf.1)
  have hr := (hb W hW).str (P := P) src e dst h1 h2 h3
  simp only [execOp, e1, Sem.run_bind, hr, Result.andThen_ok, Sem.run_pure]
  exact ⟨hT.by_refl k W, rfl⟩
/-- len of a slice that is known. -/
theorem flow_lend {x : Operand} {A : Option Addr} {n c : Nat} {ats : Array TypeId} (hT : T.Ok) (hx : Det a0 F x (.slice A n c)) (hrun : ∀ ev W, EvOk ev → ev x = .slice A n c → (execOp ev ⟨d, .call { callee := .builtin .len, args := #[x], argTypes := ats }, ty, pos, af, g⟩).run P W = .ok (.value (.int .i64 (n : Int))) W)
    (hg : guardIs ops F true ⟨d, .call { callee := .builtin .len, args := #[x], argTypes := ats }, ty, pos, af, g⟩) (h : Flow P T w0 a0 ops Q ((d, isV (.int .i64 (n : Int))) :: F) (k + 1) rest) :
    Flow P T w0 a0 ops Q F k (⟨d, .call { callee := .builtin .len, args := #[x], argTypes := ats }, ty, pos, af, g⟩ :: rest) :=
  flow1 hT rfl hx hg hrun h
end
end Go.Proofs.YtddjgncdjdjgeaaGreat
namespace Go.Proofs.YtddjgncdjdjgeaaGreat
open Go.RowKit

/-- What lies below B stays. -/
structure Low (B : Nat) (w w' : World) : Prop where
  os : w'.os = w.os
  tape : w'.tape = w.tape
  output : w'.output = w.output
  size : w.heap.size ≤ w'.heap.size
  block : ∀ k, k < B → k < w.heap.size → w'.heap[k]? = w.heap[k]?
theorem Low.of_chg {B : Nat} {w w' : World} (h : Chg [] w w') : Low B w w' := ⟨h.os, h.tape, h.output, h.size, fun k _ hk => h.block k hk (by simp)⟩
theorem Low.trans {B : Nat} {a b c : World} (h : Low B a b) (k : Low B b c) : Low B a c :=
  ⟨k.os.trans h.os, k.tape.trans h.tape, k.output.trans h.output, Nat.le_trans h.size k.size, fun i hB hi => (k.block i hB (Nat.lt_of_lt_of_le hi h.size)).trans (h.block i hB hi)⟩
theorem Low.chg {B : Nat} {a b : World} (h : Low B a b) (hB : a.heap.size ≤ B) : Chg [] a b := ⟨h.os, h.tape, h.output, h.size, fun k hk _ => h.block k (Nat.lt_of_lt_of_le hk hB) hk⟩
theorem Low.of_own {B n : Nat} {e : TypeId} {v : Value} {xs : List Value} {w w' : World} (ho : w.ownsRow B e 1 v n xs) (hg : w.grownBy w' v.ownBlock) : Low B w w' := by
  refine ⟨hg.os, hg.tape, hg.output, hg.size, fun k hk hl => hg.block k hl fun hc => ?_⟩
  rcases ho.2 with ⟨rfl, _⟩ | ⟨g, cap, cur, rfl, hb, _⟩
  · cases hc
  · injection hc with hc; simp only at hc; omega

/-- '[]T{}'. -/
def emptyF (B : Nat) (e : TypeId) : Fact := fun v W => ∃ g, v = .slice (some ⟨g, 0, none⟩) 0 0 ∧ B ≤ g ∧ Whole W g e []
theorem keeps_empty (B : Nat) (e : TypeId) : Keeps (Chg []) (emptyF B e) := fun _ _ _ ⟨g, h1, h2, h3⟩ hc => ⟨g, h1, h2, h3.keep hc⟩

section
variable {P : Program} (w : World)
theorem run_append_empty (base : Nat) (t ty e : TypeId) (i : TypeInfo) (z : Value) (bytes : Nat) (ht : P.underlying t = some (.slice e)) (hi : P.info? e = some i) (hz : i.zero = some z) (hs : i.size = 1) (hby : i.bytes = bytes) (hz1 : z.cells.size = 1)
    (g : Nat) (hg : Whole w g e []) (hbg : base ≤ g) (hbw : base ≤ w.heap.size) (A : Option Addr) (m c : Nat) (news : List Value) (hl : news.length = m) (hsrc : Src w A news) (hb : m * bytes ≤ 140737488355328) (h63 : m ≤ maxLen) :
    ∃ v' w', (Builtin.append_ #[t, t] ty #[.slice (some ⟨g, 0, none⟩) 0 0, .slice A m c]).run P w = .ok v' w' ∧ w'.ownsRow base e 1 v' m news ∧ Chg [] w w' := by
  have ho : w.ownsRow base e 1 (.slice (some ⟨g, 0, none⟩) 0 0) 0 [] := own_of_whole (n := 0) (c := 0) hg hbg rfl (by omega) (by unfold maxLen; omega)
  rcases Nat.eq_zero_or_pos m with h0 | h0
  · subst h0
    obtain rfl : news = [] := List.eq_nil_of_length_eq_zero hl
    refine ⟨_, w, ?_, ho, Chg.refl _ _⟩
    rcases A with _ | ad
    · simp [Builtin.append_, run_underlying ht, sizeOf, typeInfo, hi, Builtin.lenOf, Builtin.firstCells, storeCells]
    · have hf := run_firstCells_some (P := P) w i.size 0 ad 0 c [] (by simp) (fun j u hj => by simp at hj)
      simp [Builtin.append_, run_underlying ht, sizeOf, typeInfo, hi, Builtin.lenOf, hf, storeCells]
  · obtain ⟨ad, rfl, _, hx⟩ := hsrc (by omega)
    subst hby
    have h63' : m ≤ 9223372036854775807 := by simpa [maxLen] using h63
    have h := run_append_grow (P := P) w t ty e i z ht hi hz ⟨g, 0, none⟩ 0 0 [] (by simp) (by simp) ad m c news (by rw [hl, hs]; omega) hx (by omega) (by omega) (growslice_fits (by omega) (by simpa using hb))
    have hge := grownCap_ge w m 0 e
    have hle := grownCap_le_maxLen w m 0 e h63
    simp only [Nat.zero_add] at h
    refine ⟨_, _, h, ?_, ((Chg.refl [] w).drew).alloc _⟩
    have hw : Whole (w.drew.alloc (.cells (news ++ (Builtin.zeroCells z.cells (grownCap w m 0 e - m)).toList).toArray e)) w.heap.size e (news ++ (Builtin.zeroCells z.cells (grownCap w m 0 e - m)).toList) := Whole.new w.drew e _
    have hown := own_of_whole (B := base) (n := m) (c := grownCap w m 0 e) hw hbw (by simp only [List.length_append, Array.length_toList, size_zeroCells, hz1, hl]; omega) hge hle
    rw [List.take_left' hl] at hown
    have e1 : (#[] ++ news.toArray ++ Builtin.zeroCells z.cells (grownCap w m 0 e - m)) = (news ++ (Builtin.zeroCells z.cells (grownCap w m 0 e - m)).toList).toArray := by
      apply Array.ext'; simp
    rw [show ([] : List Value).toArray = #[] from rfl, e1]
    exact hown
end

section
variable {P : Program} {T : Turns} {w0 : World} {a0 : Act} {ops : List Oper} {Q : Exit → Act → World → Prop} {F : Said} {k : Nat} {rest : List Oper}
  {d : Option Tmp} {ty : TypeId} {pos : String} {af : Array Go.Edge} {g : Option (Nat × Bool)} {B : Nat} {hard soft : List Nat}

end
end Go.Proofs.YtddjgncdjdjgeaaGreat
namespace Go.Proofs.YtddjgncdjdjgeaaGreat
open Go.RowKit
/-- A truth, and only new memory. -/
def BoolPost (b : Bool) (w : World) (e : Ending) (w' : World) : Prop := e = .returned (.bool b) ∧ Chg [] w w'
theorem ret_bool {a b : Bool} (h : a = b) : Ending.returned (.bool a) = .returned (.bool b) := by rw [h]
theorem ret_int' {k : IntKind} {a b : Int} (h : a = b) : Ending.returned (.int k a) = .returned (.int k b) := by rw [h]
/-- A root by value. -/
def rootV (L P E : Int) : Value := .agg #[.int .i64 L, .int .i64 P, .int .u32 E]
def needI (n : Int) : Int := if n < 0 ∨ 64 < n then 0 else 18 + n * 66
theorem whole_grown {w w' : World} {B2 e2 k2 m : Nat} {v2 : Value} {ys : List Value} {g t : Nat} {cs : List Value} (h : Whole w g t cs) (h2 : w.ownsRow B2 e2 k2 v2 m ys) (hne : t ≠ e2) (hg : w.grownBy w' v2.ownBlock) : Whole w' g t cs := by
  unfold Whole at h ⊢
  rw [hg.block g ?_ ?_]
  · exact h
  · rcases Nat.lt_or_ge g w.heap.size with hlt | hge
    · exact hlt
    · rw [Array.getElem?_eq_none hge] at h; cases h
  · intro hc
    rcases h2.2 with ⟨rfl, _⟩ | ⟨g2, cap2, cur2, rfl, hb2, hh2, _⟩
    · simp [Value.ownBlock] at hc
    · simp [Value.ownBlock] at hc
      subst hc
      rw [h] at hh2
      simp at hh2
      exact hne hh2.2
/-- append as a step of a region that draws, for elements of any size. -/
theorem step_append_n {P : Program} {w : World} {ops : Array Oper} {o : Oper} {a : Act} {K : Act → World → Prop} {Q : Exit → Act → World → Prop} {E : Prop} (hgd : o.guard = none) (s x : Operand) (t : TypeId)
    (ho : o.op = .call { callee := .builtin .append, args := #[s, x], argTypes := #[t, t] })
    (base : Nat) (e : TypeId) (i : TypeInfo) (z : Value) (size bytes : Nat) (ht : P.underlying t = some (.slice e)) (hi : P.info? e = some i) (hz : i.zero = some z)
    (hsize : i.size = size) (hby : i.bytes = bytes) (hzs : z.cells.size = size) (hsz : 0 < size)
    (v : Value) (n : Nat) (xs : List Value) (hse : a.eval s = v) (hown : w.ownsRow base e size v n xs)
    (ad : Addr) (m c : Nat) (news : List Value) (hxe : a.eval x = .slice (some ad) m c) (hl : news.length = m * size) (hnews : ∀ j u, news[j]? = some u → w.cell? (ad.add j) = some u) (h1 : ∀ u ∈ news, u.oneCell' = true)
    (h63 : n + m ≤ maxLen) (hbytes : (n + m) * bytes ≤ 140737488355328) (hbase : base ≤ w.heap.size)
    (h : ∀ v' w', w'.ownsRow base e size v' (n + m) (xs ++ news) → w.grownBy w' v.ownBlock → K (a.put o.dst v') w') :
    if Region.wanted o (yielded ops a.tmps) = true then Oper.wp P o a w K Q else E := by
  have hw : Region.wanted o (yielded ops a.tmps) = true := by simp [Region.wanted, hgd]
  rw [if_pos hw]
  obtain ⟨v', w', hrun, h2, h3, _, _⟩ := run_append_own_at (P := P) w base t o.type e i z size bytes ht hi hz hsize hby hzs hsz v n xs hown ad m c news hl hnews h1 h63 hbytes hbase
  unfold Oper.wp execOp
  simp only [ho, resolve, invoke, builtin, Sem.run_bind, Sem.run_pure, Result.andThen_ok, List.map_toArray, List.map_cons, List.map_nil, hse, hxe, hrun]
  exact h v' w' h2 h3
theorem cells_u8 : (Value.int .u8 0).cells.size = 1 := rfl
theorem nms_len (l : List Int) : (nms l).length = l.length := by simp [nms]
theorem nms_app (l m : List Int) : nms (l ++ m) = nms l ++ nms m := by simp [nms]
theorem cell_keep {w w' : World} {p : Addr} {v : Value} (h : w.cell? p = some v) (hc : Chg [] w w') : w'.cell? p = some v := by
  have hs : Src w (some p) [v] := fun _ => ⟨p, rfl, by
    rcases Nat.lt_or_ge p.block w.heap.size with hlt | hge
    · exact hlt
    · simp [World.cell?, Array.getElem?_eq_none hge] at h, fun j u hj => by
    cases j with
    | zero =>
      simp at hj
      subst hj
      have e : p.add 0 = p := by simp [Addr.add]
      rw [e]; exact h
    | succ j => simp at hj⟩
  obtain ⟨ad, e, _, hx⟩ := hs.keep hc (by simp)
  injection e with e
  subst e
  have := hx 0 v rfl
  have e : p.add 0 = p := by simp [Addr.add]
  rwa [e] at this
theorem wdrew {w W : World} (h : Chg [] w.drew W) : Chg [] w W := (Chg.refl [] w).drew.new h
end Go.Proofs.YtddjgncdjdjgeaaGreat
namespace Go.Proofs.YtddjgncdjdjgeaaGreat
open Go.RowKit

def sizeI (L : Int) : Int := if L < 1 ∨ 64 < L then 0 else L * 64
def leftI (L u : Int) : Int := max (sizeI L - max u 0) 0
def fitsB (L u n : Int) : Bool := decide (0 < needI n) && decide (needI n ≤ leftI L u)
theorem sizeI_bd (L : Int) : 0 ≤ sizeI L ∧ sizeI L ≤ 4096 := by unfold sizeI; split <;> omega
section
variable {w : World}
set_option maxHeartbeats 400000 in
set_option maxRecDepth 100000 in
theorem srneed_any (n : Int) (hn : n ≤ 9223372036854775807) : Calls Tryz.prog 112 #[.int .i64 n] w fun e w' => e = .returned (.int .i64 (needI n)) ∧ w = w' := by
  by_cases h0 : n < 0
  · go_enter Tryz.func112, Tryz.ntmps112
    go_wp2_with fail
    go_ret
    exact ⟨ret_int' (by unfold needI; rw [if_pos (.inl h0)]), rfl⟩
  · have hd : decide (n < 0) = false := by simpa using h0
    by_cases h1 : 64 < n
    · go_enter Tryz.func112, Tryz.ntmps112
      go_wp2_with fail
      go_ret
      exact ⟨ret_int' (by unfold needI; rw [if_pos (.inr h1)]), rfl⟩
    · have h2 : 0 ≤ n := by omega
      have h3 : n ≤ 64 := by omega
      go_enter Tryz.func112, Tryz.ntmps112
      go_wp2_with fail
      go_ret
      exact ⟨ret_int' (by unfold needI; rw [if_neg (by omega)]), rfl⟩
set_option maxHeartbeats 400000 in
set_option maxRecDepth 100000 in
theorem size_any (L P E : Int) (hL : L ≤ 9223372036854775807) : Calls Tryz.prog 111 #[rootV L P E] w fun e w' => e = .returned (.int .i64 (sizeI L)) ∧ Chg [] w w' := by
  unfold rootV
  by_cases h0 : L < 1
  · go_enter Tryz.func111, Tryz.ntmps111
    go_wp2_with fail
    go_ret
    exact ⟨ret_int' (by unfold sizeI; rw [if_pos (.inl h0)]), (Chg.refl _ _).alloc _⟩
  · have hd : decide (L < 1) = false := by simpa using h0
    by_cases h1 : 64 < L
    · go_enter Tryz.func111, Tryz.ntmps111
      go_wp2_with fail
      go_ret
      exact ⟨ret_int' (by unfold sizeI; rw [if_pos (.inr h1)]), (Chg.refl _ _).alloc _⟩
    · have h2 : 1 ≤ L := by omega
      have h3 : L ≤ 64 := by omega
      go_enter Tryz.func111, Tryz.ntmps111
      go_wp2_with fail
      go_ret
      exact ⟨ret_int' (by unfold sizeI; rw [if_neg (by omega)]), (Chg.refl _ _).alloc _⟩
theorem root_load {W : World} {g : Nat} {L P E : Int} (h : Whole W g 58 [.int .i64 L, .int .i64 P, .int .u32 E]) :
    W.cell? ⟨g, 0, none⟩ = some (.int .i64 L) ∧ W.cell? ⟨g, 1, none⟩ = some (.int .i64 P) ∧ W.cell? ⟨g, 2, none⟩ = some (.int .u32 E) := ⟨h.cell 0, h.cell 1, h.cell 2⟩

end
end Go.Proofs.YtddjgncdjdjgeaaGreat
namespace Go.Proofs.YtddjgncdjdjgeaaGreat
open Go.RowKit
section
variable {w w' : World} {B B2 n m k k2 : Nat} {e e2 : TypeId} {v v2 : Value} {xs ys : List Value}
theorem rown_slice (h : w.ownsRow B e k v n xs) : ∃ A c, v = .slice A n c ∧ n ≤ c ∧ c ≤ 9223372036854775807 ∧ (∀ ad, A = some ad → ad.spot = none ∧ B ≤ ad.block ∧ ad.off = 0 ∧ ad.block < w.heap.size) := by
  rcases h.2 with ⟨rfl, rfl⟩ | ⟨g, cap, cur, rfl, hb, hg, hn, hc, hs, ht⟩
  · exact ⟨none, 0, rfl, Nat.le_refl _, by omega, fun ad h => by cases h⟩
  · have hgl : g < w.heap.size := by
      rcases Nat.lt_or_ge g w.heap.size with hlt | hge
      · exact hlt
      · rw [Array.getElem?_eq_none hge] at hg; cases hg
    exact ⟨some ⟨g, 0, none⟩, cap, rfl, hn, by unfold maxLen at hc; omega, fun ad h => by injection h with h; subst h; exact ⟨rfl, hb, rfl, hgl⟩⟩
theorem rown_cell (h : w.ownsRow B e k v n xs) {A : Option Addr} {c : Nat} (hv : v = .slice A n c) {j : Nat} {u : Value} (hj : xs[j]? = some u) : ∃ g, A = some ⟨g, 0, none⟩ ∧ w.cell? ⟨g, j, none⟩ = some u := by
  rcases h.2 with ⟨rfl, rfl⟩ | ⟨g, cap, cur, rfl, hb, hg, hn, hc, hs, ht⟩
  · have := (List.getElem?_eq_some_iff.1 hj).1
    have h1 := h.1
    simp at h1
    subst h1
    simp at hj
  · injection hv with h1
    refine ⟨g, h1.symm, ?_⟩
    have := h.cells (g := g) rfl j u hj
    rwa [add_plain, Nat.zero_add] at this
theorem rown_grown (h : w.ownsRow B e k v n xs) (h2 : w.ownsRow B2 e2 k2 v2 m ys) (hne : e ≠ e2) (hg : w.grownBy w' v2.ownBlock) : w'.ownsRow B e k v n xs := by
  refine ⟨h.1, h.2.imp id ?_⟩
  rintro ⟨g, cap, cur, rfl, hb, hh, r⟩
  refine ⟨g, cap, cur, rfl, hb, ?_, r⟩
  rw [hg.block g ?_ ?_]
  · exact hh
  · rcases Nat.lt_or_ge g w.heap.size with hlt | hge
    · exact hlt
    · rw [Array.getElem?_eq_none hge] at hh; cases hh
  · intro hc
    rcases h2.2 with ⟨rfl, _⟩ | ⟨g2, cap2, cur2, rfl, hb2, hh2, _⟩
    · simp [Value.ownBlock] at hc
    · simp [Value.ownBlock] at hc
      subst hc
      rw [hh] at hh2
      simp at hh2
      exact hne hh2.2
end
end Go.Proofs.YtddjgncdjdjgeaaGreat
namespace Go.Proofs.YtddjgncdjdjgeaaGreat
open Go.RowKit
section
variable {w : World}
set_option maxHeartbeats 400000 in
set_option maxRecDepth 100000 in
theorem rsize_any (L P E : Int) (hL : L ≤ 9223372036854775807) : Calls Tryz.prog 127 #[rootV L P E] w fun e w' => e = .returned (.int .i64 (sizeI L)) ∧ Chg [] w w' := by
  unfold rootV
  by_cases h0 : L < 1
  · go_enter Tryz.func127, Tryz.ntmps127
    go_wp2_with fail
    go_ret
    exact ⟨ret_int' (by unfold sizeI; rw [if_pos (.inl h0)]), (Chg.refl _ _).alloc _⟩
  · have hd : decide (L < 1) = false := by simpa using h0
    by_cases h1 : 64 < L
    · go_enter Tryz.func127, Tryz.ntmps127
      go_wp2_with fail
      go_ret
      exact ⟨ret_int' (by unfold sizeI; rw [if_pos (.inr h1)]), (Chg.refl _ _).alloc _⟩
    · have h2 : 1 ≤ L := by omega
      have h3 : L ≤ 64 := by omega
      go_enter Tryz.func127, Tryz.ntmps127
      go_wp2_with fail
      go_ret
      exact ⟨ret_int' (by unfold sizeI; rw [if_neg (by omega)]), (Chg.refl _ _).alloc _⟩
set_option maxHeartbeats 400000 in
set_option maxRecDepth 100000 in
theorem rleft_any (L P E u : Int) (hL : L ≤ 9223372036854775807) (hu : u ≤ 9223372036854775807) : Calls Tryz.prog 113 #[rootV L P E, .int .i64 u] w fun e w' => e = .returned (.int .i64 (leftI L u)) ∧ Chg [] w w' := by
  have hs := sizeI_bd L
  obtain ⟨b1, b2⟩ := hs
  have b3 : 0 ≤ max u 0 := by omega
  have b4 : max u 0 ≤ 9223372036854775807 := by omega
  unfold rootV
  go_enter Tryz.func113, Tryz.ntmps113
  go_wp2_with (go_at_call 127; refine (rsize_any L P E hL).mono ?_; rintro e w1 ⟨rfl, hc1⟩)
  go_ret
  exact ⟨ret_int' (by unfold leftI; rfl), ((Chg.refl _ _).alloc _).new hc1⟩
set_option maxHeartbeats 1000000 in
set_option maxRecDepth 100000 in
theorem rfits_any (L P E u n : Int) (hL : L ≤ 9223372036854775807) (hu : u ≤ 9223372036854775807) (hn : n ≤ 9223372036854775807) :
    Calls Tryz.prog 74 #[rootV L P E, .int .i64 u, .int .i64 n] w fun e w' => e = .returned (.bool (fitsB L u n)) ∧ Chg [] w w' := by
  have HF : Hid (fitsB L u n = (decide (0 < needI n) && decide (needI n ≤ leftI L u))) := rfl
  have HW := Whole.new w 58 [.int .i64 L, .int .i64 P, .int .u32 E]
  have hc0 : Chg [] w (w.alloc (.cells #[.int .i64 L, .int .i64 P, .int .u32 E] 58)) := (Chg.refl [] w).alloc _
  unfold rootV
  by_cases h0 : 0 < needI n
  · go_enter Tryz.func74, Tryz.ntmps74
    go_wp2_with fail
    generalize w.alloc (.cells #[.int .i64 L, .int .i64 P, .int .u32 E] 58) = w1 at HW hc0 ⊢
    refine wp_flow (by kernel_rfl) plainT plainT_ok (by kernel_rfl) ?_
    refine flow_move_out plainT_ok rfl rfl rfl ?_
    refine flow_callv (.int .i64 (needI n)) (by kernel_rfl) rfl (.cons (.inn rfl) .nil) (fun W hW => (srneed_any n hn).mono ?_) ?_
    · rintro e w' ⟨rfl, rfl⟩; exact ⟨rfl, Chg.refl _ _⟩
    refine flow2 (r := .bool true) plainT_ok rfl (.inn rfl) (.const _) rfl (fun ev W he e1 e2 => by go_simp) ?_
    refine flow_move plainT_ok rfl (keeps_isV _) (.inr (keeps_isV _)) rfl ?_
    refine flow_move_out plainT_ok rfl rfl rfl ?_
    refine flow_callv (.int .i64 (needI n)) (by kernel_rfl) rfl (.cons (.inn rfl) .nil) (fun W hW => (srneed_any n hn).mono ?_) ?_
    · rintro e w' ⟨rfl, rfl⟩; exact ⟨rfl, Chg.refl _ _⟩
    refine flow1h (r := rootV L P E) plainT_ok rfl (.out rfl rfl) rfl (fun ev W he hW e1 => by obtain ⟨c0, c1, c2⟩ := root_load (HW.drew.keep hW); go_simp; rfl) ?_
    refine flow_move_out plainT_ok rfl rfl rfl ?_
    refine flow_callv (.int .i64 (leftI L u)) (by kernel_rfl) rfl (.cons (.inn rfl) (.cons (.inn rfl) .nil)) (fun W hW => (rleft_any L P E u hL hu).mono ?_) ?_
    · rintro e w' ⟨rfl, hc⟩; exact ⟨rfl, hc⟩
    refine flow2 (r := .bool (decide (needI n ≤ leftI L u))) plainT_ok rfl (.inn rfl) (.inn rfl) rfl (fun ev W he e1 e2 => by go_simp) ?_
    refine flow_and plainT_ok rfl rfl rfl ?_
    refine flow_assign plainT_ok rfl (keeps_isV _) (.inr (keeps_isV _)) rfl ?_
    intro vs W hW hF
    have e6 : vs 6 = .bool (decide (needI n ≤ leftI L u)) := hF 6 _ rfl rfl
    simp only [putAll, Act.put, List.setIfInBounds_toArray, List.set_cons_zero, List.set_cons_succ, e6]
    go_wp2_with fail
    go_ret
    exact ⟨ret_bool (by rw [HF.out]; simp [h0]), hc0.drew.new hW⟩
  · have hd : decide (0 < needI n) = false := by simpa using h0
    go_enter Tryz.func74, Tryz.ntmps74
    go_wp2_with fail
    generalize w.alloc (.cells #[.int .i64 L, .int .i64 P, .int .u32 E] 58) = w1 at HW hc0 ⊢
    refine wp_flow (by kernel_rfl) plainT plainT_ok (by kernel_rfl) ?_
    refine flow_move_out plainT_ok rfl rfl rfl ?_
    refine flow_callv (.int .i64 (needI n)) (by kernel_rfl) rfl (.cons (.inn rfl) .nil) (fun W hW => (srneed_any n hn).mono ?_) ?_
    · rintro e w' ⟨rfl, rfl⟩; exact ⟨rfl, Chg.refl _ _⟩
    refine flow2 (r := .bool false) plainT_ok rfl (.inn rfl) (.const _) rfl (fun ev W he e1 e2 => by go_simp) ?_
    refine flow_move plainT_ok rfl (keeps_isV _) (.inr (keeps_isV _)) rfl ?_
    refine flow_skip rfl ?_
    refine flow_skip rfl ?_
    refine flow_skip rfl ?_
    refine flow_skip rfl ?_
    refine flow_skip rfl ?_
    refine flow_skip rfl ?_
    refine flow_and_false plainT_ok rfl rfl rfl ?_
    refine flow_assign plainT_ok rfl (keeps_isV _) (.inr (keeps_isV _)) rfl ?_
    intro vs W hW hF
    have e6 : vs 6 = .bool false := hF 6 _ rfl rfl
    simp only [putAll, Act.put, List.setIfInBounds_toArray, List.set_cons_zero, List.set_cons_succ, e6]
    go_wp2_with fail
    go_ret
    exact ⟨ret_bool (by rw [HF.out, hd]; rfl), hc0.drew.new hW⟩

end
end Go.Proofs.YtddjgncdjdjgeaaGreat
namespace Go.Proofs.YtddjgncdjdjgeaaGreat
open Go.RowKit
section
variable {w : World}
set_option maxHeartbeats 1000000 in
set_option maxRecDepth 100000 in
theorem same_yes {A B : Option Addr} {n c d : Nat} {l : List Nat} (hl : l.length = n) (hn : n ≤ 1000000) (ha : Src w A (nmsN l)) (hb : Src w B (nmsN l)) (hA : ∀ ad, A = some ad → ad.spot = none) (hB : ∀ ad, B = some ad → ad.spot = none) :
    Calls Tryz.prog 85 #[.slice A n c, .slice B n d] w (LawPost w) := by
  have HL := Lib.hid hl
  have HA := Lib.hid hA
  have HB := Lib.hid hB
  clear hl hA hB
  go_enter Tryz.func85, Tryz.ntmps85
  go_wp2_with fail
  go_loopw [5] (fun i wr => ∃ k : Nat, k ≤ n ∧ i = .int .i64 (k : Int) ∧ Chg [] w wr) (fun i _ => n - (intOf i).toNat)
  case atStart => exact ⟨0, Nat.zero_le _, rfl, Chg.refl _ _⟩
  case round =>
    obtain ⟨k, hk, rfl, hc⟩ := hrel
    by_cases hlt : k < n
    · have ha2 := ha.keep hc
      have hb2 := hb.keep hc
      obtain ⟨a1, rfl, _, hx⟩ := ha2 (by rw [nmsN_len, HL.out]; omega)
      obtain ⟨a2, rfl, _, hy⟩ := hb2 (by rw [nmsN_len, HL.out]; omega)
      have hx1 := hx k _ (nmsN_get l k (by rw [HL.out]; exact hlt))
      have hy1 := hy k _ (nmsN_get l k (by rw [HL.out]; exact hlt))
      clear hx hy
      obtain ⟨b1, o1, s1⟩ := a1
      obtain rfl : s1 = none := HA.out _ rfl
      obtain ⟨b2, o2, s2⟩ := a2
      obtain rfl : s2 = none := HB.out _ rfl
      rw [add_plain] at hx1 hy1
      generalize l[k]'(by rw [HL.out]; exact hlt) = q at hx1 hy1
      have hki : (k : Int) < (n : Int) := by omega
      go_wp2_with fail
      go_quiet (fail)
      go_wp2_with fail
      go_roundw
      case rel => exact ⟨k + 1, by omega, by go_num, hc.drewN _⟩
      case measure => simp [intOf]; omega
    · go_wp2_with fail
      go_ret
      exact ⟨rfl, hc⟩
end
end Go.Proofs.YtddjgncdjdjgeaaGreat
namespace Go.Proofs.YtddjgncdjdjgeaaGreat
open Go.RowKit
/-- A slice that reads as these cells. -/
def srcF (n : Nat) (xs : List Value) : Fact := fun v W => ∃ A c, v = .slice A n c ∧ Src W A xs ∧ ∀ ad, A = some ad → ad.spot = none
theorem keeps_src (n : Nat) (xs : List Value) : Keeps (Chg []) (srcF n xs) := fun _ _ _ ⟨A, c, h1, h2, h3⟩ hc => ⟨A, c, h1, h2.keep hc, h3⟩
end Go.Proofs.YtddjgncdjdjgeaaGreat
namespace Go.Proofs.YtddjgncdjdjgeaaGreat
open Go.RowKit
theorem law_below {w : World} {e : Ending} {w' : World} (h : LawPost w e w') : e = .returned (.bool true) ∧ Below w.heap.size w w' := ⟨h.1, h.2.below0⟩
end Go.Proofs.YtddjgncdjdjgeaaGreat
