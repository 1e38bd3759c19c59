/-
  K: St, DskS, RedoPure, Ref, Append, RefMore, RefOf.
-/
import Derived.Test.YtddjgncdjdjgeaaZK1
import Derived.Test.YtddjgncdjdjgeaaZK2
import Derived.Test.YtddjgncdjdjgeaaZK3
namespace Go.Proofs.Ytddjgncdjdjgeaa
open Go.RowKit
theorem Src.chg {w w' : World} {A : Option Addr} {xs : List Value} {T : List Nat} (h : Src w A xs) (hc : Chg T w w') (hA : 0 < xs.length → ∀ ad, A = some ad → ad.block ∉ T) : Src w' A xs := fun hp => by
  obtain ⟨ad, e, hb, hx⟩ := h hp
  refine ⟨ad, e, Nat.lt_of_lt_of_le hb hc.size, fun j v hj => ?_⟩
  have := hx j v hj
  rw [← this]
  have e2 : (ad.add j).block = ad.block := by unfold Addr.add; split <;> rfl
  refine World.cell?_of_block (w := w) (hc.block _ ?_ ?_)
  · rw [e2]; exact hb
  · rw [e2]; exact hA hp ad e

structure St where
  L : List UInt8
  S : List UInt8
  V : List Bool
def St.write (s : St) (k : Nat) (x : List UInt8) : St := ⟨s.L, splice s.S (k * 64) x, s.V.set k true⟩
theorem whole_at {w : World} {g g' t : Nat} {cs : List Value} (h : Whole w g t cs) (e : g = g') : Whole w g' t cs := e ▸ h
end Go.Proofs.Ytddjgncdjdjgeaa
namespace Go.Proofs.Ytddjgncdjdjgeaa
open Go.RowKit
theorem own_form {w : World} {base n e : Nat} {v : Value} {xs : List Value} (h : w.ownsRow base e 1 v n xs) : ∃ A c, v = .slice A n c ∧ Src w A xs ∧ xs.length = n ∧ ∀ ad, A = some ad → ad.spot = none ∧ base ≤ ad.block := by
  have hl : xs.length = n := by simpa using h.1
  rcases h.2 with ⟨rfl, h0⟩ | ⟨g, cap, cur, rfl, hb, hg, _⟩
  · subst h0
    exact ⟨none, 0, rfl, fun hp => absurd hp (by omega), hl, by simp⟩
  · refine ⟨_, cap, rfl, fun _ => ⟨_, rfl, ?_, h.cells rfl⟩, hl, fun ad e => ?_⟩
    · rcases Nat.lt_or_ge g w.heap.size with hlt | hge
      · exact hlt
      · rw [Array.getElem?_eq_none hge] at hg; cases hg
    · injection e with e
      subst e
      exact ⟨rfl, hb⟩
def DskS (w : World) (p bL bS bW : Nat) (s : St) : Prop := Dsk w p bL bS bW s.L s.S s.V
end Go.Proofs.Ytddjgncdjdjgeaa
namespace Go.Proofs.Ytddjgncdjdjgeaa
open Go.RowKit
theorem splice_get {α : Type} (L m : List α) (o i : Nat) (h : o + m.length ≤ L.length) : (splice L o m)[i]? = if o ≤ i ∧ i < o + m.length then m[i - o]? else L[i]? := by
  have ht : (L.take o).length = o := by rw [List.length_take]; omega
  unfold splice
  rcases Nat.lt_or_ge i o with h1 | h1
  · rw [if_neg (by omega), List.getElem?_append_left (by omega), List.getElem?_take, if_pos h1]
  · rcases Nat.lt_or_ge i (o + m.length) with h2 | h2
    · rw [if_pos ⟨h1, h2⟩, List.getElem?_append_right (by omega), ht, List.getElem?_append_left (by omega)]
    · rw [if_neg (by omega), List.getElem?_append_right (by omega), ht, List.getElem?_append_right (by omega), List.getElem?_drop]
      congr 1; omega
theorem splice_len {α : Type} (L m : List α) (o : Nat) (h : o + m.length ≤ L.length) : (splice L o m).length = L.length := by
  unfold splice
  simp only [List.length_append, List.length_take, List.length_drop]; omega
/-- Sectors that bytes at a place touch. -/
def tch (a n j : Nat) : Bool := decide (0 < n ∧ j * 64 < a + n ∧ a < (j + 1) * 64)
/-- Bytes written from a on. -/
def apS (s : St) (a : Nat) (b : List UInt8) : St := ⟨s.L, splice s.S a b, (List.range s.V.length).map fun j => s.V.getD j false || tch a b.length j⟩
theorem apS_nil (s : St) (a : Nat) (ha : a ≤ s.S.length) : apS s a [] = s := by
  obtain ⟨L, S, V⟩ := s
  unfold apS
  congr 1
  · apply List.ext_getElem?
    intro i
    rw [splice_get _ _ _ _ (by simpa using ha), if_neg (by simp)]
  · apply List.ext_getElem?
    intro j
    rw [List.getElem?_map]
    rcases Nat.lt_or_ge j V.length with h | h
    · rw [List.getElem?_range h, List.getElem?_eq_getElem h]
      simp [tch, List.getD, h]
    · rw [List.getElem?_eq_none (by simpa using h), List.getElem?_eq_none h]; rfl
theorem apS_V (s : St) (a : Nat) (b : List UInt8) : (apS s a b).V.length = s.V.length := by simp [apS]
/-- One sector more. -/
theorem apS_step {s : St} {a : Nat} {b : List UInt8} {k k' q : Nat} {x : List UInt8} (hl : s.S.length = 64 * s.V.length) (hb : a + b.length ≤ s.S.length) (hk : k < k') (hk' : k' ≤ b.length) (h1 : q * 64 ≤ a + k) (h2 : a + k' ≤ (q + 1) * 64) (h3 : a < (q + 1) * 64)
    (hx : x = ((splice s.S a (b.take k')).drop (q * 64)).take 64) : (apS s a (b.take k)).write q x = apS s a (b.take k') := by
  have lk : (b.take k).length = k := by rw [List.length_take]; omega
  have lk' : (b.take k').length = k' := by rw [List.length_take]; omega
  have hq : q < s.V.length := by omega
  have hsl : (splice s.S a (b.take k')).length = s.S.length := splice_len _ _ _ (by rw [lk']; omega)
  have hsk : (splice s.S a (b.take k)).length = s.S.length := splice_len _ _ _ (by rw [lk]; omega)
  have xl : x.length = 64 := by rw [hx, List.length_take, List.length_drop, hsl]; omega
  unfold St.write apS
  congr 1
  · show splice (splice s.S a (b.take k)) (q * 64) x = splice s.S a (b.take k')
    apply List.ext_getElem?
    intro i
    rw [splice_get _ _ _ _ (by rw [hsk, xl]; omega), xl]
    by_cases hi : q * 64 ≤ i ∧ i < q * 64 + 64
    · rw [if_pos hi, hx, List.getElem?_take, if_pos (by omega), List.getElem?_drop]
      congr 1; omega
    · rw [if_neg hi, splice_get _ _ _ _ (by rw [lk]; omega), splice_get _ _ _ _ (by rw [lk']; omega), lk, lk']
      by_cases h4 : a ≤ i ∧ i < a + k
      · rw [if_pos h4, if_pos (by omega), List.getElem?_take, List.getElem?_take, if_pos (by omega), if_pos (by omega)]
      · rw [if_neg h4]
        by_cases h5 : a ≤ i ∧ i < a + k'
        · omega
        · rw [if_neg h5]
  · apply List.ext_getElem?
    intro j
    rw [List.getElem?_set]
    simp only [List.getElem?_map, List.length_map, List.length_range]
    rcases Nat.lt_or_ge j s.V.length with hj | hj
    · rw [List.getElem?_range hj]
      simp only [Option.map_some]
      by_cases e : q = j
      · subst e
        rw [if_pos rfl, if_pos hj]
        have : tch a (b.take k').length q = true := decide_eq_true (by rw [lk']; omega)
        rw [this, Bool.or_true]
      · rw [if_neg e]
        have : tch a (b.take k).length j = tch a (b.take k').length j := by
          unfold tch
          rw [lk, lk']
          congr 1
          apply propext
          constructor
          · rintro ⟨_, _, _⟩; omega
          · rintro ⟨_, _, _⟩
            have : j ≠ q := fun h => e h.symm
            rcases Nat.lt_or_ge j q with h | h
            · omega
            · omega
        rw [this]
    · rw [List.getElem?_eq_none (by simpa using hj)]
      simp only [Option.map_none]
      by_cases e : q = j
      · omega
      · rw [if_neg e]
/-- What is copied into a sector that was read. -/
theorem sect_app {S b : List UInt8} {a k m q f : Nat} (hb : a + b.length ≤ S.length) (hk : k + m ≤ b.length) (hq : q * 64 + f = a + k) (hf : f + m ≤ 64) (hS : (q + 1) * 64 ≤ S.length) :
    splice (((splice S a (b.take k)).drop (q * 64)).take 64) f ((b.drop k).take m) = ((splice S a (b.take (k + m))).drop (q * 64)).take 64 := by
  have lk : (b.take k).length = k := by rw [List.length_take]; omega
  have lk' : (b.take (k + m)).length = k + m := by rw [List.length_take]; omega
  have lm : ((b.drop k).take m).length = m := by rw [List.length_take, List.length_drop]; omega
  have hsk : (splice S a (b.take k)).length = S.length := splice_len _ _ _ (by rw [lk]; omega)
  have ls : (((splice S a (b.take k)).drop (q * 64)).take 64).length = 64 := by rw [List.length_take, List.length_drop, hsk]; omega
  apply List.ext_getElem?
  intro i
  rw [splice_get _ _ _ _ (by rw [ls, lm]; exact hf), lm]
  rcases Nat.lt_or_ge i 64 with hi | hi
  · have e1 : ∀ Z : List UInt8, (Z.take 64)[i]? = Z[i]? := fun Z => by rw [List.getElem?_take, if_pos hi]
    rw [e1, e1, List.getElem?_drop, List.getElem?_drop, splice_get _ _ _ _ (by rw [lk]; omega), splice_get _ _ _ _ (by rw [lk']; omega), lk, lk']
    by_cases h1 : f ≤ i ∧ i < f + m
    · rw [if_pos h1, if_pos (show a ≤ q * 64 + i ∧ q * 64 + i < a + (k + m) by omega), List.getElem?_take, List.getElem?_take, if_pos (show i - f < m by omega), if_pos (show q * 64 + i - a < k + m by omega), List.getElem?_drop]
      congr 1; omega
    · rw [if_neg h1]
      by_cases h2 : a ≤ q * 64 + i ∧ q * 64 + i < a + k
      · rw [if_pos h2, if_pos (show a ≤ q * 64 + i ∧ q * 64 + i < a + (k + m) by omega), List.getElem?_take, List.getElem?_take, if_pos (by omega), if_pos (by omega)]
      · rw [if_neg h2, if_neg (show ¬ (a ≤ q * 64 + i ∧ q * 64 + i < a + (k + m)) by omega)]
  · have e1 : ∀ Z : List UInt8, (Z.take 64)[i]? = none := fun Z => by rw [List.getElem?_take, if_neg (by omega)]
    rw [if_neg (by omega), e1, e1]
/-- The log's bytes. -/
def logB (s : St) (L : Nat) : List UInt8 := (s.S.drop 128).take (L * 64)
theorem logB_next (s : St) (k : Nat) : logB s (k + 1) = logB s k ++ (s.S.drop ((2 + k) * 64)).take 64 := by
  unfold logB
  rw [show (k + 1) * 64 = k * 64 + 64 by omega, List.take_add, List.drop_drop]
  congr 3; omega
theorem logB_len {s : St} {L : Nat} (h : 128 + L * 64 ≤ s.S.length) : (logB s L).length = L * 64 := by
  unfold logB; rw [List.length_take, List.length_drop]; omega
end Go.Proofs.Ytddjgncdjdjgeaa
namespace Go.Proofs.Ytddjgncdjdjgeaa
open Go.RowKit

/-- The reference's disk: struct in p; lasting bytes in gL, seen ones in gN (spare room rL, rN behind them), what waits in gW; how many deeds were done: m. -/
structure Rfd (w : World) (p gL gN gW : Nat) (rL rN : List Value) (m : Int) (s : St) : Prop where
  rec_ : Whole w p 109 [.slice (some ⟨gL, 0, none⟩) s.L.length (s.L.length + rL.length), .slice (some ⟨gN, 0, none⟩) s.S.length (s.S.length + rN.length), .slice (some ⟨gW, 0, none⟩) s.V.length s.V.length, .int .i64 (-1), .int .i64 m]
  last : Whole w gL 5 (bts s.L ++ rL)
  now : Whole w gN 5 (bts s.S ++ rN)
  wait : Whole w gW 4 (bls s.V)
  lenL : s.L.length = 64 * s.V.length
  lenS : s.S.length = 64 * s.V.length
  le : s.V.length ≤ 160
  ne : gL ≠ gN

section
variable {w w' : World} {p gL gN gW : Nat} {rL rN : List Value} {m : Int} {s : St}
theorem Rfd.keep (h : Rfd w p gL gN gW rL rN m s) (hc : Chg [] w w') : Rfd w' p gL gN gW rL rN m s :=
  ⟨h.rec_.keep hc, h.last.keep hc, h.now.keep hc, h.wait.keep hc, h.lenL, h.lenS, h.le, h.ne⟩
theorem Rfd.away {T : List Nat} (h : Rfd w p gL gN gW rL rN m s) (hc : Chg T w w') (h0 : p ∉ T) (h1 : gL ∉ T) (h2 : gN ∉ T) (h3 : gW ∉ T) : Rfd w' p gL gN gW rL rN m s :=
  ⟨h.rec_.chg hc h0, h.last.chg hc h1, h.now.chg hc h2, h.wait.chg hc h3, h.lenL, h.lenS, h.le, h.ne⟩

set_option maxHeartbeats 400000 in
set_option maxRecDepth 100000 in
theorem rlen_any (h : Rfd w p gL gN gW rL rN m s) : Calls Try.prog 84 #[.pointer (some ⟨p, 0, none⟩)] w fun e w' => e = .returned (.int .i64 (s.V.length : Int)) ∧ w = w' := by
  have c2 := h.rec_.cell 2
  go_enter Try.func84, Try.ntmps84
  go_wp2_with fail
  go_ret
  exact ⟨rfl, rfl⟩

end
end Go.Proofs.Ytddjgncdjdjgeaa
namespace Go.Proofs.Ytddjgncdjdjgeaa
open Go.RowKit

theorem run_append_fresh {P : Program} (w : World) (t ty e : TypeId) (i : TypeInfo) (z : Value) (bytes : Nat) (ht : P.underlying t = some (.slice e)) (hi : P.info? e = some i) (hz : i.zero = some z) (hs : i.size = 1) (hby : i.bytes = bytes) (hz1 : z.cells.size = 1)
    (b : Addr) (sp : Option Addr) (m c : Nat) (news : List Value) (hl : news.length = m) (hm : 0 < m) (hsrc : Src w sp news) (hb : m * bytes ≤ 140737488355328) (h63 : m ≤ maxLen) :
    ∃ r : List Value, (Builtin.append_ #[t, t] ty #[.slice (some b) 0 0, .slice sp m c]).run P w = .ok (.slice (some ⟨w.heap.size, 0, none⟩) m (m + r.length)) (w.drew.alloc (.cells (news ++ r).toArray e)) := by
  subst hby
  obtain ⟨ad, rfl, _, hx⟩ := hsrc (by omega)
  have h63' : m ≤ 9223372036854775807 := by simpa [maxLen] using h63
  have h := run_append_grow (P := P) w t ty e i z ht hi hz b 0 0 [] (by simp) (by simp) ad m c news (by rw [hs, hl]; omega) hx (by omega) (by omega) (growslice_fits (by omega) (by simpa using hb))
  have hge := grownCap_ge w m 0 e
  simp only [Nat.zero_add] at h
  refine ⟨(Builtin.zeroCells z.cells (grownCap w m 0 e - m)).toList, ?_⟩
  have hlen : m + (Builtin.zeroCells z.cells (grownCap w m 0 e - m)).toList.length = grownCap w m 0 e := by
    rw [Array.length_toList, size_zeroCells, hz1]; omega
  rw [h, hlen]
  congr 3
  apply Array.ext'
  simp

theorem step_append_fresh {P : Program} {w : World} {ops : Array Oper} {o : Oper} {a : Act} {K : Act → World → Prop} {Q : Exit → Act → World → Prop} {E : Prop} (hgd : o.guard = none) (s x : Operand) (t : TypeId)
    (ho : o.op = .call { callee := .builtin .append, args := #[s, x], argTypes := #[t, t] })
    (e : TypeId) (i : TypeInfo) (z : Value) (bytes : Nat) (ht : P.underlying t = some (.slice e)) (hi : P.info? e = some i) (hz : i.zero = some z) (hs : i.size = 1) (hby : i.bytes = bytes) (hz1 : z.cells.size = 1)
    (b : Addr) (hse : a.eval s = .slice (some b) 0 0) (sp : Option Addr) (m c : Nat) (hxe : a.eval x = .slice sp m c) (news : List Value) (hl : news.length = m) (hm : 0 < m) (hsrc : Src w sp news) (hb : m * bytes ≤ 140737488355328) (h63 : m ≤ maxLen)
    (h : ∀ (r : List Value) (O : Obj), O = .cells (news ++ r).toArray e → K (a.put o.dst (.slice (some ⟨w.heap.size, 0, none⟩) m (m + r.length))) (w.drew.alloc O)) :
    if Region.wanted o (yielded ops a.tmps) = true then Oper.wp P o a w K Q else E := by
  have hw : Region.wanted o (yielded ops a.tmps) = true := by simp [Region.wanted, hgd]
  rw [if_pos hw]
  obtain ⟨r, hrun⟩ := run_append_fresh (P := P) w t o.type e i z bytes ht hi hz hs hby hz1 b sp m c news hl hm hsrc hb h63
  unfold Oper.wp execOp
  simp only [ho, resolve, invoke, builtin, Sem.run_bind, Sem.run_pure, Result.andThen_ok, List.map_toArray, List.map_cons, List.map_nil, hse, hxe, hrun]
  exact h r _ rfl

end Go.Proofs.Ytddjgncdjdjgeaa
namespace Go.Proofs.Ytddjgncdjdjgeaa
open Go.RowKit

section
variable {w w' : World} {p gL gN gW : Nat} {rL rN : List Value} {m : Int} {s : St}

set_option maxHeartbeats 400000 in
set_option maxRecDepth 100000 in
theorem rread_no (h : Rfd w p gL gN gW rL rN m s) (i : Int) (hi : i < 0 ∨ (s.V.length : Int) ≤ i) :
    Calls Try.prog 81 #[.pointer (some ⟨p, 0, none⟩), .int .i64 i] w fun e w' => e = .returned (.tuple #[.slice none 0 0, .bool false]) ∧ w = w' := by
  by_cases h0 : i < 0
  · have hd : decide (i < 0) = true := by simp; omega
    go_enter Try.func81, Try.ntmps81
    go_wp2_with fail
    go_ret2
    exact ⟨rfl, rfl⟩
  · have hd : decide (i < 0) = false := by simp; omega
    have hd1 : decide ((s.V.length : Int) ≤ i) = true := by simp; omega
    go_enter Try.func81, Try.ntmps81
    go_wp2_with (go_at_call 84; refine (rlen_any h).mono ?_; rintro e w' ⟨rfl, rfl⟩)
    go_ret2
    exact ⟨rfl, rfl⟩

end
end Go.Proofs.Ytddjgncdjdjgeaa
namespace Go.Proofs.Ytddjgncdjdjgeaa
open Go.RowKit

section
variable {w : World} {A : Option Addr} {n c : Nat} {l : List UInt8}

theorem rfd_end {W F : World} {q gL gN gW : Nat} {rL rN : List Value} (hF : Chg [] (W.alloc (.cells #[.slice (some ⟨gL, 0, none⟩) l.length (l.length + rL.length), .slice (some ⟨gN, 0, none⟩) l.length (l.length + rN.length), .slice (some ⟨gW, 0, none⟩) (l.length / 64) (l.length / 64), .int .i64 (-1), .int .i64 0] 109)) F)
    (hq : q = W.heap.size) (hL : Whole W gL 5 (bts l ++ rL)) (hN : Whole W gN 5 (bts l ++ rN)) (hV : Whole W gW 4 (bls (falses (l.length / 64)))) (hne : gL ≠ gN)
    (h1 : 64 ≤ l.length) (h2 : l.length < 10304) (h3 : l.length % 64 = 0) (hc : Chg [] w W) (b1 : w.heap.size ≤ gL) (b2 : w.heap.size ≤ gN) (b3 : w.heap.size ≤ gW) :
    ∃ p gL' gN' gW' rL' rN' m, Ending.returned (.pointer (some ⟨q, 0, none⟩)) = .returned (.pointer (some ⟨p, 0, none⟩)) ∧
      Rfd F p gL' gN' gW' rL' rN' m ⟨l, l, falses (l.length / 64)⟩ ∧ w.heap.size ≤ p ∧ w.heap.size ≤ gL' ∧ w.heap.size ≤ gN' ∧ w.heap.size ≤ gW' ∧ Chg [] w F := by
  subst hq
  have hk := ((Chg.refl [] W).alloc (.cells #[.slice (some ⟨gL, 0, none⟩) l.length (l.length + rL.length), .slice (some ⟨gN, 0, none⟩) l.length (l.length + rN.length), .slice (some ⟨gW, 0, none⟩) (l.length / 64) (l.length / 64), .int .i64 (-1), .int .i64 0] 109)).new hF
  refine ⟨W.heap.size, gL, gN, gW, rL, rN, 0, rfl, ⟨?_, hL.keep hk, hN.keep hk, hV.keep hk, ?_, ?_, ?_, hne⟩, hc.size, b1, b2, b3, hc.new hk⟩
  · have := (Whole.new W 109 [.slice (some ⟨gL, 0, none⟩) l.length (l.length + rL.length), .slice (some ⟨gN, 0, none⟩) l.length (l.length + rN.length), .slice (some ⟨gW, 0, none⟩) (l.length / 64) (l.length / 64), .int .i64 (-1), .int .i64 0]).keep hF
    simpa only [falses_len] using this
  · show l.length = 64 * (falses (l.length / 64)).length
    rw [falses_len]; omega
  · show l.length = 64 * (falses (l.length / 64)).length
    rw [falses_len]; omega
  · show (falses (l.length / 64)).length ≤ 160
    rw [falses_len]; omega

set_option maxHeartbeats 4000000 in
set_option maxRecDepth 100000 in
theorem rof_yes (hl : l.length = n) (hs : Src w A (bts l)) (h1 : 64 ≤ n) (h2 : n < 10304) (h3 : n % 64 = 0) :
    Calls Try.prog 49 #[.slice A n c] w fun e w' => ∃ p gL gN gW rL rN m, e = .returned (.pointer (some ⟨p, 0, none⟩)) ∧ Rfd w' p gL gN gW rL rN m ⟨l, l, falses (n / 64)⟩ ∧
      w.heap.size ≤ p ∧ w.heap.size ≤ gL ∧ w.heap.size ≤ gN ∧ w.heap.size ≤ gW ∧ Chg [] w w' := by
  obtain ⟨i0, hi, hz0, hz1, hz2⟩ := info_parts info_u8
  have hd1 : decide ((n : Int) / 64 < 1) = false := by simp; omega
  have hd2 : decide (160 < (n : Int) / 64) = false := by simp; omega
  have hd3 : ((n : Int) % 64 != 0) = false := by simp; omega
  have hmk : ∀ W : World, (Instr.makeSlice 68 (.int .i64 ((n : Int) / 64)) (.int .i64 ((n : Int) / 64))).run Try.prog W = .ok (.slice (some ⟨W.heap.size, 0, none⟩) (n / 64) (n / 64)) (W.alloc (.cells (bls (falses (n / 64))).toArray 4)) :=
    fun W => make_bool (n / 64) (by omega) W
  have HL := Lib.hid hl
  have H3 := Lib.hid h3
  have hpos : 0 < n := by omega
  have hb : n * 1 ≤ 140737488355328 := by omega
  have hb2 : n ≤ maxLen := by unfold maxLen; omega
  clear hl h3
  go_enter Try.func49, Try.ntmps49
  go_wp2_with fail
  go_region_law (first
    | (with_reducible refine step_append_fresh rfl (.tmp 19) (.tmp 20) _ rfl 5 i0 (.int .u8 0) 1 Try.underlying44 hi hz0 hz1 hz2 rfl _ rfl A n c rfl (bts l) ?_ hpos (hs.keep ?_) hb hb2 ?_; (rw [bts_len]; exact HL.out); (repeat (first | exact Chg.refl _ _ | apply Chg.drew | apply Chg.alloc)); (intro r1 O1 hO1; have HO1 := Lib.hid hO1; clear hO1))
    | (with_reducible refine step_append_fresh rfl (.tmp 22) (.tmp 23) _ rfl 5 i0 (.int .u8 0) 1 Try.underlying44 hi hz0 hz1 hz2 rfl _ rfl A n c rfl (bts l) ?_ hpos (hs.keep ?_) hb hb2 ?_; (rw [bts_len]; exact HL.out); (repeat (first | exact Chg.refl _ _ | apply Chg.drew | apply Chg.alloc)); (intro r2 O2 hO2; have HO2 := Lib.hid hO2; clear hO2)))
  all_goals (go_wp2_with fail; go_ret)
  all_goals (obtain rfl := HL.out)
  all_goals (obtain rfl := HO1.out)
  all_goals (obtain rfl := HO2.out)
  all_goals (refine rfd_end (by repeat (first | exact Chg.refl _ _ | apply Chg.drew | apply Chg.drewN)) ?_ ?_ ?_ ?_ ?_ h1 h2 H3.out ?_ ?_ ?_ ?_)
  all_goals first
    | omega
    | ((repeat (first | exact Chg.refl _ _ | apply Chg.drew | apply Chg.drewN | apply Chg.alloc)); done)
    | ((repeat (first | exact whole_at (Whole.new _ _ _) (by simp) | apply Whole.drew | apply Whole.drewN | refine Whole.keep ?_ ((Chg.refl _ _).alloc _))); done)
    | (simp; done)
end
end Go.Proofs.Ytddjgncdjdjgeaa
