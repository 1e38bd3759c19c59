/-
  EA: Reply, Fresh, Dsk, Waits, ReplyAll, MadeCh, TapeFlow.
-/
import Derived.Test.YtfhgnoajfipjdaaZEA1
import Derived.Test.YtfhgnoajfipjdaaZEA2
import Derived.Test.YtfhgnoajfipjdaaZEA4
import Derived.Test.YtfhgnoajfipjdaaChecked
import Derived.Laws.RangeString
import Derived.Laws.RangeAny
import Derived.LoopTactic
import Derived.Defers
import Derived.Recover
import Derived.Deep.QuietTactic
import Derived.BigQuiet
import Derived.BigRegion
import Derived.Deep.RegionWith
import Derived.Laws.Pointers
import Derived.Deep.DeepCutAuto
import Derived.Laws.BitsAllLaws
import Derived.Deep.RegionLaw
namespace Go.Proofs.Ytfhgnoajfipjdaa
open Go.RowKit

theorem rune_width (s : ByteArray) (pos : Nat) (h : pos < s.size) : 1 ≤ (Utf8.decode s pos).2 := by
  by_cases ha : (s[pos]'h).toNat < 128
  · rw [decode_ascii s pos h ha]
    exact Nat.le_refl _
  · exact (decode_high s pos h (by omega)).2
/-- How many runes from pos on; b: rounds at most. -/
def cntR (s : ByteArray) : Nat → Nat → Nat
  | 0, _ => 0
  | b + 1, pos => if pos < s.size then cntR s b (pos + (Utf8.decode s pos).2) + 1 else 0
def runesN (s : ByteArray) : Nat := cntR s s.size 0
theorem cntR_end (s : ByteArray) (b pos : Nat) (h : ¬ pos < s.size) : cntR s b pos = 0 := by
  cases b with
  | zero => rfl
  | succ b => simp [cntR, h]
theorem cntR_next (s : ByteArray) (b pos : Nat) (h : pos < s.size) (hb : s.size ≤ pos + b) : ∃ c, b = c + 1 ∧ cntR s b pos = cntR s c (pos + (Utf8.decode s pos).2) + 1 := by
  obtain ⟨c, rfl⟩ : ∃ c, b = c + 1 := ⟨b - 1, by omega⟩
  exact ⟨c, rfl, by simp [cntR, h]⟩
theorem chg_iter (w : World) (s : ByteArray) (pos : Nat) : Chg [] w (w.iter s pos) :=
  (Chg.refl [] w).alloc _

section
variable {w : World}
set_option maxHeartbeats 400000 in
theorem rtruth_any (b : Bool) : Calls Try.prog 145 #[.bool b] w fun e w' => e = .returned (.int .i64 (if b then 1 else 0)) ∧ w = w' := by
  cases b <;>
  · go_enter Try.func145, Try.ntmps145
    go_wp2_with fail
    go_ret
    exact ⟨rfl, rfl⟩
/-- A number, and only new memory. -/
def NumPost (n : Int) (w : World) (e : Ending) (w' : World) : Prop := e = .returned (.int .i64 n) ∧ Chg [] w w'
set_option maxHeartbeats 1000000 in
set_option maxRecDepth 1000000 in
theorem nrunes_any (s : ByteArray) (hs : s.size ≤ 9223372036854775807) : Calls Try.prog 146 #[.string s] w (NumPost (runesN s) w) := by
  go_enter Try.func146, Try.ntmps146
  go_wp2
  go_loopw [3] (fun n wr => ∃ (pos b acc : Nat), wr = w.iter s pos ∧ n = .int .i64 (acc : Int) ∧ acc ≤ pos ∧ acc + cntR s b pos = runesN s ∧ s.size ≤ pos + b) (fun _ wr => s.size - wr.iterPos w.heap.size)
  case atStart => exact ⟨0, s.size, 0, rfl, rfl, Nat.le_refl _, by unfold runesN; omega, by omega⟩
  case round =>
    obtain ⟨pos, b, acc, rfl, rfl, hap, hcnt, hb⟩ := hrel
    by_cases hlt : pos < s.size
    · obtain ⟨c, rfl, hn⟩ := cntR_next s b pos hlt hb
      have hw := rune_width s pos hlt
      have HN := Lib.hid hn
      have HC := Lib.hid hcnt
      clear hn hcnt
      have hnx := run_next_any (P := Try.prog) w s pos
      go_wp2
      go_roundw
      case rel => exact ⟨_, c, acc + 1, rfl, by go_num, by omega, by have := HN.out; have := HC.out; omega, by omega⟩
      case measure => simp; omega
    · have HC := Lib.hid hcnt
      clear hcnt
      have hne := run_next_end (P := Try.prog) w s pos
      go_wp2
      go_ret
      have h1 := HC.out
      rw [cntR_end s b pos hlt] at h1
      exact ⟨by rw [← h1]; rfl, chg_iter w s pos⟩
end

/-- A comma-ok assertion to a type that is no interface. -/
theorem run_assert {P : Program} {a t xT : TypeId} {d : TypeDesc} {v z : Value} (hu : P.underlying a = some d) (hn : ∀ m, d ≠ .interface m) (hz : (P.info? a).map (·.zero) = some (some z)) (w : World) :
    (Instr.typeAssert (.iface t v) xT a true).run P w = .ok (.tuple (if t = a then #[v, .bool true] else #[z, .bool false])) w := by
  obtain ⟨i, hi, hz'⟩ : ∃ i, P.info? a = some i ∧ i.zero = some z := by
    cases h : P.info? a with
    | none => rw [h] at hz; simp at hz
    | some i => rw [h] at hz; exact ⟨i, rfl, by simpa using hz⟩
  by_cases ht : t = a
  · subst ht
    cases d <;> simp_all [Instr.typeAssert, run_underlying hu]
  · cases d <;> simp_all [Instr.typeAssert, run_underlying hu, typeInfo, zeroValue]
theorem run_assert_nil {P : Program} {a xT : TypeId} {d : TypeDesc} {z : Value} (hu : P.underlying a = some d) (hn : ∀ m, d ≠ .interface m) (hz : (P.info? a).map (·.zero) = some (some z)) (w : World) :
    (Instr.typeAssert .nilIface xT a true).run P w = .ok (.tuple #[z, .bool false]) w := by
  obtain ⟨i, hi, hz'⟩ : ∃ i, P.info? a = some i ∧ i.zero = some z := by
    cases h : P.info? a with
    | none => rw [h] at hz; simp at hz
    | some i => rw [h] at hz; exact ⟨i, rfl, by simpa using hz⟩
  cases d <;> simp_all [Instr.typeAssert, run_underlying hu, typeInfo, zeroValue]
theorem as0 (t : TypeId) (v : Value) (w : World) : (Instr.typeAssert (.iface t v) 20 2 true).run Try.prog w = .ok (.tuple (if t = 2 then #[v, .bool true] else #[.int .i64 0, .bool false])) w := run_assert Try.underlying2 (by intro m h; cases h) (by kernel_rfl) w
theorem an0 (w : World) : (Instr.typeAssert .nilIface 20 2 true).run Try.prog w = .ok (.tuple #[.int .i64 0, .bool false]) w := run_assert_nil Try.underlying2 (by intro m h; cases h) (by kernel_rfl) w
theorem as1 (t : TypeId) (v : Value) (w : World) : (Instr.typeAssert (.iface t v) 20 3 true).run Try.prog w = .ok (.tuple (if t = 3 then #[v, .bool true] else #[.int .i64 0, .bool false])) w := run_assert Try.underlying3 (by intro m h; cases h) (by kernel_rfl) w
theorem an1 (w : World) : (Instr.typeAssert .nilIface 20 3 true).run Try.prog w = .ok (.tuple #[.int .i64 0, .bool false]) w := run_assert_nil Try.underlying3 (by intro m h; cases h) (by kernel_rfl) w
theorem as2 (t : TypeId) (v : Value) (w : World) : (Instr.typeAssert (.iface t v) 20 4 true).run Try.prog w = .ok (.tuple (if t = 4 then #[v, .bool true] else #[.bool false, .bool false])) w := run_assert Try.underlying4 (by intro m h; cases h) (by kernel_rfl) w
theorem an2 (w : World) : (Instr.typeAssert .nilIface 20 4 true).run Try.prog w = .ok (.tuple #[.bool false, .bool false]) w := run_assert_nil Try.underlying4 (by intro m h; cases h) (by kernel_rfl) w
theorem as3 (t : TypeId) (v : Value) (w : World) : (Instr.typeAssert (.iface t v) 20 21 true).run Try.prog w = .ok (.tuple (if t = 21 then #[v, .bool true] else #[.int .i32 0, .bool false])) w := run_assert Try.underlying21 (by intro m h; cases h) (by kernel_rfl) w
theorem an3 (w : World) : (Instr.typeAssert .nilIface 20 21 true).run Try.prog w = .ok (.tuple #[.int .i32 0, .bool false]) w := run_assert_nil Try.underlying21 (by intro m h; cases h) (by kernel_rfl) w
theorem as4 (t : TypeId) (v : Value) (w : World) : (Instr.typeAssert (.iface t v) 20 9 true).run Try.prog w = .ok (.tuple (if t = 9 then #[v, .bool true] else #[.string ⟨#[]⟩, .bool false])) w := run_assert Try.underlying9 (by intro m h; cases h) (by kernel_rfl) w
theorem an4 (w : World) : (Instr.typeAssert .nilIface 20 9 true).run Try.prog w = .ok (.tuple #[.string ⟨#[]⟩, .bool false]) w := run_assert_nil Try.underlying9 (by intro m h; cases h) (by kernel_rfl) w
theorem as5 (t : TypeId) (v : Value) (w : World) : (Instr.typeAssert (.iface t v) 20 60 true).run Try.prog w = .ok (.tuple (if t = 60 then #[v, .bool true] else #[.slice none 0 0, .bool false])) w := run_assert Try.underlying60 (by intro m h; cases h) (by kernel_rfl) w
theorem an5 (w : World) : (Instr.typeAssert .nilIface 20 60 true).run Try.prog w = .ok (.tuple #[.slice none 0 0, .bool false]) w := run_assert_nil Try.underlying60 (by intro m h; cases h) (by kernel_rfl) w

/-- What has which number; none: what has none. -/
inductive Num : Value → Option Int → Prop
  | i64 (n : Int) : Num (.iface 2 (.int .i64 n)) (some n)
  | int (n : Int) (h0 : -9223372036854775808 ≤ n) (h1 : n ≤ 9223372036854775807) : Num (.iface 3 (.int .i64 n)) (some n)
  | bool (b : Bool) : Num (.iface 4 (.bool b)) (some (if b then 1 else 0))
  | rune (r : Int) (h0 : -2147483648 ≤ r) (h1 : r ≤ 2147483647) : Num (.iface 21 (.int .i32 r)) (some r)
  | str (s : ByteArray) (h : s.size ≤ 9223372036854775807) : Num (.iface 9 (.string s)) (some (runesN s : Nat))
  | list (A : Option Addr) (n c : Nat) (h : n ≤ 9223372036854775807) : Num (.iface 60 (.slice A n c)) (some n)
  | nil : Num .nilIface none
  | other (t : TypeId) (u : Value) (h1 : t ≠ 2) (h2 : t ≠ 3) (h3 : t ≠ 4) (h4 : t ≠ 21) (h5 : t ≠ 9) (h6 : t ≠ 60) : Num (.iface t u) none
/-- A number as an interface value; nil. -/
def numIV : Option Int → Value
  | some n => .iface 2 (.int .i64 n)
  | none => .nilIface
def NumberPost (r : Option Int) (w : World) (e : Ending) (w' : World) : Prop := e = .returned (numIV r) ∧ Chg [] w w'
section
variable {w : World} {v : Value} {r : Option Int}
set_option maxHeartbeats 2000000 in
set_option maxRecDepth 100000 in
theorem number_any (h : Num v r) : Calls Try.prog 98 #[v] w (NumberPost r w) := by
  cases h with
  | i64 n =>
    have q0 := as0 2 (.int .i64 n)
    have q1 := as1 2 (.int .i64 n)
    have q2 := as2 2 (.int .i64 n)
    have q3 := as3 2 (.int .i64 n)
    have q4 := as4 2 (.int .i64 n)
    have q5 := as5 2 (.int .i64 n)
    simp only [reduceIte, Nat.reduceEqDiff] at q0 q1 q2 q3 q4 q5
    go_enter Try.func98, Try.ntmps98
    go_wp2_with fail
    go_ret
    exact ⟨rfl, Chg.refl _ _⟩
  | int n h0 h1 =>
    have q0 := as0 3 (.int .i64 n)
    have q1 := as1 3 (.int .i64 n)
    have q2 := as2 3 (.int .i64 n)
    have q3 := as3 3 (.int .i64 n)
    have q4 := as4 3 (.int .i64 n)
    have q5 := as5 3 (.int .i64 n)
    simp only [reduceIte, Nat.reduceEqDiff] at q0 q1 q2 q3 q4 q5
    go_enter Try.func98, Try.ntmps98
    go_wp2_with fail
    go_ret
    exact ⟨rfl, Chg.refl _ _⟩
  | bool b =>
    cases b with
    | true =>
      have q0 := as0 4 (.bool true)
      have q1 := as1 4 (.bool true)
      have q2 := as2 4 (.bool true)
      have q3 := as3 4 (.bool true)
      have q4 := as4 4 (.bool true)
      have q5 := as5 4 (.bool true)
      simp only [reduceIte, Nat.reduceEqDiff] at q0 q1 q2 q3 q4 q5
      go_enter Try.func98, Try.ntmps98
      go_wp2_with (go_at_call 145; refine (rtruth_any true).mono ?_; rintro e w' ⟨rfl, rfl⟩)
      go_ret
      exact ⟨rfl, Chg.refl _ _⟩
    | false =>
      have q0 := as0 4 (.bool false)
      have q1 := as1 4 (.bool false)
      have q2 := as2 4 (.bool false)
      have q3 := as3 4 (.bool false)
      have q4 := as4 4 (.bool false)
      have q5 := as5 4 (.bool false)
      simp only [reduceIte, Nat.reduceEqDiff] at q0 q1 q2 q3 q4 q5
      go_enter Try.func98, Try.ntmps98
      go_wp2_with (go_at_call 145; refine (rtruth_any false).mono ?_; rintro e w' ⟨rfl, rfl⟩)
      go_ret
      exact ⟨rfl, Chg.refl _ _⟩
  | rune r h0 h1 =>
    have q0 := as0 21 (.int .i32 r)
    have q1 := as1 21 (.int .i32 r)
    have q2 := as2 21 (.int .i32 r)
    have q3 := as3 21 (.int .i32 r)
    have q4 := as4 21 (.int .i32 r)
    have q5 := as5 21 (.int .i32 r)
    simp only [reduceIte, Nat.reduceEqDiff] at q0 q1 q2 q3 q4 q5
    go_enter Try.func98, Try.ntmps98
    go_wp2_with fail
    go_ret
    exact ⟨rfl, Chg.refl _ _⟩
  | str s hs =>
    have q0 := as0 9 (.string s)
    have q1 := as1 9 (.string s)
    have q2 := as2 9 (.string s)
    have q3 := as3 9 (.string s)
    have q4 := as4 9 (.string s)
    have q5 := as5 9 (.string s)
    simp only [reduceIte, Nat.reduceEqDiff] at q0 q1 q2 q3 q4 q5
    go_enter Try.func98, Try.ntmps98
    go_wp2_with (go_at_call 146; refine (nrunes_any s hs).mono ?_; rintro e w1 ⟨rfl, hc⟩)
    go_ret
    exact ⟨rfl, hc⟩
  | list A n c hn =>
    have q0 := as0 60 (.slice A n c)
    have q1 := as1 60 (.slice A n c)
    have q2 := as2 60 (.slice A n c)
    have q3 := as3 60 (.slice A n c)
    have q4 := as4 60 (.slice A n c)
    have q5 := as5 60 (.slice A n c)
    simp only [reduceIte, Nat.reduceEqDiff] at q0 q1 q2 q3 q4 q5
    go_enter Try.func98, Try.ntmps98
    go_wp2_with fail
    go_ret
    exact ⟨rfl, Chg.refl _ _⟩
  | nil =>
    have q0 := an0
    have q1 := an1
    have q2 := an2
    have q3 := an3
    have q4 := an4
    have q5 := an5
    go_enter Try.func98, Try.ntmps98
    go_wp2_with fail
    go_ret
    exact ⟨rfl, Chg.refl _ _⟩
  | other t u h1 h2 h3 h4 h5 h6 =>
    have q0 := as0 t u
    have q1 := as1 t u
    have q2 := as2 t u
    have q3 := as3 t u
    have q4 := as4 t u
    have q5 := as5 t u
    simp only [if_neg h1] at q0
    simp only [if_neg h2] at q1
    simp only [if_neg h3] at q2
    simp only [if_neg h4] at q3
    simp only [if_neg h5] at q4
    simp only [if_neg h6] at q5
    go_enter Try.func98, Try.ntmps98
    go_wp2_with fail
    go_ret
    exact ⟨rfl, Chg.refl _ _⟩
/-- Of's answer. -/
def OfPost (r : Option Int) (w : World) (e : Ending) (w' : World) : Prop := e = .returned (.tuple #[.int .i64 (r.getD 0), .bool r.isSome]) ∧ Chg [] w w'
set_option maxHeartbeats 1000000 in
set_option maxRecDepth 100000 in
theorem vof_any (h : Num v r) : Calls Try.prog 56 #[v] w (OfPost r w) := by
  cases r with
  | some n =>
    have q0 := as0 2 (.int .i64 n)
    simp only [reduceIte] at q0
    go_enter Try.func56, Try.ntmps56
    go_wp2_with (go_at_call 98; refine (number_any h).mono ?_; rintro e w1 ⟨rfl, hc⟩; simp only [numIV])
    go_ret2
    exact ⟨rfl, hc⟩
  | none =>
    have q0 := an0
    go_enter Try.func56, Try.ntmps56
    go_wp2_with (go_at_call 98; refine (number_any h).mono ?_; rintro e w1 ⟨rfl, hc⟩; simp only [numIV])
    go_ret2
    exact ⟨rfl, hc⟩
end
end Go.Proofs.Ytfhgnoajfipjdaa
namespace Go.Proofs.Ytfhgnoajfipjdaa
open Go.RowKit

theorem info_u8 : (Try.prog.info? 5).map (fun i => (i.zero, i.size, i.bytes)) = some (some (.int .u8 0), 1, 1) := by kernel_rfl
theorem info_bool : (Try.prog.info? 4).map (fun i => (i.zero, i.size, i.bytes)) = some (some (.bool false), 1, 1) := by kernel_rfl
theorem info_int : (Try.prog.info? 3).map (fun i => (i.zero, i.size, i.bytes)) = some (some (.int .i64 0), 1, 8) := by kernel_rfl
theorem make_u8 (n : Nat) (h : n ≤ 1000000) (w : World) :
    (Instr.makeSlice 46 (.int .i64 (n : Int)) (.int .i64 (n : Int))).run Try.prog w = .ok (.slice (some ⟨w.heap.size, 0, none⟩) n n) (w.alloc (.cells (bts (zeros n)).toArray 5)) := by
  rw [bts_zeros]
  obtain ⟨i, hi, hz, hs, hb⟩ := info_parts info_u8
  exact run_make1 _ _ i _ rfl Try.underlying46 hi hz hs n (by rw [hb]; omega) (by omega) w
theorem make_bool (n : Nat) (h : n ≤ 1000000) (w : World) :
    (Instr.makeSlice 107 (.int .i64 (n : Int)) (.int .i64 (n : Int))).run Try.prog w = .ok (.slice (some ⟨w.heap.size, 0, none⟩) n n) (w.alloc (.cells (bls (falses n)).toArray 4)) := by
  rw [bls_falses]
  obtain ⟨i, hi, hz, hs, hb⟩ := info_parts info_bool
  exact run_make1 _ _ i _ rfl Try.underlying107 hi hz hs n (by rw [hb]; omega) (by omega) w

end Go.Proofs.Ytfhgnoajfipjdaa
namespace Go.Proofs.Ytfhgnoajfipjdaa
open Go.RowKit

/-- A disk: its struct lies in block p, the lasting bytes L in bL, the seen ones S in bS, what waits (V) in bW. -/
structure Dsk (w : World) (p bL bS bW : Nat) (L S : List UInt8) (V : List Bool) : Prop where
  rec_ : Whole w p 157 [.slice (some ⟨bL, 0, none⟩) L.length L.length, .slice (some ⟨bS, 0, none⟩) S.length S.length, .slice (some ⟨bW, 0, none⟩) V.length V.length]
  last : Whole w bL 5 (bts L)
  seen : Whole w bS 5 (bts S)
  wait : Whole w bW 4 (bls V)
  lenL : L.length = 64 * V.length
  lenS : S.length = 64 * V.length
  pos : 0 < V.length
  le : V.length ≤ 160
  ne : bL ≠ bS

section
variable {w w' : World} {p bL bS bW : Nat} {L S : List UInt8} {V : List Bool}
theorem Dsk.keep (h : Dsk w p bL bS bW L S V) (hc : Chg [] w w') : Dsk w' p bL bS bW L S V :=
  ⟨h.rec_.keep hc, h.last.keep hc, h.seen.keep hc, h.wait.keep hc, h.lenL, h.lenS, h.pos, h.le, h.ne⟩
theorem Dsk.away {T : List Nat} (h : Dsk w p bL bS bW L S V) (hc : Chg T w w') (h0 : p ∉ T) (h1 : bL ∉ T) (h2 : bS ∉ T) (h3 : bW ∉ T) : Dsk w' p bL bS bW L S V :=
  ⟨h.rec_.chg hc h0, h.last.chg hc h1, h.seen.chg hc h2, h.wait.chg hc h3, h.lenL, h.lenS, h.pos, h.le, h.ne⟩

end
end Go.Proofs.Ytfhgnoajfipjdaa
namespace Go.Proofs.Ytfhgnoajfipjdaa
open Go.RowKit

theorem chg_grown {T : List Nat} {a w w' : World} {row : Option Nat} (h : Chg T a w) (hg : w.grownBy w' row) (hr : ∀ g, row = some g → a.heap.size ≤ g) : Chg T a w' :=
  h.then_ (T' := row.toList) (Chg.of_grown hg fun g e _ => by simp [e]) fun i hi hlt => by
    have := hr i (by simpa using hi)
    omega

end Go.Proofs.Ytfhgnoajfipjdaa
namespace Go.Proofs.Ytfhgnoajfipjdaa
open Go.RowKit

/-- Values and their numbers, one by one. -/
def Nums (vs : List Value) (rs : List (Option Int)) : Prop := vs.length = rs.length ∧ ∀ (i : Nat) (v : Value) (r : Option Int), vs[i]? = some v → rs[i]? = some r → Num v r
theorem Nums.nil : Nums [] [] := ⟨rfl, fun i v r h _ => by simp at h⟩
theorem Nums.cons {v : Value} {r : Option Int} {vs : List Value} {rs : List (Option Int)} (h : Num v r) (k : Nums vs rs) : Nums (v :: vs) (r :: rs) := by
  refine ⟨by simp [k.1], fun i u q hu hq => ?_⟩
  cases i with
  | zero => simp at hu hq; subst hu; subst hq; exact h
  | succ i => simp at hu hq; exact k.2 i u q hu hq
theorem Nums.app {vs vs' : List Value} {rs rs' : List (Option Int)} (h : Nums vs rs) (k : Nums vs' rs') : Nums (vs ++ vs') (rs ++ rs') := by
  refine ⟨by simp [h.1, k.1], fun i u q hu hq => ?_⟩
  rcases Nat.lt_or_ge i vs.length with hi | hi
  · rw [List.getElem?_append_left hi] at hu
    rw [List.getElem?_append_left (by rw [← h.1]; exact hi)] at hq
    exact h.2 i u q hu hq
  · rw [List.getElem?_append_right hi] at hu
    rw [List.getElem?_append_right (by rw [← h.1]; exact hi), ← h.1] at hq
    exact k.2 _ u q hu hq
theorem nms_one (l : List Int) : ∀ v ∈ nms l, v.oneCell' = true := by
  intro v hv
  simp only [nms, List.mem_map] at hv
  obtain ⟨c, _, rfl⟩ := hv
  rfl
theorem info_i64 : (Try.prog.info? 2).map (fun i => (i.zero, i.size, i.bytes)) = some (some (.int .i64 0), 1, 8) := by kernel_rfl
end Go.Proofs.Ytfhgnoajfipjdaa
namespace Go.Proofs.Ytfhgnoajfipjdaa
open Go.RowKit
/-- A change whose bytes lie in a block of their own, from B0 on. -/
structure MadeCh (w : World) (B0 : Nat) (a : ChV) : Prop where
  b : ∃ g, a.bA = some ⟨g, 0, none⟩ ∧ B0 ≤ g ∧ Whole w g 5 (bts a.B)
  bl : a.B.length = 64
  bn : a.bn = 64
  bc : a.bc = 64
  p : 0 ≤ a.page ∧ a.page < 65536
theorem MadeCh.ok {w : World} {B0 : Nat} {a : ChV} (h : MadeCh w B0 a) : ChOk w a := by
  obtain ⟨g, hg, _, hW⟩ := h.b
  refine ⟨by have := h.p; omega, by have := h.p; omega, ?_⟩
  rw [hg, h.bn, h.bc]
  have := Bs.of_all hW (by rw [h.bl]; omega)
  rwa [h.bl] at this
theorem MadeCh.small {w : World} {B0 : Nat} {a : ChV} (h : MadeCh w B0 a) : Small a := ⟨h.p.1, h.p.2, h.bn⟩
theorem MadeCh.chg {w w' : World} {B0 : Nat} {a : ChV} {T : List Nat} (h : MadeCh w B0 a) (hc : Chg T w w') (hT : ∀ i ∈ T, i < B0 ∨ w.heap.size ≤ i) : MadeCh w' B0 a := by
  obtain ⟨g, hg, hB, hW⟩ := h.b
  exact { h with b := ⟨g, hg, hB, hW.chg hc fun hm => by have := hT g hm; have := hW.lt; omega⟩ }
theorem MadeCh.grown {w w' : World} {B0 B2 m : Nat} {v2 : Value} {ys : List Value} {a : ChV} (h : MadeCh w B0 a) (h2 : w.ownsRow B2 140 2 v2 m ys) (hg : w.grownBy w' v2.ownBlock) : MadeCh w' B0 a := by
  obtain ⟨g, hg1, hB, hW⟩ := h.b
  exact { h with b := ⟨g, hg1, hB, whole_grown hW h2 (by decide) hg⟩ }
theorem cells_page (w : World) (xs : List Value) (t : Nat) : ∀ (j : Nat) (u : Value), xs[j]? = some u → (w.alloc (.cells xs.toArray t)).cell? ((⟨w.heap.size, 0, none⟩ : Addr).add j) = some u := fun j u hj => by
  rw [add_plain, Nat.zero_add, (Whole.new w t xs).cell]; exact hj
/-- A change whose bytes begin a block of their own, from B0 on. -/
structure RMade (w : World) (B0 : Nat) (a : ChV) : Prop where
  b : ∃ g r, a.bA = some ⟨g, 0, none⟩ ∧ B0 ≤ g ∧ Whole w g 5 (bts a.B ++ r) ∧ a.bc = 64 + r.length ∧ 64 + r.length ≤ 9223372036854775807
  bl : a.B.length = 64
  bn : a.bn = 64
  p : 0 ≤ a.page ∧ a.page < 65536
theorem RMade.ok {w : World} {B0 : Nat} {a : ChV} (h : RMade w B0 a) : ChOk w a := by
  obtain ⟨g, r, hg, _, hW, hc, hm⟩ := h.b
  refine ⟨by have := h.p; omega, by have := h.p; omega, ?_⟩
  rw [hg, h.bn, hc]
  exact Bs.of_whole hW h.bl (by rw [List.take_left' (by rw [bts_len, h.bl])]) (by omega) hm
theorem RMade.chg {w w' : World} {B0 : Nat} {a : ChV} {T : List Nat} (h : RMade w B0 a) (hc : Chg T w w') (hT : ∀ i ∈ T, i < B0 ∨ w.heap.size ≤ i) : RMade w' B0 a := by
  obtain ⟨g, r, hg, hB, hW, hr⟩ := h.b
  exact { h with b := ⟨g, r, hg, hB, hW.chg hc (fun hm => by have := hT g hm; have := hW.lt; omega), hr⟩ }
theorem RMade.grown {w w' : World} {B0 B2 m : Nat} {v2 : Value} {ys : List Value} {a : ChV} (h : RMade w B0 a) (h2 : w.ownsRow B2 140 2 v2 m ys) (hg : w.grownBy w' v2.ownBlock) : RMade w' B0 a := by
  obtain ⟨g, r, hg1, hB, hW, hr⟩ := h.b
  exact { h with b := ⟨g, r, hg1, hB, whole_grown hW h2 (by decide) hg, hr⟩ }
end Go.Proofs.Ytfhgnoajfipjdaa
namespace Go.Proofs.Ytfhgnoajfipjdaa
open Go.RowKit
def nochg : List UInt8 := [110, 111, 32, 99, 104, 97, 110, 103, 101, 115]
/-- The tape goes on, rows of that constant are marked from B on, all else stays. -/
structure TapeR (p B : Nat) (A : Option Addr) (n c : Nat) (l : List Int) (a b : World) : Prop where
  os : b.os = a.os
  tape : b.tape = a.tape
  output : b.output = a.output
  size : a.heap.size ≤ b.heap.size
  block : ∀ k, k < a.heap.size → k ≠ p → b.heap[k]? = a.heap[k]? ∨ (B ≤ k ∧ ∃ fz fz', a.heap[k]? = some (.cells (bts nochg).toArray 5 fz) ∧ b.heap[k]? = some (.cells (bts nochg).toArray 5 fz'))
  tp : ∀ i, Tp a p A n c l i → ∃ j, Tp b p A n c l j
/-- What lies below B stays, but for the tape. -/
structure TapeH (p B : Nat) (A : Option Addr) (n c : Nat) (l : List Int) (a b : World) : Prop where
  os : b.os = a.os
  tape : b.tape = a.tape
  output : b.output = a.output
  size : a.heap.size ≤ b.heap.size
  block : ∀ k, k < B → k < a.heap.size → k ≠ p → b.heap[k]? = a.heap[k]?
  tp : ∀ i, Tp a p A n c l i → ∃ j, Tp b p A n c l j
section
variable {p B B3 n c : Nat} {A : Option Addr} {l : List Int}
theorem TapeR.of_chg {a b : World} (h : Chg [] a b) : TapeR p B A n c l a b := ⟨h.os, h.tape, h.output, h.size, fun k hk _ => .inl (h.block k hk (by simp)), fun i hi => ⟨i, hi.keep h⟩⟩
theorem TapeR.next {a b : World} (h : Chg [p] a b) {j : Nat} (ht : Tp b p A n c l j) : TapeR p B A n c l a b := ⟨h.os, h.tape, h.output, h.size, fun k hk hp => .inl (h.block k hk (by simpa using hp)), fun _ _ => ⟨j, ht⟩⟩
theorem TapeR.refl (a : World) : TapeR p B A n c l a a := .of_chg (Chg.refl _ _)
theorem TapeR.trans {a b d : World} (h : TapeR p B A n c l a b) (k : TapeR p B A n c l b d) : TapeR p B A n c l a d := by
  refine ⟨k.os.trans h.os, k.tape.trans h.tape, k.output.trans h.output, Nat.le_trans h.size k.size, fun i hi hp => ?_, fun i hi => by obtain ⟨j, hj⟩ := h.tp i hi; exact k.tp j hj⟩
  rcases h.block i hi hp with h1 | ⟨hB, fz, fz', h1, h2⟩
  · rcases k.block i (Nat.lt_of_lt_of_le hi h.size) hp with k1 | ⟨hB, fz, fz', k1, k2⟩
    · exact .inl (k1.trans h1)
    · exact .inr ⟨hB, fz, fz', by rw [← h1]; exact k1, k2⟩
  · rcases k.block i (Nat.lt_of_lt_of_le hi h.size) hp with k1 | ⟨_, fz2, fz3, k1, k2⟩
    · exact .inr ⟨hB, fz, fz', h1, k1.trans h2⟩
    · exact .inr ⟨hB, fz, fz3, h1, k2⟩
theorem TapeR.h {a b : World} (h : TapeR p B A n c l a b) (hB : B3 ≤ B) : TapeH p B3 A n c l a b :=
  ⟨h.os, h.tape, h.output, h.size, fun k h3 hk hp => (h.block k hk hp).elim id fun ⟨hb, _⟩ => by omega, h.tp⟩
theorem TapeH.trans {a b d : World} (h : TapeH p B A n c l a b) (k : TapeH p B A n c l b d) : TapeH p B A n c l a d :=
  ⟨k.os.trans h.os, k.tape.trans h.tape, k.output.trans h.output, Nat.le_trans h.size k.size, fun i hB hi hp => (k.block i hB (Nat.lt_of_lt_of_le hi h.size) hp).trans (h.block i hB hi hp), fun i hi => by obtain ⟨j, hj⟩ := h.tp i hi; exact k.tp j hj⟩
theorem TapeH.whole {a b : World} (h : TapeH p B A n c l a b) {g t : Nat} {cs : List Value} (hW : Whole a g t cs) (hg : g < B) (hp : g ≠ p) : Whole b g t cs := (h.block g hg hW.lt hp).trans hW
theorem TapeH.chg {a b : World} (h : TapeH p B A n c l a b) (hB : a.heap.size ≤ B) : Chg [p] a b := ⟨h.os, h.tape, h.output, h.size, fun k hk hn => h.block k (by omega) hk (by simpa using hn)⟩
theorem TapeH.after {a b W : World} (h1 : Chg [p] a b) (h2 : TapeH p B A n c l b W) (hB : a.heap.size ≤ B) : Chg [p] a W :=
  ⟨h2.os.trans h1.os, h2.tape.trans h1.tape, h2.output.trans h1.output, Nat.le_trans h1.size h2.size, fun k hk hn => (h2.block k (by omega) (Nat.lt_of_lt_of_le hk h1.size) (by simpa using hn)).trans (h1.block k hk hn)⟩
end
end Go.Proofs.Ytfhgnoajfipjdaa
