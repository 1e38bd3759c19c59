/-
  Layer 12: what has which number; reply's Of, Must and All.
-/
import Derived.Test.YtigbnmckdjlihaaOwn
import Derived.Test.YtigbnmckdjlihaaChecked
import Derived.Laws.RangeString
import Derived.Laws.RangeAny
import Derived.LoopTactic
import Derived.Defers
import Derived.Recover
namespace Go.Proofs.Ytigbnmckdjlihaa
open Go.RowKit

theorem rune_width (s : ByteArray) (pos : Nat) (h : pos < s.size) : 1 ≤ (Utf8.decode s pos).2 := by
  by_cases ha : (s[pos]'h).toNat < 128
  · rw [decode_ascii s pos h ha]
    exact Nat.le_refl _
  · exact (decode_high s pos h (by omega)).2
/-- How many runes from pos on; b: rounds at most. -/
def cntR (s : ByteArray) : Nat → Nat → Nat
  | 0, _ => 0
  | b + 1, pos => if pos < s.size then cntR s b (pos + (Utf8.decode s pos).2) + 1 else 0
def runesN (s : ByteArray) : Nat := cntR s s.size 0
theorem cntR_end (s : ByteArray) (b pos : Nat) (h : ¬ pos < s.size) : cntR s b pos = 0 := by
  cases b with
  | zero => rfl
  | succ b => simp [cntR, h]
theorem cntR_next (s : ByteArray) (b pos : Nat) (h : pos < s.size) (hb : s.size ≤ pos + b) : ∃ c, b = c + 1 ∧ cntR s b pos = cntR s c (pos + (Utf8.decode s pos).2) + 1 := by
  obtain ⟨c, rfl⟩ : ∃ c, b = c + 1 := ⟨b - 1, by omega⟩
  exact ⟨c, rfl, by simp [cntR, h]⟩
theorem chg_iter (w : World) (s : ByteArray) (pos : Nat) : Chg [] w (w.iter s pos) :=
  (Chg.refl [] w).alloc _

section
variable {w : World}
set_option maxHeartbeats 400000 in
theorem rtruth_any (b : Bool) : Calls Try.prog 70 #[.bool b] w fun e w' => e = .returned (.int .i64 (if b then 1 else 0)) ∧ w = w' := by
  cases b <;>
  · go_enter Try.func70, Try.ntmps70
    go_wp2_with fail
    go_ret
    exact ⟨rfl, rfl⟩
/-- A number, and only new memory. -/
def NumPost (n : Int) (w : World) (e : Ending) (w' : World) : Prop := e = .returned (.int .i64 n) ∧ Chg [] w w'
set_option maxHeartbeats 1000000 in
set_option maxRecDepth 1000000 in
theorem runes_any (s : ByteArray) (hs : s.size ≤ 9223372036854775807) : Calls Try.prog 71 #[.string s] w (NumPost (runesN s) w) := by
  go_enter Try.func71, Try.ntmps71
  go_wp2
  go_loopw [3] (fun n wr => ∃ (pos b acc : Nat), wr = w.iter s pos ∧ n = .int .i64 (acc : Int) ∧ acc ≤ pos ∧ acc + cntR s b pos = runesN s ∧ s.size ≤ pos + b) (fun _ wr => s.size - wr.iterPos w.heap.size)
  case atStart => exact ⟨0, s.size, 0, rfl, rfl, Nat.le_refl _, by unfold runesN; omega, by omega⟩
  case round =>
    obtain ⟨pos, b, acc, rfl, rfl, hap, hcnt, hb⟩ := hrel
    by_cases hlt : pos < s.size
    · obtain ⟨c, rfl, hn⟩ := cntR_next s b pos hlt hb
      have hw := rune_width s pos hlt
      have HN := Lib.hid hn
      have HC := Lib.hid hcnt
      clear hn hcnt
      have hnx := run_next_any (P := Try.prog) w s pos
      go_wp2
      go_roundw
      case rel => exact ⟨_, c, acc + 1, rfl, by go_num, by omega, by have := HN.out; have := HC.out; omega, by omega⟩
      case measure => simp; omega
    · have HC := Lib.hid hcnt
      clear hcnt
      have hne := run_next_end (P := Try.prog) w s pos
      go_wp2
      go_ret
      have h1 := HC.out
      rw [cntR_end s b pos hlt] at h1
      exact ⟨by rw [← h1]; rfl, chg_iter w s pos⟩
end

/-- A comma-ok assertion to a type that is no interface. -/
theorem run_assert {P : Program} {a t xT : TypeId} {d : TypeDesc} {v z : Value} (hu : P.underlying a = some d) (hn : ∀ m, d ≠ .interface m) (hz : (P.info? a).map (·.zero) = some (some z)) (w : World) :
    (Instr.typeAssert (.iface t v) xT a true).run P w = .ok (.tuple (if t = a then #[v, .bool true] else #[z, .bool false])) w := by
  obtain ⟨i, hi, hz'⟩ : ∃ i, P.info? a = some i ∧ i.zero = some z := by
    cases h : P.info? a with
    | none => rw [h] at hz; simp at hz
    | some i => rw [h] at hz; exact ⟨i, rfl, by simpa using hz⟩
  by_cases ht : t = a
  · subst ht
    cases d <;> simp_all [Instr.typeAssert, run_underlying hu]
  · cases d <;> simp_all [Instr.typeAssert, run_underlying hu, typeInfo, zeroValue]
theorem run_assert_nil {P : Program} {a xT : TypeId} {d : TypeDesc} {z : Value} (hu : P.underlying a = some d) (hn : ∀ m, d ≠ .interface m) (hz : (P.info? a).map (·.zero) = some (some z)) (w : World) :
    (Instr.typeAssert .nilIface xT a true).run P w = .ok (.tuple #[z, .bool false]) w := by
  obtain ⟨i, hi, hz'⟩ : ∃ i, P.info? a = some i ∧ i.zero = some z := by
    cases h : P.info? a with
    | none => rw [h] at hz; simp at hz
    | some i => rw [h] at hz; exact ⟨i, rfl, by simpa using hz⟩
  cases d <;> simp_all [Instr.typeAssert, run_underlying hu, typeInfo, zeroValue]
theorem as0 (t : TypeId) (v : Value) (w : World) : (Instr.typeAssert (.iface t v) 20 2 true).run Try.prog w = .ok (.tuple (if t = 2 then #[v, .bool true] else #[.int .i64 0, .bool false])) w := run_assert Try.underlying2 (by intro m h; cases h) (by kernel_rfl) w
theorem an0 (w : World) : (Instr.typeAssert .nilIface 20 2 true).run Try.prog w = .ok (.tuple #[.int .i64 0, .bool false]) w := run_assert_nil Try.underlying2 (by intro m h; cases h) (by kernel_rfl) w
theorem as1 (t : TypeId) (v : Value) (w : World) : (Instr.typeAssert (.iface t v) 20 3 true).run Try.prog w = .ok (.tuple (if t = 3 then #[v, .bool true] else #[.int .i64 0, .bool false])) w := run_assert Try.underlying3 (by intro m h; cases h) (by kernel_rfl) w
theorem an1 (w : World) : (Instr.typeAssert .nilIface 20 3 true).run Try.prog w = .ok (.tuple #[.int .i64 0, .bool false]) w := run_assert_nil Try.underlying3 (by intro m h; cases h) (by kernel_rfl) w
theorem as2 (t : TypeId) (v : Value) (w : World) : (Instr.typeAssert (.iface t v) 20 4 true).run Try.prog w = .ok (.tuple (if t = 4 then #[v, .bool true] else #[.bool false, .bool false])) w := run_assert Try.underlying4 (by intro m h; cases h) (by kernel_rfl) w
theorem an2 (w : World) : (Instr.typeAssert .nilIface 20 4 true).run Try.prog w = .ok (.tuple #[.bool false, .bool false]) w := run_assert_nil Try.underlying4 (by intro m h; cases h) (by kernel_rfl) w
theorem as3 (t : TypeId) (v : Value) (w : World) : (Instr.typeAssert (.iface t v) 20 21 true).run Try.prog w = .ok (.tuple (if t = 21 then #[v, .bool true] else #[.int .i32 0, .bool false])) w := run_assert Try.underlying21 (by intro m h; cases h) (by kernel_rfl) w
theorem an3 (w : World) : (Instr.typeAssert .nilIface 20 21 true).run Try.prog w = .ok (.tuple #[.int .i32 0, .bool false]) w := run_assert_nil Try.underlying21 (by intro m h; cases h) (by kernel_rfl) w
theorem as4 (t : TypeId) (v : Value) (w : World) : (Instr.typeAssert (.iface t v) 20 9 true).run Try.prog w = .ok (.tuple (if t = 9 then #[v, .bool true] else #[.string ⟨#[]⟩, .bool false])) w := run_assert Try.underlying9 (by intro m h; cases h) (by kernel_rfl) w
theorem an4 (w : World) : (Instr.typeAssert .nilIface 20 9 true).run Try.prog w = .ok (.tuple #[.string ⟨#[]⟩, .bool false]) w := run_assert_nil Try.underlying9 (by intro m h; cases h) (by kernel_rfl) w
theorem as5 (t : TypeId) (v : Value) (w : World) : (Instr.typeAssert (.iface t v) 20 53 true).run Try.prog w = .ok (.tuple (if t = 53 then #[v, .bool true] else #[.slice none 0 0, .bool false])) w := run_assert Try.underlying53 (by intro m h; cases h) (by kernel_rfl) w
theorem an5 (w : World) : (Instr.typeAssert .nilIface 20 53 true).run Try.prog w = .ok (.tuple #[.slice none 0 0, .bool false]) w := run_assert_nil Try.underlying53 (by intro m h; cases h) (by kernel_rfl) w

/-- What has which number; none: what has none. -/
inductive Num : Value → Option Int → Prop
  | i64 (n : Int) : Num (.iface 2 (.int .i64 n)) (some n)
  | int (n : Int) (h0 : -9223372036854775808 ≤ n) (h1 : n ≤ 9223372036854775807) : Num (.iface 3 (.int .i64 n)) (some n)
  | bool (b : Bool) : Num (.iface 4 (.bool b)) (some (if b then 1 else 0))
  | rune (r : Int) (h0 : -2147483648 ≤ r) (h1 : r ≤ 2147483647) : Num (.iface 21 (.int .i32 r)) (some r)
  | str (s : ByteArray) (h : s.size ≤ 9223372036854775807) : Num (.iface 9 (.string s)) (some (runesN s : Nat))
  | list (A : Option Addr) (n c : Nat) (h : n ≤ 9223372036854775807) : Num (.iface 53 (.slice A n c)) (some n)
  | nil : Num .nilIface none
  | other (t : TypeId) (u : Value) (h1 : t ≠ 2) (h2 : t ≠ 3) (h3 : t ≠ 4) (h4 : t ≠ 21) (h5 : t ≠ 9) (h6 : t ≠ 53) : Num (.iface t u) none
/-- A number as an interface value; nil. -/
def numV : Option Int → Value
  | some n => .iface 2 (.int .i64 n)
  | none => .nilIface
def NumberPost (r : Option Int) (w : World) (e : Ending) (w' : World) : Prop := e = .returned (numV r) ∧ Chg [] w w'
section
variable {w : World} {v : Value} {r : Option Int}
set_option maxHeartbeats 2000000 in
set_option maxRecDepth 100000 in
theorem number_any (h : Num v r) : Calls Try.prog 54 #[v] w (NumberPost r w) := by
  cases h with
  | i64 n =>
    have q0 := as0 2 (.int .i64 n)
    have q1 := as1 2 (.int .i64 n)
    have q2 := as2 2 (.int .i64 n)
    have q3 := as3 2 (.int .i64 n)
    have q4 := as4 2 (.int .i64 n)
    have q5 := as5 2 (.int .i64 n)
    simp only [reduceIte, Nat.reduceEqDiff] at q0 q1 q2 q3 q4 q5
    go_enter Try.func54, Try.ntmps54
    go_wp2_with fail
    go_ret
    exact ⟨rfl, Chg.refl _ _⟩
  | int n h0 h1 =>
    have q0 := as0 3 (.int .i64 n)
    have q1 := as1 3 (.int .i64 n)
    have q2 := as2 3 (.int .i64 n)
    have q3 := as3 3 (.int .i64 n)
    have q4 := as4 3 (.int .i64 n)
    have q5 := as5 3 (.int .i64 n)
    simp only [reduceIte, Nat.reduceEqDiff] at q0 q1 q2 q3 q4 q5
    go_enter Try.func54, Try.ntmps54
    go_wp2_with fail
    go_ret
    exact ⟨rfl, Chg.refl _ _⟩
  | bool b =>
    cases b with
    | true =>
      have q0 := as0 4 (.bool true)
      have q1 := as1 4 (.bool true)
      have q2 := as2 4 (.bool true)
      have q3 := as3 4 (.bool true)
      have q4 := as4 4 (.bool true)
      have q5 := as5 4 (.bool true)
      simp only [reduceIte, Nat.reduceEqDiff] at q0 q1 q2 q3 q4 q5
      go_enter Try.func54, Try.ntmps54
      go_wp2_with (go_at_call 70; refine (rtruth_any true).mono ?_; rintro e w' ⟨rfl, rfl⟩)
      go_ret
      exact ⟨rfl, Chg.refl _ _⟩
    | false =>
      have q0 := as0 4 (.bool false)
      have q1 := as1 4 (.bool false)
      have q2 := as2 4 (.bool false)
      have q3 := as3 4 (.bool false)
      have q4 := as4 4 (.bool false)
      have q5 := as5 4 (.bool false)
      simp only [reduceIte, Nat.reduceEqDiff] at q0 q1 q2 q3 q4 q5
      go_enter Try.func54, Try.ntmps54
      go_wp2_with (go_at_call 70; refine (rtruth_any false).mono ?_; rintro e w' ⟨rfl, rfl⟩)
      go_ret
      exact ⟨rfl, Chg.refl _ _⟩
  | rune r h0 h1 =>
    have q0 := as0 21 (.int .i32 r)
    have q1 := as1 21 (.int .i32 r)
    have q2 := as2 21 (.int .i32 r)
    have q3 := as3 21 (.int .i32 r)
    have q4 := as4 21 (.int .i32 r)
    have q5 := as5 21 (.int .i32 r)
    simp only [reduceIte, Nat.reduceEqDiff] at q0 q1 q2 q3 q4 q5
    go_enter Try.func54, Try.ntmps54
    go_wp2_with fail
    go_ret
    exact ⟨rfl, Chg.refl _ _⟩
  | str s hs =>
    have q0 := as0 9 (.string s)
    have q1 := as1 9 (.string s)
    have q2 := as2 9 (.string s)
    have q3 := as3 9 (.string s)
    have q4 := as4 9 (.string s)
    have q5 := as5 9 (.string s)
    simp only [reduceIte, Nat.reduceEqDiff] at q0 q1 q2 q3 q4 q5
    go_enter Try.func54, Try.ntmps54
    go_wp2_with (go_at_call 71; refine (runes_any s hs).mono ?_; rintro e w1 ⟨rfl, hc⟩)
    go_ret
    exact ⟨rfl, hc⟩
  | list A n c hn =>
    have q0 := as0 53 (.slice A n c)
    have q1 := as1 53 (.slice A n c)
    have q2 := as2 53 (.slice A n c)
    have q3 := as3 53 (.slice A n c)
    have q4 := as4 53 (.slice A n c)
    have q5 := as5 53 (.slice A n c)
    simp only [reduceIte, Nat.reduceEqDiff] at q0 q1 q2 q3 q4 q5
    go_enter Try.func54, Try.ntmps54
    go_wp2_with fail
    go_ret
    exact ⟨rfl, Chg.refl _ _⟩
  | nil =>
    have q0 := an0
    have q1 := an1
    have q2 := an2
    have q3 := an3
    have q4 := an4
    have q5 := an5
    go_enter Try.func54, Try.ntmps54
    go_wp2_with fail
    go_ret
    exact ⟨rfl, Chg.refl _ _⟩
  | other t u h1 h2 h3 h4 h5 h6 =>
    have q0 := as0 t u
    have q1 := as1 t u
    have q2 := as2 t u
    have q3 := as3 t u
    have q4 := as4 t u
    have q5 := as5 t u
    simp only [if_neg h1] at q0
    simp only [if_neg h2] at q1
    simp only [if_neg h3] at q2
    simp only [if_neg h4] at q3
    simp only [if_neg h5] at q4
    simp only [if_neg h6] at q5
    go_enter Try.func54, Try.ntmps54
    go_wp2_with fail
    go_ret
    exact ⟨rfl, Chg.refl _ _⟩
/-- Of's answer. -/
def OfPost (r : Option Int) (w : World) (e : Ending) (w' : World) : Prop := e = .returned (.tuple #[.int .i64 (r.getD 0), .bool r.isSome]) ∧ Chg [] w w'
set_option maxHeartbeats 1000000 in
set_option maxRecDepth 100000 in
theorem vof_any (h : Num v r) : Calls Try.prog 38 #[v] w (OfPost r w) := by
  cases r with
  | some n =>
    have q0 := as0 2 (.int .i64 n)
    simp only [reduceIte] at q0
    go_enter Try.func38, Try.ntmps38
    go_wp2_with (go_at_call 54; refine (number_any h).mono ?_; rintro e w1 ⟨rfl, hc⟩; simp only [numV])
    go_ret2
    exact ⟨rfl, hc⟩
  | none =>
    have q0 := an0
    go_enter Try.func38, Try.ntmps38
    go_wp2_with (go_at_call 54; refine (number_any h).mono ?_; rintro e w1 ⟨rfl, hc⟩; simp only [numV])
    go_ret2
    exact ⟨rfl, hc⟩
end
end Go.Proofs.Ytigbnmckdjlihaa
