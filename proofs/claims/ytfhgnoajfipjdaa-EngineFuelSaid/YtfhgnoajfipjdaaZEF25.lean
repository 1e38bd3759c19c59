/-
  EF: NestOf, Waits, Reply, ReplyAll, RowE, NestFacts, NestRel, NestKnown, LawNestW.
-/
import Derived.Test.YtfhgnoajfipjdaaZEF1
import Derived.Test.YtfhgnoajfipjdaaZEF2
import Derived.Test.YtfhgnoajfipjdaaZEF3
import Derived.Test.YtfhgnoajfipjdaaZEF4
import Derived.Test.YtfhgnoajfipjdaaZEF5
import Derived.Test.YtfhgnoajfipjdaaZEF13
import Derived.Test.YtfhgnoajfipjdaaZEF18
import Derived.Test.YtfhgnoajfipjdaaZEF22
import Derived.Test.YtfhgnoajfipjdaaChecked
import Derived.Laws.RangeString
import Derived.Laws.RangeAny
import Derived.LoopTactic
import Derived.Defers
import Derived.Recover
import Derived.Laws.Pointers
import Derived.Deep.DeepCutAuto
import Derived.Deep.QuietTactic
import Derived.BigQuiet
import Derived.Laws.Entries
namespace Go.Proofs.Ytfhgnoajfipjdaa
open Go.RowKit
def OfPost8 (n : Nat) (r : Option (List Int × Nat)) (W : World) (e : Ending) (w' : World) : Prop :=
  Chg [] W w' ∧ ((∃ t d g, r = some (t, d) ∧ t.length = n ∧ e = .returned (.tuple #[.slice (some ⟨g, 0, none⟩) n n, .int .i64 0]) ∧ Whole w' g 3 (nms t)) ∨
    (r = none ∧ e = .returned (.tuple #[.slice none 0 0, .int .i64 13])))
section
variable {W : World} {A : Option Addr} {n c : Nat} {l : List TkV}
set_option maxHeartbeats 1000000 in
theorem nof_any (h : Tks W A n c l) : Calls Try.prog 60 #[.slice A n c] W (OfPost8 n (nNest (signs l)) W) := by
  go_enter Try.func60, Try.ntmps60
  go_wp2_with fail
  refine (match_any h).mono ?_
  rintro e w1 ⟨hc, ⟨t, d, g, hr, htl, rfl, hT, _⟩ | ⟨hr, v, d, rfl⟩⟩
  · have HPO := Lib.hid (show OfPost8 n (nNest (signs l)) W (.returned (.tuple #[.slice (some ⟨g, 0, none⟩) n n, .int .i64 0])) w1 from ⟨hc, .inl ⟨t, d, g, hr, htl, rfl, hT⟩⟩)
    clear hr htl hT hc h
    go_wp2_with fail
    go_ret2
    exact HPO.out
  · have HPO := Lib.hid (show OfPost8 n (nNest (signs l)) W (.returned (.tuple #[.slice none 0 0, .int .i64 13])) w1 from ⟨hc, .inr ⟨hr, rfl⟩⟩)
    clear hr hc h
    go_wp2_with fail
    go_ret2
    exact HPO.out
end
end Go.Proofs.Ytfhgnoajfipjdaa
namespace Go.Proofs.Ytfhgnoajfipjdaa
open Go.RowKit

/-- Which of the first k wait, rising. -/
def wl (V : List Bool) (k : Nat) : List Nat := (List.range k).filter fun i => V.getD i false
theorem chg_grown {T : List Nat} {a w w' : World} {row : Option Nat} (h : Chg T a w) (hg : w.grownBy w' row) (hr : ∀ g, row = some g → a.heap.size ≤ g) : Chg T a w' :=
  h.then_ (T' := row.toList) (Chg.of_grown hg fun g e _ => by simp [e]) fun i hi hlt => by
    have := hr i (by simpa using hi)
    omega

end Go.Proofs.Ytfhgnoajfipjdaa
namespace Go.Proofs.Ytfhgnoajfipjdaa
open Go.RowKit

theorem rune_width (s : ByteArray) (pos : Nat) (h : pos < s.size) : 1 ≤ (Utf8.decode s pos).2 := by
  by_cases ha : (s[pos]'h).toNat < 128
  · rw [decode_ascii s pos h ha]
    exact Nat.le_refl _
  · exact (decode_high s pos h (by omega)).2
/-- How many runes from pos on; b: rounds at most. -/
def cntR (s : ByteArray) : Nat → Nat → Nat
  | 0, _ => 0
  | b + 1, pos => if pos < s.size then cntR s b (pos + (Utf8.decode s pos).2) + 1 else 0
def runesN (s : ByteArray) : Nat := cntR s s.size 0
theorem cntR_end (s : ByteArray) (b pos : Nat) (h : ¬ pos < s.size) : cntR s b pos = 0 := by
  cases b with
  | zero => rfl
  | succ b => simp [cntR, h]
theorem cntR_next (s : ByteArray) (b pos : Nat) (h : pos < s.size) (hb : s.size ≤ pos + b) : ∃ c, b = c + 1 ∧ cntR s b pos = cntR s c (pos + (Utf8.decode s pos).2) + 1 := by
  obtain ⟨c, rfl⟩ : ∃ c, b = c + 1 := ⟨b - 1, by omega⟩
  exact ⟨c, rfl, by simp [cntR, h]⟩
theorem chg_iter (w : World) (s : ByteArray) (pos : Nat) : Chg [] w (w.iter s pos) :=
  (Chg.refl [] w).alloc _

section
variable {w : World}
set_option maxHeartbeats 400000 in
theorem rtruth_any (b : Bool) : Calls Try.prog 145 #[.bool b] w fun e w' => e = .returned (.int .i64 (if b then 1 else 0)) ∧ w = w' := by
  cases b <;>
  · go_enter Try.func145, Try.ntmps145
    go_wp2_with fail
    go_ret
    exact ⟨rfl, rfl⟩
/-- A number, and only new memory. -/
def NumPost (n : Int) (w : World) (e : Ending) (w' : World) : Prop := e = .returned (.int .i64 n) ∧ Chg [] w w'
set_option maxHeartbeats 1000000 in
set_option maxRecDepth 1000000 in
theorem nrunes_any (s : ByteArray) (hs : s.size ≤ 9223372036854775807) : Calls Try.prog 146 #[.string s] w (NumPost (runesN s) w) := by
  go_enter Try.func146, Try.ntmps146
  go_wp2
  go_loopw [3] (fun n wr => ∃ (pos b acc : Nat), wr = w.iter s pos ∧ n = .int .i64 (acc : Int) ∧ acc ≤ pos ∧ acc + cntR s b pos = runesN s ∧ s.size ≤ pos + b) (fun _ wr => s.size - wr.iterPos w.heap.size)
  case atStart => exact ⟨0, s.size, 0, rfl, rfl, Nat.le_refl _, by unfold runesN; omega, by omega⟩
  case round =>
    obtain ⟨pos, b, acc, rfl, rfl, hap, hcnt, hb⟩ := hrel
    by_cases hlt : pos < s.size
    · obtain ⟨c, rfl, hn⟩ := cntR_next s b pos hlt hb
      have hw := rune_width s pos hlt
      have HN := Lib.hid hn
      have HC := Lib.hid hcnt
      clear hn hcnt
      have hnx := run_next_any (P := Try.prog) w s pos
      go_wp2
      go_roundw
      case rel => exact ⟨_, c, acc + 1, rfl, by go_num, by omega, by have := HN.out; have := HC.out; omega, by omega⟩
      case measure => simp; omega
    · have HC := Lib.hid hcnt
      clear hcnt
      have hne := run_next_end (P := Try.prog) w s pos
      go_wp2
      go_ret
      have h1 := HC.out
      rw [cntR_end s b pos hlt] at h1
      exact ⟨by rw [← h1]; rfl, chg_iter w s pos⟩
end

/-- A comma-ok assertion to a type that is no interface. -/
theorem run_assert {P : Program} {a t xT : TypeId} {d : TypeDesc} {v z : Value} (hu : P.underlying a = some d) (hn : ∀ m, d ≠ .interface m) (hz : (P.info? a).map (·.zero) = some (some z)) (w : World) :
    (Instr.typeAssert (.iface t v) xT a true).run P w = .ok (.tuple (if t = a then #[v, .bool true] else #[z, .bool false])) w := by
  obtain ⟨i, hi, hz'⟩ : ∃ i, P.info? a = some i ∧ i.zero = some z := by
    cases h : P.info? a with
    | none => rw [h] at hz; simp at hz
    | some i => rw [h] at hz; exact ⟨i, rfl, by simpa using hz⟩
  by_cases ht : t = a
  · subst ht
    cases d <;> simp_all [Instr.typeAssert, run_underlying hu]
  · cases d <;> simp_all [Instr.typeAssert, run_underlying hu, typeInfo, zeroValue]
theorem run_assert_nil {P : Program} {a xT : TypeId} {d : TypeDesc} {z : Value} (hu : P.underlying a = some d) (hn : ∀ m, d ≠ .interface m) (hz : (P.info? a).map (·.zero) = some (some z)) (w : World) :
    (Instr.typeAssert .nilIface xT a true).run P w = .ok (.tuple #[z, .bool false]) w := by
  obtain ⟨i, hi, hz'⟩ : ∃ i, P.info? a = some i ∧ i.zero = some z := by
    cases h : P.info? a with
    | none => rw [h] at hz; simp at hz
    | some i => rw [h] at hz; exact ⟨i, rfl, by simpa using hz⟩
  cases d <;> simp_all [Instr.typeAssert, run_underlying hu, typeInfo, zeroValue]
theorem as0 (t : TypeId) (v : Value) (w : World) : (Instr.typeAssert (.iface t v) 20 2 true).run Try.prog w = .ok (.tuple (if t = 2 then #[v, .bool true] else #[.int .i64 0, .bool false])) w := run_assert Try.underlying2 (by intro m h; cases h) (by kernel_rfl) w
theorem an0 (w : World) : (Instr.typeAssert .nilIface 20 2 true).run Try.prog w = .ok (.tuple #[.int .i64 0, .bool false]) w := run_assert_nil Try.underlying2 (by intro m h; cases h) (by kernel_rfl) w
theorem as1 (t : TypeId) (v : Value) (w : World) : (Instr.typeAssert (.iface t v) 20 3 true).run Try.prog w = .ok (.tuple (if t = 3 then #[v, .bool true] else #[.int .i64 0, .bool false])) w := run_assert Try.underlying3 (by intro m h; cases h) (by kernel_rfl) w
theorem an1 (w : World) : (Instr.typeAssert .nilIface 20 3 true).run Try.prog w = .ok (.tuple #[.int .i64 0, .bool false]) w := run_assert_nil Try.underlying3 (by intro m h; cases h) (by kernel_rfl) w
theorem as2 (t : TypeId) (v : Value) (w : World) : (Instr.typeAssert (.iface t v) 20 4 true).run Try.prog w = .ok (.tuple (if t = 4 then #[v, .bool true] else #[.bool false, .bool false])) w := run_assert Try.underlying4 (by intro m h; cases h) (by kernel_rfl) w
theorem an2 (w : World) : (Instr.typeAssert .nilIface 20 4 true).run Try.prog w = .ok (.tuple #[.bool false, .bool false]) w := run_assert_nil Try.underlying4 (by intro m h; cases h) (by kernel_rfl) w
theorem as3 (t : TypeId) (v : Value) (w : World) : (Instr.typeAssert (.iface t v) 20 21 true).run Try.prog w = .ok (.tuple (if t = 21 then #[v, .bool true] else #[.int .i32 0, .bool false])) w := run_assert Try.underlying21 (by intro m h; cases h) (by kernel_rfl) w
theorem an3 (w : World) : (Instr.typeAssert .nilIface 20 21 true).run Try.prog w = .ok (.tuple #[.int .i32 0, .bool false]) w := run_assert_nil Try.underlying21 (by intro m h; cases h) (by kernel_rfl) w
theorem as4 (t : TypeId) (v : Value) (w : World) : (Instr.typeAssert (.iface t v) 20 9 true).run Try.prog w = .ok (.tuple (if t = 9 then #[v, .bool true] else #[.string ⟨#[]⟩, .bool false])) w := run_assert Try.underlying9 (by intro m h; cases h) (by kernel_rfl) w
theorem an4 (w : World) : (Instr.typeAssert .nilIface 20 9 true).run Try.prog w = .ok (.tuple #[.string ⟨#[]⟩, .bool false]) w := run_assert_nil Try.underlying9 (by intro m h; cases h) (by kernel_rfl) w
theorem as5 (t : TypeId) (v : Value) (w : World) : (Instr.typeAssert (.iface t v) 20 60 true).run Try.prog w = .ok (.tuple (if t = 60 then #[v, .bool true] else #[.slice none 0 0, .bool false])) w := run_assert Try.underlying60 (by intro m h; cases h) (by kernel_rfl) w
theorem an5 (w : World) : (Instr.typeAssert .nilIface 20 60 true).run Try.prog w = .ok (.tuple #[.slice none 0 0, .bool false]) w := run_assert_nil Try.underlying60 (by intro m h; cases h) (by kernel_rfl) w

/-- What has which number; none: what has none. -/
inductive Num : Value → Option Int → Prop
  | i64 (n : Int) : Num (.iface 2 (.int .i64 n)) (some n)
  | int (n : Int) (h0 : -9223372036854775808 ≤ n) (h1 : n ≤ 9223372036854775807) : Num (.iface 3 (.int .i64 n)) (some n)
  | bool (b : Bool) : Num (.iface 4 (.bool b)) (some (if b then 1 else 0))
  | rune (r : Int) (h0 : -2147483648 ≤ r) (h1 : r ≤ 2147483647) : Num (.iface 21 (.int .i32 r)) (some r)
  | str (s : ByteArray) (h : s.size ≤ 9223372036854775807) : Num (.iface 9 (.string s)) (some (runesN s : Nat))
  | list (A : Option Addr) (n c : Nat) (h : n ≤ 9223372036854775807) : Num (.iface 60 (.slice A n c)) (some n)
  | nil : Num .nilIface none
  | other (t : TypeId) (u : Value) (h1 : t ≠ 2) (h2 : t ≠ 3) (h3 : t ≠ 4) (h4 : t ≠ 21) (h5 : t ≠ 9) (h6 : t ≠ 60) : Num (.iface t u) none
/-- A number as an interface value; nil. -/
def numIV : Option Int → Value
  | some n => .iface 2 (.int .i64 n)
  | none => .nilIface
def NumberPost (r : Option Int) (w : World) (e : Ending) (w' : World) : Prop := e = .returned (numIV r) ∧ Chg [] w w'
section
variable {w : World} {v : Value} {r : Option Int}
set_option maxHeartbeats 2000000 in
set_option maxRecDepth 100000 in
theorem number_any (h : Num v r) : Calls Try.prog 98 #[v] w (NumberPost r w) := by
  cases h with
  | i64 n =>
    have q0 := as0 2 (.int .i64 n)
    have q1 := as1 2 (.int .i64 n)
    have q2 := as2 2 (.int .i64 n)
    have q3 := as3 2 (.int .i64 n)
    have q4 := as4 2 (.int .i64 n)
    have q5 := as5 2 (.int .i64 n)
    simp only [reduceIte, Nat.reduceEqDiff] at q0 q1 q2 q3 q4 q5
    go_enter Try.func98, Try.ntmps98
    go_wp2_with fail
    go_ret
    exact ⟨rfl, Chg.refl _ _⟩
  | int n h0 h1 =>
    have q0 := as0 3 (.int .i64 n)
    have q1 := as1 3 (.int .i64 n)
    have q2 := as2 3 (.int .i64 n)
    have q3 := as3 3 (.int .i64 n)
    have q4 := as4 3 (.int .i64 n)
    have q5 := as5 3 (.int .i64 n)
    simp only [reduceIte, Nat.reduceEqDiff] at q0 q1 q2 q3 q4 q5
    go_enter Try.func98, Try.ntmps98
    go_wp2_with fail
    go_ret
    exact ⟨rfl, Chg.refl _ _⟩
  | bool b =>
    cases b with
    | true =>
      have q0 := as0 4 (.bool true)
      have q1 := as1 4 (.bool true)
      have q2 := as2 4 (.bool true)
      have q3 := as3 4 (.bool true)
      have q4 := as4 4 (.bool true)
      have q5 := as5 4 (.bool true)
      simp only [reduceIte, Nat.reduceEqDiff] at q0 q1 q2 q3 q4 q5
      go_enter Try.func98, Try.ntmps98
      go_wp2_with (go_at_call 145; refine (rtruth_any true).mono ?_; rintro e w' ⟨rfl, rfl⟩)
      go_ret
      exact ⟨rfl, Chg.refl _ _⟩
    | false =>
      have q0 := as0 4 (.bool false)
      have q1 := as1 4 (.bool false)
      have q2 := as2 4 (.bool false)
      have q3 := as3 4 (.bool false)
      have q4 := as4 4 (.bool false)
      have q5 := as5 4 (.bool false)
      simp only [reduceIte, Nat.reduceEqDiff] at q0 q1 q2 q3 q4 q5
      go_enter Try.func98, Try.ntmps98
      go_wp2_with (go_at_call 145; refine (rtruth_any false).mono ?_; rintro e w' ⟨rfl, rfl⟩)
      go_ret
      exact ⟨rfl, Chg.refl _ _⟩
  | rune r h0 h1 =>
    have q0 := as0 21 (.int .i32 r)
    have q1 := as1 21 (.int .i32 r)
    have q2 := as2 21 (.int .i32 r)
    have q3 := as3 21 (.int .i32 r)
    have q4 := as4 21 (.int .i32 r)
    have q5 := as5 21 (.int .i32 r)
    simp only [reduceIte, Nat.reduceEqDiff] at q0 q1 q2 q3 q4 q5
    go_enter Try.func98, Try.ntmps98
    go_wp2_with fail
    go_ret
    exact ⟨rfl, Chg.refl _ _⟩
  | str s hs =>
    have q0 := as0 9 (.string s)
    have q1 := as1 9 (.string s)
    have q2 := as2 9 (.string s)
    have q3 := as3 9 (.string s)
    have q4 := as4 9 (.string s)
    have q5 := as5 9 (.string s)
    simp only [reduceIte, Nat.reduceEqDiff] at q0 q1 q2 q3 q4 q5
    go_enter Try.func98, Try.ntmps98
    go_wp2_with (go_at_call 146; refine (nrunes_any s hs).mono ?_; rintro e w1 ⟨rfl, hc⟩)
    go_ret
    exact ⟨rfl, hc⟩
  | list A n c hn =>
    have q0 := as0 60 (.slice A n c)
    have q1 := as1 60 (.slice A n c)
    have q2 := as2 60 (.slice A n c)
    have q3 := as3 60 (.slice A n c)
    have q4 := as4 60 (.slice A n c)
    have q5 := as5 60 (.slice A n c)
    simp only [reduceIte, Nat.reduceEqDiff] at q0 q1 q2 q3 q4 q5
    go_enter Try.func98, Try.ntmps98
    go_wp2_with fail
    go_ret
    exact ⟨rfl, Chg.refl _ _⟩
  | nil =>
    have q0 := an0
    have q1 := an1
    have q2 := an2
    have q3 := an3
    have q4 := an4
    have q5 := an5
    go_enter Try.func98, Try.ntmps98
    go_wp2_with fail
    go_ret
    exact ⟨rfl, Chg.refl _ _⟩
  | other t u h1 h2 h3 h4 h5 h6 =>
    have q0 := as0 t u
    have q1 := as1 t u
    have q2 := as2 t u
    have q3 := as3 t u
    have q4 := as4 t u
    have q5 := as5 t u
    simp only [if_neg h1] at q0
    simp only [if_neg h2] at q1
    simp only [if_neg h3] at q2
    simp only [if_neg h4] at q3
    simp only [if_neg h5] at q4
    simp only [if_neg h6] at q5
    go_enter Try.func98, Try.ntmps98
    go_wp2_with fail
    go_ret
    exact ⟨rfl, Chg.refl _ _⟩
/-- Of's answer. -/
def OfPost (r : Option Int) (w : World) (e : Ending) (w' : World) : Prop := e = .returned (.tuple #[.int .i64 (r.getD 0), .bool r.isSome]) ∧ Chg [] w w'
set_option maxHeartbeats 1000000 in
set_option maxRecDepth 100000 in
theorem vof_any (h : Num v r) : Calls Try.prog 56 #[v] w (OfPost r w) := by
  cases r with
  | some n =>
    have q0 := as0 2 (.int .i64 n)
    simp only [reduceIte] at q0
    go_enter Try.func56, Try.ntmps56
    go_wp2_with (go_at_call 98; refine (number_any h).mono ?_; rintro e w1 ⟨rfl, hc⟩; simp only [numIV])
    go_ret2
    exact ⟨rfl, hc⟩
  | none =>
    have q0 := an0
    go_enter Try.func56, Try.ntmps56
    go_wp2_with (go_at_call 98; refine (number_any h).mono ?_; rintro e w1 ⟨rfl, hc⟩; simp only [numIV])
    go_ret2
    exact ⟨rfl, hc⟩
end
end Go.Proofs.Ytfhgnoajfipjdaa
namespace Go.Proofs.Ytfhgnoajfipjdaa
open Go.RowKit

/-- Values and their numbers, one by one. -/
def Nums (vs : List Value) (rs : List (Option Int)) : Prop := vs.length = rs.length ∧ ∀ (i : Nat) (v : Value) (r : Option Int), vs[i]? = some v → rs[i]? = some r → Num v r
theorem Nums.nil : Nums [] [] := ⟨rfl, fun i v r h _ => by simp at h⟩
theorem Nums.cons {v : Value} {r : Option Int} {vs : List Value} {rs : List (Option Int)} (h : Num v r) (k : Nums vs rs) : Nums (v :: vs) (r :: rs) := by
  refine ⟨by simp [k.1], fun i u q hu hq => ?_⟩
  cases i with
  | zero => simp at hu hq; subst hu; subst hq; exact h
  | succ i => simp at hu hq; exact k.2 i u q hu hq
theorem Nums.app {vs vs' : List Value} {rs rs' : List (Option Int)} (h : Nums vs rs) (k : Nums vs' rs') : Nums (vs ++ vs') (rs ++ rs') := by
  refine ⟨by simp [h.1, k.1], fun i u q hu hq => ?_⟩
  rcases Nat.lt_or_ge i vs.length with hi | hi
  · rw [List.getElem?_append_left hi] at hu
    rw [List.getElem?_append_left (by rw [← h.1]; exact hi)] at hq
    exact h.2 i u q hu hq
  · rw [List.getElem?_append_right hi] at hu
    rw [List.getElem?_append_right (by rw [← h.1]; exact hi), ← h.1] at hq
    exact k.2 _ u q hu hq
theorem nms_one (l : List Int) : ∀ v ∈ nms l, v.oneCell' = true := by
  intro v hv
  simp only [nms, List.mem_map] at hv
  obtain ⟨c, _, rfl⟩ := hv
  rfl
theorem info_i64 : (Try.prog.info? 2).map (fun i => (i.zero, i.size, i.bytes)) = some (some (.int .i64 0), 1, 8) := by kernel_rfl
end Go.Proofs.Ytfhgnoajfipjdaa
namespace Go.Proofs.Ytfhgnoajfipjdaa
open Go.RowKit
theorem cells_new (w : World) (xs : List Value) (t : Nat) : ∀ (j : Nat) (u : Value), xs[j]? = some u → (w.alloc (.cells xs.toArray t)).cell? ((⟨w.heap.size, 0, none⟩ : Addr).add j) = some u := fun j u hj => by
  rw [add_plain, Nat.zero_add, (Whole.new w t xs).cell]; exact hj
/-- append, elements of any size: where the row lies then is told. -/
theorem wpList_append_n {P : Program} {w : World} {ops : Array Oper} {rest : List Oper} {o : Oper} {a : Act} {Q : Exit → Act → World → Prop} (hgd : o.guard = none) (s x : Operand) (t : TypeId)
    (ho : o.op = .call { callee := .builtin .append, args := #[s, x], argTypes := #[t, t] })
    (base : Nat) (e : TypeId) (i : TypeInfo) (z : Value) (size bytes : Nat) (ht : P.underlying t = some (.slice e)) (hi : P.info? e = some i) (hz : i.zero = some z)
    (hsize : i.size = size) (hby : i.bytes = bytes) (hzs : z.cells.size = size) (hsz : 0 < size)
    (v : Value) (n : Nat) (xs : List Value) (hse : a.eval s = v) (hown : w.ownsRow base e size v n xs)
    (ad : Addr) (m c : Nat) (news : List Value) (hxe : a.eval x = .slice (some ad) m c) (hl : news.length = m * size) (hnews : ∀ j u, news[j]? = some u → w.cell? (ad.add j) = some u) (h1 : ∀ u ∈ news, u.oneCell' = true)
    (h63 : n + m ≤ maxLen) (hbytes : (n + m) * bytes ≤ 140737488355328) (hbase : base ≤ w.heap.size)
    (h : ∀ v' w', w'.ownsRow base e size v' (n + m) (xs ++ news) → w.grownBy w' v.ownBlock → (v'.ownBlock = v.ownBlock ∨ v'.ownBlock = some w.heap.size) → wpList P ops Q rest (a.put o.dst v') w') : wpList P ops Q (o :: rest) a w := by
  refine wpList_plain hgd fun K hK => ?_
  obtain ⟨v', w', hrun, h2, h3, _, h5⟩ := run_append_own_at (P := P) w base t o.type e i z size bytes ht hi hz hsize hby hzs hsz v n xs hown ad m c news hl hnews h1 h63 hbytes hbase
  unfold Oper.wp execOp
  simp only [ho, resolve, invoke, builtin, Sem.run_bind, Sem.run_pure, Result.andThen_ok, List.map_toArray, List.map_cons, List.map_nil, hse, hxe, hrun]
  exact hK _ _ (h v' w' h2 h3 h5)
/-- Answers, asks, as cells hold them. -/
def ansC (rs : List (Option Int)) : List Value := rs.flatMap fun r => [.int .i64 (r.getD 0), .bool r.isSome]
def qsC (qs : List (Int × Int)) : List Value := qs.flatMap fun q => [.int .i32 q.1, .int .i64 q.2]
theorem pair_get {α : Type} (f g : α → Value) : ∀ (l : List α) (k : Nat) (a : α), l[k]? = some a → (l.flatMap fun a => [f a, g a])[k * 2]? = some (f a) ∧ (l.flatMap fun a => [f a, g a])[k * 2 + 1]? = some (g a)
  | [], k, a, h => by simp at h
  | b :: l, 0, a, h => by simp at h; subst h; exact ⟨rfl, rfl⟩
  | b :: l, k + 1, a, h => by
    simp at h
    have := pair_get f g l k a h
    rw [List.flatMap_cons, show (k + 1) * 2 = k * 2 + 2 by omega, show k * 2 + 2 + 1 = k * 2 + 1 + 2 by omega]
    exact this
theorem ans_get {rs : List (Option Int)} {k : Nat} {r : Option Int} (h : rs[k]? = some r) : (ansC rs)[k * 2]? = some (.int .i64 (r.getD 0)) ∧ (ansC rs)[k * 2 + 1]? = some (.bool r.isSome) := pair_get _ _ rs k r h
theorem qs_get {qs : List (Int × Int)} {k : Nat} {q : Int × Int} (h : qs[k]? = some q) : (qsC qs)[k * 2]? = some (.int .i32 q.1) ∧ (qsC qs)[k * 2 + 1]? = some (.int .i64 q.2) := pair_get _ _ qs k q h
theorem info_ans : (Try.prog.info? 116).map (fun i => (i.zero, i.size, i.bytes)) = some (some (.agg #[.int .i64 0, .bool false]), 2, 16) := by kernel_rfl
theorem info_rask : (Try.prog.info? 53).map (fun i => (i.zero, i.size, i.bytes)) = some (some (.agg #[.int .i32 0, .int .i64 0]), 2, 16) := by kernel_rfl
/-- What the next ask is answered. -/
def nextR (rs : List (Option Int)) (k : Nat) : Option Int := if k < rs.length then rs.getD k none else some 0
/-- A row of answers rs that was asked qs. -/
structure Rq (w : World) (p : Nat) (rs : List (Option Int)) (qs : List (Int × Int)) (a q : Value) : Prop where
  rec_ : Whole w p 112 [a, q]
  ans : w.ownsRow 0 116 2 a rs.length (ansC rs)
  asks : w.ownsRow 0 53 2 q qs.length (qsC qs)
abbrev rqT : List TypeId := [112, 53]
section
variable {w w' : World} {p : Nat} {rs : List (Option Int)} {qs : List (Int × Int)} {a q : Value} {K : Nat → Prop}
theorem Rq.keep (h : Rq w p rs qs a q) (hc : Chg [] w w') : Rq w' p rs qs a q := ⟨h.rec_.keep hc, rown_keep h.ans hc, rown_keep h.asks hc⟩
theorem Rq.fe {TS : List TypeId} (h : Rq w p rs qs a q) (hf : Fe K TS w w') (h1 : 112 ∉ TS) (h2 : 116 ∉ TS) (h3 : 53 ∉ TS) : Rq w' p rs qs a q := ⟨hf.whole h.rec_ h1, hf.own h.ans h2, hf.own h.asks h3⟩
/-- The row's struct is written. -/
theorem rown_lay {B n k : Nat} {e t : TypeId} {v u : Value} {xs cs : List Value} {j : Nat} (h : w.ownsRow B e k v n xs) (hp : Whole w p t cs) (hne : e ≠ t) : (w.setCell ⟨p, j, none⟩ u).ownsRow B e k v n xs := by
  refine ⟨h.1, h.2.imp id ?_⟩
  rintro ⟨g, cap, cur, rfl, hb, hh, r⟩
  refine ⟨g, cap, cur, rfl, hb, ?_, r⟩
  rw [Below.heap_setCell w ⟨p, j, none⟩ u g ?_]
  · exact hh
  · rintro rfl
    unfold Whole at hp
    rw [hh] at hp
    simp at hp
    exact hne hp.2
/-- An ask more. -/
theorem Rq.more (h : Rq w p rs qs a q) (hp : K p) (hq : ∀ i, q.ownBlock = some i → K i) (hnew : ∀ i, w.heap.size ≤ i → K i) {W2 w3 : World} (hc : Chg [] w W2) {x y : Int} {q' : Value} {n1 : Nat} (hn1 : n1 = qs.length + 1)
    (ho : w3.ownsRow 0 53 2 q' n1 (qsC qs ++ [.int .i32 x, .int .i64 y])) (hg : W2.grownBy w3 q.ownBlock) (hb : q'.ownBlock = q.ownBlock ∨ q'.ownBlock = some W2.heap.size) :
    Rq (w3.setCell ⟨p, 1, none⟩ q') p rs (qs ++ [(x, y)]) a q' ∧ Fe K rqT w (w3.setCell ⟨p, 1, none⟩ q') ∧ (∀ i, q'.ownBlock = some i → K i) ∧ Whole w3 p 112 [a, q] := by
  subst hn1
  have h2 := h.keep hc
  have hr3 := whole_grown h2.rec_ h2.asks (by decide) hg
  have ha3 := rown_grown h2.ans h2.asks (by decide) hg
  refine ⟨⟨hr3.set_ 1 _, rown_lay ha3 hr3 (by decide), ?_⟩, ((Fe.of_chg hc).grown h2.asks hq (by simp [rqT]) hg).setw hr3 hp (by simp [rqT]) _, fun i hi => ?_, hr3⟩
  · have := rown_lay (j := 1) (u := q') ho hr3 (by decide)
    rw [List.length_append, List.length_singleton, show qsC (qs ++ [(x, y)]) = qsC qs ++ [.int .i32 x, .int .i64 y] by simp [qsC]]
    exact this
  · rcases hb with hb | hb
    · exact hq i (hb.symm.trans hi)
    · rw [hb] at hi
      injection hi with hi
      exact hnew i (by have := hc.size; omega)
/-- New's answer. -/
def NewRq (w : World) (rs : List (Option Int)) (e : Ending) (w' : World) : Prop := ∃ p a, e = .returned (.pointer (some ⟨p, 0, none⟩)) ∧ Rq w' p rs [] a (.slice none 0 0) ∧ w.heap.size ≤ p ∧ Chg [] w w'
theorem qsC_cells (qs : List (Int × Int)) : ∀ v ∈ qsC qs, v.oneCell' = true := by
  intro v hv
  simp only [qsC, List.mem_flatMap, List.mem_cons, List.not_mem_nil, or_false] at hv
  obtain ⟨q, _, rfl | rfl⟩ := hv <;> rfl
theorem qsC_len (qs : List (Int × Int)) : (qsC qs).length = qs.length * 2 := by
  induction qs with
  | nil => rfl
  | cons q qs ih => simp only [qsC, List.flatMap_cons, List.length_append, List.length_cons, List.length_nil] at ih ⊢; omega
theorem Low.of_rown {B n k : Nat} {e : TypeId} {v : Value} {xs : List Value} (ho : w.ownsRow B e k v n xs) (hg : w.grownBy w' v.ownBlock) : Low B w w' :=
  ⟨hg.os, hg.tape, hg.output, hg.size, fun i hi hB => hg.block i hB fun hc => by
    rcases ho.2 with ⟨rfl, _⟩ | ⟨g, cap, cur, rfl, hb, _⟩
    · simp [Value.ownBlock] at hc
    · simp [Value.ownBlock] at hc; omega⟩
/-- A row, from block B on. -/
structure RwB (w : World) (B p : Nat) (rs : List (Option Int)) (a : Value) : Prop where
  rec_ : Whole w p 112 [a, .slice none 0 0]
  ans : w.ownsRow B 116 2 a rs.length (ansC rs)
  low : B ≤ p
theorem RwB.keep {w w' : World} {B p : Nat} {rs : List (Option Int)} {a : Value} (h : RwB w B p rs a) (hc : Chg [] w w') : RwB w' B p rs a := ⟨h.rec_.keep hc, rown_keep h.ans hc, h.low⟩
def AskPost (w : World) (K : Nat → Prop) (p : Nat) (rs : List (Option Int)) (qs : List (Int × Int)) (x y : Int) (e : Ending) (w' : World) : Prop :=
  ∃ a q, e = .returned (.tuple #[.int .i64 ((nextR rs qs.length).getD 0), .bool (nextR rs qs.length).isSome]) ∧ Rq w' p rs (qs ++ [(x, y)]) a q ∧ Fe K rqT w w' ∧ (∀ i, q.ownBlock = some i → K i)
set_option maxHeartbeats 2000000 in
set_option maxRecDepth 100000 in
theorem ask_any (h : Rq w p rs qs a q) (hp : K p) (hqK : ∀ i, q.ownBlock = some i → K i) (hnew : ∀ i, w.heap.size ≤ i → K i) (hq : qs.length ≤ 1000000000) (x y : Int) :
    Calls Try.prog 172 #[.pointer (some ⟨p, 0, none⟩), .int .i32 x, .int .i64 y] w (AskPost w K p rs qs x y) := by
  obtain ⟨i0, hi, hz0, hz1, hz2⟩ := info_parts info_rask
  obtain ⟨A1, c1, rfl, _, hcm1, hA1⟩ := rown_slice h.ans
  obtain ⟨A2, c2, rfl, _, hcm2, _⟩ := rown_slice h.asks
  have e0 := h.rec_.cell 0
  have e1 := h.rec_.cell 1
  have f1 := h.rec_.frozen 1
  have hal : Chg [] w (w.alloc (.cells #[.int .i32 x, .int .i64 y] 53)) := (Chg.refl [] w).alloc _
  have hown := rown_keep h.asks hal
  have fin : ∀ (v' : Value) (w3 : World), w3.ownsRow 0 53 2 v' (qs.length + 1) (qsC qs ++ [.int .i32 x, .int .i64 y]) → (w.alloc (.cells #[.int .i32 x, .int .i64 y] 53)).grownBy w3 (Value.slice A2 qs.length c2).ownBlock → (v'.ownBlock = (Value.slice A2 qs.length c2).ownBlock ∨ v'.ownBlock = some (w.alloc (.cells #[.int .i32 x, .int .i64 y] 53)).heap.size) →
      Hid (Rq (w3.setCell ⟨p, 1, none⟩ v') p rs (qs ++ [(x, y)]) (.slice A1 rs.length c1) v') ∧ Hid (Fe K rqT w (w3.setCell ⟨p, 1, none⟩ v')) ∧ Hid (∀ i, v'.ownBlock = some i → K i) ∧ Hid (Whole w3 p 112 [.slice A1 rs.length c1, .slice A2 qs.length c2]) := by
    intro v' w3 h1 h2 h3
    obtain ⟨r1, r2, r3, r4⟩ := h.more (K := K) hp hqK hnew hal rfl h1 h2 h3
    exact ⟨Lib.hid r1, Lib.hid r2, Lib.hid r3, Lib.hid r4⟩
  obtain ⟨N, hN⟩ : ∃ N, N = qs.length := ⟨_, rfl⟩
  obtain ⟨M, hM⟩ : ∃ M, M = rs.length := ⟨_, rfl⟩
  have HN := Lib.hid hN
  have HM := Lib.hid hM
  rw [← hN] at e1 hq hown fin
  rw [← hM] at e0 fin
  have FIN := Lib.hid fin
  have HOW := Lib.hid hown
  clear h hp hqK hnew hal hown fin hN hM
  by_cases hlt : N < M
  · have hltI : (N : Int) < (M : Int) := by omega
    go_enter Try.func172, Try.ntmps172
    go_wp2_with (at_builtin
                 refine wpList_append_n rfl (.tmp 18) (.tmp 22) _ rfl 0 53 i0 _ 2 16 Try.underlying32 hi hz0 hz1 hz2 rfl (by decide) (.slice A2 N c2) N (qsC qs) rfl HOW.out ⟨w.heap.size, 0, none⟩ 1 1 [.int .i32 x, .int .i64 y] rfl rfl (cells_new _ _ _) (by simp [Value.oneCell']) (by simp only [maxLen]; omega) (by omega) (Nat.zero_le _) ?_
                 intro v' w3 hown' hg' hb'
                 obtain ⟨HR3, HF3, HK3, HW3⟩ := FIN.out v' w3 hown' hg' hb'
                 obtain ⟨A3, c3, rfl, _, _, _⟩ := rown_slice hown'
                 have d0 := HW3.out.cell 0
                 have d1 := HW3.out.cell 1
                 have g1 := HW3.out.frozen 1
                 clear hown' hg' hb')
    generalize w3.setCell ⟨p, 1, none⟩ (.slice A3 (N + 1) c3) = w4 at HR3 HF3 ⊢
    clear d0 d1 g1
    have d0 := HR3.out.rec_.cell 0
    obtain ⟨r, hr⟩ : ∃ r, rs[N]? = some r := ⟨_, List.getElem?_eq_getElem (by have := HM.out; omega)⟩
    have ha3 := HR3.out.ans
    rw [← HM.out] at ha3
    obtain ⟨g, rfl, k1⟩ := rown_cell ha3 rfl (ans_get hr).1
    obtain ⟨g', hg', k2⟩ := rown_cell ha3 rfl (ans_get hr).2
    injection hg' with hg'
    injection hg' with hg'
    subst hg'
    clear ha3
    have HNX := Lib.hid (show nextR rs qs.length = r by unfold nextR; rw [← HN.out, if_pos (by rw [← HM.out]; exact hlt)]; simp [List.getD, hr])
    clear hr
    have HP := Lib.hid (show ∀ k, AskPost w K p rs qs x y (.returned (.tuple #[.int .i64 (r.getD 0), .bool r.isSome])) (w4.drewN k) from fun k =>
      ⟨_, _, by rw [HNX.out], HR3.out.keep ((Chg.refl [] w4).drewN k), HF3.out.new ((Chg.refl [] w4).drewN k), HK3.out⟩)
    go_quiet (fail)
    go_wp2_with fail
    go_ret2
    exact HP.out _
  · have hltI : (M : Int) ≤ (N : Int) := by omega
    go_enter Try.func172, Try.ntmps172
    go_wp2_with (at_builtin
                 refine wpList_append_n rfl (.tmp 18) (.tmp 22) _ rfl 0 53 i0 _ 2 16 Try.underlying32 hi hz0 hz1 hz2 rfl (by decide) (.slice A2 N c2) N (qsC qs) rfl HOW.out ⟨w.heap.size, 0, none⟩ 1 1 [.int .i32 x, .int .i64 y] rfl rfl (cells_new _ _ _) (by simp [Value.oneCell']) (by simp only [maxLen]; omega) (by omega) (Nat.zero_le _) ?_
                 intro v' w3 hown' hg' hb'
                 obtain ⟨HR3, HF3, HK3, HW3⟩ := FIN.out v' w3 hown' hg' hb'
                 obtain ⟨A3, c3, rfl, _, _, _⟩ := rown_slice hown'
                 have d0 := HW3.out.cell 0
                 have d1 := HW3.out.cell 1
                 have g1 := HW3.out.frozen 1
                 clear hown' hg' hb')
    go_ret2
    have HNX : nextR rs qs.length = some 0 := by unfold nextR; rw [← HN.out, if_neg (by rw [← HM.out]; exact hlt)]
    have HP : AskPost w K p rs qs x y (.returned (.tuple #[.int .i64 0, .bool true])) (w3.setCell ⟨p, 1, none⟩ (.slice A3 (N + 1) c3)) :=
      ⟨_, _, by rw [HNX]; rfl, HR3.out, HF3.out, HK3.out⟩
    exact HP
set_option maxHeartbeats 2000000 in
set_option maxRecDepth 100000 in
theorem rnew_any {vs : List Value} {A : Option Addr} {n c : Nat} (hN : Nums vs rs) (hs : Src w A vs) (hA : ∀ ad, A = some ad → ad.spot = none) (hn : vs.length = n) (hc : n ≤ c) (m : Nat) (hm : (m : Int) = min (n : Int) 64) :
    Calls Try.prog 15 #[.slice A n c] w (NewRq w (rs.take m)) := by
  have hmn : m ≤ n ∧ m ≤ 64 := by omega
  obtain ⟨i0, hi, hz0, hz1, hz2⟩ := info_parts info_ans
  have HVS := Lib.hid hn
  have HA := Lib.hid hA
  have HN := Lib.hid hN
  have HM := Lib.hid hm
  clear hn hA hN hm
  go_enter Try.func15, Try.ntmps15
  go_wp2_with fail
  rw [show min (n : Int) 64 = (m : Int) from HM.out.symm, Int.toNat_natCast, show max (m : Int) 0 = (m : Int) by omega]
  obtain ⟨p, hp⟩ : ∃ p, p = w.heap.size := ⟨_, rfl⟩
  have hR0 : RwB (w.alloc (.cells #[.slice none 0 0, .slice none 0 0] 112)) w.heap.size p (rs.take 0) (.slice none 0 0) :=
    ⟨by rw [hp]; exact Whole.new w 112 [.slice none 0 0, .slice none 0 0], World.ownsRow_nil _ _ _ _, Nat.le_of_eq hp.symm⟩
  have hc0 : Chg [] w (w.alloc (.cells #[.slice none 0 0, .slice none 0 0] 112)) := (Chg.refl _ _).alloc _
  rw [← hp]
  go_loopw [14] (fun i wr => ∃ k : Nat, k ≤ m ∧ i = .int .i64 (k : Int) ∧ (∃ a, RwB wr w.heap.size p (rs.take k) a) ∧ Chg [] w wr) (fun i _ => m - (intOf i).toNat)
  case atStart => exact ⟨0, Nat.zero_le _, rfl, ⟨_, hR0⟩, hc0⟩
  case round =>
    obtain ⟨k, hk, rfl, ⟨a, hR⟩, hcg⟩ := hrel
    have hwr := hcg.size
    have hpl : w.heap.size ≤ p := by omega
    have HC := Lib.hid hcg
    clear hR0 hc0 hp hcg
    by_cases hlt : k < m
    · have hlv : k < vs.length := by rw [HVS.out]; omega
      have hlr : k < rs.length := by have := HN.out.1; omega
      obtain ⟨ad, rfl, _, hx⟩ := (hs.keep HC.out) (by omega)
      have hx1 := hx k _ (List.getElem?_eq_getElem hlv)
      obtain ⟨b1, o1, s1⟩ := ad
      obtain rfl : s1 = none := HA.out _ rfl
      rw [add_plain] at hx1
      have hnum : Num vs[k] rs[k] := HN.out.2 k _ _ (List.getElem?_eq_getElem hlv) (List.getElem?_eq_getElem hlr)
      have HT := Lib.hid (show ansC (rs.take (k + 1)) = ansC (rs.take k) ++ [.int .i64 (rs[k].getD 0), .bool rs[k].isSome] by rw [List.take_succ_eq_append_getElem hlr]; unfold ansC; rw [List.flatMap_append]; rfl)
      have HTL := Lib.hid (show (rs.take (k + 1)).length = k + 1 by rw [List.length_take]; omega)
      have hTK : (rs.take k).length = k := by rw [List.length_take]; omega
      generalize vs[k] = u at hx1 hnum
      generalize rs[k] = r at hnum HT
      clear hx
      have HR := Lib.hid hR
      have hTK2 := Lib.hid hTK
      clear hR hTK
      have hkm : (k : Int) < (m : Int) := by omega
      go_wp2_with fail
      refine (vof_any hnum).mono ?_
      rintro e w1 ⟨rfl, hc1⟩
      have hR1 := HR.out.keep hc1
      have hwn : w.heap.size ≤ w1.heap.size := Nat.le_trans hwr hc1.size
      obtain ⟨A1, c1, rfl, _, _, _⟩ := rown_slice hR1.ans
      have hO1 := hR1.ans
      have e0 := hR1.rec_.cell 0
      rw [hTK2.out] at hO1 e0
      obtain ⟨X, hX⟩ : ∃ X, X = ansC (rs.take k) := ⟨_, rfl⟩
      rw [← hX] at hO1
      have HX := Lib.hid hX
      have HR1 := Lib.hid hR1
      have HC1 := Lib.hid hc1
      clear hX hR1 hc1
      go_wp2_with (first
        | (at_builtin
           refine wpList_append_own _ rfl (.tmp 24) (.tmp 28) _ rfl w.heap.size 116 i0 _ 2 16 Try.underlying110 hi hz0 hz1 hz2 rfl (by decide) _ k X rfl (rown_keep hO1 ((Chg.refl _ _).alloc _)) ⟨w1.heap.size, 0, none⟩ 1 1 [.int .i64 (r.getD 0), .bool r.isSome] rfl rfl ?c1 ?c2 ?c3 ?c4 ?c5 ?_
           case c1 => exact cells_new _ _ _
           case c2 => simp [Value.oneCell']
           case c3 => simp only [maxLen]; omega
           case c4 => omega
           case c5 => simp; omega
           intro v' w2 hown' hg' _
           have hal := rown_keep hO1 ((Chg.refl [] w1).alloc (.cells #[.int .i64 (r.getD 0), .bool r.isSome] 116))
           have hR2 := whole_grown (HR1.out.rec_.keep ((Chg.refl [] w1).alloc (.cells #[.int .i64 (r.getD 0), .bool r.isSome] 116))) hal (by decide) hg'
           have hL2 := (Low.of_chg (B := w.heap.size) ((Chg.refl [] w1).alloc (.cells #[.int .i64 (r.getD 0), .bool r.isSome] 116))).trans (Low.of_rown hal hg')
           obtain ⟨A3, c3, rfl, _, _, _⟩ := rown_slice hown'
           have d0 := hR2.cell 0
           have g0 := hR2.frozen 0
           have hR3 := hR2.set_ 0 (.slice A3 (k + 1) c3)
           have hO3 := rown_lay (j := 0) (u := .slice A3 (k + 1) c3) hown' hR2 (by decide)
           have hL3 : Low w.heap.size w1 (w2.setCell ⟨p, 0, none⟩ (.slice A3 (k + 1) c3)) := hL2.trans ⟨rfl, rfl, rfl, by simp [World.setCell], fun k hk hl => Below.heap_setCell w2 _ _ k (by simp only; omega)⟩
           clear hal hR2 hL2 hown' hg'))
      go_roundw
      case rel =>
        refine ⟨k + 1, by omega, by go_num, ⟨.slice A3 (k + 1) c3, hR3, ?_, hpl⟩, ((Low.of_chg (HC.out.new HC1.out)).trans hL3).chg (Nat.le_refl _)⟩
        rw [HTL.out, HT.out, ← HX.out]
        exact hO3
      case measure => simp [intOf]; omega
    · obtain rfl : k = m := by omega
      go_wp2_with fail
      go_ret
      exact ⟨p, _, rfl, ⟨hR.rec_, own_more_n hR.ans (Nat.zero_le _), World.ownsRow_nil _ _ _ _⟩, hR.low, HC.out⟩
/-- Asks' answer. -/
def AsksPost (w : World) (qs : List (Int × Int)) (e : Ending) (w' : World) : Prop := ∃ v, e = .returned v ∧ w'.ownsRow w.heap.size 53 2 v qs.length (qsC qs) ∧ Chg [] w w'
set_option maxHeartbeats 2000000 in
set_option maxRecDepth 100000 in
theorem asks_any (h : Rq w p rs qs a q) (hq : qs.length ≤ 1000000000) (h0 : 0 < qs.length) :
    Calls Try.prog 20 #[.pointer (some ⟨p, 0, none⟩)] w (AsksPost w qs) := by
  obtain ⟨i0, hi, hz0, hz1, hz2⟩ := info_parts info_rask
  obtain ⟨A2, c2, rfl, _, hcm2, _⟩ := rown_slice h.asks
  have e1 := h.rec_.cell 1
  obtain ⟨g, rfl, _⟩ := rown_cell h.asks rfl (qs_get (List.getElem?_eq_getElem h0)).1
  have hcells : ∀ (j : Nat) (u : Value), (qsC qs)[j]? = some u → w.cell? ((⟨g, 0, none⟩ : Addr).add j) = some u := h.asks.cells rfl
  have HL := Lib.hid (qsC_len qs)
  have HO := Lib.hid hcells
  clear hcells h
  obtain ⟨N, hN⟩ : ∃ N, N = qs.length := ⟨_, rfl⟩
  have HN := Lib.hid hN
  rw [← hN] at e1 hq h0 HL
  clear hN
  go_enter Try.func20, Try.ntmps20
  go_wp2_with (first
    | (at_builtin
       refine wpList_append_own _ rfl (.const (.slice none 0 0)) (.tmp 6) _ rfl w.heap.size 53 i0 _ 2 16 Try.underlying32 hi hz0 hz1 hz2 rfl (by decide) _ 0 [] rfl (World.ownsRow_nil w w.heap.size 53 2) ⟨g, 0, none⟩ N c2 (qsC qs) rfl HL.out HO.out (qsC_cells qs) ?c3 ?c4 ?c5 ?_
       case c3 => simp only [maxLen]; omega
       case c4 => omega
       case c5 => exact Nat.le_refl _
       intro v' w2 hown' hg' _))
  go_ret
  rw [HN.out, Nat.zero_add, List.nil_append] at hown'
  have hg2 : w.grownBy w2 none := hg'
  exact ⟨_, rfl, hown', Chg.of_grown hg2 fun g hr _ => by cases hr⟩
end
end Go.Proofs.Ytfhgnoajfipjdaa
namespace Go.Proofs.Ytfhgnoajfipjdaa
structure InvR (ss : List Int) (n : Nat) (r : RSt) : Prop where
  len : r.tO.length = ss.length
  op : ∀ p ∈ r.op, p < n ∧ (ss[p]? = some 63 ∨ ss[p]? = some 58 ∨ ss[p]? = some 91)
  at_ : ∀ (j : Nat) (s : Int), j < n → ss[j]? = some s → ∃ v, r.tO[j]? = some v ∧ (s = 63 ∨ s = 58 → j ∈ r.op ∨ ((j : Int) < v ∧ v ≤ (n : Int))) ∧ (s = 93 → 0 ≤ v ∧ v < (j : Int) ∧ ss[v.toNat]? = some 91) ∧ (s ≠ 63 → s ≠ 58 → s ≠ 93 → v = -1)
theorem lt_of_some {α : Type} {l : List α} {i : Nat} {x : α} (h : l[i]? = some x) : i < l.length := (List.getElem?_eq_some_iff.1 h).1
structure InvF (ss : List Int) (n : Nat) (t : List Int) : Prop where
  len : t.length = ss.length
  at_ : ∀ (j : Nat) (s : Int), ss[j]? = some s → ∃ v, t[j]? = some v ∧ (s = 63 ∨ s = 58 → (j : Int) < v ∧ v ≤ (ss.length : Int)) ∧ (s = 126 → j < n → (j : Int) < v ∧ v ≤ (ss.length : Int)) ∧ (s = 93 → 0 ≤ v ∧ v < (j : Int) ∧ ss[v.toNat]? = some 91) ∧ (s ≠ 63 → s ≠ 58 → s ≠ 126 → s ≠ 93 → v = -1)
end Go.Proofs.Ytfhgnoajfipjdaa
namespace Go.Proofs.Ytfhgnoajfipjdaa
def shP (k : Nat) (p : NPart) : NPart := ⟨p.loop, k + p.at_, k + p.waits, p.left.map (k + ·)⟩
def shV (k : Nat) (v : Int) : Int := if v < 0 then v else (k : Int) + v
structure RelN (k d0 : Nat) (base : List NPart) (pre : List Int) (n : Nat) (m m2 : NSt) : Prop where
  len : k + m.tO.length ≤ m2.tO.length
  pre : ∀ j : Nat, j < k → m2.tO[j]? = pre[j]?
  at_ : ∀ j : Nat, j < n → m2.tO[k + j]? = (m.tO[j]?).map (shV k)
  deep : m2.deep = max d0 (m.deep + base.length)
  op : m2.op = m.op.map (shP k) ++ base
  wf : ∀ p ∈ m.op, p.at_ < n ∧ p.waits < n ∧ ∀ j ∈ p.left, j < n
theorem nTake_deep {n : Nat} {s : Int} {m m' : NSt} (h : nTake n s m = some m') : m.deep ≤ m'.deep ∧ (m.deep ≤ 16 → m'.deep ≤ 16) ∧ m'.tO.length = m.tO.length := by
  unfold nTake at h
  split at h
  · split at h
    · injection h with h; subst h; exact ⟨by simp only; omega, by simp only; omega, rfl⟩
    · cases h
  split at h
  · split at h
    · split at h
      · injection h with h; subst h; exact ⟨Nat.le_refl _, id, by simp⟩
      · cases h
    · cases h
  split at h
  · split at h
    · split at h
      · injection h with h; subst h; exact ⟨Nat.le_refl _, id, by simp⟩
      · cases h
    · cases h
  split at h
  · split at h
    · split at h
      · injection h with h; subst h; exact ⟨Nat.le_refl _, id, by simp [setAll_len]⟩
      · cases h
    · cases h
  split at h
  · cases ho : leaveP n m.op with
    | none => rw [ho] at h; cases h
    | some o => rw [ho] at h; injection h with h; subst h; exact ⟨Nat.le_refl _, id, rfl⟩
  · injection h with h; subst h; exact ⟨Nat.le_refl _, id, rfl⟩
theorem nRun_deep : ∀ (rest : List Int) (n : Nat) (m m' : NSt), nRun n rest m = some m' → m.deep ≤ m'.deep ∧ (m.deep ≤ 16 → m'.deep ≤ 16) ∧ m'.tO.length = m.tO.length
  | [], _, m, m', h => by rw [nRun] at h; injection h with h; subst h; exact ⟨Nat.le_refl _, id, rfl⟩
  | s :: rest, n, m, m', h => by
    rw [nRun] at h
    cases ht : nTake n s ⟨m.tO.set n (-1), m.deep, m.op⟩ with
    | none => rw [ht] at h; cases h
    | some m1 =>
      rw [ht] at h
      obtain ⟨a, b, c⟩ := nTake_deep ht
      obtain ⟨d, e, f⟩ := nRun_deep rest (n + 1) m1 m' h
      exact ⟨Nat.le_trans a d, fun h => e (b h), by rw [f, c, List.length_set]⟩
theorem nNest_some {ss t : List Int} {d : Nat} (h : nNest ss = some (t, d)) : nRun 0 ss ⟨List.replicate ss.length 0, 0, []⟩ = some ⟨t, d, []⟩ ∧ d ≤ 16 ∧ t.length = ss.length := by
  unfold nNest at h
  cases hr : nRun 0 ss ⟨List.replicate ss.length 0, 0, []⟩ with
  | none => rw [hr] at h; cases h
  | some m =>
    rw [hr] at h
    simp only [Option.bind_some] at h
    split at h
    · rename_i hop
      injection h with h
      injection h with h1 h2
      obtain ⟨t', d', o⟩ := m
      simp only at hop h1 h2
      subst hop; subst h1; subst h2
      have := nRun_deep _ _ _ _ hr
      refine ⟨rfl, this.2.1 (by simp), by have := this.2.2; simpa using this⟩
    · cases h
end Go.Proofs.Ytfhgnoajfipjdaa
namespace Go.Proofs.Ytfhgnoajfipjdaa
open Go.RowKit
section
variable {w : World}
def kC : List TkV := [⟨126, 0, 0⟩]
end
end Go.Proofs.Ytfhgnoajfipjdaa
namespace Go.Proofs.Ytfhgnoajfipjdaa
open Go.RowKit
theorem rFunc_ok {l : List FnV} {code : ByteArray} (h : (rFunc l code).1 = 0) : ∃ ts t d, tokR code = some ts ∧ rNest (signs ts) = some (t, d) ∧ rWalk l ts 0 [] [] = rFunc l code := by
  unfold rFunc at h ⊢
  cases ht : tokR code with
  | none =>
    rw [ht] at h
    simp only at h
    unfold tokE at h
    split at h <;> cases h
  | some ts =>
    rw [ht] at h
    simp only at h ⊢
    cases hn : rNest (signs ts) with
    | none => rw [hn] at h; cases h
    | some r => obtain ⟨t, d⟩ := r; exact ⟨ts, t, d, rfl, hn, rfl⟩
end Go.Proofs.Ytfhgnoajfipjdaa
