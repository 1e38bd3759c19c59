/-
  PB: Shelf, GTxt.
-/
import Derived.Test.YtbkfhndmeljlcaaGreatDoorZPB3
import Derived.Test.YtbkfhndmeljlcaaGreatDoorZPB6
import Derived.Test.YtbkfhndmeljlcaaGreatDoorZPB9
import Derived.Test.YtbkfhndmeljlcaaGreatDoorZPB10
import Derived.Test.YtbkfhndmeljlcaaGreatDoorZPB15
import Derived.Shelf.Utf8.AppendRune
import Derived.Shelf.Utf8.AppendRunePlain
import Derived.Shelf.Strconv.Itoa0
import Derived.Shelf.Strconv.Itoa1
import Derived.Shelf.LaysM
import Derived.Shelf.Strconv.Itoa2
import Derived.Shelf.Strconv.Itoa3
import Derived.Shelf.Strings.Search1
import Derived.Shelf.Strings.Search2
import Derived.Shelf.Strconv.AppendUint10
import Derived.Shelf.Strconv.AppendInt10
import Derived.Shelf.Strconv.AppendIntPublic10
import Derived.Test.YtbkfhndmeljlcaaGreatDoorChecked
import Derived.BigQuiet
namespace Go.Proofs
open Go.Shelf
def Tryz.lays242_ren : Go.Shelf.Ren := ⟨fun | 242 => 59 | 278 => 89 | n => n, fun | 37 => 33 | 21 => 21 | 51 => 118 | 4 => 4 | 5 => 5 | 46 => 139 | n => n, fun | n => n⟩
theorem Tryz.lays242 : Go.Proofs.Lays.n242 Tryz.prog Tryz.lays242_ren := {
  mixed := by kernel_rfl
  f242 := Tryz.func59.trans (congrArg some (by kernel_rfl))
  f278 := Tryz.func89.trans (congrArg some (by kernel_rfl))
  t4 := Tryz.underlying4
  a4 := Tryz.isAgg4
  z4 := Tryz.sizeOf4
  v4 := Tryz.zeroValue4
  t5 := Tryz.underlying5
  a5 := Tryz.isAgg5
  z5 := Tryz.sizeOf5
  v5 := Tryz.zeroValue5
  t21 := Tryz.underlying21
  a21 := Tryz.isAgg21
  z21 := Tryz.sizeOf21
  v21 := Tryz.zeroValue21
  t37 := Tryz.underlying33
  a37 := Tryz.isAgg33
  z37 := Tryz.sizeOf33
  v37 := Tryz.zeroValue33
  t46 := Tryz.underlying139
  a46 := Tryz.isAgg139
  z46 := Tryz.sizeOf139
  v46 := Tryz.zeroValue139
  t51 := Tryz.underlying118
  a51 := Tryz.isAgg118
  z51 := Tryz.sizeOf118
  v51 := Tryz.zeroValue118 }
open Go.RowKit in
theorem Tryz.utf8_AppendRune_plain (B : Nat) (v : Value) (n : Nat) (xs : List Value) (r : Int) (hr0 : -2147483648 ≤ r) (hr1 : r ≤ 2147483647) (w : World) (hown : w.ownsRow B 5 1 v n xs) (hlen : n + 4 ≤ 140737488355328) (hBw : B ≤ w.heap.size) :
    Calls Tryz.prog 59 #[v, .int .i32 r] w fun e w' => ∃ v', e = .returned v' ∧ w'.ownsRow B 5 1 v' (n + (Lib.runeCells r).length) (xs ++ Lib.runeCells r) ∧ ∃ o, (w.alloc o).grownBy w' v.ownBlock := Any.utf8_AppendRune_plain Tryz.lays242 (by kernel_rfl) B v n xs r hr0 hr1 w hown hlen hBw
def Tryz.lays171_ren : Go.Shelf.Ren := ⟨fun | 171 => 57 | 243 => 87 | 246 => 111 | 283 => 122 | 284 => 123 | 285 => 124 | 286 => 125 | 129 => 135 | 317 => 134 | 318 => 136 | 319 => 137 | 320 => 138 | 337 => 145 | 338 => 146 | n => n, fun | 3 => 3 | 9 => 9 | 2 => 2 | 4 => 4 | 171 => 160 | 0 => 0 | 53 => 122 | 37 => 33 | 5 => 5 | 173 => 163 | 212 => 175 | 51 => 118 | 20 => 20 | 213 => 176 | 46 => 139 | 232 => 188 | 233 => 189 | n => n, fun | 17 => 1 | 18 => 2 | 19 => 3 | n => n⟩
theorem Tryz.lays171 : Go.Proofs.Lays.n171 Tryz.prog Tryz.lays171_ren := {
  mixed := by kernel_rfl
  f129 := Tryz.func135.trans (congrArg some (by kernel_rfl))
  f171 := Tryz.func57.trans (congrArg some (by kernel_rfl))
  f243 := Tryz.func87.trans (congrArg some (by kernel_rfl))
  f246 := Tryz.func111.trans (congrArg some (by kernel_rfl))
  f283 := Tryz.func122.trans (congrArg some (by kernel_rfl))
  f284 := Tryz.func123.trans (congrArg some (by kernel_rfl))
  f285 := Tryz.func124.trans (congrArg some (by kernel_rfl))
  f286 := Tryz.func125.trans (congrArg some (by kernel_rfl))
  f317 := Tryz.func134.trans (congrArg some (by kernel_rfl))
  f318 := Tryz.func136.trans (congrArg some (by kernel_rfl))
  f319 := Tryz.func137.trans (congrArg some (by kernel_rfl))
  f320 := Tryz.func138.trans (congrArg some (by kernel_rfl))
  f337 := Tryz.func145.trans (congrArg some (by kernel_rfl))
  f338 := Tryz.func146.trans (congrArg some (by kernel_rfl))
  t0 := Tryz.underlying0
  a0 := Tryz.isAgg0
  z0 := Tryz.sizeOf0
  v0 := Tryz.zeroValue0
  t2 := Tryz.underlying2
  a2 := Tryz.isAgg2
  z2 := Tryz.sizeOf2
  v2 := Tryz.zeroValue2
  t3 := Tryz.underlying3
  a3 := Tryz.isAgg3
  z3 := Tryz.sizeOf3
  v3 := Tryz.zeroValue3
  t4 := Tryz.underlying4
  a4 := Tryz.isAgg4
  z4 := Tryz.sizeOf4
  v4 := Tryz.zeroValue4
  t5 := Tryz.underlying5
  a5 := Tryz.isAgg5
  z5 := Tryz.sizeOf5
  v5 := Tryz.zeroValue5
  t9 := Tryz.underlying9
  a9 := Tryz.isAgg9
  z9 := Tryz.sizeOf9
  v9 := Tryz.zeroValue9
  t20 := Tryz.underlying20
  a20 := Tryz.isAgg20
  z20 := Tryz.sizeOf20
  v20 := Tryz.zeroValue20
  t37 := Tryz.underlying33
  a37 := Tryz.isAgg33
  z37 := Tryz.sizeOf33
  v37 := Tryz.zeroValue33
  t46 := Tryz.underlying139
  a46 := Tryz.isAgg139
  z46 := Tryz.sizeOf139
  v46 := Tryz.zeroValue139
  t51 := Tryz.underlying118
  a51 := Tryz.isAgg118
  z51 := Tryz.sizeOf118
  v51 := Tryz.zeroValue118
  t53 := Tryz.underlying122
  a53 := Tryz.isAgg122
  z53 := Tryz.sizeOf122
  v53 := Tryz.zeroValue122
  t171 := Tryz.underlying160
  a171 := Tryz.isAgg160
  z171 := Tryz.sizeOf160
  v171 := Tryz.zeroValue160
  t173 := Tryz.underlying163
  a173 := Tryz.isAgg163
  z173 := Tryz.sizeOf163
  v173 := Tryz.zeroValue163
  t212 := Tryz.underlying175
  a212 := Tryz.isAgg175
  z212 := Tryz.sizeOf175
  v212 := Tryz.zeroValue175
  t213 := Tryz.underlying176
  a213 := Tryz.isAgg176
  z213 := Tryz.sizeOf176
  t232 := Tryz.underlying188
  a232 := Tryz.isAgg188
  z232 := Tryz.sizeOf188
  v232 := Tryz.zeroValue188
  t233 := Tryz.underlying189
  a233 := Tryz.isAgg189
  z233 := Tryz.sizeOf189
  v233 := Tryz.zeroValue189
  g17 := by kernel_rfl
  g18 := by kernel_rfl
  g19 := by kernel_rfl }
open Go.RowKit Go.Sort Go.Lib in
theorem Tryz.strconv_Itoa_small (i : Nat) (hi : i < 100) (w : World) :
    Calls Tryz.prog 57 #[.int .i64 i] w fun e w' => e = .returned (.string ⟨(Lib.decDigits i).toArray⟩) ∧ w' = w := Any.strconv_Itoa_small Tryz.lays171 i hi w
def Tryz.lays219_ren : Go.Shelf.Ren := ⟨fun | 219 => 139 | 217 => 147 | 225 => 148 | 224 => 149 | 267 => 150 | 266 => 152 | 314 => 153 | n => n, fun | 9 => 9 | 3 => 3 | 4 => 4 | 5 => 5 | 46 => 139 | 146 => 190 | 51 => 118 | n => n, fun | 1 => 0 | n => n⟩
theorem Tryz.lays219 : Go.Proofs.Lays.n219 Tryz.prog Tryz.lays219_ren := {
  mixed := by kernel_rfl
  f217 := Tryz.func147.trans (congrArg some (by kernel_rfl))
  f219 := Tryz.func139.trans (congrArg some (by kernel_rfl))
  f224 := Tryz.func149.trans (congrArg some (by kernel_rfl))
  f225 := Tryz.func148.trans (congrArg some (by kernel_rfl))
  f266 := Tryz.func152.trans (congrArg some (by kernel_rfl))
  f267 := Tryz.func150.trans (congrArg some (by kernel_rfl))
  f314 := Tryz.func153.trans (congrArg some (by kernel_rfl))
  t3 := Tryz.underlying3
  a3 := Tryz.isAgg3
  z3 := Tryz.sizeOf3
  v3 := Tryz.zeroValue3
  t4 := Tryz.underlying4
  a4 := Tryz.isAgg4
  z4 := Tryz.sizeOf4
  v4 := Tryz.zeroValue4
  t5 := Tryz.underlying5
  a5 := Tryz.isAgg5
  z5 := Tryz.sizeOf5
  v5 := Tryz.zeroValue5
  t9 := Tryz.underlying9
  a9 := Tryz.isAgg9
  z9 := Tryz.sizeOf9
  v9 := Tryz.zeroValue9
  t46 := Tryz.underlying139
  a46 := Tryz.isAgg139
  z46 := Tryz.sizeOf139
  v46 := Tryz.zeroValue139
  t51 := Tryz.underlying118
  a51 := Tryz.isAgg118
  z51 := Tryz.sizeOf118
  v51 := Tryz.zeroValue118
  t146 := Tryz.underlying190
  a146 := Tryz.isAgg190
  z146 := Tryz.sizeOf190
  v146 := Tryz.zeroValue190
  g1 := by kernel_rfl }
open Go.RowKit Go.Lib in
theorem Tryz.stringslite_Index_one (s : ByteArray) (c : UInt8) (w : World) :
    Calls Tryz.prog 139 #[.string s, .string ⟨#[c]⟩] w fun e w' => e = .returned (.int .i64 (Lib.indexByte s.data.toList c)) ∧ w' = w := Any.stringslite_Index_one Tryz.lays219 s c w
open Go.RowKit Go.Lib in
def Tryz.laysM176_ren : Go.Shelf.Ren := ⟨fun | 176 => 90 | 249 => 114 | 288 => 126 | 283 => 122 | 284 => 123 | 285 => 124 | 286 => 125 | 129 => 135 | 317 => 134 | 318 => 136 | 319 => 137 | 320 => 138 | 337 => 145 | 338 => 146 | n => n, fun | 37 => 33 | 2 => 2 | 3 => 3 | 53 => 122 | 4 => 4 | 9 => 9 | 171 => 160 | 0 => 0 | 173 => 163 | 212 => 175 | 51 => 118 | 5 => 5 | 20 => 20 | 213 => 176 | 46 => 139 | 232 => 188 | 233 => 189 | n => n, fun | 17 => 1 | 18 => 2 | 19 => 3 | n => n⟩
theorem Tryz.laysM176 : Go.Proofs.LaysM.n176 Tryz.prog Tryz.laysM176_ren := {
  mixed := by kernel_rfl
  f129 := Tryz.func135.trans (congrArg some (by kernel_rfl))
  f176 := Tryz.func90.trans (congrArg some (by kernel_rfl))
  f249 := Tryz.func114.trans (congrArg some (by kernel_rfl))
  f283 := Tryz.func122.trans (congrArg some (by kernel_rfl))
  f284 := Tryz.func123.trans (congrArg some (by kernel_rfl))
  f285 := Tryz.func124.trans (congrArg some (by kernel_rfl))
  f286 := Tryz.func125.trans (congrArg some (by kernel_rfl))
  f288 := Tryz.func126.trans (congrArg some (by kernel_rfl))
  f317 := Tryz.func134.trans (congrArg some (by kernel_rfl))
  f318 := Tryz.func136.trans (congrArg some (by kernel_rfl))
  f319 := Tryz.func137.trans (congrArg some (by kernel_rfl))
  f320 := Tryz.func138.trans (congrArg some (by kernel_rfl))
  f337 := Tryz.func145.trans (congrArg some (by kernel_rfl))
  f338 := Tryz.func146.trans (congrArg some (by kernel_rfl))
  t0 := Tryz.underlying0
  a0 := Tryz.isAgg0
  z0 := Tryz.sizeOf0
  v0 := Tryz.zeroValue0
  t2 := Tryz.underlying2
  a2 := Tryz.isAgg2
  z2 := Tryz.sizeOf2
  v2 := Tryz.zeroValue2
  t3 := Tryz.underlying3
  a3 := Tryz.isAgg3
  z3 := Tryz.sizeOf3
  v3 := Tryz.zeroValue3
  t4 := Tryz.underlying4
  a4 := Tryz.isAgg4
  z4 := Tryz.sizeOf4
  v4 := Tryz.zeroValue4
  t5 := Tryz.underlying5
  a5 := Tryz.isAgg5
  z5 := Tryz.sizeOf5
  v5 := Tryz.zeroValue5
  t9 := Tryz.underlying9
  a9 := Tryz.isAgg9
  z9 := Tryz.sizeOf9
  v9 := Tryz.zeroValue9
  t20 := Tryz.underlying20
  a20 := Tryz.isAgg20
  z20 := Tryz.sizeOf20
  v20 := Tryz.zeroValue20
  t37 := Tryz.underlying33
  a37 := Tryz.isAgg33
  z37 := Tryz.sizeOf33
  v37 := Tryz.zeroValue33
  t46 := Tryz.underlying139
  a46 := Tryz.isAgg139
  z46 := Tryz.sizeOf139
  v46 := Tryz.zeroValue139
  t51 := Tryz.underlying118
  a51 := Tryz.isAgg118
  z51 := Tryz.sizeOf118
  v51 := Tryz.zeroValue118
  t53 := Tryz.underlying122
  a53 := Tryz.isAgg122
  z53 := Tryz.sizeOf122
  v53 := Tryz.zeroValue122
  t171 := Tryz.underlying160
  a171 := Tryz.isAgg160
  z171 := Tryz.sizeOf160
  v171 := Tryz.zeroValue160
  t173 := Tryz.underlying163
  a173 := Tryz.isAgg163
  z173 := Tryz.sizeOf163
  v173 := Tryz.zeroValue163
  t212 := Tryz.underlying175
  a212 := Tryz.isAgg175
  z212 := Tryz.sizeOf175
  v212 := Tryz.zeroValue175
  t213 := Tryz.underlying176
  a213 := Tryz.isAgg176
  z213 := Tryz.sizeOf176
  t232 := Tryz.underlying188
  a232 := Tryz.isAgg188
  z232 := Tryz.sizeOf188
  v232 := Tryz.zeroValue188
  t233 := Tryz.underlying189
  a233 := Tryz.isAgg189
  z233 := Tryz.sizeOf189
  v233 := Tryz.zeroValue189
  g17 := by kernel_rfl
  g18 := by kernel_rfl
  g19 := by kernel_rfl
  i0 := by kernel_rfl
  i2 := by kernel_rfl
  i3 := by kernel_rfl
  i4 := by kernel_rfl
  i5 := by kernel_rfl
  i9 := by kernel_rfl
  i20 := by kernel_rfl
  i37 := by kernel_rfl
  i46 := by kernel_rfl
  i51 := by kernel_rfl
  i53 := by kernel_rfl
  i171 := by kernel_rfl
  i173 := by kernel_rfl
  i212 := by kernel_rfl
  i232 := by kernel_rfl
  i233 := by kernel_rfl
  m17 := by kernel_rfl
  m18 := by kernel_rfl
  m19 := by kernel_rfl }
open Go.RowKit Go.Sort Go.Lib in
theorem Tryz.strconv_AppendInt_10 (B n : Nat) (i : Int) (h0 : -9223372036854775808 ≤ i) (h1 : i ≤ 9223372036854775807) (sv : Value) (xs : List Value) (w : World) (hown : w.ownsRow B 5 1 sv n xs) (hBw : B ≤ w.heap.size) (hlim : n + 21 ≤ 140737488355328) (htab : Lib.TabBelow Tryz.prog B w "internal/strconv.uint64pow10" .u64 Lib.pow10Tab) :
    Calls Tryz.prog 90 #[sv, .int .i64 i, .int .i64 10] w fun e w' => ∃ v', e = .returned v' ∧ w'.ownsRow B 5 1 v' (n + (Lib.itoa i).length) (xs ++ Lib.byteCells (Lib.itoa i)) ∧ Below B w w' ∧ Lib.OthersKept 5 none w w' := Any.strconv_AppendInt_10 Tryz.laysM176 B n i h0 h1 sv xs w hown hBw hlim htab
end Go.Proofs
namespace Go.Proofs.YtbkfhndmeljlcaaGreatDoor
open Go.RowKit
open Go.Lib (decDigits encodeRune)
/-- The library's table of powers of ten lies as its text says. -/
def PowB (B : Nat) (w : World) : Prop := Lib.TabBelow Tryz.prog B w "internal/strconv.uint64pow10" .u64 Lib.pow10Tab
theorem PowB.on {B : Nat} {w w' : World} (h : PowB B w) (hb : Below B w w') : PowB B w' := Lib.TabBelow.on h hb
theorem PowB.keep {B : Nat} {w w' : World} (h : PowB B w) (hB : B ≤ w.heap.size) (hc : Chg [] w w') : PowB B w' := h.on (hc.below0.mono hB)
theorem PowB.less {B B' : Nat} {w : World} (h : PowB B w) (hB : B ≤ B') : PowB B' w := fun w' hb => h w' (hb.mono hB)
theorem bts_cells (l : List UInt8) : bts l = Lib.byteCells l := by
  unfold bts Lib.byteCells
  rfl
abbrev u8T : List TypeId := [5]
/-- What has been written, and what stays. -/
def WrPost (B : Nat) (w : World) (out : List UInt8) (e : Ending) (w' : World) : Prop :=
  ∃ v' n', e = .returned v' ∧ n' = out.length ∧ w'.ownsRow B 5 1 v' n' (bts out) ∧ Fr B u8T w w'
theorem arune_any {B n : Nat} {v : Value} {out : List UInt8} {w : World} (r : Int) (hr : -2147483648 ≤ r ∧ r ≤ 2147483647) (ho : w.ownsRow B 5 1 v n (bts out)) (hn : n = out.length) (hB : B ≤ w.heap.size) (hm : out.length ≤ 1000000) :
    Calls Tryz.prog 59 #[v, .int .i32 r] w (WrPost B w (out ++ encodeRune r)) := by
  subst hn
  refine (Tryz.utf8_AppendRune_plain B v out.length (bts out) r hr.1 hr.2 w ho (by omega) hB).mono ?_
  rintro e w' ⟨v', rfl, ho', o, hg⟩
  have hl : (Lib.runeCells r).length = (encodeRune r).length := Lib.runeCells_length r
  refine ⟨v', (out ++ encodeRune r).length, rfl, rfl, ?_, ?_⟩
  · rw [List.length_append, ← hl, bts_cells, Lib.byteCells_append, Lib.byteCells_encodeRune, ← bts_cells]
    exact ho'
  · exact ((Fr.of_chg ((Chg.refl [] w).alloc o)).grown (own_keep ho ((Chg.refl [] w).alloc o)) (Nat.le_refl _) (by simp) hg)
theorem aint_any {B n : Nat} {v : Value} {out : List UInt8} {w : World} (m : Nat) (hm : m ≤ 9223372036854775807) (hP : PowB B w) (ho : w.ownsRow B 5 1 v n (bts out)) (hn : n = out.length) (hB : B ≤ w.heap.size) (hl : out.length ≤ 1000000) :
    Calls Tryz.prog 90 #[v, .int .i64 (m : Int), .int .i64 10] w (WrPost B w (out ++ decDigits m)) := by
  subst hn
  refine (Tryz.strconv_AppendInt_10 B out.length (m : Int) (by omega) (by omega) v (bts out) w ho hB (by omega) hP).mono ?_
  rintro e w' ⟨v', rfl, ho', hb, hk⟩
  rw [Lib.itoa_nonneg] at ho'
  refine ⟨v', (out ++ decDigits m).length, rfl, rfl, ?_, ?_⟩
  · rw [List.length_append, bts_cells, Lib.byteCells_append, ← bts_cells]
    exact ho'
  · refine ⟨hb.os, hb.tape, hb.output, hb.size, fun k hlt hc => ?_⟩
    rcases hc with h | h
    · exact hb.block k h
    · have e : w.heap[k]? = some (w.heap[k]) := Array.getElem?_eq_getElem hlt
      rw [e]
      refine hk k _ e (by simp) (fun c fz hh => ?_)
      exact h c 5 fz (by rw [e, hh]) (by simp)
/-- Tokens of whatever numbers. -/
structure TkRng (t : TkV) : Prop where
  sign : -2147483648 ≤ t.sign ∧ t.sign ≤ 2147483647
  n : -9223372036854775808 ≤ t.n ∧ t.n ≤ 9223372036854775807
  name : -2147483648 ≤ t.name ∧ t.name ≤ 2147483647
def StrPost (o : List UInt8) (w : World) (e : Ending) (w' : World) : Prop := e = .returned (.string (strOf o)) ∧ Chg [] w w'
theorem txB_cons_num (nb : Bool) (t : TkV) (l : List TkV) (h : t.sign = 48) : txB nb (t :: l) = (if nb then [32] else []) ++ (decDigits t.n.toNat ++ txB true l) := by rw [txB, if_pos h]
theorem txB_cons_named (nb : Bool) (t : TkV) (l : List TkV) (h : t.sign ≠ 48) (h1 : namedB t.sign = true) (h2 : nameB t.name = true) : txB nb (t :: l) = encodeRune t.sign ++ (encodeRune t.name ++ txB false l) := by rw [txB, if_neg h, if_pos h1, if_pos h2]
theorem txB_cons_none (nb : Bool) (t : TkV) (l : List TkV) (h : t.sign ≠ 48) (h1 : namedB t.sign = true) (h2 : nameB t.name = false) : txB nb (t :: l) = txB nb l := by rw [txB, if_neg h, if_pos h1, if_neg (by rw [h2]; decide)]
theorem txB_cons_known (nb : Bool) (t : TkV) (l : List TkV) (h : t.sign ≠ 48) (h1 : namedB t.sign = false) (h2 : knownB t.sign = true) : txB nb (t :: l) = encodeRune t.sign ++ txB false l := by rw [txB, if_neg h, if_neg (by rw [h1]; decide), if_pos h2]
theorem txB_cons_not (nb : Bool) (t : TkV) (l : List TkV) (h : t.sign ≠ 48) (h1 : namedB t.sign = false) (h2 : knownB t.sign = false) : txB nb (t :: l) = txB nb l := by rw [txB, if_neg h, if_neg (by rw [h1]; decide), if_neg (by rw [h2]; decide)]
theorem enc_le4 (r : Int) : (encodeRune r).length ≤ 4 := by
  unfold encodeRune
  rw [List.length_map]
  exact (Lib.encodeRuneZ_length r).2
theorem dig_le (m : Nat) (h : m ≤ 9223372036854775807) : (decDigits m).length ≤ 19 := by
  have key : ∀ (k m : Nat), m < 10 ^ (k + 1) → (decDigits m).length ≤ k + 1 := by
    intro k
    induction k with
    | zero => intro m hm; rw [Lib.decDigits_one (by omega)]; simp
    | succ k ih =>
      intro m hm
      by_cases h10 : m < 10
      · rw [Lib.decDigits_one h10]; simp
      · rw [decDigits, dif_neg h10, List.length_append]
        have := ih (m / 10) (by rw [Nat.pow_succ] at hm; omega)
        simp; omega
  exact key 18 m (by omega)
section
variable {w : World} {A : Option Addr} {n c : Nat} {l : List TkV}
set_option maxHeartbeats 8000000 in
set_option maxRecDepth 100000 in
theorem gtext_any (hT : Tks w A n c l) (hr : ∀ t ∈ l, TkRng t) (hn : n ≤ 1000) (hP : PowB w.heap.size w) : Calls Tryz.prog 60 #[.slice A n c] w (StrPost (txB false l) w) := by
  obtain ⟨i0, hi0, hz0, hz1, hz2⟩ := info_parts info_u8
  have HT := Lib.hid hT
  have HR := Lib.hid hr
  have HP := Lib.hid hP
  have HNL := Lib.hid hT.len
  clear hT hr hP
  go_enter Tryz.func60, Tryz.ntmps60
  go_wp2_with fail
  go_loopw [3, 4, 9] (fun v b i wr => ∃ (k : Nat) (nb : Bool) (out : List UInt8) (no : Nat), i = .int .i64 (k : Int) ∧ b = .bool nb ∧ k ≤ n ∧ Hid (no = out.length) ∧ no ≤ 25 * k ∧ Hid (wr.ownsRow w.heap.size 5 1 v no (bts out)) ∧ Hid (out ++ txB nb (l.drop k) = txB false l) ∧ Hid (Chg [] w wr)) (fun _ _ i _ => n - (intOf i).toNat)
  case atStart => exact ⟨0, false, [], 0, rfl, rfl, by omega, Lib.hid rfl, by omega, Lib.hid (World.ownsRow_nil _ _ _ _), Lib.hid rfl, Lib.hid (Chg.refl [] _)⟩
  case round =>
    obtain ⟨k, nb, out, no, rfl, rfl, hk, HNO, hno, HO, HX, HC⟩ := hrel
    by_cases hkn : k < n
    · have hkI : (k : Int) < (n : Int) := by omega
      obtain ⟨t, htk⟩ : ∃ t, l[k]? = some t := ⟨l[k]'(by rw [HNL.out]; exact hkn), by simp⟩
      have htr := HR.out t (List.mem_of_getElem? htk)
      obtain ⟨fb, fo, rfl, hfbl, e0, e1, e2⟩ := (HT.out.keep HC.out).cell htk
      have HD := Lib.hid (show l.drop k = t :: l.drop (k + 1) from List.drop_eq_getElem?_toList_append.trans (by rw [htk]; rfl))
      have HS := Lib.hid (show out ++ txB nb (t :: l.drop (k + 1)) = txB false l from by rw [← HD.out]; exact HX.out)
      clear htk
      obtain ⟨ts, tn, tm⟩ := t
      have hts := htr.sign
      have htn := htr.n
      have htm := htr.name
      simp only at e0 e1 e2 hts htn htm
      clear htr
      have hnum := Lib.hid hno
      go_upto_region 7 with fail
      have hX := Whole.new wr 110 [.int .i32 ts, .int .i64 tn, .int .i32 tm]
      have hc2 := (Chg.refl [] wr).alloc (.cells #[.int .i32 ts, .int .i64 tn, .int .i32 tm] 110)
      have HX2 := Lib.hid hX
      have HC2 := Lib.hid hc2
      have HO2 := Lib.hid (own_keep HO.out hc2)
      have HB2 := Lib.hid (show w.heap.size ≤ (wr.alloc (.cells #[.int .i32 ts, .int .i64 tn, .int .i32 tm] 110)).heap.size from Nat.le_trans HC.out.size hc2.size)
      generalize wr.heap.size = gx at HX2 ⊢
      generalize wr.alloc (.cells #[.int .i32 ts, .int .i64 tn, .int .i32 tm] 110) = w3 at HX2 HC2 HO2 HB2 ⊢
      clear hX e0 e1 e2 hfbl hc2
      have x0 := HX2.out.cell 0
      have x1 := HX2.out.cell 1
      have x2 := HX2.out.cell 2
      have HF3 := Lib.hid (show Fr w.heap.size u8T w w3 from Fr.of_chg (HC.out.new HC2.out))
      have HPW := Lib.hid (fun (W : World) (h : Fr w.heap.size u8T w W) => HP.out.keep (Nat.le_refl _) (h.chg (Nat.le_refl _)))
      have HKX := Lib.hid (fun (W : World) (h : Fr w.heap.size u8T w3 W) => h.whole HX2.out (by decide))
      by_cases h48 : ts = 48
      · subst h48
        obtain ⟨m, hmax, hm⟩ : ∃ m : Nat, max tn 0 = (m : Int) ∧ m = tn.toNat := ⟨tn.toNat, by omega, rfl⟩
        have HM := Lib.hid hm
        have HMB := Lib.hid (show m ≤ 9223372036854775807 by omega)
        have HMC := Lib.hid (dig_le m (by omega))
        clear hm
        have HNX := Lib.hid (fun (o : List UInt8) (h : o = out ++ ((if nb then [32] else []) ++ decDigits m)) => show o ++ txB true (l.drop (k + 1)) = txB false l from by
          rw [h, ← HS.out, txB_cons_num _ _ _ rfl, HM.out]
          simp only [List.append_assoc])
        cases nb with
        | true =>
          go_wp2_with (first
            | (at_builtin
               refine wpList_append_own _ rfl (.tmp 22) (.tmp 23) _ rfl w.heap.size 5 i0 _ 1 1 Tryz.underlying33 hi0 hz0 hz1 hz2 rfl (by decide) u3 no (bts out) rfl (own_keep HO2.out ((Chg.refl [] w3).alloc _)) ⟨w3.heap.size, 0, none⟩ 1 1 [.int .u8 32] rfl rfl (cells_page _ _ _) (by simp [Value.oneCell']) (by simp only [maxLen]; omega) (by omega) (by have := HB2.out; simp; omega) ?_
               intro v6 w6 ho6 hg6 _
               have HF6 := Lib.hid ((Fr.of_chg (B := w.heap.size) (TS := u8T) ((Chg.refl [] w3).alloc (.cells #[.int .u8 32] 5))).grown (own_keep HO2.out ((Chg.refl [] w3).alloc _)) (Nat.le_refl _) (by simp) hg6)
               have HO6 := Lib.hid (show w6.ownsRow w.heap.size 5 1 v6 (no + 1) (bts (out ++ [32])) from by rw [bts_cells, Lib.byteCells_append, ← bts_cells]; exact ho6)
               have y0 := (HKX.out w6 HF6.out).cell 0
               have y1 := (HKX.out w6 HF6.out).cell 1
               clear ho6 hg6)
            | (go_at_call 90
               refine (aint_any m HMB.out (HPW.out _ (HF3.out.trans HF6.out)) HO6.out (by rw [List.length_append, ← HNO.out]; rfl) (Nat.le_trans HB2.out HF6.out.size) (by rw [List.length_append, ← HNO.out]; simp; omega)).mono ?_
               rintro e w7 ⟨v7, n7, rfl, hn7, ho7, hf7⟩
               have HF7 := Lib.hid (HF6.out.trans hf7)
               have HO7 := Lib.hid ho7
               have HN7 := Lib.hid hn7
               have hn7b : n7 ≤ 25 * (k + 1) := by rw [hn7, List.length_append, List.length_append, ← HNO.out]; have := HMC.out; simp; omega
               have z0 := (HKX.out w7 HF7.out).cell 0
               clear hn7 ho7 hf7))
          go_roundw
          case rel => exact ⟨k + 1, true, _, n7, by go_num, rfl, by omega, HN7, hn7b, HO7, Lib.hid (HNX.out _ (by simp)), Lib.hid ((HF3.out.trans HF7.out).chg (Nat.le_refl _))⟩
          case measure => simp [intOf]; omega
        | false =>
          go_wp2_with (go_at_call 90
                       refine (aint_any m HMB.out (HPW.out _ HF3.out) HO2.out HNO.out HB2.out (by rw [← HNO.out]; omega)).mono ?_
                       rintro e w7 ⟨v7, n7, rfl, hn7, ho7, hf7⟩
                       have HF7 := Lib.hid hf7
                       have HO7 := Lib.hid ho7
                       have HN7 := Lib.hid hn7
                       have hn7b : n7 ≤ 25 * (k + 1) := by rw [hn7, List.length_append, ← HNO.out]; have := HMC.out; omega
                       have z0 := (HKX.out w7 HF7.out).cell 0
                       clear hn7 ho7 hf7)
          go_roundw
          case rel => exact ⟨k + 1, true, _, n7, by go_num, rfl, by omega, HN7, hn7b, HO7, Lib.hid (HNX.out _ (by simp)), Lib.hid ((HF3.out.trans HF7.out).chg (Nat.le_refl _))⟩
          case measure => simp [intOf]; omega
      · have h48d : (ts == 48) = false := by simpa using h48
        have HKN := Lib.hid (gknown_any ts w3)
        have HNA := Lib.hid (fun W => named_any ts W)
        have HNB := Lib.hid (fun W => gname_any tm W)
        have HSK := Lib.hid (fun (h : txB nb (⟨ts, tn, tm⟩ :: l.drop (k + 1)) = txB nb (l.drop (k + 1))) => show out ++ txB nb (l.drop (k + 1)) = txB false l from by rw [← h]; exact HS.out)
        by_cases hkw : knownB ts = true
        · rw [hkw] at HKN
          by_cases hnm : namedB ts = true
          · rw [hnm] at HNA
            by_cases hnb : nameB tm = true
            · rw [hnb] at HNB
              have HNX := Lib.hid (fun (o : List UInt8) (h : o = out ++ (encodeRune ts ++ encodeRune tm)) => show o ++ txB false (l.drop (k + 1)) = txB false l from by
                rw [h, ← HS.out, txB_cons_named _ _ _ h48 hnm hnb]
                simp only [List.append_assoc])
              clear hkw hnm hnb
              go_wp2_with (first
                | (go_at_call 91
                   refine HKN.out.mono ?_
                   rintro e w5 ⟨rfl, hc5⟩
                   have HF5 := Lib.hid (Fr.of_chg (B := w.heap.size) (TS := u8T) hc5)
                   have HO5 := Lib.hid (own_keep HO2.out hc5)
                   have y0 := (HKX.out w5 HF5.out).cell 0
                   have y2 := (HKX.out w5 HF5.out).cell 2
                   clear hc5)
                | (go_at_call 92
                   refine (HNA.out _).mono ?_
                   rintro e w8 ⟨rfl, rfl⟩)
                | (go_at_call 81
                   refine (HNB.out _).mono ?_
                   rintro e w8 ⟨rfl, rfl⟩))
              have hnn := HNO.out
              have HLN := Lib.hid (show no + 4 + 4 ≤ 25 * (k + 1) ∧ no ≤ 25000 from ⟨by have := hnum.out; omega, by have := hnum.out; omega⟩)
              clear hnn
              have HF5d := Lib.hid (show Fr w.heap.size u8T w3 w5.drew from HF5.out.trans (Fr.of_chg (Chg.refl [] w5).drew))
              have TOK := frT_ok (B := w.heap.size) (TS := u8T) (hard := [3, 6]) (soft := [3, 6, 7])
              refine wp_flow (by kernel_rfl) (frT w.heap.size u8T [3, 6] [3, 6, 7]) TOK (by kernel_rfl) ?_
              refine flow_move_out TOK rfl rfl rfl ?_
              refine flow1 (r := .pointer (some ⟨gx, 0, none⟩)) TOK rfl (.out rfl rfl) rfl (fun ev W he e1 => by go_simp) ?_
              refine flow1h (r := .int .i32 ts) TOK rfl (.inn rfl) rfl (fun ev W he hW e1 => by have r0 := (HKX.out W (HF5d.out.trans hW)).cell 0; clear hW; go_simp) ?_
              refine flow_early (ownF w.heap.size 5 (bts (out ++ encodeRune ts))) (keeps_own _ _ _) (.inl rfl) rfl rfl (fun ev W he hW hfs => ?_) ?_
              · have hc0 : Chg [] w5 W := (Chg.refl [] w5).drew.trans (fr_star hW)
                rw [run_call he (by kernel_rfl)]
                obtain ⟨_, f1, f2, _⟩ := hfs
                have e1 : ev (.tmp 50) = u3 := f1
                have e2 : ev (.tmp 52) = .int .i32 ts := f2
                rw [show Array.map ev #[.tmp 50, .tmp 52] = #[ev (.tmp 50), ev (.tmp 52)] by simp]
                unfold Leaves
                simp only
                rw [e1, e2]
                refine (arune_any ts hts (own_keep HO5.out hc0) HNO.out (Nat.le_trans (Nat.le_trans HB2.out HF5.out.size) hc0.size) (by have := HLN.out; rw [← HNO.out]; omega)).mono ?_
                rintro e w7 ⟨v7, n7, rfl, hn7, ho7, hf7⟩
                exact ⟨v7, rfl, fr_hard rfl hf7, by unfold ownF; rw [bts_len, ← hn7]; exact ho7⟩
              refine flow1 (r := .pointer (some ⟨gx, 2, none⟩)) TOK rfl (.out rfl rfl) rfl (fun ev W he e1 => by go_simp) ?_
              refine flow1h (r := .int .i32 tm) TOK rfl (.inn rfl) rfl (fun ev W he hW e1 => by have r0 := (HKX.out W (HF5d.out.trans hW)).cell 2; clear hW; go_simp) ?_
              refine flow_call (ownF w.heap.size 5 (bts (out ++ encodeRune ts ++ encodeRune tm))) (keeps_own _ _ _) (.inl rfl) (by kernel_rfl) rfl (fun ev W he hW hfs => ?_) ?_
              · obtain ⟨f1, f2, _⟩ := hfs
                have e2 : ev (.tmp 55) = .int .i32 tm := f2
                have f3 : ownF w.heap.size 5 (bts (out ++ encodeRune ts)) (ev (.tmp 53)) W := f1
                unfold ownF at f3
                rw [show (List.map ev [.tmp 53, .tmp 55]).toArray = #[ev (.tmp 53), ev (.tmp 55)] by simp, e2]
                refine (arune_any tm htm f3 (by rw [bts_len]) (Nat.le_trans (Nat.le_trans HB2.out HF5.out.size) hW.size) (by have := HLN.out; have := enc_le4 ts; rw [List.length_append, ← HNO.out]; omega)).mono ?_
                rintro e w7 ⟨v7, n7, rfl, hn7, ho7, hf7⟩
                exact ⟨v7, rfl, fr_hard rfl hf7, by unfold ownF; rw [bts_len, ← hn7]; exact ho7⟩
              refine flow_assign TOK rfl (keeps_own _ _ _) (.inl rfl) rfl ?_
              intro vs W hW hF
              have hd : ownF w.heap.size 5 (bts (out ++ encodeRune ts ++ encodeRune tm)) (vs 3) W := hF 3 _ rfl rfl
              have HO9 := Lib.hid hd
              have HF9 := Lib.hid (show Fr w.heap.size u8T w3 W from HF5d.out.trans hW)
              simp only [putAll, Act.put, List.setIfInBounds_toArray, List.set_cons_zero, List.set_cons_succ]
              clear hF hW hd TOK
              obtain ⟨w9, hw9⟩ : ∃ w9 : World, w9 = W := ⟨_, rfl⟩
              rw [← hw9] at HO9 HF9 ⊢
              clear hw9
              obtain ⟨n9, hn9⟩ : ∃ n9, n9 = (out ++ encodeRune ts ++ encodeRune tm).length := ⟨_, rfl⟩
              have HO8 := Lib.hid (show w9.ownsRow w.heap.size 5 1 (vs 3) n9 (bts (out ++ encodeRune ts ++ encodeRune tm)) from by have := HO9.out; unfold ownF at this; rwa [bts_len, ← hn9] at this)
              have hn9b : n9 ≤ 25 * (k + 1) := by have := HLN.out; have := enc_le4 ts; have := enc_le4 tm; rw [hn9, List.length_append, List.length_append, ← HNO.out]; omega
              have HN9 := Lib.hid hn9
              have s0 := (HKX.out w9 HF9.out).cell 0
              clear hn9
              generalize vs 3 = v3 at HO8 ⊢
              clear HO9
              go_wp2_with fail
              go_roundw
              case rel => exact ⟨k + 1, false, _, n9, by go_num, rfl, by omega, HN9, hn9b, HO8, Lib.hid (HNX.out _ (by simp only [List.append_assoc])), Lib.hid ((HF3.out.trans HF9.out).chg (Nat.le_refl _))⟩
              case measure => simp [intOf]; omega
            · have hnbf : nameB tm = false := by simpa using hnb
              rw [hnbf] at HNB
              have HS2 := Lib.hid (HSK.out (txB_cons_none nb ⟨ts, tn, tm⟩ _ h48 hnm hnbf))
              clear hkw hnm hnb hnbf
              go_wp2_with (first
                | (go_at_call 91
                   refine HKN.out.mono ?_
                   rintro e w5 ⟨rfl, hc5⟩
                   have HF5 := Lib.hid (Fr.of_chg (B := w.heap.size) (TS := u8T) hc5)
                   have HO5 := Lib.hid (own_keep HO2.out hc5)
                   have HC5 := Lib.hid (HC.out.new (HC2.out.new hc5))
                   have y0 := (HKX.out w5 HF5.out).cell 0
                   have y2 := (HKX.out w5 HF5.out).cell 2
                   clear hc5)
                | (go_at_call 92
                   refine (HNA.out _).mono ?_
                   rintro e w8 ⟨rfl, rfl⟩)
                | (go_at_call 81
                   refine (HNB.out _).mono ?_
                   rintro e w8 ⟨rfl, rfl⟩))
              go_roundw
              case rel => exact ⟨k + 1, nb, out, no, by go_num, rfl, by omega, HNO, by omega, HO5, HS2, HC5⟩
              case measure => simp [intOf]; omega
          · have hnmf : namedB ts = false := by simpa using hnm
            rw [hnmf] at HNA
            have HNX := Lib.hid (fun (o : List UInt8) (h : o = out ++ encodeRune ts) => show o ++ txB false (l.drop (k + 1)) = txB false l from by
              rw [h, ← HS.out, txB_cons_known _ _ _ h48 hnmf hkw]
              simp only [List.append_assoc])
            clear hkw hnm hnmf
            have hlo : out.length ≤ 25000 := by rw [← HNO.out]; omega
            go_wp2_with (first
                | (go_at_call 59
                   refine (arune_any ts hts HO5.out HNO.out (Nat.le_trans HB2.out HF5.out.size) (by omega)).mono ?_
                   rintro e w7 ⟨v7, n7, rfl, hn7, ho7, hf7⟩
                   have HF7 := Lib.hid (HF5.out.trans hf7)
                   have HO7 := Lib.hid ho7
                   have HN7 := Lib.hid hn7
                   have hn7b : n7 ≤ 25 * (k + 1) := by have := enc_le4 ts; rw [hn7, List.length_append, ← HNO.out]; omega
                   have z0 := (HKX.out w7 HF7.out).cell 0
                   clear hn7 ho7 hf7)
                | (go_at_call 91
                   refine HKN.out.mono ?_
                   rintro e w5 ⟨rfl, hc5⟩
                   have HF5 := Lib.hid (Fr.of_chg (B := w.heap.size) (TS := u8T) hc5)
                   have HO5 := Lib.hid (own_keep HO2.out hc5)
                   have HC5 := Lib.hid (HC.out.new (HC2.out.new hc5))
                   have y0 := (HKX.out w5 HF5.out).cell 0
                   have y2 := (HKX.out w5 HF5.out).cell 2
                   clear hc5)
                | (go_at_call 92
                   refine (HNA.out _).mono ?_
                   rintro e w8 ⟨rfl, rfl⟩)
                | (go_at_call 81
                   refine (HNB.out _).mono ?_
                   rintro e w8 ⟨rfl, rfl⟩))
            go_roundw
            case rel => exact ⟨k + 1, false, _, n7, by go_num, rfl, by omega, HN7, hn7b, HO7, Lib.hid (HNX.out _ rfl), Lib.hid ((HF3.out.trans HF7.out).chg (Nat.le_refl _))⟩
            case measure => simp [intOf]; omega
        · have hkf : knownB ts = false := by simpa using hkw
          have hnmf : namedB ts = false := by
            cases hh : namedB ts with
            | false => rfl
            | true => exact absurd (named_known hh).1 hkw
          rw [hkf] at HKN
          have HS2 := Lib.hid (HSK.out (txB_cons_not nb ⟨ts, tn, tm⟩ _ h48 hnmf hkf))
          clear hkw hkf hnmf
          go_wp2_with (first
                | (go_at_call 91
                   refine HKN.out.mono ?_
                   rintro e w5 ⟨rfl, hc5⟩
                   have HF5 := Lib.hid (Fr.of_chg (B := w.heap.size) (TS := u8T) hc5)
                   have HO5 := Lib.hid (own_keep HO2.out hc5)
                   have HC5 := Lib.hid (HC.out.new (HC2.out.new hc5))
                   have y0 := (HKX.out w5 HF5.out).cell 0
                   have y2 := (HKX.out w5 HF5.out).cell 2
                   clear hc5)
                | (go_at_call 92
                   refine (HNA.out _).mono ?_
                   rintro e w8 ⟨rfl, rfl⟩)
                | (go_at_call 81
                   refine (HNB.out _).mono ?_
                   rintro e w8 ⟨rfl, rfl⟩))
          go_roundw
          case rel => exact ⟨k + 1, nb, out, no, by go_num, rfl, by omega, HNO, by omega, HO5, HS2, HC5⟩
          case measure => simp [intOf]; omega
    · have hkI : ¬ (k : Int) < (n : Int) := by omega
      have HXE := Lib.hid (show out = txB false l from by
        have := HX.out
        rw [List.drop_eq_nil_of_le (by rw [HNL.out]; omega), show txB nb [] = [] from by cases nb <;> rfl, List.append_nil] at this
        exact this)
      obtain ⟨A3, c3, rfl, hbs, _⟩ := Bs.of_own HO.out
      have HSTR := Lib.hid (hbs.str 33 5 9 Tryz.underlying33 Tryz.underlying5 Tryz.underlying9)
      have hstr := HSTR.out
      go_wp2_with fail
      go_ret
      exact ⟨by rw [← HXE.out]; rfl, HC.out⟩
end
end Go.Proofs.YtbkfhndmeljlcaaGreatDoor
