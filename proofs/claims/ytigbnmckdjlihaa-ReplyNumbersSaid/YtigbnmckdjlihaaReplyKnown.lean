/-
  Layer 12: the law's known.
-/
import Derived.Test.YtigbnmckdjlihaaReplyRow
namespace Go.Proofs.Ytigbnmckdjlihaa
open Go.RowKit
theorem Num.text (s : ByteArray) (k : Nat) (h : s.size ≤ 9223372036854775807) (hk : runesN s = k) : Num (.iface 9 (.string s)) (some (k : Int)) := hk ▸ Num.str s h
theorem Num.one_ (n : Int) (h : -9223372036854775808 ≤ n ∧ n ≤ 9223372036854775807) : Num (.iface 3 (.int .i64 n)) (some n) := Num.int n h.1 h.2
theorem Num.yes : Num (.iface 4 (.bool true)) (some 1) := Num.bool true
theorem Num.no : Num (.iface 4 (.bool false)) (some 0) := Num.bool false
theorem Num.none_ (t : TypeId) (u : Value) (h : ∀ k ∈ [2, 3, 4, 21, 9, 53], t ≠ k) : Num (.iface t u) none :=
  Num.other t u (h _ (by simp)) (h _ (by simp)) (h _ (by simp)) (h _ (by simp)) (h _ (by simp)) (h _ (by simp))
theorem upto_one (i : Nat) (hi : i < 1) : ∃ q, ([some 1, none] : List (Option Int))[i]? = some (some q) := by
  obtain rfl : i = 0 := by omega
  exact ⟨1, rfl⟩
theorem Src.low {w w' : World} {A : Option Addr} {xs : List Value} {B : Nat} (h : Src w A xs) (hB : ∀ ad, A = some ad → ad.block < B) (hL : Low B w w') : Src w' A xs := fun hp => by
  obtain ⟨ad, e, hb, hx⟩ := h hp
  refine ⟨ad, e, Nat.lt_of_lt_of_le hb hL.size, fun j v hj => ?_⟩
  have := hx j v hj
  rw [← this]
  have e2 : (ad.add j).block = ad.block := by unfold Addr.add; split <;> rfl
  exact World.cell?_of_block (w := w) (hL.block _ (by rw [e2]; exact hB ad e) (by rw [e2]; exact hb))
/-- Ask where the answer is known. -/
def AskIs (w : World) (B p : Nat) (rs : List (Option Int)) (qs : List (Int × Int)) (n : Int) (ok : Bool) (e : Ending) (w' : World) : Prop :=
  ∃ a q, e = .returned (.tuple #[.int .i64 n, .bool ok]) ∧ Rw w' B p rs qs a q ∧ Low B w w'
theorem ask_is {w : World} {B p : Nat} {rs : List (Option Int)} {qs : List (Int × Int)} {a q : Value} (h : Rw w B p rs qs a q) (hB : B ≤ w.heap.size) (hq : qs.length ≤ 1000000) (x y : Int) (r : Option Int) (hr : nextR rs qs.length = r) (qs' : List (Int × Int)) (hqs : qs ++ [(x, y)] = qs') (n : Int) (ok : Bool) (hn : r.getD 0 = n) (hok : r.isSome = ok) :
    Calls Try.prog 33 #[.pointer (some ⟨p, 0, none⟩), .int .i32 x, .int .i64 y] w (AskIs w B p rs qs' n ok) := by
  refine (ask_any h hB hq x y).mono ?_
  rintro e w' ⟨a', q', rfl, hR, hL⟩
  rw [hr, hn, hok]
  rw [hqs] at hR
  exact ⟨a', q', rfl, hR, hL⟩
section
variable {w : World}
set_option maxHeartbeats 4000000 in
set_option maxRecDepth 100000 in
theorem rknown_any : Calls Try.prog 36 #[] w (LawPost w) := by
  go_enter Try.func36, Try.ntmps36
  go_wp2_with fail
  refine (vof_any (Num.text ⟨#[97, 98]⟩ 2 (by decide) (by decide +kernel))).mono ?_
  rintro e w1 ⟨rfl, hc1⟩
  simp only [Option.getD_some, Option.isSome_some]
  go_wp2_with fail
  refine (vof_any Num.nil).mono ?_
  rintro e w2 ⟨rfl, hc2⟩
  simp only [Option.getD_none, Option.isSome_none]
  have h2 := hc1.new hc2
  have b2 := h2.size
  clear hc1 hc2
  go_wp2_with fail
  refine (all_yes (n := 3) (ns := [1, 1, 1]) (vs := [.iface 3 (.int .i64 1), .iface 4 (.bool true), .iface 9 (.string ⟨#[120]⟩)]) (Nums.cons (Num.one_ 1 (by omega)) (Nums.cons Num.yes (Nums.cons (Num.text ⟨#[120]⟩ 1 (by decide) (by decide +kernel)) Nums.nil))) (Src.of_all (Whole.new w2 _ _)) (fun ad e => by injection e with e; subst e; rfl) rfl (by omega)).mono ?_
  rintro e w3 ⟨v3, rfl, ho3, hc3⟩
  obtain ⟨A3, c3, rfl, _, _, hs3, hA3⟩ := own_slice ho3
  have h3 := (h2.alloc _).new hc3
  clear ho3 hc3 h2
  have hs3 := Lib.hid hs3
  have hA3 := Lib.hid hA3
  go_wp2_with fail
  refine (all_no (n := 2) (vs := [.iface 3 (.int .i64 1), .iface 85 (.float .f64 4609434218613702656)]) (rs := [some 1, none]) (Nums.cons (Num.one_ 1 (by omega)) (Nums.cons (Num.none_ _ _ (by decide)) Nums.nil)) (Src.of_all (Whole.new w3 _ _)) (fun ad e => by injection e with e; subst e; rfl) rfl (by omega) 1 rfl upto_one).mono ?_
  rintro e w4 ⟨rfl, hc4⟩
  have h34 := ((Chg.refl [] w3).alloc (.cells #[.iface 3 (.int .i64 1), .iface 85 (.float .f64 4609434218613702656)] 20)).new hc4
  have b34 := h34.size
  have hs4 := Lib.hid (hs3.out.keep h34)
  have h4 := h3.new h34
  clear hc4 h3 h34
  go_wp2_with fail
  refine (rnew_any (n := 2) (vs := [.iface 3 (.int .i64 7), .nilIface]) (rs := [some 7, none]) (Nums.cons (Num.one_ 7 (by omega)) (Nums.cons Num.nil Nums.nil)) (Src.of_all (Whole.new w4 _ _)) (fun ad e => by injection e with e; subst e; rfl) rfl (by omega) 2 (by decide)).mono ?_
  rintro e w5 ⟨p, a5, q5, rfl, hR5, hc5⟩
  obtain ⟨B, hB⟩ : ∃ B, B = (w4.alloc (.cells #[.iface 3 (.int .i64 7), .nilIface] 20)).heap.size := ⟨_, rfl⟩
  rw [← hB] at hR5
  have hB4 : w4.heap.size ≤ B := by rw [hB]; simp
  have h45 := ((Chg.refl [] w4).alloc (.cells #[.iface 3 (.int .i64 7), .nilIface] 20)).new hc5
  have b5 := hc5.size
  rw [← hB] at b5
  have hs5 := Lib.hid (hs4.out.keep h45)
  have h5 := h4.new h45
  clear hc5 h45 hB
  go_wp2_with fail
  refine (ask_is hR5 b5 (by decide) 113 1 (some 7) rfl [(113, 1)] rfl 7 true rfl rfl).mono ?_
  rintro e w6 ⟨a6, q6, rfl, hR6, hL6⟩
  have b6 := Nat.le_trans b5 hL6.size
  go_wp2_with fail
  refine (ask_is hR6 b6 (by decide) 114 2 none rfl [(113, 1), (114, 2)] rfl 0 false rfl rfl).mono ?_
  rintro e w7 ⟨a7, q7, rfl, hR7, hL7⟩
  have b7 := Nat.le_trans b6 hL7.size
  go_wp2_with fail
  refine (ask_is hR7 b7 (by decide) 113 3 (some 0) rfl [(113, 1), (114, 2), (113, 3)] rfl 0 true rfl rfl).mono ?_
  rintro e w8 ⟨a8, q8, rfl, hR8, hL8⟩
  have hL58 := (hL6.trans hL7).trans hL8
  have hs8 := Lib.hid (hs5.out.low (fun ad e => by have := (hA3.out ad e).2.2.2; omega) hL58)
  have h8 : Chg [] w w8 := ((Low.of_chg (B := B) h5).trans hL58).chg (by have := h4.size; omega)
  have HR8 := Lib.hid hR8
  clear hL6 hL7 hL8 hL58 hR5 hR6 hR7 hR8 h4 h5
  go_wp2_with fail
  refine (same64_yes (n := 3) (l := [1, 1, 1]) rfl (by omega) (hs8.out.keep ((Chg.refl _ _).alloc _)) (Src.of_all (Whole.new w8 _ _)) (fun ad e => (hA3.out ad e).1) (fun ad e => by injection e with e; subst e; rfl)).mono ?_
  rintro e w9 ⟨rfl, hc9⟩
  have h9 := (h8.alloc _).new hc9
  have HR9 := Lib.hid ((HR8.out.keep ((Chg.refl _ _).alloc _)).keep hc9)
  clear hc9 h8
  go_wp2_with fail
  refine (must_no (Num.none_ _ _ (by decide))).mono ?_
  rintro e w10 ⟨rfl, hc10⟩
  have h10 := h9.new hc10
  have HR10 := Lib.hid (HR9.out.keep hc10)
  clear hc10 h9
  go_wp2_with fail
  refine (asks_any HR10.out (by decide) (by decide)).mono ?_
  rintro e w11 ⟨v11, rfl, ho11, hc11⟩
  obtain ⟨A11, c11, rfl, _⟩ := rown_slice ho11
  have h11 := h10.new hc11
  have HR11 := Lib.hid (HR10.out.keep hc11)
  clear hc11 h10 ho11
  go_wp2_with fail
  refine (asks_any HR11.out (by decide) (by decide)).mono ?_
  rintro e w12 ⟨v12, rfl, ho12, hc12⟩
  obtain ⟨A12, c12, rfl, _⟩ := rown_slice ho12
  obtain ⟨g, rfl, k1⟩ := rown_cell ho12 rfl (qs_get (k := 1) (q := (114, 2)) rfl).1
  have h12 := h11.new hc12
  clear hc12 h11 ho12
  go_wp2_with fail
  go_ret
  exact ⟨rfl, h12⟩
end
end Go.Proofs.Ytigbnmckdjlihaa
