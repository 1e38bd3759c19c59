/-
  Layer 5: the law's known.
-/
import Derived.Test.YteodadngnlekfaaRootBest
namespace Go.Proofs.Yteodadngnlekfaa
open Go.RowKit
def agg345 : Value := .agg #[.int .i64 3, .int .i64 4, .int .u32 5]
theorem root345 : isRoot (rootL 3 4 5) ∧ getI (rootL 3 4 5) 4 = 3 ∧ getI (rootL 3 4 5) 8 = 4 ∧ getI (rootL 3 4 5) 12 = 5 := root_is 3 4 5 (by omega) (by omega) (by omega)
section
variable {w : World} {A : Option Addr} {n c : Nat}
theorem bytes345 : Calls Try.prog 27 #[.agg #[.int .i64 3, .int .i64 4, .int .u32 5]] w (BytesPost w (rootL 3 4 5)) := rootbytes_any 3 4 5 (by omega) (by omega) (by omega)
theorem rroot345 : Calls Try.prog 23 #[.agg #[.int .i64 3, .int .i64 4, .int .u32 5]] w (BytesPost w (rootL 3 4 5)) := rroot_any 3 4 5 (by omega) (by omega) (by omega)
theorem read345 (h : Bs w A n c (rootL 3 4 5)) : Calls Try.prog 28 #[.slice A n c] w fun e w' => e = .returned (.tuple #[.agg #[.int .i64 3, .int .i64 4, .int .u32 5], .bool true]) ∧ Chg [] w w' := by
  refine (rootread_any h).mono ?_
  obtain ⟨hi, g4, g8, g12⟩ := root345
  rintro e w' (⟨_, rfl, hc⟩ | ⟨hno, _⟩)
  · rw [g4, g8, g12]
    exact ⟨rfl, hc⟩
  · exact absurd hi hno
theorem new9 : Calls Try.prog 29 #[.int .i64 9] w fun e w' => ∃ p bL bS bW, e = .returned (.pointer (some ⟨p, 0, none⟩)) ∧ Dsk w' p bL bS bW (zeros 576) (zeros 576) (falses 9) ∧
      w.heap.size ≤ p ∧ w.heap.size ≤ bL ∧ w.heap.size ≤ bS ∧ w.heap.size ≤ bW ∧ Chg [] w w' := new_yes 9 (by omega) (by omega)
theorem best9_none : bestK 9 (zeros 576) 2 = RV.zero := best_none (by rw [sect_zeros 9 576 0 rfl]; exact zeros_no) (by rw [sect_zeros 9 576 1 rfl]; exact zeros_no)
theorem best9_one : bestK 9 (splice (zeros 576) (1 * 64) (rootL 3 4 5)) 2 = ⟨3, 4, 5⟩ :=
  best_one (k := 1) (by omega) (by omega) (by omega) (by decide) (by omega) (sect_same (by rw [zeros_len]) (by omega) (rootL_len 3 4 5)) (by
    show ¬ isRoot (sectL _ 9 0)
    rw [sect_other (by rw [zeros_len]) (by omega) (rootL_len 3 4 5) (by omega), sect_zeros 9 576 0 rfl]
    exact zeros_no)
theorem home345 : Calls Try.prog 40 #[.agg #[.int .i64 3, .int .i64 4, .int .u32 5], .int .i64 0] w fun e w' => e = .returned (.int .i64 5) ∧ Chg [] w w' := (home_any 3 4 5 0).mono fun _ _ ⟨h1, h2⟩ => ⟨by rw [h1, show homeI 3 4 0 = 5 by unfold homeI; rw [if_neg (by omega)]; unfold wrap64; omega], h2⟩
theorem home345' : Calls Try.prog 40 #[.agg #[.int .i64 3, .int .i64 4, .int .u32 5], .int .i64 4] w fun e w' => e = .returned (.int .i64 (-1)) ∧ Chg [] w w' := (home_any 3 4 5 4).mono fun _ _ ⟨h1, h2⟩ => ⟨by rw [h1, show homeI 3 4 4 = -1 by unfold homeI; rw [if_pos (by omega)]], h2⟩
theorem right345 : Calls Try.prog 38 #[.agg #[.int .i64 3, .int .i64 4, .int .u32 5], .int .i64 9] w (BoolPost true w) := (rright_any 3 4 5 9).mono fun _ _ ⟨h1, h2⟩ => ⟨by rw [h1, show rightR 3 4 5 9 = true by decide], h2⟩
theorem right345' : Calls Try.prog 38 #[.agg #[.int .i64 3, .int .i64 4, .int .u32 5], .int .i64 8] w (BoolPost false w) := (rright_any 3 4 5 8).mono fun _ _ ⟨h1, h2⟩ => ⟨by rw [h1, show rightR 3 4 5 8 = false by decide], h2⟩
set_option maxHeartbeats 8000000 in
set_option maxRecDepth 100000 in
theorem rknown_any : Calls Try.prog 26 #[] w (LawPost w) := by
  go_enter Try.func26, Try.ntmps26
  go_wp2_with fail
  refine new9.mono ?_
  rintro e w1 ⟨p, bL, bS, bW, rfl, HD, b0, b1, b2, b3, hc1⟩
  have HD1 := Lib.hid HD
  have HN1 := Lib.hid hc1
  have l2 := HD.seen.lt
  have l3 := HD.wait.lt
  clear HD hc1
  go_wp2_with fail
  refine (best_any HD1.out).mono ?_
  rintro e w2 ⟨rfl, hc2⟩
  rw [show (falses 9).length = 9 from falses_len 9, best9_none, show rootV (RV.zero.log : Nat) (RV.zero.pages : Nat) (RV.zero.epoch : Nat) = .agg #[.int .i64 0, .int .i64 0, .int .u32 0] from rfl, show decide (0 < RV.zero.epoch) = false from rfl]
  have HD2 := Lib.hid (HD1.out.keep (hc2.alloc (.cells #[.int .i64 0, .int .i64 0, .int .u32 0] 46)))
  have HN2 := Lib.hid (HN1.out.new (hc2.alloc (.cells #[.int .i64 0, .int .i64 0, .int .u32 0] 46)))
  have hs2 := hc2.size
  clear hc2
  go_wp2_with fail
  have hz2 : (w2.alloc (.cells #[.int .i64 0, .int .i64 0, .int .u32 0] 46)).heap.size = w2.heap.size + 1 := by simp
  generalize w2.alloc (.cells #[.int .i64 0, .int .i64 0, .int .u32 0] 46) = w3 at HD2 HN2 hz2 ⊢
  have hG := Whole.new w3 46 [.int .i64 3, .int .i64 4, .int .u32 5]
  have hal : Chg [] w3 (w3.alloc (.cells #[.int .i64 3, .int .i64 4, .int .u32 5] 46)) := (Chg.refl [] w3).alloc _
  have HD3 := Lib.hid (HD2.out.keep hal)
  have HN3 := Lib.hid (HN2.out.new hal)
  rw [hz2] at hG
  generalize w3.alloc (.cells #[.int .i64 3, .int .i64 4, .int .u32 5] 46) = w4 at hG HD3 HN3 ⊢
  obtain ⟨g, hg⟩ : ∃ g, g = w2.heap.size + 1 := ⟨_, rfl⟩
  rw [← hg] at hG ⊢
  have hgb : bS < g ∧ bW < g := by omega
  have HG3 := Lib.hid hG
  clear hG hal hg hz2
  refine bytes345.mono ?_
  rintro e w5 ⟨v5, rfl, ho5, hc5⟩
  obtain ⟨A5, c5, rfl, hB5, _⟩ := Bs.of_own ho5
  rw [rootL_len] at hB5 ⊢
  have HB5 := Lib.hid hB5
  have HD5 := Lib.hid (HD3.out.keep hc5)
  have HN5 := Lib.hid (HN3.out.new hc5)
  have HG5 := Lib.hid (HG3.out.keep hc5)
  clear ho5 hB5 hc5
  go_wp2_with fail
  refine (read345 HB5.out).mono ?_
  rintro e w6 ⟨rfl, hc6⟩
  have HD6 := Lib.hid (HD5.out.keep hc6)
  have HN6 := Lib.hid (HN5.out.new hc6)
  have HG6 := Lib.hid (HG5.out.keep hc6)
  have hgl := HG6.out.lt
  have hgn : ¬ g = w6.heap.size := by omega
  clear hc6
  obtain ⟨c0, c1, c2, _, _, _⟩ := root_cells HG6.out
  go_wp2_with fail
  have hK := Whole.new w6 46 [.int .i64 3, .int .i64 4, .int .u32 5]
  have hal : Chg [] w6 (w6.alloc (.cells #[.int .i64 3, .int .i64 4, .int .u32 5] 46)) := (Chg.refl [] w6).alloc _
  have HD7 := Lib.hid (HD6.out.keep hal)
  have HN7 := Lib.hid (HN6.out.new hal)
  have HG7 := Lib.hid (HG6.out.keep hal)
  generalize w6.alloc (.cells #[.int .i64 3, .int .i64 4, .int .u32 5] 46) = w7 at hK HD7 HN7 HG7 ⊢
  obtain ⟨g5, hg5⟩ : ∃ g5, g5 = w6.heap.size := ⟨_, rfl⟩
  rw [← hg5] at hK ⊢
  have hg5b : g < g5 := by omega
  have HK7 := Lib.hid hK
  clear hK hal hg5 c0 c1 c2 hgn
  refine rroot345.mono ?_
  rintro e w8 ⟨v8, rfl, ho8, hc8⟩
  obtain ⟨A8, c8, rfl, hB8, _⟩ := Bs.of_own ho8
  rw [rootL_len] at hB8 ⊢
  have HB8 := Lib.hid hB8
  have HD8 := Lib.hid (HD7.out.keep hc8)
  have HN8 := Lib.hid (HN7.out.new hc8)
  have HG8 := Lib.hid (HG7.out.keep hc8)
  have HK8 := Lib.hid (HK7.out.keep hc8)
  clear ho8 hB8 hc8
  go_wp2_with fail
  refine (write_yes HD8.out 1 (by rw [falses_len]; omega) (x := rootL 3 4 5) HB8.out.len HB8.out.src).mono ?_
  rintro e w9 ⟨rfl, HD9', hc9⟩
  have HD9 := Lib.hid HD9'
  have HN9 := Lib.hid (HN8.out.then_ hc9 (fun i hi hlt => by simp only [List.mem_cons, List.not_mem_nil, or_false] at hi; omega))
  have HG9 := Lib.hid (HG8.out.chg hc9 (by simp; omega))
  have HK9 := Lib.hid (HK8.out.chg hc9 (by simp; omega))
  clear HD9' hc9
  go_wp2_with fail
  refine (best_any HD9.out).mono ?_
  rintro e w10 ⟨rfl, hc10⟩
  rw [List.length_set, falses_len, best9_one, show rootV ((⟨3, 4, 5⟩ : RV).log : Nat) ((⟨3, 4, 5⟩ : RV).pages : Nat) ((⟨3, 4, 5⟩ : RV).epoch : Nat) = .agg #[.int .i64 3, .int .i64 4, .int .u32 5] from rfl, show decide (0 < (⟨3, 4, 5⟩ : RV).epoch) = true from rfl]
  have HN10 := Lib.hid (HN9.out.new hc10)
  have HG10 := Lib.hid (HG9.out.keep hc10)
  have HK10 := Lib.hid (HK9.out.keep hc10)
  clear hc10
  go_wp2_with fail
  have hX := Whole.new w10 46 [.int .i64 3, .int .i64 4, .int .u32 5]
  have hal : Chg [] w10 (w10.alloc (.cells #[.int .i64 3, .int .i64 4, .int .u32 5] 46)) := (Chg.refl [] w10).alloc _
  have HN11 := Lib.hid (HN10.out.new hal)
  have HG11 := Lib.hid (HG10.out.keep hal)
  have HK11 := Lib.hid (HK10.out.keep hal)
  generalize w10.alloc (.cells #[.int .i64 3, .int .i64 4, .int .u32 5] 46) = w11 at hX HN11 HG11 HK11 ⊢
  generalize w10.heap.size = g8 at hX ⊢
  have HX11 := Lib.hid hX
  clear hX hal
  refine best_nil.mono ?_
  rintro e w12 ⟨rfl, hc12⟩
  rw [show rootV (RV.zero.log : Nat) (RV.zero.pages : Nat) (RV.zero.epoch : Nat) = .agg #[.int .i64 0, .int .i64 0, .int .u32 0] from rfl, show decide (0 < RV.zero.epoch) = false from rfl]
  have HN12 := Lib.hid (HN11.out.new hc12)
  have HG12 := Lib.hid (HG11.out.keep hc12)
  have HK12 := Lib.hid (HK11.out.keep hc12)
  have HX12 := Lib.hid (HX11.out.keep hc12)
  clear hc12
  have n1 := HG12.out.lt
  have n2 := HK12.out.lt
  have n3 := HX12.out.lt
  have m1 : ¬ g = w12.heap.size := by omega
  have m2 : ¬ g5 = w12.heap.size := by omega
  have m3 : ¬ g8 = w12.heap.size := by omega
  obtain ⟨c0, c1, c2, _, _, _⟩ := root_cells HG12.out
  obtain ⟨d0, d1, d2, _, _, _⟩ := root_cells HK12.out
  obtain ⟨e0, e1, e2, _, _, _⟩ := root_cells HX12.out
  go_wp2_with fail
  have hal : Chg [] w12 (w12.alloc (.cells #[.int .i64 0, .int .i64 0, .int .u32 0] 46)) := (Chg.refl [] w12).alloc _
  have HN13 := Lib.hid (HN12.out.new hal)
  have HG13 := Lib.hid (HG12.out.keep hal)
  clear hal c0 c1 c2 d0 d1 d2 e0 e1 e2 m1 m2 m3
  refine home345.mono ?_
  rintro e w14 ⟨rfl, hc14⟩
  have HN14 := Lib.hid (HN13.out.new hc14)
  have HG14 := Lib.hid (HG13.out.keep hc14)
  clear hc14
  obtain ⟨c0, c1, c2, _, _, _⟩ := root_cells HG14.out
  go_wp2_with fail
  clear c0 c1 c2
  refine home345'.mono ?_
  rintro e w15 ⟨rfl, hc15⟩
  have HN15 := Lib.hid (HN14.out.new hc15)
  have HG15 := Lib.hid (HG14.out.keep hc15)
  clear hc15
  obtain ⟨c0, c1, c2, _, _, _⟩ := root_cells HG15.out
  go_wp2_with fail
  clear c0 c1 c2
  refine right345.mono ?_
  rintro e w16 ⟨rfl, hc16⟩
  have HN16 := Lib.hid (HN15.out.new hc16)
  have HG16 := Lib.hid (HG15.out.keep hc16)
  clear hc16
  obtain ⟨c0, c1, c2, _, _, _⟩ := root_cells HG16.out
  go_wp2_with fail
  clear c0 c1 c2
  refine right345'.mono ?_
  rintro e w17 ⟨rfl, hc17⟩
  have HN17 := Lib.hid (HN16.out.new hc17)
  clear hc17
  go_wp2_with fail
  go_ret
  exact ⟨rfl, HN17.out⟩
end
end Go.Proofs.Yteodadngnlekfaa
