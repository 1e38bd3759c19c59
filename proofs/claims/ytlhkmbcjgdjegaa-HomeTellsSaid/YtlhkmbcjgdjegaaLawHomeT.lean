/-
  The walk of HomeTells.
-/
import Derived.Test.YtlhkmbcjgdjegaaHomeKnown
import Derived.Test.YtlhkmbcjgdjegaaMade
import Derived.Test.YtlhkmbcjgdjegaaInto
import Derived.Laws.BitsAllLaws
namespace Go.Proofs.Ytlhkmbcjgdjegaa
open Go.RowKit
/-- A root that was made. -/
def KRoot (a b c : Int) (w2 : World) (s : Value) (wx : World) : Prop := ∃ g, s = .pointer (some ⟨g, 0, none⟩) ∧ Whole wx g 26 [.int .i64 a, .int .i64 b, .int .u32 c] ∧ Chg [] w2 wx
theorem make960 (W : World) : (Instr.makeSlice 22 (.int .i64 960) (.int .i64 960)).run Try.prog W = .ok (.slice (some ⟨W.heap.size, 0, none⟩) 960 960) (W.alloc (.cells (bts (zeros 960)).toArray 5)) := make_u8 960 (by omega) W
section
variable {w : World} {A C : Option Addr} {n c m d : Nat} {l x : List UInt8}
set_option maxHeartbeats 1600000 in
set_option maxRecDepth 100000 in
theorem homeTells_any (h : Bs w A n c l) (L P : Int) (q : Nat) (hq : q < 4294967296) (i : Int) (hx : Bs w C m d x) (hL0 : -9223372036854775808 ≤ L) (hL1 : L ≤ 9223372036854775807) (hP0 : -9223372036854775808 ≤ P) (hP1 : P ≤ 9223372036854775807) (hi0 : -9223372036854775808 ≤ i) (hi1 : i ≤ 9223372036854775807) :
    Calls Try.prog 4 #[.slice A n c, rootV L P q, .int .i64 i, .slice C m d] w (LawPost w) := by
  have hr0 : rootV L P q = .agg #[.int .i64 L, .int .i64 P, .int .u32 (q : Int)] := rfl
  obtain ⟨ka, hka⟩ : ∃ r, r = withinI L 1 6 := ⟨_, rfl⟩
  obtain ⟨kb, hkb⟩ : ∃ r, r = withinI P 1 6 := ⟨_, rfl⟩
  obtain ⟨ki, hki⟩ : ∃ r, r = withinI i (-1) 6 := ⟨_, rfl⟩
  have HW1 := Lib.hid (show ∀ W, Calls Try.prog 18 #[.int .i64 L, .int .i64 1, .int .i64 6] W fun e w' => e = .returned (.int .i64 ka) ∧ W = w' from fun W => by rw [hka]; exact within_is L 1 6 (by omega) (by omega) (by omega) hL0 hL1)
  have HW2 := Lib.hid (show ∀ W, Calls Try.prog 18 #[.int .i64 P, .int .i64 1, .int .i64 6] W fun e w' => e = .returned (.int .i64 kb) ∧ W = w' from fun W => by rw [hkb]; exact within_is P 1 6 (by omega) (by omega) (by omega) hP0 hP1)
  have HW3 := Lib.hid (show ∀ W, Calls Try.prog 18 #[.int .i64 i, .int .i64 (-1), .int .i64 6] W fun e w' => e = .returned (.int .i64 ki) ∧ W = w' from fun W => by rw [hki]; exact within_is i (-1) 6 (by omega) (by omega) (by omega) hi0 hi1)
  obtain ⟨e7, he7, hlt7⟩ : ∃ e : Nat, bits .and .u32 (q : Int) 7 = (e : Int) ∧ e ≤ 7 := ⟨q &&& 7, u32_and_nat q 7 hq (by omega), Nat.and_le_right⟩
  have hsum : IntKind.u32.wrap (1 + (e7 : Int)) = 1 + (e7 : Int) := by simp [IntKind.wrap, IntKind.signed, IntKind.bits]; omega
  have H := Lib.hid h
  have HX := Lib.hid hx
  clear h hx hka hkb hki hL0 hL1 hP0 hP1 hi0 hi1
  have hmk := make960
  have hmk2 := make64
  have Hn := Lib.hid (take_min H.out 960)
  have Hf := take_fits 960 l
  have hY1 := bts_one (l.take 960)
  have hsp := Lib.hid (padN_bts 960 l)
  have hsr := src_take H.out 960
  generalize bts (l.take 960) = Y at Hn Hf hY1 hsp hsr
  have HPl := Lib.hid (padN_len 960 l)
  generalize padN 960 l = X at hsp HPl
  rw [hr0]
  go_enter Try.func4, Try.ntmps4
  go_upto_region 2 with fail
  have hR := Whole.new w 26 [.int .i64 L, .int .i64 P, .int .u32 (q : Int)]
  have hc1 : Chg [] w (w.alloc (.cells #[.int .i64 L, .int .i64 P, .int .u32 (q : Int)] 26)) := (Chg.refl [] w).alloc _
  have hz1 : (w.alloc (.cells #[.int .i64 L, .int .i64 P, .int .u32 (q : Int)] 26)).heap.size = w.heap.size + 1 := by simp
  generalize w.alloc (.cells #[.int .i64 L, .int .i64 P, .int .u32 (q : Int)] 26) = w1 at hc1 hR hz1 ⊢
  have hG0 := Whole.new w1 5 (bts (zeros 960))
  have hC0 : Chg [] w1 (w1.alloc (.cells (bts (zeros 960)).toArray 5)) := (Chg.refl [] w1).alloc _
  have hR2 := hR.keep hC0
  have hc2 := hc1.new hC0
  have hsr2 := hsr.keep hc2
  rw [hz1] at hG0
  generalize w1.alloc (.cells (bts (zeros 960)).toArray 5) = w2 at hG0 hR2 hc2 hsr2 ⊢
  obtain ⟨g5, hg5⟩ : ∃ g, g = w.heap.size := ⟨_, rfl⟩
  rw [← hg5] at hG0 hR2 ⊢
  have hgw := Lib.hid (show w.heap.size ≤ g5 by omega)
  clear hg5 hR hC0 hc1 hz1 hsr
  go_wp2_with (with_reducible refine wpList_copy_chg rfl (.tmp 13) (.tmp 14) _ _ rfl 5 Try.underlying22 size_u8 (some ⟨g5 + 1, 0, none⟩) A 960 960 n c rfl rfl (g5 + 1) 0 5 (bts (zeros 960)) Y hG0 Hn.out (fun _ => rfl) hsr2 Hf hY1 ?_
               intro w3 HG3 HC3)
  rw [hsp.out] at HG3
  have HG := Lib.hid HG3
  have HR3 := Lib.hid (hR2.chg HC3 (by simp))
  have HC := Lib.hid (hc2.then_ HC3 fun i hi hlt => by simp only [List.mem_cons, List.not_mem_nil, or_false] at hi; have := hgw.out; omega)
  clear HG3 hR2 hc2 HC3 hG0 hsr2 hsp Hn Hf hY1
  obtain ⟨c0, c1, c2, _, _, _⟩ := root_cells HR3.out
  have hgl := HR3.out.lt
  simp only [Act.put, List.setIfInBounds_toArray, List.set_cons_zero, List.set_cons_succ]
  go_cut [10] (fun s10 wx => KRoot ka kb ((1 + e7 : Nat) : Int) w3 s10 wx)
  case first =>
    go_region_held3 (fun w' => w'.cell? ⟨g5, 0, none⟩ = some (.int .i64 L) ∧ w'.cell? ⟨g5, 1, none⟩ = some (.int .i64 P) ∧ w'.cell? ⟨g5, 2, none⟩ = some (.int .u32 (q : Int))) (go_keep) (first
      | (go_at_call 18; have _t := R1; refine (HW2.out _).mono ?_; rintro e w' ⟨rfl, rfl⟩)
      | (go_at_call 18; have R1 : True := trivial; refine (HW1.out _).mono ?_; rintro e w' ⟨rfl, rfl⟩))
    all_goals go_wp2_with fail
    all_goals go_meet
    all_goals exact ⟨_, rfl, (Whole.new w3 26 [.int .i64 ka, .int .i64 kb, .int .u32 (1 + (e7 : Int))]).drew, ((Chg.refl [] w3).alloc _).drew⟩
  case rest =>
    obtain ⟨g10, rfl, hK, hcK⟩ := hcut
    obtain ⟨w4, rfl⟩ : ∃ w4 : World, w4 = wc := ⟨_, rfl⟩
    have HK4 := Lib.hid hK
    have HC4 := Lib.hid (HC.out.new hcK)
    have HR4 := Lib.hid (HR3.out.keep hcK)
    have HG4 := Lib.hid (HG.out.keep hcK)
    clear hK hcK c0 c1 c2 hgl
    have Hn := Lib.hid (take_min HX.out 64)
    have Hf := take_fits 64 x
    have hY1 := bts_one (x.take 64)
    have hsp := Lib.hid (padN_bts 64 x)
    have hsr := src_take (HX.out.keep HC4.out) 64
    generalize bts (x.take 64) = Y at Hn Hf hY1 hsp hsr
    have HSl := Lib.hid (padN_len 64 x)
    generalize padN 64 x = S at hsp HSl
    go_upto_region 5 with fail
    have hG0 := Whole.new w4 5 (bts (zeros 64))
    have hC0 : Chg [] w4 (w4.alloc (.cells (bts (zeros 64)).toArray 5)) := (Chg.refl [] w4).alloc _
    have HR5 := Lib.hid (HR4.out.keep hC0)
    have HK5 := Lib.hid (HK4.out.keep hC0)
    have HG5 := Lib.hid (HG4.out.keep hC0)
    have HC5 := Lib.hid (HC4.out.new hC0)
    have hsr2 := hsr.keep hC0
    have Hz := Lib.hid (show g5 < w4.heap.size ∧ g5 + 1 < w4.heap.size ∧ g10 < w4.heap.size from ⟨HR4.out.lt, HG4.out.lt, HK4.out.lt⟩)
    have Hz0 := Lib.hid (show w.heap.size ≤ w4.heap.size from HC4.out.size)
    generalize w4.alloc (.cells (bts (zeros 64)).toArray 5) = w5 at hG0 HR5 HK5 HG5 HC5 hsr2 ⊢
    obtain ⟨g11, hg11⟩ : ∃ g, g = w4.heap.size := ⟨_, rfl⟩
    rw [← hg11] at hG0 Hz Hz0 ⊢
    clear hg11 hsr hC0
    go_wp2_with (with_reducible refine wpList_copy_chg rfl (.tmp 28) (.tmp 29) _ _ rfl 5 Try.underlying22 size_u8 (some ⟨g11, 0, none⟩) C 64 64 m d rfl rfl g11 0 5 (bts (zeros 64)) Y hG0 Hn.out (fun _ => rfl) hsr2 Hf hY1 ?_
                 intro w6 HG6 HC6)
    rw [hsp.out] at HG6
    have HBS := Lib.hid (bs64 HG6 HSl.out)
    have HRz := Lib.hid (HR5.out.chg HC6 (by have := Hz.out; simp; omega))
    have HKz := Lib.hid (HK5.out.chg HC6 (by have := Hz.out; simp; omega))
    have hGz := HG5.out.chg HC6 (by have := Hz.out; simp; omega)
    have HBX := Lib.hid (show Bs w6 (some ⟨g5 + 1, 0, none⟩) 960 960 X by have := Bs.of_all hGz (by rw [HPl.out]; omega); rwa [HPl.out] at this)
    have HCz := Lib.hid (HC5.out.then_ HC6 fun i hi hlt => by simp only [List.mem_cons, List.not_mem_nil, or_false] at hi; have := Hz0.out; omega)
    clear HG6 HC6 hGz hG0 hsr2 hsp Hn Hf hY1
    have hldK := fun (W : World) (hW : Chg [] w6.drew W) => root_cells (HKz.out.drew.keep hW)
    have hldR := fun (W : World) (hW : Chg [] w6.drew W) => root_cells (HRz.out.drew.keep hW)
    refine wp_flow (by kernel_rfl) plainT plainT_ok (by kernel_rfl) ?_
    refine flow_move_out plainT_ok rfl rfl rfl ?_
    refine flow1h (r := rootV ka kb ((1 + e7 : Nat) : Int)) plainT_ok rfl (.out rfl rfl) rfl (fun ev W he hW e1 => by obtain ⟨c0, c1, c2, _, _, _⟩ := hldK W hW; go_simp; rfl) ?_
    refine flow_move_out plainT_ok rfl rfl rfl ?_
    refine flow_callv (.int .i64 ki) (by kernel_rfl) rfl (.cons (.inn rfl) (.cons (.const _) (.cons (.const _) .nil))) (fun W hW => (HW3.out W).mono ?_) ?_
    · rintro e w' ⟨rfl, rfl⟩; exact ⟨rfl, Chg.refl _ _⟩
    refine flow_move_out plainT_ok rfl rfl rfl ?_
    refine flow_callv (.bool true) (by kernel_rfl) rfl (.cons (.inn rfl) (.cons (.inn rfl) (.cons (.inn rfl) (.cons (.inn rfl) .nil)))) (fun W hW => (hsame_any (HBX.out.keep (wdrew hW)) (by omega) (by omega) (by omega) ka kb ((1 + e7 : Nat) : Int) ki (HBS.out.keep (wdrew hW)) (Bs.blk (HBS.out.keep (wdrew hW)))).mono ?_) ?_
    · rintro e w' ⟨rfl, hc⟩; exact ⟨rfl, hc⟩
    refine flow_move plainT_ok rfl (keeps_isV _) (.inr (keeps_isV _)) rfl ?_
    refine flow_move_out plainT_ok rfl rfl rfl ?_
    refine flow1h (r := rootV ka kb ((1 + e7 : Nat) : Int)) plainT_ok rfl (.out rfl rfl) rfl (fun ev W he hW e1 => by obtain ⟨c0, c1, c2, _, _, _⟩ := hldK W hW; go_simp; rfl) ?_
    refine flow_move_out plainT_ok rfl rfl rfl ?_
    refine flow_move_out plainT_ok rfl rfl rfl ?_
    refine flow_callv (.bool true) (by kernel_rfl) rfl (.cons (.inn rfl) (.cons (.inn rfl) (.cons (.inn rfl) (.cons (.inn rfl) .nil)))) (fun W hW => (hsame_any (HBX.out.keep (wdrew hW)) (by omega) (by omega) (by omega) ka kb ((1 + e7 : Nat) : Int) i ((HX.out.keep HCz.out).keep (wdrew hW)) (Bs.blk ((HX.out.keep HCz.out).keep (wdrew hW)))).mono ?_) ?_
    · rintro e w' ⟨rfl, hc⟩; exact ⟨rfl, hc⟩
    refine flow_and plainT_ok rfl rfl rfl ?_
    refine flow_move plainT_ok rfl (keeps_isV _) (.inr (keeps_isV _)) rfl ?_
    refine flow_move_out plainT_ok rfl rfl rfl ?_
    refine flow1h (r := rootV L P q) plainT_ok rfl (.out rfl rfl) rfl (fun ev W he hW e1 => by obtain ⟨c0, c1, c2, _, _, _⟩ := hldR W hW; go_simp) ?_
    refine flow_move_out plainT_ok rfl rfl rfl ?_
    refine flow_move_out plainT_ok rfl rfl rfl ?_
    refine flow_callv (.bool true) (by kernel_rfl) rfl (.cons (.inn rfl) (.cons (.inn rfl) (.cons (.inn rfl) (.cons (.inn rfl) .nil)))) (fun W hW => (hsame_any (HBX.out.keep (wdrew hW)) (by omega) (by omega) (by omega) L P q i (HBS.out.keep (wdrew hW)) (Bs.blk (HBS.out.keep (wdrew hW)))).mono ?_) ?_
    · rintro e w' ⟨rfl, hc⟩; exact ⟨rfl, hc⟩
    refine flow_and plainT_ok rfl rfl rfl ?_
    refine flow_move plainT_ok rfl (keeps_isV _) (.inr (keeps_isV _)) rfl ?_
    refine flow_callv (.bool true) (by kernel_rfl) rfl .nil (fun W hW => hknown_any.mono ?_) ?_
    · rintro e w' ⟨rfl, hc⟩; exact ⟨rfl, hc⟩
    refine flow_and plainT_ok rfl rfl rfl ?_
    refine flow_assign plainT_ok rfl (keeps_isV _) (.inr (keeps_isV _)) rfl ?_
    intro vs W hW hF
    have e8 : vs 8 = .bool true := hF 8 _ rfl rfl
    simp only [putAll, Act.put, List.setIfInBounds_toArray, List.set_cons_zero, List.set_cons_succ, e8]
    have HCW := Lib.hid (HCz.out.new (wdrew hW))
    clear hW hF hldK hldR
    go_wp2_with fail
    go_ret
    exact ⟨rfl, HCW.out⟩
end
end Go.Proofs.Ytlhkmbcjgdjegaa
