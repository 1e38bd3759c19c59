/-
  The walk of RedoNumbers.
-/
import Derived.Test.YtlhkmbcjgdjegaaZRedoTells1
import Derived.Test.YtlhkmbcjgdjegaaZRedoTells2
import Derived.Test.YtlhkmbcjgdjegaaZRedoTells3
import Derived.Test.YtlhkmbcjgdjegaaZRedoTells4
import Derived.Test.YtlhkmbcjgdjegaaZRedoTells5
namespace Go.Proofs.Ytlhkmbcjgdjegaa
open Go.RowKit
theorem mod_u8 (z : Int) : ∃ c : UInt8, Value.int .u8 (z % 256) = B8 c := by
  refine ⟨UInt8.ofNat (z % 256).toNat, ?_⟩
  unfold B8
  rw [UInt8.toNat_ofNat', Nat.mod_eq_of_lt (by simp; omega)]
  congr 1
  omega
theorem and1 : ∀ k : Fin 40, bits .and .i64 ((k.val : Nat) : Int) 1 = ((k.val % 2 : Nat) : Int) := by decide +kernel
theorem mul_le {i k a b : Nat} (h : i ≤ a) (h2 : k ≤ b) : (i : Int) * (k : Int) ≤ ((a * b : Nat) : Int) := by
  rw [← Int.natCast_mul]
  exact Int.ofNat_le.2 (Nat.mul_le_mul h h2)
/-- Numbers, lists of bytes, in blocks of the call's own. -/
def intsF (xs : List Int) : Fact := fun v W => ∃ g, v = .slice (some ⟨g, 0, none⟩) xs.length xs.length ∧ Whole W g 3 (nms xs)
theorem keeps_ints (xs : List Int) : Keeps (Chg []) (intsF xs) := fun _ _ _ ⟨g, e, h⟩ hc => ⟨g, e, h.keep hc⟩
def gridF (n : Nat) : Fact := fun v W => ∃ g vs ls, v = .slice (some ⟨g, 0, none⟩) n n ∧ Whole W g 22 vs ∧ vs.length = n ∧ Lists W vs ls
theorem keeps_grid (n : Nat) : Keeps (Chg []) (gridF n) := fun _ _ _ ⟨g, vs, ls, e, h, hl, ha⟩ hc => ⟨g, vs, ls, e, h.keep hc, hl, ha.keep hc⟩
theorem plays_f {W : World} (L P : Int) (ep : Nat) {xs : List Int} {u v : Value} {n : Nat} (hn : n ≤ 100) (hl : xs.length ≤ 100) (hx : ∀ x ∈ xs, -9223372036854775808 ≤ x ∧ x ≤ 9223372036854775807) (h1 : intsF xs u W) (h2 : gridF n v W) :
    Calls Try.prog 33 #[rootV L P (ep : Int), u, v] W (LawPost W) := by
  obtain ⟨g, rfl, hg⟩ := h1
  obtain ⟨g2, vs, ls, rfl, hg2, hvl, hL⟩ := h2
  exact plays_any L P ep (Src.of_all hg) (fun _ ad e => by injection e with e; subst e; rfl) rfl (by omega) hx (Src.of_all hg2) (fun _ ad e => by injection e with e; subst e; rfl) hvl (by omega) hL
def is6 : List Int := [0, 64, 640, 576, -9223372036854775808, 9223372036854775807]
theorem is6_in : ∀ x ∈ is6, -9223372036854775808 ≤ x ∧ x ≤ 9223372036854775807 := by decide
def rs5 : List Value := [.int .i64 0, .int .i64 0, .int .u32 0, .int .i64 11, .int .i64 1, .int .u32 1, .int .i64 1, .int .i64 1, .int .u32 0, .int .i64 (-1), .int .i64 1, .int .u32 1, .int .i64 9, .int .i64 1, .int .u32 9]
theorem rs5_at (k : Nat) (h : k < 5) : ∃ (L P : Int) (ep : Nat), ep < 4294967296 ∧ rs5[k * 3]? = some (.int .i64 L) ∧ rs5[k * 3 + 1]? = some (.int .i64 P) ∧ rs5[k * 3 + 2]? = some (.int .u32 (ep : Int)) := by
  match k with
  | 0 => exact ⟨0, 0, 0, by omega, rfl, rfl, rfl⟩
  | 1 => exact ⟨11, 1, 1, by omega, rfl, rfl, rfl⟩
  | 2 => exact ⟨1, 1, 0, by omega, rfl, rfl, rfl⟩
  | 3 => exact ⟨-1, 1, 1, by omega, rfl, rfl, rfl⟩
  | 4 => exact ⟨9, 1, 9, by omega, rfl, rfl, rfl⟩
  | k + 5 => omega
section
variable {w : World}
set_option maxHeartbeats 4000000 in
set_option maxRecDepth 100000 in
theorem redoNumbers_any : Calls Try.prog 8 #[] w (LawPost w) := by
  obtain ⟨i0, hii, hz0, hz1, hz2⟩ := info_parts info_int
  have hmk : ∀ W : World, (Instr.makeSlice 22 (.int .i64 200) (.int .i64 200)).run Try.prog W = .ok (.slice (some ⟨W.heap.size, 0, none⟩) 200 200) (W.alloc (.cells (bts (zeros 200)).toArray 5)) := fun W => make_u8 200 (by omega) W
  go_enter Try.func8, Try.ntmps8
  go_wp2_with fail
  have hX := Whole.new w 5 (bts (zeros 200))
  have hc1 : Chg [] w (w.alloc (.cells (bts (zeros 200)).toArray 5)) := (Chg.refl [] w).alloc _
  obtain ⟨gx, hgx⟩ : ∃ g, g = w.heap.size := ⟨_, rfl⟩
  rw [← hgx] at hX ⊢
  generalize w.alloc (.cells (bts (zeros 200)).toArray 5) = w1 at hc1 hX ⊢
  have HC1 := Lib.hid hc1
  have HX := Lib.hid hX
  have HGX := Lib.hid (show w.heap.size ≤ gx by omega)
  clear hgx hc1 hX
  go_loopw [2, 13] (fun _ s wr => ∃ i : Nat, i ≤ 200 ∧ s = .int .i64 (i : Int) ∧ (∃ X : List UInt8, X.length = 200 ∧ Hid (Whole wr gx 5 (bts X))) ∧ Hid (Chg [] w wr)) (fun _ s _ => 200 - (intOf s).toNat)
  case atStart => exact ⟨0, by omega, rfl, ⟨_, zeros_len 200, HX⟩, HC1⟩
  case round =>
    obtain ⟨i, hi, rfl, ⟨X, hXl, HXr⟩, HCr⟩ := hrel
    have HXL := Lib.hid hXl
    clear hXl
    by_cases hlt : i < 200
    · have hltI : (i : Int) < 200 := by omega
      have hp0 : (0 : Int) ≤ (i : Int) * (i : Int) := Int.mul_nonneg (by omega) (by omega)
      have hp1 : (i : Int) * (i : Int) ≤ 40000 := mul_le (a := 200) (b := 200) hi hi
      have ck := HXr.out.cell i
      rw [bts_get X i (by rw [HXL.out]; omega)] at ck
      have fk := HXr.out.frozen i
      obtain ⟨c, hc⟩ := mod_u8 ((i : Int) * (i : Int) + 1)
      have HCC := Lib.hid hc
      clear hc
      go_wp2_with fail
      have HXs := Lib.hid (HXr.out.set_ i (.int .u8 (((i : Int) * (i : Int) + 1) % 256)))
      have HCs := Lib.hid (show Chg [] w (wr.setCell ⟨gx, i, none⟩ (.int .u8 (((i : Int) * (i : Int) + 1) % 256))) from HCr.out.then_ ((Chg.refl [gx] wr).setCell (by simp) _) fun q hq hlt => by have := HGX.out; simp only [List.mem_cons, List.not_mem_nil, or_false] at hq; omega)
      go_roundw
      case rel => exact ⟨i + 1, by omega, by go_num, ⟨X.set i c, by rw [List.length_set]; exact HXL.out, Lib.hid (by rw [← bts_set, ← HCC.out]; exact HXs.out)⟩, HCs⟩
      case measure => simp [intOf]; omega
    · have hltI : ¬ (i : Int) < 200 := by omega
      have HX2 := HXr
      have HC2 := HCr
      obtain ⟨w2, rfl⟩ : ∃ w2 : World, w2 = wr := ⟨_, rfl⟩
      go_wp2_with fail
      go_loopw [3, 4] (fun s _ wr => ∃ a : Int, s = .int .i64 a ∧ -1 ≤ a ∧ a ≤ 210 ∧ Hid (Chg [] w2 wr)) (fun s _ _ => (1000 - intOf s).toNat)
      case atStart => exact ⟨-1, rfl, by omega, by omega, Lib.hid (Chg.refl _ _)⟩
      case round =>
        obtain ⟨a, rfl, ha0, ha1, HCa⟩ := hrel
        obtain ⟨wo, rfl⟩ : ∃ wo : World, wo = wr := ⟨_, rfl⟩
        by_cases hlta : a < 200
        · go_wp2_with fail
          go_loopw [4] (fun s wr => ∃ n : Nat, s = .int .i64 (n : Int) ∧ n ≤ 212 ∧ Hid (Chg [] w2 wr)) (fun s _ => 1000 - (intOf s).toNat)
          case atStart => exact ⟨0, rfl, by omega, HCa⟩
          case round =>
            obtain ⟨n, rfl, hn, HCb⟩ := hrel
            by_cases hltn : n < 200
            · have hltI : (n : Int) < 200 := by omega
              have hn0 : (0 : Int) ≤ (n : Int) := by omega
              have hsumA : IntKind.i64.wrap (a + 5) = a + 5 := IntWalk.i64_in _ (by omega)
              have hXW := fun (W : World) (hW : Chg [] wr.drew W) => (HX2.out.keep HCb.out).keep (wdrew hW)
              have HXL2 := HXL.out
              go_upto_region 13 with fail
              refine wp_flow (by kernel_rfl) plainT plainT_ok (by kernel_rfl) ?_
              refine flow3 (r := rootV 3 2 1) plainT_ok rfl (.const _) (.const _) (.const _) rfl (fun ev W he e1 e2 e3 => by have hcst := he.const; go_simp; try rfl) ?_
              refine flow_move_out plainT_ok rfl rfl rfl ?_
              refine flow_move_out plainT_ok rfl rfl rfl ?_
              refine flow2 (r := .int .i64 (a + 5)) plainT_ok rfl (.inn rfl) (.const _) rfl (fun ev W he e1 e2 => by have hcst := he.const; go_simp) ?_
              refine flow_op (intsF [a, a + 5]) (keeps_ints _) (.inr (keeps_ints _)) rfl (fun ev W he hW hf => ?_) ?_
              · have e1 : ev (.tmp 34) = .int .i64 a := hf.1
                have e2 : ev (.tmp 36) = .int .i64 (a + 5) := hf.2.1
                have hal : ∀ k, plainT.by_ k W (W.alloc (.cells #[.int .i64 a, .int .i64 (a + 5)] 3)) := fun k => by rw [plain_by]; exact (Chg.refl [] W).alloc _
                have hnew : intsF [a, a + 5] (.slice (some ⟨W.heap.size, 0, none⟩) 2 2) (W.alloc (.cells #[.int .i64 a, .int .i64 (a + 5)] 3)) := ⟨_, rfl, Whole.new W 3 (nms [a, a + 5])⟩
                clear hf hW hXW
                go_simp
                exact ⟨hal _, hnew⟩
              refine flow_move_out plainT_ok rfl rfl rfl ?_
              refine flow_move_out plainT_ok rfl rfl rfl ?_
              refine flow_slice_hi (r := .slice (some ⟨gx, 0, none⟩) n 200) plainT_ok (.inn rfl) (.inn rfl) (fun ev W he e1 e2 => by go_simp; intro hbad; omega) rfl ?_
              refine flow_move_out plainT_ok rfl rfl rfl ?_
              refine flow_slice_hi (r := .slice (some ⟨gx, 0, none⟩) 9 200) plainT_ok (.inn rfl) (.const _) (fun ev W he e1 e2 => by have hcst := he.const; go_simp) rfl ?_
              refine flow_op (gridF 2) (keeps_grid _) (.inr (keeps_grid _)) rfl (fun ev W he hW hf => ?_) ?_
              · have e1 : ev (.tmp 40) = .slice (some ⟨gx, 0, none⟩) n 200 := hf.1
                have e2 : ev (.tmp 42) = .slice (some ⟨gx, 0, none⟩) 9 200 := hf.2.1
                have hx := hXW W hW
                have hal0 : Chg [] W (W.alloc (.cells #[.slice (some ⟨gx, 0, none⟩) n 200, .slice (some ⟨gx, 0, none⟩) 9 200] 22)) := (Chg.refl [] W).alloc _
                have hal : ∀ k, plainT.by_ k W (W.alloc (.cells #[.slice (some ⟨gx, 0, none⟩) n 200, .slice (some ⟨gx, 0, none⟩) 9 200] 22)) := fun k => by rw [plain_by]; exact hal0
                have hbs : ∀ j, j ≤ 200 → Bs (W.alloc (.cells #[.slice (some ⟨gx, 0, none⟩) n 200, .slice (some ⟨gx, 0, none⟩) 9 200] 22)) (some ⟨gx, 0, none⟩) j 200 (X.take j) := fun j hj =>
                  Bs.of_whole (hx.keep hal0) (by rw [List.length_take]; omega) (by unfold bts; rw [List.map_take]) hj (by omega)
                have hnew : gridF 2 (.slice (some ⟨W.heap.size, 0, none⟩) 2 2) (W.alloc (.cells #[.slice (some ⟨gx, 0, none⟩) n 200, .slice (some ⟨gx, 0, none⟩) 9 200] 22)) := by
                  refine ⟨_, _, [X.take n, X.take 9], rfl, Whole.new W 22 [.slice (some ⟨gx, 0, none⟩) n 200, .slice (some ⟨gx, 0, none⟩) 9 200], rfl, rfl, fun i v Y hv hY => ?_⟩
                  match i with
                  | 0 => simp at hv hY; subst hv; subst hY; exact ⟨_, _, _, rfl, hbs n (by omega)⟩
                  | 1 => simp at hv hY; subst hv; subst hY; exact ⟨_, _, _, rfl, hbs 9 (by omega)⟩
                  | i + 2 => simp at hv
                clear hf hW hXW hx hbs hal0
                go_simp
                exact ⟨hal _, hnew⟩
              refine flow_call (isV (.bool true)) (keeps_isV _) (.inr (keeps_isV _)) (by kernel_rfl) rfl (fun ev W he hW hf => ?_) ?_
              · have e1 : ev (.tmp 33) = rootV 3 2 1 := hf.1
                have h2 : intsF [a, a + 5] (ev (.tmp 37)) W := hf.2.1
                have h3 : gridF 2 (ev (.tmp 43)) W := hf.2.2.1
                simp only [List.map_cons, List.map_nil]
                rw [e1]
                refine (plays_f 3 2 1 (by omega) (by simp) (fun x hx => by simp only [List.mem_cons, List.not_mem_nil, or_false] at hx; omega) h2 h3).mono ?_
                rintro e w' ⟨rfl, hc⟩
                exact ⟨_, rfl, by rw [plain_by]; exact hc, rfl⟩
              refine flow1 (r := .bool false) plainT_ok rfl (.inn rfl) rfl (fun ev W he e1 => by go_simp) ?_
              intro vs W hW hF
              have e45 : vs 45 = .bool false := hF 45 _ rfl rfl
              simp only [putAll, Act.put, List.setIfInBounds_toArray, List.set_cons_zero, List.set_cons_succ, e45]
              have HCW := Lib.hid (HCb.out.new (wdrew hW))
              clear hW hF hXW
              go_wp2_with fail
              go_roundw
              case rel => exact ⟨n + 13, by go_num, by omega, HCW⟩
              case measure => simp [intOf]; omega
            · have hltI : ¬ (n : Int) < 200 := by omega
              go_wp2_with fail
              go_roundw
              case rel => exact ⟨a + 7, rfl, by omega, by omega, HCb⟩
              case measure => simp [intOf]; omega
        · go_wp2_with fail
          have hRS : Whole (wo.alloc (.cells rs5.toArray 26)) wo.heap.size 26 rs5 := Whole.new wo 26 rs5
          have hcR : Chg [] w2 (wo.alloc (.cells rs5.toArray 26)) := HCa.out.alloc _
          unfold rs5 at hRS hcR
          obtain ⟨gr, hgr⟩ : ∃ g, g = wo.heap.size := ⟨_, rfl⟩
          rw [← hgr] at hRS ⊢
          generalize wo.alloc (.cells _ 26) = w3 at hRS hcR ⊢
          have HRS := Lib.hid (show Whole w3 gr 26 rs5 from hRS)
          have HCR := Lib.hid hcR
          clear hgr hRS hcR
          go_loopw [6, 53] (fun _ s wr => ∃ k : Nat, k ≤ 5 ∧ s = .int .i64 (k : Int) ∧ Hid (Chg [] w3 wr)) (fun _ s _ => 5 - (intOf s).toNat)
          case atStart => exact ⟨0, by omega, rfl, Lib.hid (Chg.refl _ _)⟩
          case round =>
            obtain ⟨k, hk, rfl, HCb⟩ := hrel
            by_cases hltk : k < 5
            · have hltI : (k : Int) < 5 := by omega
              have hk0 : (0 : Int) ≤ (k : Int) := by omega
              obtain ⟨L, P, ep, hep, r0, r1, r2⟩ := rs5_at k hltk
              have c0 := ((HRS.out.keep HCb.out).cell (k * 3)).trans r0
              have c1 := ((HRS.out.keep HCb.out).cell (k * 3 + 1)).trans r1
              have c2 := ((HRS.out.keep HCb.out).cell (k * 3 + 2)).trans r2
              clear r0 r1 r2
              go_upto_region 18 with fail
              have hR6 := Whole.new wr 26 [.int .i64 L, .int .i64 P, .int .u32 (ep : Int)]
              have hc6 : Chg [] wr (wr.alloc (.cells #[.int .i64 L, .int .i64 P, .int .u32 (ep : Int)] 26)) := (Chg.refl [] wr).alloc _
              obtain ⟨g6, hg6⟩ : ∃ g, g = wr.heap.size := ⟨_, rfl⟩
              rw [← hg6] at hR6 ⊢
              generalize wr.alloc (.cells #[.int .i64 L, .int .i64 P, .int .u32 (ep : Int)] 26) = w6 at hR6 hc6 ⊢
              clear hg6 c0 c1 c2
              have HCc := Lib.hid (HCb.out.new hc6)
              have hXW := fun (W : World) (hW : Chg [] w6.drew W) => ((HX2.out.keep HCR.out).keep HCc.out).keep (wdrew hW)
              have hldR := fun (W : World) (hW : Chg [] w6.drew W) => root_cells (hR6.drew.keep hW)
              have HXL2 := HXL.out
              clear hc6 hR6
              refine wp_flow (by kernel_rfl) plainT plainT_ok (by kernel_rfl) ?_
              refine flow1h (r := rootV L P ep) plainT_ok rfl (.out rfl rfl) rfl (fun ev W he hW e1 => by obtain ⟨c0, c1, c2, _, _, _⟩ := hldR W hW; go_simp; rfl) ?_
              refine flow_op (intsF is6) (keeps_ints _) (.inr (keeps_ints _)) rfl (fun ev W he hW hf => ?_) ?_
              · have hcst := he.const
                have hal : ∀ k, plainT.by_ k W (W.alloc (.cells #[.int .i64 0, .int .i64 64, .int .i64 640, .int .i64 576, .int .i64 (-9223372036854775808), .int .i64 9223372036854775807] 3)) := fun k => by rw [plain_by]; exact (Chg.refl [] W).alloc _
                have hnew : intsF is6 (.slice (some ⟨W.heap.size, 0, none⟩) 6 6) (W.alloc (.cells #[.int .i64 0, .int .i64 64, .int .i64 640, .int .i64 576, .int .i64 (-9223372036854775808), .int .i64 9223372036854775807] 3)) := ⟨_, rfl, Whole.new W 3 (nms is6)⟩
                clear hf hW hXW
                go_simp
                exact ⟨hal _, hnew⟩
              refine flow_move_out plainT_ok rfl rfl rfl ?_
              refine flow_move_out plainT_ok rfl rfl rfl ?_
              refine flow_slice_hi (r := .slice (some ⟨gx, 0, none⟩) 64 200) plainT_ok (.inn rfl) (.const _) (fun ev W he e1 e2 => by have hcst := he.const; go_simp) rfl ?_
              refine flow_move_out plainT_ok rfl rfl rfl ?_
              refine flow_slice_hi (r := .slice (some ⟨gx, 0, none⟩) 1 200) plainT_ok (.inn rfl) (.const _) (fun ev W he e1 e2 => by have hcst := he.const; go_simp) rfl ?_
              refine flow_move_out plainT_ok rfl rfl rfl ?_
              refine flow_slice_hi (r := .slice (some ⟨gx, 0, none⟩) 3 200) plainT_ok (.inn rfl) (.const _) (fun ev W he e1 e2 => by have hcst := he.const; go_simp) rfl ?_
              refine flow_move_out plainT_ok rfl rfl rfl ?_
              refine flow_slice_hi (r := .slice (some ⟨gx, 0, none⟩) 3 200) plainT_ok (.inn rfl) (.const _) (fun ev W he e1 e2 => by have hcst := he.const; go_simp) rfl ?_
              refine flow_op (gridF 6) (keeps_grid _) (.inr (keeps_grid _)) rfl (fun ev W he hW hf => ?_) ?_
              · have e0 : ev (.tmp 59) = .slice (some ⟨gx, 0, none⟩) 200 200 := hf.1
                have e1 : ev (.tmp 61) = .slice (some ⟨gx, 0, none⟩) 64 200 := hf.2.1
                have e2 : ev (.tmp 63) = .slice (some ⟨gx, 0, none⟩) 1 200 := hf.2.2.1
                have e3 : ev (.tmp 65) = .slice (some ⟨gx, 0, none⟩) 3 200 := hf.2.2.2.2.1
                have e4 : ev (.tmp 67) = .slice (some ⟨gx, 0, none⟩) 3 200 := hf.2.2.2.2.2.1
                have hcst := he.const
                have hx := hXW W hW
                have hal0 : Chg [] W (W.alloc (.cells #[.slice (some ⟨gx, 0, none⟩) 200 200, .slice (some ⟨gx, 0, none⟩) 64 200, .slice (some ⟨gx, 0, none⟩) 1 200, .slice none 0 0, .slice (some ⟨gx, 0, none⟩) 3 200, .slice (some ⟨gx, 0, none⟩) 3 200] 22)) := (Chg.refl [] W).alloc _
                have hal : ∀ k, plainT.by_ k W (W.alloc (.cells #[.slice (some ⟨gx, 0, none⟩) 200 200, .slice (some ⟨gx, 0, none⟩) 64 200, .slice (some ⟨gx, 0, none⟩) 1 200, .slice none 0 0, .slice (some ⟨gx, 0, none⟩) 3 200, .slice (some ⟨gx, 0, none⟩) 3 200] 22)) := fun k => by rw [plain_by]; exact hal0
                have hbs : ∀ j, j ≤ 200 → Bs (W.alloc (.cells #[.slice (some ⟨gx, 0, none⟩) 200 200, .slice (some ⟨gx, 0, none⟩) 64 200, .slice (some ⟨gx, 0, none⟩) 1 200, .slice none 0 0, .slice (some ⟨gx, 0, none⟩) 3 200, .slice (some ⟨gx, 0, none⟩) 3 200] 22)) (some ⟨gx, 0, none⟩) j 200 (X.take j) := fun j hj =>
                  Bs.of_whole (hx.keep hal0) (by rw [List.length_take]; omega) (by unfold bts; rw [List.map_take]) hj (by omega)
                have hnew : gridF 6 (.slice (some ⟨W.heap.size, 0, none⟩) 6 6) (W.alloc (.cells #[.slice (some ⟨gx, 0, none⟩) 200 200, .slice (some ⟨gx, 0, none⟩) 64 200, .slice (some ⟨gx, 0, none⟩) 1 200, .slice none 0 0, .slice (some ⟨gx, 0, none⟩) 3 200, .slice (some ⟨gx, 0, none⟩) 3 200] 22)) := by
                  refine ⟨_, _, [X.take 200, X.take 64, X.take 1, [], X.take 3, X.take 3], rfl, Whole.new W 22 [.slice (some ⟨gx, 0, none⟩) 200 200, .slice (some ⟨gx, 0, none⟩) 64 200, .slice (some ⟨gx, 0, none⟩) 1 200, .slice none 0 0, .slice (some ⟨gx, 0, none⟩) 3 200, .slice (some ⟨gx, 0, none⟩) 3 200], rfl, rfl, fun i v Y hv hY => ?_⟩
                  match i with
                  | 0 => simp at hv hY; subst hv; subst hY; exact ⟨_, _, _, rfl, hbs 200 (by omega)⟩
                  | 1 => simp at hv hY; subst hv; subst hY; exact ⟨_, _, _, rfl, hbs 64 (by omega)⟩
                  | 2 => simp at hv hY; subst hv; subst hY; exact ⟨_, _, _, rfl, hbs 1 (by omega)⟩
                  | 3 => simp at hv hY; subst hv; subst hY; exact ⟨_, _, _, rfl, Bs.nil _⟩
                  | 4 => simp at hv hY; subst hv; subst hY; exact ⟨_, _, _, rfl, hbs 3 (by omega)⟩
                  | 5 => simp at hv hY; subst hv; subst hY; exact ⟨_, _, _, rfl, hbs 3 (by omega)⟩
                  | i + 6 => simp at hv
                clear hf hW hXW hx hbs hal0
                go_simp
                exact ⟨hal _, hnew⟩
              refine flow_call (isV (.bool true)) (keeps_isV _) (.inr (keeps_isV _)) (by kernel_rfl) rfl (fun ev W he hW hf => ?_) ?_
              · have e1 : ev (.tmp 57) = rootV L P ep := hf.1
                have h2 : intsF is6 (ev (.tmp 58)) W := hf.2.1
                have h3 : gridF 6 (ev (.tmp 68)) W := hf.2.2.1
                simp only [List.map_cons, List.map_nil]
                rw [e1]
                refine (plays_f L P ep (by omega) (by simp [is6]) is6_in h2 h3).mono ?_
                rintro e w' ⟨rfl, hc⟩
                exact ⟨_, rfl, by rw [plain_by]; exact hc, rfl⟩
              refine flow1 (r := .bool false) plainT_ok rfl (.inn rfl) rfl (fun ev W he e1 => by go_simp) ?_
              intro vs W hW hF
              have e70 : vs 70 = .bool false := hF 70 _ rfl rfl
              simp only [putAll, Act.put, List.setIfInBounds_toArray, List.set_cons_zero, List.set_cons_succ, e70]
              have HCW := Lib.hid (HCc.out.new (wdrew hW))
              clear hW hF hXW hldR
              go_wp2_with fail
              go_roundw
              case rel => exact ⟨k + 1, by omega, by go_num, HCW⟩
              case measure => simp [intOf]; omega
            · have hltI : ¬ (k : Int) < 5 := by omega
              have HCd := Lib.hid (HC2.out.new (HCR.out.new HCb.out))
              obtain ⟨w7, rfl⟩ : ∃ w7 : World, w7 = wr := ⟨_, rfl⟩
              go_wp2_with fail
              go_loopw [7, 8, 9] (fun s _ _ wr => ∃ k : Nat, k ≤ 40 ∧ s = .int .i64 (k : Int) ∧ Hid (Chg [] w7 wr)) (fun s _ _ _ => 40 - (intOf s).toNat)
              case atStart => exact ⟨0, by omega, rfl, Lib.hid (Chg.refl _ _)⟩
              case round =>
                obtain ⟨k, hk, rfl, HCk⟩ := hrel
                obtain ⟨w8, rfl⟩ : ∃ w8 : World, w8 = wr := ⟨_, rfl⟩
                obtain ⟨B8, hB8⟩ : ∃ b, b = w8.heap.size := ⟨_, rfl⟩
                have HB8 := Lib.hid hB8
                clear hB8
                by_cases hltk : k < 40
                · have hltI : (k : Int) < 40 := by omega
                  go_wp2_with fail
                  go_loopw [8, 9] (fun v s wr => ∃ i : Nat, i ≤ 90 ∧ s = .int .i64 (i : Int) ∧ (∃ ys : List Int, ys.length = i ∧ wr.ownsRow B8 3 1 v i (nms ys) ∧ (∀ y ∈ ys, -9223372036854775808 ≤ y ∧ y ≤ 9223372036854775807)) ∧ Hid (Chg [] w8 wr)) (fun _ s _ => 90 - (intOf s).toNat)
                  case atStart => exact ⟨0, by omega, rfl, ⟨[], rfl, World.ownsRow_nil _ _ _ _, fun y hy => by simp at hy⟩, Lib.hid (Chg.refl _ _)⟩
                  case round =>
                    obtain ⟨i, hi90, rfl, ⟨ys, hyl, ho, hyr⟩, HCr⟩ := hrel
                    have HO := Lib.hid ho
                    have HYL := Lib.hid hyl
                    have HYR := Lib.hid hyr
                    clear ho hyl hyr
                    by_cases hlt9 : i < 90
                    · have hltI : (i : Int) < 90 := by omega
                      have p0 : (0 : Int) ≤ (i : Int) * (i : Int) := Int.mul_nonneg (by omega) (by omega)
                      have p1 : (i : Int) * (i : Int) ≤ 8100 := mul_le (a := 90) (b := 90) hi90 hi90
                      have p2 : (0 : Int) ≤ (i : Int) * (k : Int) := Int.mul_nonneg (by omega) (by omega)
                      have p3 : (i : Int) * (k : Int) ≤ 3600 := mul_le (a := 90) (b := 40) hi90 hk
                      have HW8 := Lib.hid (show B8 ≤ wr.heap.size by have := HCr.out.size; have := HB8.out; omega)
                      have hyv : -9223372036854775808 ≤ ((i : Int) * (i : Int) * 7 + (k : Int) * 31 + (i : Int) * (k : Int)) % 211 ∧ ((i : Int) * (i : Int) * 7 + (k : Int) * 31 + (i : Int) * (k : Int)) % 211 ≤ 9223372036854775807 := by omega
                      have HYV := Lib.hid hyv
                      clear hyv
                      go_wp2_with (at_builtin
                                   refine wpList_append_own _ rfl (.tmp 80) (.tmp 93) _ rfl B8 3 i0 _ 1 8 Try.underlying56 hii hz0 hz1 hz2 rfl (by decide) _ i (nms ys) rfl (own_keep HO.out ((Chg.refl [] wr).alloc _)) ⟨wr.heap.size, 0, none⟩ 1 1 [.int .i64 (((i : Int) * (i : Int) * 7 + (k : Int) * 31 + (i : Int) * (k : Int)) % 211)] rfl rfl ?c1 ?c2 ?c3 ?c4 ?c5 ?_
                                   case c1 => exact cells_page _ _ _
                                   case c2 => simp [Value.oneCell']
                                   case c3 => simp only [maxLen]; omega
                                   case c4 => omega
                                   case c5 => have := HW8.out; simp; omega
                                   intro v' w6 hown' hg' _)
                      generalize ((i : Int) * (i : Int) * 7 + (k : Int) * 31 + (i : Int) * (k : Int)) % 211 = y at hown' HYV
                      have HO6 := Lib.hid hown'
                      have HC6 := Lib.hid (show Chg [] w8 w6 from (HCr.out.alloc _).own (own_keep HO.out ((Chg.refl [] wr).alloc _)) (by have := HB8.out; omega) hg')
                      clear hown' hg' p0 p1 p2 p3
                      go_wp2_with fail
                      go_roundw
                      case rel => exact ⟨i + 1, by omega, by go_num, ⟨ys ++ [y], by rw [List.length_append, HYL.out]; rfl, by rw [nms_app]; exact HO6.out, fun z hz => by
                        rcases List.mem_append.1 hz with h | h
                        · exact HYR.out z h
                        · simp only [List.mem_cons, List.not_mem_nil, or_false] at h; subst h; exact HYV.out⟩, HC6⟩
                      case measure => simp [intOf]; omega
                    · have hltI : ¬ (i : Int) < 90 := by omega
                      obtain ⟨A9, c9, rfl, _, _, hs9, hp9⟩ := own_slice HO.out
                      have HS9 := Lib.hid hs9
                      have HP9 := Lib.hid hp9
                      clear hs9 hp9
                      have han := and1 ⟨k, hltk⟩
                      simp only at han
                      have hw8 : IntKind.u8.wrap ((k % 2 : Nat) : Int) = ((k % 2 : Nat) : Int) := IntWalk.u8_in _ (by omega)
                      go_wp2_with fail
                      refine (logged_any 4 (by omega) (by omega) 7 (by omega) ((k : Int) * 11) (by omega) (by omega) (k % 2) (by omega) HS9.out (fun _ ad e => (HP9.out ad e).1) HYL.out (by omega) HYR.out).mono ?_
                      rintro e w9 ⟨rfl, hc9⟩
                      have HC9 := Lib.hid (HCk.out.new (HCr.out.new hc9))
                      clear hc9
                      go_wp2_with fail
                      go_roundw
                      case rel => exact ⟨k + 1, by omega, by go_num, HC9⟩
                      case measure => simp [intOf]; omega
                · have hltI : ¬ (k : Int) < 40 := by omega
                  have HCe := Lib.hid (HCd.out.new HCk.out)
                  go_wp2_with fail
                  refine rdknown_any.mono ?_
                  rintro e w9 ⟨rfl, hc9⟩
                  have HC9 := Lib.hid (HCe.out.new hc9)
                  clear hc9
                  go_wp2_with fail
                  go_ret
                  exact ⟨rfl, HC9.out⟩
end
end Go.Proofs.Ytlhkmbcjgdjegaa
