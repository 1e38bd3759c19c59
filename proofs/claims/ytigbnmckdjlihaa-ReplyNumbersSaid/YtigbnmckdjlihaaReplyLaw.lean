/-
  Layer 12: the law's all.
-/
import Derived.Test.YtigbnmckdjlihaaReplyKnown
import Derived.IntWalk
namespace Go.Proofs.Ytigbnmckdjlihaa
open Go.RowKit
/-- The thirteen values that have no number. -/
def bads (g h k p : Nat) : List Value := [.nilIface, .iface 85 (.float .f64 4609434218613702656), .iface 63 (.agg #[.int .i64 3]), .iface 86 (.pointer (some ⟨g, 0, none⟩)), .iface 43 (.slice (some ⟨h, 0, none⟩) 1 1), .iface 5 (.int .u8 3), .iface 32 (.int .u64 4),
  .iface 89 (.int .i64 0), .iface 89 (.int .i64 1), .iface 51 (.slice (some ⟨k, 0, none⟩) 1 1), .iface 90 (.pointer (some ⟨p, 0, none⟩)), .iface 91 (.int .i16 4), .iface 92 (.complex .f64 4607182418800017408 4611686018427387904)]
theorem bads_no (g h k p : Nat) : ∀ v ∈ bads g h k p, Num v none := by
  intro v hv
  simp only [bads, List.mem_cons, List.not_mem_nil, or_false] at hv
  rcases hv with rfl | rfl | rfl | rfl | rfl | rfl | rfl | rfl | rfl | rfl | rfl | rfl | rfl
  · exact Num.nil
  all_goals exact Num.none_ _ _ (by decide)
theorem whole_at2 {w : World} {g g' t : Nat} {cs : List Value} (h : Whole w g t cs) (e : g = g') : Whole w g' t cs := e ▸ h
theorem leaves_ok {P : Program} {R : World → World → Prop} {φ : Fact} {W W' : World} {res : Result Next} {v : Value} (h : res = .ok (.value v) W') (hr : R W W') (hv : φ v W') : Leaves P R φ W res := by subst h; exact ⟨hr, hv⟩
theorem upto_two (n m : Int) (i : Nat) (hi : i < 1) : ∃ q, ([some n, none, some m] : List (Option Int))[i]? = some (some q) := by
  obtain rfl : i = 0 := by omega
  exact ⟨n, rfl⟩
section
variable {w : World} {A : Option Addr} {k c : Nat}
set_option maxHeartbeats 8000000 in
set_option maxRecDepth 100000 in
theorem all_true (n r : Int) (s : ByteArray) (hn0 : -9223372036854775808 ≤ n) (hn1 : n ≤ 9223372036854775807) (hr0 : -2147483648 ≤ r) (hr1 : r ≤ 2147483647) (hs : s.size ≤ 9223372036854775807) (hk : k ≤ 9223372036854775807) :
    Calls Try.prog 31 #[.int .i64 n, .int .i32 r, .string s, .bool true, .slice A k c] w (LawPost w) := by
  go_enter Try.func31, Try.ntmps31
  have hW0 := Whole.new w 2 [.int .i64 n]
  have h0 : Chg [] w (w.alloc (.cells #[.int .i64 n] 2)) := (Chg.refl [] w).alloc _
  obtain ⟨p, hp⟩ : ∃ p, p = w.heap.size := ⟨_, rfl⟩
  rw [← hp] at hW0
  have HP := Lib.hid hp
  go_wp2_with fail
  rw [← HP.out]
  clear hp
  refine (tells_yes (Num.i64 n)).mono ?_
  rintro e w1 ⟨rfl, hc1⟩
  have h1 := h0.new hc1
  have hW1 := hW0.keep hc1
  have x1 := hW1.cell 0
  clear h0 hW0 hc1
  go_wp2_with fail
  refine (tells_yes (Num.int n hn0 hn1)).mono ?_
  rintro e w2 ⟨rfl, hc2⟩
  have h2 := h1.new hc2
  have hW2 := hW1.keep hc2
  clear h1 hW1 hc2 x1
  go_wp2_with fail
  refine (tells_yes (Num.rune r hr0 hr1)).mono ?_
  rintro e w3 ⟨rfl, hc3⟩
  have h3 := h2.new hc3
  have hW3 := hW2.keep hc3
  clear h2 hW2 hc3
  go_wp2_with fail
  refine (count_any s hs).mono ?_
  rintro e w4 ⟨rfl, hc4⟩
  have h4 := h3.new hc4
  have hW4 := hW3.keep hc4
  clear h3 hW3 hc4
  go_wp2_with fail
  refine (tells_yes (Num.str s hs)).mono ?_
  rintro e w5 ⟨rfl, hc5⟩
  have h5 := h4.new hc5
  have hW5 := hW4.keep hc5
  clear h4 hW4 hc5
  go_wp2_with fail
  refine (tells_yes Num.yes).mono ?_
  rintro e w6 ⟨rfl, hc6⟩
  have h6 := h5.new hc6
  have hW6 := hW5.keep hc6
  clear h5 hW5 hc6
  go_wp2_with fail
  refine (tells_yes (Num.list A k c hk)).mono ?_
  rintro e w7 ⟨rfl, hc7⟩
  have h7 := h6.new hc7
  have hW7 := hW6.keep hc7
  clear h6 hW6 hc7
  go_wp2_with fail
  refine (tells_yes (Num.list _ 2 _ (by omega))).mono ?_
  rintro e w8 ⟨rfl, hc8⟩
  have h78 := ((Chg.refl [] w7).alloc (.cells #[.iface 53 (.slice A k c), .iface 9 (.string s)] 20)).new hc8
  have h8 := h7.new h78
  have hW8 := hW7.keep h78
  clear h7 hW7 hc8 h78
  have x8 := hW8.cell 0
  go_wp2_with fail
  have hL := whole_at2 (Whole.new (((w8.alloc (.cells #[.int .i64 0] 63)).alloc (.cells #[.int .i64 1] 3)).alloc (.cells #[.string ⟨#[120]⟩] 9)) 20 (bads w8.heap.size (w8.heap.size + 1) (w8.heap.size + 1 + 1) p)) (show _ = w8.heap.size + 1 + 1 + 1 by simp)
  have hb : Chg [] w8 ((((w8.alloc (.cells #[.int .i64 0] 63)).alloc (.cells #[.int .i64 1] 3)).alloc (.cells #[.string ⟨#[120]⟩] 9)).alloc (.cells (bads w8.heap.size (w8.heap.size + 1) (w8.heap.size + 1 + 1) p).toArray 20)) := ((((Chg.refl [] w8).alloc _).alloc _).alloc _).alloc _
  have HBL := Lib.hid (show (bads w8.heap.size (w8.heap.size + 1) (w8.heap.size + 1 + 1) p).length = 13 from rfl)
  have HBN := Lib.hid (bads_no w8.heap.size (w8.heap.size + 1) (w8.heap.size + 1 + 1) p)
  obtain ⟨L, hLe⟩ : ∃ L, L = w8.heap.size + 1 + 1 + 1 := ⟨_, rfl⟩
  rw [← hLe] at hL
  have h9 := h8.new hb
  have hW9 := hW8.keep hb
  clear h8 hW8 hb x8
  change Code.wp _ _ _ _ ((((w8.alloc (.cells #[.int .i64 0] 63)).alloc (.cells #[.int .i64 1] 3)).alloc (.cells #[.string ⟨#[120]⟩] 9)).alloc (.cells (bads w8.heap.size (w8.heap.size + 1) (w8.heap.size + 1 + 1) p).toArray 20))
  rw [← hLe]
  generalize (((w8.alloc (.cells #[.int .i64 0] 63)).alloc (.cells #[.int .i64 1] 3)).alloc (.cells #[.string ⟨#[120]⟩] 9)).alloc (.cells (bads w8.heap.size (w8.heap.size + 1) (w8.heap.size + 1 + 1) p).toArray 20) = w9 at h9 hW9 hL ⊢
  generalize bads w8.heap.size (w8.heap.size + 1) (w8.heap.size + 1 + 1) p = bs at hL HBL HBN
  clear hLe
  go_loopw [91] (fun i wr => ∃ q : Nat, q ≤ 13 ∧ i = .int .i64 (q : Int) ∧ Whole wr L 20 bs ∧ Whole wr p 2 [.int .i64 n] ∧ Chg [] w wr) (fun i _ => 13 - (intOf i).toNat)
  case atStart => exact ⟨0, by omega, rfl, hL, hW9, h9⟩
  case round =>
    obtain ⟨q, hq, rfl, hLr, hWr, hr⟩ := hrel
    clear hL hW9 h9
    by_cases hlt : q < 13
    · have hql : q < bs.length := by rw [HBL.out]; exact hlt
      have cq := (hLr.cell q).trans (List.getElem?_eq_getElem hql)
      have hnum : Num bs[q] none := HBN.out _ (List.getElem_mem hql)
      generalize bs[q] = v at cq hnum
      have hqi : (q : Int) < 13 := by omega
      go_wp2_with fail
      refine (tells_no 0 hnum).mono ?_
      rintro e wa ⟨rfl, hca⟩
      go_wp2_with fail
      go_roundw
      case rel => exact ⟨q + 1, by omega, by go_num, hLr.keep hca, hWr.keep hca, hr.new hca⟩
      case measure => simp [intOf]; omega
    · have xr := hWr.cell 0
      clear hLr
      go_wp2_with fail
      have hNs : Nums [.iface 2 (.int .i64 n), .iface 9 (.string s), .iface 4 (.bool true), .iface 21 (.int .i32 r)] (([n, (runesN s : Int), 1, r] : List Int).map some) := Nums.cons (Num.i64 n) (Nums.cons (Num.str s hs) (Nums.cons Num.yes (Nums.cons (Num.rune r hr0 hr1) Nums.nil)))
      refine (all_yes (n := 4) hNs (Src.of_all (Whole.new wr _ _)) (fun ad e => by injection e with e; subst e; rfl) rfl (by omega)).mono ?_
      rintro e wa ⟨va, rfl, hoa, hca⟩
      obtain ⟨A9, c9, rfl, _, _, hsa, hAa⟩ := own_slice hoa
      have ha := (hr.alloc _).new hca
      have hWa := (hWr.keep ((Chg.refl [] wr).alloc _)).keep hca
      have hsa := Lib.hid hsa
      have hAa := Lib.hid hAa
      have xa := hWa.cell 0
      clear hr hWr xr hca hoa hNs
      go_wp2_with fail
      refine (all_no (n := 3) (vs := [.iface 2 (.int .i64 n), .iface 63 (.agg #[.int .i64 1]), .iface 4 (.bool true)]) (rs := [some n, none, some 1]) (Nums.cons (Num.i64 n) (Nums.cons (Num.none_ _ _ (by decide)) (Nums.cons Num.yes Nums.nil))) (Src.of_all (Whole.new wa _ _)) (fun ad e => by injection e with e; subst e; rfl) rfl (by omega) 1 rfl (upto_two n 1)).mono ?_
      rintro e wc ⟨rfl, hcc⟩
      have hac := ((Chg.refl [] wa).alloc (.cells #[.iface 2 (.int .i64 n), .iface 63 (.agg #[.int .i64 1]), .iface 4 (.bool true)] 20)).new hcc
      have hc := ha.new hac
      have hWc := hWa.keep hac
      have hsc := Lib.hid (hsa.out.keep hac)
      clear ha hWa xa hac hcc hsa
      go_wp2_with fail
      have HWc := Lib.hid hWc
      have HC := Lib.hid hc
      clear hWc hc
      refine wp_flow (by kernel_rfl) plainT plainT_ok (by kernel_rfl) ?_
      refine flow_move_out plainT_ok rfl rfl rfl ?_
      refine flow_move plainT_ok rfl (keeps_isV _) (.inr (keeps_isV _)) rfl ?_
      refine flow_move_out plainT_ok rfl rfl rfl ?_
      refine flow1h (r := .int .i64 n) plainT_ok rfl (.out rfl rfl) rfl (fun ev W he hW e1 => by have c0 := (HWc.out.keep ((Chg.refl [] wc).drew.new hW)).cell 0; go_simp) ?_
      refine flow_move_out plainT_ok rfl rfl rfl ?_
      refine flow_callv (.int .i64 (runesN s : Int)) (by kernel_rfl) rfl (.cons (.inn rfl) .nil) (fun W hW => (count_any s hs).mono ?_) ?_
      · rintro e w' ⟨rfl, hcx⟩; exact ⟨rfl, hcx⟩
      refine flow_move_out plainT_ok rfl rfl rfl ?_
      refine flow_move_out plainT_ok rfl rfl rfl ?_
      refine flow1 (r := .int .i64 r) plainT_ok rfl (.inn rfl) rfl (fun ev W he e1 => by go_simp; exact IntWalk.i64_in _ (by omega)) ?_
      refine flow_op (ownF wc.drew.heap.size 2 (nms [n, (runesN s : Int), 1, r])) (keeps_own _ _ _) (.inr (keeps_own _ _ _)) rfl (fun ev W he hW hf => ?_) ?_
      · have e0 : ev (.tmp 126) = .int .i64 n := hf.1
        have e1 : ev (.tmp 128) = .int .i64 (runesN s : Int) := hf.2.1
        have e2 : ev (.tmp 129) = .int .i64 1 := hf.2.2.1
        have e3 : ev (.tmp 131) = .int .i64 r := hf.2.2.2.1
        have hw := Whole.new W 2 (nms [n, (runesN s : Int), 1, r])
        refine leaves_ok (v := .slice (some ⟨W.heap.size, 0, none⟩) 4 4) (W' := W.alloc (.cells (nms [n, (runesN s : Int), 1, r]).toArray 2)) (by go_simp; rfl) (by rw [plain_by]; exact (Chg.refl _ _).alloc _) ?_
        exact own_of_whole (n := 4) (c := 4) hw hW.size rfl (by omega) (by unfold maxLen; omega)
      refine flow_call (isV (.bool true)) (keeps_isV _) (.inr (keeps_isV _)) (by kernel_rfl) rfl (fun ev W he hW hf => ?_) ?_
      · have f1 : ev (.tmp 125) = .slice A9 4 c9 := hf.1
        have f2 : W.ownsRow wc.drew.heap.size 2 1 (ev (.tmp 132)) 4 (nms [n, (runesN s : Int), 1, r]) := hf.2.1
        obtain ⟨A2, c2, e2, _, _, hs2, hA2⟩ := own_slice f2
        refine (?_ : Calls _ _ #[ev (.tmp 125), ev (.tmp 132)] _ _)
        rw [f1, e2]
        refine (same64_yes (n := 4) (l := [n, (runesN s : Int), 1, r]) rfl (by omega) (hsc.out.keep ((Chg.refl [] wc).drew.new hW)) hs2 (fun ad e => (hAa.out ad e).1) (fun ad e => (hA2 ad e).1)).mono ?_
        rintro e w' ⟨rfl, hcx⟩
        exact ⟨_, rfl, by rw [plain_by]; exact hcx, rfl⟩
      refine flow_and plainT_ok rfl rfl rfl ?_
      refine flow_move plainT_ok rfl (keeps_isV _) (.inr (keeps_isV _)) rfl ?_
      refine flow_move_out plainT_ok rfl rfl rfl ?_
      refine flow1 (r := .bool true) plainT_ok rfl (.inn rfl) rfl (fun ev W he e1 => by go_simp) ?_
      refine flow_and plainT_ok rfl rfl rfl ?_
      refine flow_move plainT_ok rfl (keeps_isV _) (.inr (keeps_isV _)) rfl ?_
      refine flow_move_out plainT_ok rfl rfl rfl ?_
      refine flow_lend (n := 0) plainT_ok (.inn rfl) (fun ev W he e1 => by go_simp) rfl ?_
      refine flow2 (r := .bool true) plainT_ok rfl (.inn rfl) (.const _) rfl (fun ev W he e1 e2 => by go_simp) ?_
      refine flow_and plainT_ok rfl rfl rfl ?_
      refine flow_assign plainT_ok rfl (keeps_isV _) (.inr (keeps_isV _)) rfl ?_
      intro vs W hW hF
      have e4 : vs 10 = .bool true := hF 10 _ rfl rfl
      simp only [putAll, Act.put, List.setIfInBounds_toArray, List.set_cons_zero, List.set_cons_succ, e4]
      go_wp2_with fail
      go_ret
      exact ⟨rfl, HC.out.drew.new hW⟩
end
section
variable {w : World} {A : Option Addr} {k c : Nat}
set_option maxHeartbeats 8000000 in
set_option maxRecDepth 100000 in
theorem all_false (n r : Int) (s : ByteArray) (hn0 : -9223372036854775808 ≤ n) (hn1 : n ≤ 9223372036854775807) (hr0 : -2147483648 ≤ r) (hr1 : r ≤ 2147483647) (hs : s.size ≤ 9223372036854775807) (hk : k ≤ 9223372036854775807) :
    Calls Try.prog 31 #[.int .i64 n, .int .i32 r, .string s, .bool false, .slice A k c] w (LawPost w) := by
  go_enter Try.func31, Try.ntmps31
  have hW0 := Whole.new w 2 [.int .i64 n]
  have h0 : Chg [] w (w.alloc (.cells #[.int .i64 n] 2)) := (Chg.refl [] w).alloc _
  obtain ⟨p, hp⟩ : ∃ p, p = w.heap.size := ⟨_, rfl⟩
  rw [← hp] at hW0
  have HP := Lib.hid hp
  go_wp2_with fail
  rw [← HP.out]
  clear hp
  refine (tells_yes (Num.i64 n)).mono ?_
  rintro e w1 ⟨rfl, hc1⟩
  have h1 := h0.new hc1
  have hW1 := hW0.keep hc1
  have x1 := hW1.cell 0
  clear h0 hW0 hc1
  go_wp2_with fail
  refine (tells_yes (Num.int n hn0 hn1)).mono ?_
  rintro e w2 ⟨rfl, hc2⟩
  have h2 := h1.new hc2
  have hW2 := hW1.keep hc2
  clear h1 hW1 hc2 x1
  go_wp2_with fail
  refine (tells_yes (Num.rune r hr0 hr1)).mono ?_
  rintro e w3 ⟨rfl, hc3⟩
  have h3 := h2.new hc3
  have hW3 := hW2.keep hc3
  clear h2 hW2 hc3
  go_wp2_with fail
  refine (count_any s hs).mono ?_
  rintro e w4 ⟨rfl, hc4⟩
  have h4 := h3.new hc4
  have hW4 := hW3.keep hc4
  clear h3 hW3 hc4
  go_wp2_with fail
  refine (tells_yes (Num.str s hs)).mono ?_
  rintro e w5 ⟨rfl, hc5⟩
  have h5 := h4.new hc5
  have hW5 := hW4.keep hc5
  clear h4 hW4 hc5
  go_wp2_with fail
  refine (tells_yes Num.no).mono ?_
  rintro e w6 ⟨rfl, hc6⟩
  have h6 := h5.new hc6
  have hW6 := hW5.keep hc6
  clear h5 hW5 hc6
  go_wp2_with fail
  refine (tells_yes (Num.list A k c hk)).mono ?_
  rintro e w7 ⟨rfl, hc7⟩
  have h7 := h6.new hc7
  have hW7 := hW6.keep hc7
  clear h6 hW6 hc7
  go_wp2_with fail
  refine (tells_yes (Num.list _ 2 _ (by omega))).mono ?_
  rintro e w8 ⟨rfl, hc8⟩
  have h78 := ((Chg.refl [] w7).alloc (.cells #[.iface 53 (.slice A k c), .iface 9 (.string s)] 20)).new hc8
  have h8 := h7.new h78
  have hW8 := hW7.keep h78
  clear h7 hW7 hc8 h78
  have x8 := hW8.cell 0
  go_wp2_with fail
  have hL := whole_at2 (Whole.new (((w8.alloc (.cells #[.int .i64 0] 63)).alloc (.cells #[.int .i64 1] 3)).alloc (.cells #[.string ⟨#[120]⟩] 9)) 20 (bads w8.heap.size (w8.heap.size + 1) (w8.heap.size + 1 + 1) p)) (show _ = w8.heap.size + 1 + 1 + 1 by simp)
  have hb : Chg [] w8 ((((w8.alloc (.cells #[.int .i64 0] 63)).alloc (.cells #[.int .i64 1] 3)).alloc (.cells #[.string ⟨#[120]⟩] 9)).alloc (.cells (bads w8.heap.size (w8.heap.size + 1) (w8.heap.size + 1 + 1) p).toArray 20)) := ((((Chg.refl [] w8).alloc _).alloc _).alloc _).alloc _
  have HBL := Lib.hid (show (bads w8.heap.size (w8.heap.size + 1) (w8.heap.size + 1 + 1) p).length = 13 from rfl)
  have HBN := Lib.hid (bads_no w8.heap.size (w8.heap.size + 1) (w8.heap.size + 1 + 1) p)
  obtain ⟨L, hLe⟩ : ∃ L, L = w8.heap.size + 1 + 1 + 1 := ⟨_, rfl⟩
  rw [← hLe] at hL
  have h9 := h8.new hb
  have hW9 := hW8.keep hb
  clear h8 hW8 hb x8
  change Code.wp _ _ _ _ ((((w8.alloc (.cells #[.int .i64 0] 63)).alloc (.cells #[.int .i64 1] 3)).alloc (.cells #[.string ⟨#[120]⟩] 9)).alloc (.cells (bads w8.heap.size (w8.heap.size + 1) (w8.heap.size + 1 + 1) p).toArray 20))
  rw [← hLe]
  generalize (((w8.alloc (.cells #[.int .i64 0] 63)).alloc (.cells #[.int .i64 1] 3)).alloc (.cells #[.string ⟨#[120]⟩] 9)).alloc (.cells (bads w8.heap.size (w8.heap.size + 1) (w8.heap.size + 1 + 1) p).toArray 20) = w9 at h9 hW9 hL ⊢
  generalize bads w8.heap.size (w8.heap.size + 1) (w8.heap.size + 1 + 1) p = bs at hL HBL HBN
  clear hLe
  go_loopw [91] (fun i wr => ∃ q : Nat, q ≤ 13 ∧ i = .int .i64 (q : Int) ∧ Whole wr L 20 bs ∧ Whole wr p 2 [.int .i64 n] ∧ Chg [] w wr) (fun i _ => 13 - (intOf i).toNat)
  case atStart => exact ⟨0, by omega, rfl, hL, hW9, h9⟩
  case round =>
    obtain ⟨q, hq, rfl, hLr, hWr, hr⟩ := hrel
    clear hL hW9 h9
    by_cases hlt : q < 13
    · have hql : q < bs.length := by rw [HBL.out]; exact hlt
      have cq := (hLr.cell q).trans (List.getElem?_eq_getElem hql)
      have hnum : Num bs[q] none := HBN.out _ (List.getElem_mem hql)
      generalize bs[q] = v at cq hnum
      have hqi : (q : Int) < 13 := by omega
      go_wp2_with fail
      refine (tells_no 0 hnum).mono ?_
      rintro e wa ⟨rfl, hca⟩
      go_wp2_with fail
      go_roundw
      case rel => exact ⟨q + 1, by omega, by go_num, hLr.keep hca, hWr.keep hca, hr.new hca⟩
      case measure => simp [intOf]; omega
    · have xr := hWr.cell 0
      clear hLr
      go_wp2_with fail
      have hNs : Nums [.iface 2 (.int .i64 n), .iface 9 (.string s), .iface 4 (.bool false), .iface 21 (.int .i32 r)] (([n, (runesN s : Int), 0, r] : List Int).map some) := Nums.cons (Num.i64 n) (Nums.cons (Num.str s hs) (Nums.cons Num.no (Nums.cons (Num.rune r hr0 hr1) Nums.nil)))
      refine (all_yes (n := 4) hNs (Src.of_all (Whole.new wr _ _)) (fun ad e => by injection e with e; subst e; rfl) rfl (by omega)).mono ?_
      rintro e wa ⟨va, rfl, hoa, hca⟩
      obtain ⟨A9, c9, rfl, _, _, hsa, hAa⟩ := own_slice hoa
      have ha := (hr.alloc _).new hca
      have hWa := (hWr.keep ((Chg.refl [] wr).alloc _)).keep hca
      have hsa := Lib.hid hsa
      have hAa := Lib.hid hAa
      have xa := hWa.cell 0
      clear hr hWr xr hca hoa hNs
      go_wp2_with fail
      refine (all_no (n := 3) (vs := [.iface 2 (.int .i64 n), .iface 63 (.agg #[.int .i64 1]), .iface 4 (.bool false)]) (rs := [some n, none, some 0]) (Nums.cons (Num.i64 n) (Nums.cons (Num.none_ _ _ (by decide)) (Nums.cons Num.no Nums.nil))) (Src.of_all (Whole.new wa _ _)) (fun ad e => by injection e with e; subst e; rfl) rfl (by omega) 1 rfl (upto_two n 0)).mono ?_
      rintro e wc ⟨rfl, hcc⟩
      have hac := ((Chg.refl [] wa).alloc (.cells #[.iface 2 (.int .i64 n), .iface 63 (.agg #[.int .i64 1]), .iface 4 (.bool false)] 20)).new hcc
      have hc := ha.new hac
      have hWc := hWa.keep hac
      have hsc := Lib.hid (hsa.out.keep hac)
      clear ha hWa xa hac hcc hsa
      go_wp2_with fail
      have HWc := Lib.hid hWc
      have HC := Lib.hid hc
      clear hWc hc
      refine wp_flow (by kernel_rfl) plainT plainT_ok (by kernel_rfl) ?_
      refine flow_move_out plainT_ok rfl rfl rfl ?_
      refine flow_move plainT_ok rfl (keeps_isV _) (.inr (keeps_isV _)) rfl ?_
      refine flow_move_out plainT_ok rfl rfl rfl ?_
      refine flow1h (r := .int .i64 n) plainT_ok rfl (.out rfl rfl) rfl (fun ev W he hW e1 => by have c0 := (HWc.out.keep ((Chg.refl [] wc).drew.new hW)).cell 0; go_simp) ?_
      refine flow_move_out plainT_ok rfl rfl rfl ?_
      refine flow_callv (.int .i64 (runesN s : Int)) (by kernel_rfl) rfl (.cons (.inn rfl) .nil) (fun W hW => (count_any s hs).mono ?_) ?_
      · rintro e w' ⟨rfl, hcx⟩; exact ⟨rfl, hcx⟩
      refine flow_move_out plainT_ok rfl rfl rfl ?_
      refine flow_move_out plainT_ok rfl rfl rfl ?_
      refine flow1 (r := .int .i64 r) plainT_ok rfl (.inn rfl) rfl (fun ev W he e1 => by go_simp; exact IntWalk.i64_in _ (by omega)) ?_
      refine flow_op (ownF wc.drew.heap.size 2 (nms [n, (runesN s : Int), 0, r])) (keeps_own _ _ _) (.inr (keeps_own _ _ _)) rfl (fun ev W he hW hf => ?_) ?_
      · have e0 : ev (.tmp 126) = .int .i64 n := hf.1
        have e1 : ev (.tmp 128) = .int .i64 (runesN s : Int) := hf.2.1
        have e2 : ev (.tmp 129) = .int .i64 0 := hf.2.2.1
        have e3 : ev (.tmp 131) = .int .i64 r := hf.2.2.2.1
        have hw := Whole.new W 2 (nms [n, (runesN s : Int), 0, r])
        refine leaves_ok (v := .slice (some ⟨W.heap.size, 0, none⟩) 4 4) (W' := W.alloc (.cells (nms [n, (runesN s : Int), 0, r]).toArray 2)) (by go_simp; rfl) (by rw [plain_by]; exact (Chg.refl _ _).alloc _) ?_
        exact own_of_whole (n := 4) (c := 4) hw hW.size rfl (by omega) (by unfold maxLen; omega)
      refine flow_call (isV (.bool true)) (keeps_isV _) (.inr (keeps_isV _)) (by kernel_rfl) rfl (fun ev W he hW hf => ?_) ?_
      · have f1 : ev (.tmp 125) = .slice A9 4 c9 := hf.1
        have f2 : W.ownsRow wc.drew.heap.size 2 1 (ev (.tmp 132)) 4 (nms [n, (runesN s : Int), 0, r]) := hf.2.1
        obtain ⟨A2, c2, e2, _, _, hs2, hA2⟩ := own_slice f2
        refine (?_ : Calls _ _ #[ev (.tmp 125), ev (.tmp 132)] _ _)
        rw [f1, e2]
        refine (same64_yes (n := 4) (l := [n, (runesN s : Int), 0, r]) rfl (by omega) (hsc.out.keep ((Chg.refl [] wc).drew.new hW)) hs2 (fun ad e => (hAa.out ad e).1) (fun ad e => (hA2 ad e).1)).mono ?_
        rintro e w' ⟨rfl, hcx⟩
        exact ⟨_, rfl, by rw [plain_by]; exact hcx, rfl⟩
      refine flow_and plainT_ok rfl rfl rfl ?_
      refine flow_move plainT_ok rfl (keeps_isV _) (.inr (keeps_isV _)) rfl ?_
      refine flow_move_out plainT_ok rfl rfl rfl ?_
      refine flow1 (r := .bool true) plainT_ok rfl (.inn rfl) rfl (fun ev W he e1 => by go_simp) ?_
      refine flow_and plainT_ok rfl rfl rfl ?_
      refine flow_move plainT_ok rfl (keeps_isV _) (.inr (keeps_isV _)) rfl ?_
      refine flow_move_out plainT_ok rfl rfl rfl ?_
      refine flow_lend (n := 0) plainT_ok (.inn rfl) (fun ev W he e1 => by go_simp) rfl ?_
      refine flow2 (r := .bool true) plainT_ok rfl (.inn rfl) (.const _) rfl (fun ev W he e1 e2 => by go_simp) ?_
      refine flow_and plainT_ok rfl rfl rfl ?_
      refine flow_assign plainT_ok rfl (keeps_isV _) (.inr (keeps_isV _)) rfl ?_
      intro vs W hW hF
      have e4 : vs 10 = .bool true := hF 10 _ rfl rfl
      simp only [putAll, Act.put, List.setIfInBounds_toArray, List.set_cons_zero, List.set_cons_succ, e4]
      go_wp2_with fail
      go_ret
      exact ⟨rfl, HC.out.drew.new hW⟩
end
end Go.Proofs.Ytigbnmckdjlihaa
