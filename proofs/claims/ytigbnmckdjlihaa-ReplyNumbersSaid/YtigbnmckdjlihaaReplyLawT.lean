/-
  The walk of ReplyTells.
-/
import Derived.Test.YtigbnmckdjlihaaReplyLaw
import Derived.Test.YtigbnmckdjlihaaWithin
namespace Go.Proofs.Ytigbnmckdjlihaa
open Go.RowKit
theorem info_any : (Try.prog.info? 20).map (fun i => (i.zero, i.size, i.bytes)) = some (some .nilIface, 1, 16) := by kernel_rfl
theorem mod_four (i : Nat) : (i : Int) % 4 = 0 ∨ (i : Int) % 4 = 1 ∨ (i : Int) % 4 = 2 ∨ (i : Int) % 4 = 3 := by omega
section
variable {w : World}
set_option maxHeartbeats 8000000 in
set_option maxRecDepth 100000 in
theorem tells12_true_short (n r : Int) (s : ByteArray) (q : Int) (hn0 : -9223372036854775808 ≤ n) (hn1 : n ≤ 9223372036854775807) (hr0 : -2147483648 ≤ r) (hr1 : r ≤ 2147483647) (hsz : s.size ≤ 100) (hq0 : -9223372036854775808 ≤ q) (hq1 : q ≤ 9223372036854775807) :
    Calls Try.prog 10 #[.int .i64 n, .int .i32 r, .string s, .bool true, .int .i64 q] w (LawPost w) := by
  obtain ⟨i0, hi, hz0, hz1, hz2⟩ := info_parts info_any
  obtain ⟨m, hm, hm9⟩ : ∃ m : Nat, withinI q 0 9 = (m : Int) ∧ m ≤ 9 := by
    have hin := into_within q 0 9 (by omega)
    exact ⟨(withinI q 0 9).toNat, by have := hin.1; omega, by have := hin.1; have := hin.2.1; omega⟩
  have HM := Lib.hid hm
  clear hm
  go_enter Try.func10, Try.ntmps10
  go_wp2_with fail
  go_loopw [11, 12] (fun v i wr => ∃ k : Nat, k ≤ 9 ∧ i = .int .i64 (k : Int) ∧ (∃ X, wr.ownsRow w.heap.size 20 1 v k X) ∧ Chg [] w wr) (fun _ i _ => 9 - (intOf i).toNat)
  case atStart => exact ⟨0, by omega, rfl, ⟨[], World.ownsRow_nil _ _ _ _⟩, Chg.refl _ _⟩
  case round =>
    obtain ⟨i, hi9, rfl, ⟨X, hown⟩, hcg⟩ := hrel
    have hwr := hcg.size
    by_cases hlt : i < m
    · have hlI : (i : Int) < (m : Int) := by omega
      rcases mod_four i with h4 | h4 | h4 | h4
      · go_wp2_with (first
          | (go_at_call 37; with_reducible refine (within_is q 0 9 (by omega) (by omega) (by omega) hq0 hq1).mono ?_; rintro e w' ⟨rfl, rfl⟩; rw [HM.out])
          | (at_builtin
             refine wpList_append_own _ rfl (.tmp 24) (.tmp 37) _ rfl w.heap.size 20 i0 .nilIface 1 16 Try.underlying53 hi hz0 hz1 hz2 rfl (by decide) _ i X rfl (own_keep (own_keep hown ((Chg.refl _ _).alloc _)) ((Chg.refl _ _).alloc _)) ⟨wr.heap.size + 1, 0, none⟩ 1 1 [.iface 2 (.int .i64 n)] rfl rfl ?c1 ?c2 ?c3 ?c4 ?c5 ?_
             case c1 => simpa using cell_one_new (wr.alloc (.cells #[.iface 2 (.int .i64 n), .iface 9 (.string s), .nilIface, .iface 63 (.agg #[.int .i64 (i : Int)])] 20)) (.iface 2 (.int .i64 n)) 20
             case c2 => simp [Value.oneCell']
             case c3 => simp only [maxLen]; omega
             case c4 => omega
             case c5 => simp; omega
             intro v' w2 hown' hg' _))
        go_roundw
        case rel => exact ⟨i + 1, by omega, by go_num, ⟨_, hown'⟩, chg_grown ((hcg.alloc _).alloc _) hg' fun g hgg => (hown.lt g hgg).1⟩
        case measure => simp [intOf]; omega
      · go_wp2_with (first
          | (go_at_call 37; with_reducible refine (within_is q 0 9 (by omega) (by omega) (by omega) hq0 hq1).mono ?_; rintro e w' ⟨rfl, rfl⟩; rw [HM.out])
          | (at_builtin
             refine wpList_append_own _ rfl (.tmp 24) (.tmp 37) _ rfl w.heap.size 20 i0 .nilIface 1 16 Try.underlying53 hi hz0 hz1 hz2 rfl (by decide) _ i X rfl (own_keep (own_keep hown ((Chg.refl _ _).alloc _)) ((Chg.refl _ _).alloc _)) ⟨wr.heap.size + 1, 0, none⟩ 1 1 [.iface 9 (.string s)] rfl rfl ?c1 ?c2 ?c3 ?c4 ?c5 ?_
             case c1 => simpa using cell_one_new (wr.alloc (.cells #[.iface 2 (.int .i64 n), .iface 9 (.string s), .nilIface, .iface 63 (.agg #[.int .i64 (i : Int)])] 20)) (.iface 9 (.string s)) 20
             case c2 => simp [Value.oneCell']
             case c3 => simp only [maxLen]; omega
             case c4 => omega
             case c5 => simp; omega
             intro v' w2 hown' hg' _))
        go_roundw
        case rel => exact ⟨i + 1, by omega, by go_num, ⟨_, hown'⟩, chg_grown ((hcg.alloc _).alloc _) hg' fun g hgg => (hown.lt g hgg).1⟩
        case measure => simp [intOf]; omega
      · go_wp2_with (first
          | (go_at_call 37; with_reducible refine (within_is q 0 9 (by omega) (by omega) (by omega) hq0 hq1).mono ?_; rintro e w' ⟨rfl, rfl⟩; rw [HM.out])
          | (at_builtin
             refine wpList_append_own _ rfl (.tmp 24) (.tmp 37) _ rfl w.heap.size 20 i0 .nilIface 1 16 Try.underlying53 hi hz0 hz1 hz2 rfl (by decide) _ i X rfl (own_keep (own_keep hown ((Chg.refl _ _).alloc _)) ((Chg.refl _ _).alloc _)) ⟨wr.heap.size + 1, 0, none⟩ 1 1 [.nilIface] rfl rfl ?c1 ?c2 ?c3 ?c4 ?c5 ?_
             case c1 => simpa using cell_one_new (wr.alloc (.cells #[.iface 2 (.int .i64 n), .iface 9 (.string s), .nilIface, .iface 63 (.agg #[.int .i64 (i : Int)])] 20)) (.nilIface) 20
             case c2 => simp [Value.oneCell']
             case c3 => simp only [maxLen]; omega
             case c4 => omega
             case c5 => simp; omega
             intro v' w2 hown' hg' _))
        go_roundw
        case rel => exact ⟨i + 1, by omega, by go_num, ⟨_, hown'⟩, chg_grown ((hcg.alloc _).alloc _) hg' fun g hgg => (hown.lt g hgg).1⟩
        case measure => simp [intOf]; omega
      · go_wp2_with (first
          | (go_at_call 37; with_reducible refine (within_is q 0 9 (by omega) (by omega) (by omega) hq0 hq1).mono ?_; rintro e w' ⟨rfl, rfl⟩; rw [HM.out])
          | (at_builtin
             refine wpList_append_own _ rfl (.tmp 24) (.tmp 37) _ rfl w.heap.size 20 i0 .nilIface 1 16 Try.underlying53 hi hz0 hz1 hz2 rfl (by decide) _ i X rfl (own_keep (own_keep hown ((Chg.refl _ _).alloc _)) ((Chg.refl _ _).alloc _)) ⟨wr.heap.size + 1, 0, none⟩ 1 1 [.iface 63 (.agg #[.int .i64 (i : Int)])] rfl rfl ?c1 ?c2 ?c3 ?c4 ?c5 ?_
             case c1 => simpa using cell_one_new (wr.alloc (.cells #[.iface 2 (.int .i64 n), .iface 9 (.string s), .nilIface, .iface 63 (.agg #[.int .i64 (i : Int)])] 20)) (.iface 63 (.agg #[.int .i64 (i : Int)])) 20
             case c2 => simp [Value.oneCell']
             case c3 => simp only [maxLen]; omega
             case c4 => omega
             case c5 => simp; omega
             intro v' w2 hown' hg' _))
        go_roundw
        case rel => exact ⟨i + 1, by omega, by go_num, ⟨_, hown'⟩, chg_grown ((hcg.alloc _).alloc _) hg' fun g hgg => (hown.lt g hgg).1⟩
        case measure => simp [intOf]; omega
    · have hlI : ¬ (i : Int) < (m : Int) := by omega
      obtain ⟨A1, c1, rfl, _, _, _, _⟩ := own_slice hown
      go_wp2_with (go_at_call 37; with_reducible refine (within_is q 0 9 (by omega) (by omega) (by omega) hq0 hq1).mono ?_; rintro e w' ⟨rfl, rfl⟩; rw [HM.out])
      refine (all_true n r s hn0 hn1 hr0 hr1 (by omega) (by omega)).mono ?_
      rintro e wa ⟨rfl, hca⟩
      go_wp2_with fail
      refine rknown_any.mono ?_
      rintro e wb ⟨rfl, hcb⟩
      go_wp2_with fail
      go_ret
      exact ⟨rfl, (hcg.new hca).new hcb⟩
set_option maxHeartbeats 8000000 in
set_option maxRecDepth 100000 in
theorem tells12_false_short (n r : Int) (s : ByteArray) (q : Int) (hn0 : -9223372036854775808 ≤ n) (hn1 : n ≤ 9223372036854775807) (hr0 : -2147483648 ≤ r) (hr1 : r ≤ 2147483647) (hsz : s.size ≤ 100) (hq0 : -9223372036854775808 ≤ q) (hq1 : q ≤ 9223372036854775807) :
    Calls Try.prog 10 #[.int .i64 n, .int .i32 r, .string s, .bool false, .int .i64 q] w (LawPost w) := by
  obtain ⟨i0, hi, hz0, hz1, hz2⟩ := info_parts info_any
  obtain ⟨m, hm, hm9⟩ : ∃ m : Nat, withinI q 0 9 = (m : Int) ∧ m ≤ 9 := by
    have hin := into_within q 0 9 (by omega)
    exact ⟨(withinI q 0 9).toNat, by have := hin.1; omega, by have := hin.1; have := hin.2.1; omega⟩
  have HM := Lib.hid hm
  clear hm
  go_enter Try.func10, Try.ntmps10
  go_wp2_with fail
  go_loopw [11, 12] (fun v i wr => ∃ k : Nat, k ≤ 9 ∧ i = .int .i64 (k : Int) ∧ (∃ X, wr.ownsRow w.heap.size 20 1 v k X) ∧ Chg [] w wr) (fun _ i _ => 9 - (intOf i).toNat)
  case atStart => exact ⟨0, by omega, rfl, ⟨[], World.ownsRow_nil _ _ _ _⟩, Chg.refl _ _⟩
  case round =>
    obtain ⟨i, hi9, rfl, ⟨X, hown⟩, hcg⟩ := hrel
    have hwr := hcg.size
    by_cases hlt : i < m
    · have hlI : (i : Int) < (m : Int) := by omega
      rcases mod_four i with h4 | h4 | h4 | h4
      · go_wp2_with (first
          | (go_at_call 37; with_reducible refine (within_is q 0 9 (by omega) (by omega) (by omega) hq0 hq1).mono ?_; rintro e w' ⟨rfl, rfl⟩; rw [HM.out])
          | (at_builtin
             refine wpList_append_own _ rfl (.tmp 24) (.tmp 37) _ rfl w.heap.size 20 i0 .nilIface 1 16 Try.underlying53 hi hz0 hz1 hz2 rfl (by decide) _ i X rfl (own_keep (own_keep hown ((Chg.refl _ _).alloc _)) ((Chg.refl _ _).alloc _)) ⟨wr.heap.size + 1, 0, none⟩ 1 1 [.iface 2 (.int .i64 n)] rfl rfl ?c1 ?c2 ?c3 ?c4 ?c5 ?_
             case c1 => simpa using cell_one_new (wr.alloc (.cells #[.iface 2 (.int .i64 n), .iface 9 (.string s), .nilIface, .iface 63 (.agg #[.int .i64 (i : Int)])] 20)) (.iface 2 (.int .i64 n)) 20
             case c2 => simp [Value.oneCell']
             case c3 => simp only [maxLen]; omega
             case c4 => omega
             case c5 => simp; omega
             intro v' w2 hown' hg' _))
        go_roundw
        case rel => exact ⟨i + 1, by omega, by go_num, ⟨_, hown'⟩, chg_grown ((hcg.alloc _).alloc _) hg' fun g hgg => (hown.lt g hgg).1⟩
        case measure => simp [intOf]; omega
      · go_wp2_with (first
          | (go_at_call 37; with_reducible refine (within_is q 0 9 (by omega) (by omega) (by omega) hq0 hq1).mono ?_; rintro e w' ⟨rfl, rfl⟩; rw [HM.out])
          | (at_builtin
             refine wpList_append_own _ rfl (.tmp 24) (.tmp 37) _ rfl w.heap.size 20 i0 .nilIface 1 16 Try.underlying53 hi hz0 hz1 hz2 rfl (by decide) _ i X rfl (own_keep (own_keep hown ((Chg.refl _ _).alloc _)) ((Chg.refl _ _).alloc _)) ⟨wr.heap.size + 1, 0, none⟩ 1 1 [.iface 9 (.string s)] rfl rfl ?c1 ?c2 ?c3 ?c4 ?c5 ?_
             case c1 => simpa using cell_one_new (wr.alloc (.cells #[.iface 2 (.int .i64 n), .iface 9 (.string s), .nilIface, .iface 63 (.agg #[.int .i64 (i : Int)])] 20)) (.iface 9 (.string s)) 20
             case c2 => simp [Value.oneCell']
             case c3 => simp only [maxLen]; omega
             case c4 => omega
             case c5 => simp; omega
             intro v' w2 hown' hg' _))
        go_roundw
        case rel => exact ⟨i + 1, by omega, by go_num, ⟨_, hown'⟩, chg_grown ((hcg.alloc _).alloc _) hg' fun g hgg => (hown.lt g hgg).1⟩
        case measure => simp [intOf]; omega
      · go_wp2_with (first
          | (go_at_call 37; with_reducible refine (within_is q 0 9 (by omega) (by omega) (by omega) hq0 hq1).mono ?_; rintro e w' ⟨rfl, rfl⟩; rw [HM.out])
          | (at_builtin
             refine wpList_append_own _ rfl (.tmp 24) (.tmp 37) _ rfl w.heap.size 20 i0 .nilIface 1 16 Try.underlying53 hi hz0 hz1 hz2 rfl (by decide) _ i X rfl (own_keep (own_keep hown ((Chg.refl _ _).alloc _)) ((Chg.refl _ _).alloc _)) ⟨wr.heap.size + 1, 0, none⟩ 1 1 [.nilIface] rfl rfl ?c1 ?c2 ?c3 ?c4 ?c5 ?_
             case c1 => simpa using cell_one_new (wr.alloc (.cells #[.iface 2 (.int .i64 n), .iface 9 (.string s), .nilIface, .iface 63 (.agg #[.int .i64 (i : Int)])] 20)) (.nilIface) 20
             case c2 => simp [Value.oneCell']
             case c3 => simp only [maxLen]; omega
             case c4 => omega
             case c5 => simp; omega
             intro v' w2 hown' hg' _))
        go_roundw
        case rel => exact ⟨i + 1, by omega, by go_num, ⟨_, hown'⟩, chg_grown ((hcg.alloc _).alloc _) hg' fun g hgg => (hown.lt g hgg).1⟩
        case measure => simp [intOf]; omega
      · go_wp2_with (first
          | (go_at_call 37; with_reducible refine (within_is q 0 9 (by omega) (by omega) (by omega) hq0 hq1).mono ?_; rintro e w' ⟨rfl, rfl⟩; rw [HM.out])
          | (at_builtin
             refine wpList_append_own _ rfl (.tmp 24) (.tmp 37) _ rfl w.heap.size 20 i0 .nilIface 1 16 Try.underlying53 hi hz0 hz1 hz2 rfl (by decide) _ i X rfl (own_keep (own_keep hown ((Chg.refl _ _).alloc _)) ((Chg.refl _ _).alloc _)) ⟨wr.heap.size + 1, 0, none⟩ 1 1 [.iface 63 (.agg #[.int .i64 (i : Int)])] rfl rfl ?c1 ?c2 ?c3 ?c4 ?c5 ?_
             case c1 => simpa using cell_one_new (wr.alloc (.cells #[.iface 2 (.int .i64 n), .iface 9 (.string s), .nilIface, .iface 63 (.agg #[.int .i64 (i : Int)])] 20)) (.iface 63 (.agg #[.int .i64 (i : Int)])) 20
             case c2 => simp [Value.oneCell']
             case c3 => simp only [maxLen]; omega
             case c4 => omega
             case c5 => simp; omega
             intro v' w2 hown' hg' _))
        go_roundw
        case rel => exact ⟨i + 1, by omega, by go_num, ⟨_, hown'⟩, chg_grown ((hcg.alloc _).alloc _) hg' fun g hgg => (hown.lt g hgg).1⟩
        case measure => simp [intOf]; omega
    · have hlI : ¬ (i : Int) < (m : Int) := by omega
      obtain ⟨A1, c1, rfl, _, _, _, _⟩ := own_slice hown
      go_wp2_with (go_at_call 37; with_reducible refine (within_is q 0 9 (by omega) (by omega) (by omega) hq0 hq1).mono ?_; rintro e w' ⟨rfl, rfl⟩; rw [HM.out])
      refine (all_false n r s hn0 hn1 hr0 hr1 (by omega) (by omega)).mono ?_
      rintro e wa ⟨rfl, hca⟩
      go_wp2_with fail
      refine rknown_any.mono ?_
      rintro e wb ⟨rfl, hcb⟩
      go_wp2_with fail
      go_ret
      exact ⟨rfl, (hcg.new hca).new hcb⟩
set_option maxHeartbeats 8000000 in
set_option maxRecDepth 100000 in
theorem tells12_true_long (n r : Int) (s : ByteArray) (q : Int) (hn0 : -9223372036854775808 ≤ n) (hn1 : n ≤ 9223372036854775807) (hr0 : -2147483648 ≤ r) (hr1 : r ≤ 2147483647) (hsz : 100 < s.size) (hq0 : -9223372036854775808 ≤ q) (hq1 : q ≤ 9223372036854775807) :
    Calls Try.prog 10 #[.int .i64 n, .int .i32 r, .string s, .bool true, .int .i64 q] w (LawPost w) := by
  obtain ⟨i0, hi, hz0, hz1, hz2⟩ := info_parts info_any
  obtain ⟨m, hm, hm9⟩ : ∃ m : Nat, withinI q 0 9 = (m : Int) ∧ m ≤ 9 := by
    have hin := into_within q 0 9 (by omega)
    exact ⟨(withinI q 0 9).toNat, by have := hin.1; omega, by have := hin.1; have := hin.2.1; omega⟩
  have HM := Lib.hid hm
  clear hm
  have hd : decide ((100 : Int) < (s.size : Int)) = true := by simp; omega
  go_enter Try.func10, Try.ntmps10
  go_wp2_with fail
  have hx : (s.extract 0 100).size ≤ 100 := by simp; omega
  generalize s.extract 0 100 = x at hx ⊢
  go_loopw [11, 12] (fun v i wr => ∃ k : Nat, k ≤ 9 ∧ i = .int .i64 (k : Int) ∧ (∃ X, wr.ownsRow w.heap.size 20 1 v k X) ∧ Chg [] w wr) (fun _ i _ => 9 - (intOf i).toNat)
  case atStart => exact ⟨0, by omega, rfl, ⟨[], World.ownsRow_nil _ _ _ _⟩, Chg.refl _ _⟩
  case round =>
    obtain ⟨i, hi9, rfl, ⟨X, hown⟩, hcg⟩ := hrel
    have hwr := hcg.size
    by_cases hlt : i < m
    · have hlI : (i : Int) < (m : Int) := by omega
      rcases mod_four i with h4 | h4 | h4 | h4
      · go_wp2_with (first
          | (go_at_call 37; with_reducible refine (within_is q 0 9 (by omega) (by omega) (by omega) hq0 hq1).mono ?_; rintro e w' ⟨rfl, rfl⟩; rw [HM.out])
          | (at_builtin
             refine wpList_append_own _ rfl (.tmp 24) (.tmp 37) _ rfl w.heap.size 20 i0 .nilIface 1 16 Try.underlying53 hi hz0 hz1 hz2 rfl (by decide) _ i X rfl (own_keep (own_keep hown ((Chg.refl _ _).alloc _)) ((Chg.refl _ _).alloc _)) ⟨wr.heap.size + 1, 0, none⟩ 1 1 [.iface 2 (.int .i64 n)] rfl rfl ?c1 ?c2 ?c3 ?c4 ?c5 ?_
             case c1 => simpa using cell_one_new (wr.alloc (.cells #[.iface 2 (.int .i64 n), .iface 9 (.string x), .nilIface, .iface 63 (.agg #[.int .i64 (i : Int)])] 20)) (.iface 2 (.int .i64 n)) 20
             case c2 => simp [Value.oneCell']
             case c3 => simp only [maxLen]; omega
             case c4 => omega
             case c5 => simp; omega
             intro v' w2 hown' hg' _))
        go_roundw
        case rel => exact ⟨i + 1, by omega, by go_num, ⟨_, hown'⟩, chg_grown ((hcg.alloc _).alloc _) hg' fun g hgg => (hown.lt g hgg).1⟩
        case measure => simp [intOf]; omega
      · go_wp2_with (first
          | (go_at_call 37; with_reducible refine (within_is q 0 9 (by omega) (by omega) (by omega) hq0 hq1).mono ?_; rintro e w' ⟨rfl, rfl⟩; rw [HM.out])
          | (at_builtin
             refine wpList_append_own _ rfl (.tmp 24) (.tmp 37) _ rfl w.heap.size 20 i0 .nilIface 1 16 Try.underlying53 hi hz0 hz1 hz2 rfl (by decide) _ i X rfl (own_keep (own_keep hown ((Chg.refl _ _).alloc _)) ((Chg.refl _ _).alloc _)) ⟨wr.heap.size + 1, 0, none⟩ 1 1 [.iface 9 (.string x)] rfl rfl ?c1 ?c2 ?c3 ?c4 ?c5 ?_
             case c1 => simpa using cell_one_new (wr.alloc (.cells #[.iface 2 (.int .i64 n), .iface 9 (.string x), .nilIface, .iface 63 (.agg #[.int .i64 (i : Int)])] 20)) (.iface 9 (.string x)) 20
             case c2 => simp [Value.oneCell']
             case c3 => simp only [maxLen]; omega
             case c4 => omega
             case c5 => simp; omega
             intro v' w2 hown' hg' _))
        go_roundw
        case rel => exact ⟨i + 1, by omega, by go_num, ⟨_, hown'⟩, chg_grown ((hcg.alloc _).alloc _) hg' fun g hgg => (hown.lt g hgg).1⟩
        case measure => simp [intOf]; omega
      · go_wp2_with (first
          | (go_at_call 37; with_reducible refine (within_is q 0 9 (by omega) (by omega) (by omega) hq0 hq1).mono ?_; rintro e w' ⟨rfl, rfl⟩; rw [HM.out])
          | (at_builtin
             refine wpList_append_own _ rfl (.tmp 24) (.tmp 37) _ rfl w.heap.size 20 i0 .nilIface 1 16 Try.underlying53 hi hz0 hz1 hz2 rfl (by decide) _ i X rfl (own_keep (own_keep hown ((Chg.refl _ _).alloc _)) ((Chg.refl _ _).alloc _)) ⟨wr.heap.size + 1, 0, none⟩ 1 1 [.nilIface] rfl rfl ?c1 ?c2 ?c3 ?c4 ?c5 ?_
             case c1 => simpa using cell_one_new (wr.alloc (.cells #[.iface 2 (.int .i64 n), .iface 9 (.string x), .nilIface, .iface 63 (.agg #[.int .i64 (i : Int)])] 20)) (.nilIface) 20
             case c2 => simp [Value.oneCell']
             case c3 => simp only [maxLen]; omega
             case c4 => omega
             case c5 => simp; omega
             intro v' w2 hown' hg' _))
        go_roundw
        case rel => exact ⟨i + 1, by omega, by go_num, ⟨_, hown'⟩, chg_grown ((hcg.alloc _).alloc _) hg' fun g hgg => (hown.lt g hgg).1⟩
        case measure => simp [intOf]; omega
      · go_wp2_with (first
          | (go_at_call 37; with_reducible refine (within_is q 0 9 (by omega) (by omega) (by omega) hq0 hq1).mono ?_; rintro e w' ⟨rfl, rfl⟩; rw [HM.out])
          | (at_builtin
             refine wpList_append_own _ rfl (.tmp 24) (.tmp 37) _ rfl w.heap.size 20 i0 .nilIface 1 16 Try.underlying53 hi hz0 hz1 hz2 rfl (by decide) _ i X rfl (own_keep (own_keep hown ((Chg.refl _ _).alloc _)) ((Chg.refl _ _).alloc _)) ⟨wr.heap.size + 1, 0, none⟩ 1 1 [.iface 63 (.agg #[.int .i64 (i : Int)])] rfl rfl ?c1 ?c2 ?c3 ?c4 ?c5 ?_
             case c1 => simpa using cell_one_new (wr.alloc (.cells #[.iface 2 (.int .i64 n), .iface 9 (.string x), .nilIface, .iface 63 (.agg #[.int .i64 (i : Int)])] 20)) (.iface 63 (.agg #[.int .i64 (i : Int)])) 20
             case c2 => simp [Value.oneCell']
             case c3 => simp only [maxLen]; omega
             case c4 => omega
             case c5 => simp; omega
             intro v' w2 hown' hg' _))
        go_roundw
        case rel => exact ⟨i + 1, by omega, by go_num, ⟨_, hown'⟩, chg_grown ((hcg.alloc _).alloc _) hg' fun g hgg => (hown.lt g hgg).1⟩
        case measure => simp [intOf]; omega
    · have hlI : ¬ (i : Int) < (m : Int) := by omega
      obtain ⟨A1, c1, rfl, _, _, _, _⟩ := own_slice hown
      go_wp2_with (go_at_call 37; with_reducible refine (within_is q 0 9 (by omega) (by omega) (by omega) hq0 hq1).mono ?_; rintro e w' ⟨rfl, rfl⟩; rw [HM.out])
      refine (all_true n r x hn0 hn1 hr0 hr1 (by omega) (by omega)).mono ?_
      rintro e wa ⟨rfl, hca⟩
      go_wp2_with fail
      refine rknown_any.mono ?_
      rintro e wb ⟨rfl, hcb⟩
      go_wp2_with fail
      go_ret
      exact ⟨rfl, (hcg.new hca).new hcb⟩
set_option maxHeartbeats 8000000 in
set_option maxRecDepth 100000 in
theorem tells12_false_long (n r : Int) (s : ByteArray) (q : Int) (hn0 : -9223372036854775808 ≤ n) (hn1 : n ≤ 9223372036854775807) (hr0 : -2147483648 ≤ r) (hr1 : r ≤ 2147483647) (hsz : 100 < s.size) (hq0 : -9223372036854775808 ≤ q) (hq1 : q ≤ 9223372036854775807) :
    Calls Try.prog 10 #[.int .i64 n, .int .i32 r, .string s, .bool false, .int .i64 q] w (LawPost w) := by
  obtain ⟨i0, hi, hz0, hz1, hz2⟩ := info_parts info_any
  obtain ⟨m, hm, hm9⟩ : ∃ m : Nat, withinI q 0 9 = (m : Int) ∧ m ≤ 9 := by
    have hin := into_within q 0 9 (by omega)
    exact ⟨(withinI q 0 9).toNat, by have := hin.1; omega, by have := hin.1; have := hin.2.1; omega⟩
  have HM := Lib.hid hm
  clear hm
  have hd : decide ((100 : Int) < (s.size : Int)) = true := by simp; omega
  go_enter Try.func10, Try.ntmps10
  go_wp2_with fail
  have hx : (s.extract 0 100).size ≤ 100 := by simp; omega
  generalize s.extract 0 100 = x at hx ⊢
  go_loopw [11, 12] (fun v i wr => ∃ k : Nat, k ≤ 9 ∧ i = .int .i64 (k : Int) ∧ (∃ X, wr.ownsRow w.heap.size 20 1 v k X) ∧ Chg [] w wr) (fun _ i _ => 9 - (intOf i).toNat)
  case atStart => exact ⟨0, by omega, rfl, ⟨[], World.ownsRow_nil _ _ _ _⟩, Chg.refl _ _⟩
  case round =>
    obtain ⟨i, hi9, rfl, ⟨X, hown⟩, hcg⟩ := hrel
    have hwr := hcg.size
    by_cases hlt : i < m
    · have hlI : (i : Int) < (m : Int) := by omega
      rcases mod_four i with h4 | h4 | h4 | h4
      · go_wp2_with (first
          | (go_at_call 37; with_reducible refine (within_is q 0 9 (by omega) (by omega) (by omega) hq0 hq1).mono ?_; rintro e w' ⟨rfl, rfl⟩; rw [HM.out])
          | (at_builtin
             refine wpList_append_own _ rfl (.tmp 24) (.tmp 37) _ rfl w.heap.size 20 i0 .nilIface 1 16 Try.underlying53 hi hz0 hz1 hz2 rfl (by decide) _ i X rfl (own_keep (own_keep hown ((Chg.refl _ _).alloc _)) ((Chg.refl _ _).alloc _)) ⟨wr.heap.size + 1, 0, none⟩ 1 1 [.iface 2 (.int .i64 n)] rfl rfl ?c1 ?c2 ?c3 ?c4 ?c5 ?_
             case c1 => simpa using cell_one_new (wr.alloc (.cells #[.iface 2 (.int .i64 n), .iface 9 (.string x), .nilIface, .iface 63 (.agg #[.int .i64 (i : Int)])] 20)) (.iface 2 (.int .i64 n)) 20
             case c2 => simp [Value.oneCell']
             case c3 => simp only [maxLen]; omega
             case c4 => omega
             case c5 => simp; omega
             intro v' w2 hown' hg' _))
        go_roundw
        case rel => exact ⟨i + 1, by omega, by go_num, ⟨_, hown'⟩, chg_grown ((hcg.alloc _).alloc _) hg' fun g hgg => (hown.lt g hgg).1⟩
        case measure => simp [intOf]; omega
      · go_wp2_with (first
          | (go_at_call 37; with_reducible refine (within_is q 0 9 (by omega) (by omega) (by omega) hq0 hq1).mono ?_; rintro e w' ⟨rfl, rfl⟩; rw [HM.out])
          | (at_builtin
             refine wpList_append_own _ rfl (.tmp 24) (.tmp 37) _ rfl w.heap.size 20 i0 .nilIface 1 16 Try.underlying53 hi hz0 hz1 hz2 rfl (by decide) _ i X rfl (own_keep (own_keep hown ((Chg.refl _ _).alloc _)) ((Chg.refl _ _).alloc _)) ⟨wr.heap.size + 1, 0, none⟩ 1 1 [.iface 9 (.string x)] rfl rfl ?c1 ?c2 ?c3 ?c4 ?c5 ?_
             case c1 => simpa using cell_one_new (wr.alloc (.cells #[.iface 2 (.int .i64 n), .iface 9 (.string x), .nilIface, .iface 63 (.agg #[.int .i64 (i : Int)])] 20)) (.iface 9 (.string x)) 20
             case c2 => simp [Value.oneCell']
             case c3 => simp only [maxLen]; omega
             case c4 => omega
             case c5 => simp; omega
             intro v' w2 hown' hg' _))
        go_roundw
        case rel => exact ⟨i + 1, by omega, by go_num, ⟨_, hown'⟩, chg_grown ((hcg.alloc _).alloc _) hg' fun g hgg => (hown.lt g hgg).1⟩
        case measure => simp [intOf]; omega
      · go_wp2_with (first
          | (go_at_call 37; with_reducible refine (within_is q 0 9 (by omega) (by omega) (by omega) hq0 hq1).mono ?_; rintro e w' ⟨rfl, rfl⟩; rw [HM.out])
          | (at_builtin
             refine wpList_append_own _ rfl (.tmp 24) (.tmp 37) _ rfl w.heap.size 20 i0 .nilIface 1 16 Try.underlying53 hi hz0 hz1 hz2 rfl (by decide) _ i X rfl (own_keep (own_keep hown ((Chg.refl _ _).alloc _)) ((Chg.refl _ _).alloc _)) ⟨wr.heap.size + 1, 0, none⟩ 1 1 [.nilIface] rfl rfl ?c1 ?c2 ?c3 ?c4 ?c5 ?_
             case c1 => simpa using cell_one_new (wr.alloc (.cells #[.iface 2 (.int .i64 n), .iface 9 (.string x), .nilIface, .iface 63 (.agg #[.int .i64 (i : Int)])] 20)) (.nilIface) 20
             case c2 => simp [Value.oneCell']
             case c3 => simp only [maxLen]; omega
             case c4 => omega
             case c5 => simp; omega
             intro v' w2 hown' hg' _))
        go_roundw
        case rel => exact ⟨i + 1, by omega, by go_num, ⟨_, hown'⟩, chg_grown ((hcg.alloc _).alloc _) hg' fun g hgg => (hown.lt g hgg).1⟩
        case measure => simp [intOf]; omega
      · go_wp2_with (first
          | (go_at_call 37; with_reducible refine (within_is q 0 9 (by omega) (by omega) (by omega) hq0 hq1).mono ?_; rintro e w' ⟨rfl, rfl⟩; rw [HM.out])
          | (at_builtin
             refine wpList_append_own _ rfl (.tmp 24) (.tmp 37) _ rfl w.heap.size 20 i0 .nilIface 1 16 Try.underlying53 hi hz0 hz1 hz2 rfl (by decide) _ i X rfl (own_keep (own_keep hown ((Chg.refl _ _).alloc _)) ((Chg.refl _ _).alloc _)) ⟨wr.heap.size + 1, 0, none⟩ 1 1 [.iface 63 (.agg #[.int .i64 (i : Int)])] rfl rfl ?c1 ?c2 ?c3 ?c4 ?c5 ?_
             case c1 => simpa using cell_one_new (wr.alloc (.cells #[.iface 2 (.int .i64 n), .iface 9 (.string x), .nilIface, .iface 63 (.agg #[.int .i64 (i : Int)])] 20)) (.iface 63 (.agg #[.int .i64 (i : Int)])) 20
             case c2 => simp [Value.oneCell']
             case c3 => simp only [maxLen]; omega
             case c4 => omega
             case c5 => simp; omega
             intro v' w2 hown' hg' _))
        go_roundw
        case rel => exact ⟨i + 1, by omega, by go_num, ⟨_, hown'⟩, chg_grown ((hcg.alloc _).alloc _) hg' fun g hgg => (hown.lt g hgg).1⟩
        case measure => simp [intOf]; omega
    · have hlI : ¬ (i : Int) < (m : Int) := by omega
      obtain ⟨A1, c1, rfl, _, _, _, _⟩ := own_slice hown
      go_wp2_with (go_at_call 37; with_reducible refine (within_is q 0 9 (by omega) (by omega) (by omega) hq0 hq1).mono ?_; rintro e w' ⟨rfl, rfl⟩; rw [HM.out])
      refine (all_false n r x hn0 hn1 hr0 hr1 (by omega) (by omega)).mono ?_
      rintro e wa ⟨rfl, hca⟩
      go_wp2_with fail
      refine rknown_any.mono ?_
      rintro e wb ⟨rfl, hcb⟩
      go_wp2_with fail
      go_ret
      exact ⟨rfl, (hcg.new hca).new hcb⟩
end
end Go.Proofs.Ytigbnmckdjlihaa
