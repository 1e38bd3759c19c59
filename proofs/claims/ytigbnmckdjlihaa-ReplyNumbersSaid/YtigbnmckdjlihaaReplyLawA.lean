/-
  The walk of ReplyAll.
-/
import Derived.Test.YtigbnmckdjlihaaReplyLaw
import Derived.Test.YtigbnmckdjlihaaReplyLawT
import Derived.Test.YtigbnmckdjlihaaWithin
import Derived.Test.YtigbnmckdjlihaaBsMore
import Derived.Test.YtigbnmckdjlihaaRead
namespace Go.Proofs.Ytigbnmckdjlihaa
open Go.RowKit
/-- int64s, as interface values. -/
def boxed (l : List Int) : List Value := l.map fun n => .iface 2 (.int .i64 n)
theorem row_cap {k : IntKind} {w : World} {a : Option Addr} {len cap : Nat} {zs : List Int} (h : IsRow k w a len cap zs) : len ≤ cap := by
  rcases h with ⟨_, rfl, rfl, _⟩ | ⟨_, _, h1, _⟩
  · exact Nat.le_refl _
  · exact h1
theorem boxed_len (l : List Int) : (boxed l).length = l.length := by simp [boxed]
theorem boxed_next (l : List Int) (k : Nat) (h : k < l.length) : boxed (l.take (k + 1)) = boxed (l.take k) ++ [.iface 2 (.int .i64 l[k])] := by
  rw [List.take_succ_eq_append_getElem h]; simp only [boxed, List.map_append]; rfl
theorem boxed_nums (l : List Int) : Nums (boxed l) (l.map some) := by
  refine ⟨by simp [boxed], fun i v r hv hr => ?_⟩
  simp only [boxed, List.getElem?_map] at hv hr
  cases hl : l[i]? with
  | none => rw [hl] at hv; cases hv
  | some n =>
    rw [hl] at hv hr
    simp at hv hr
    subst hv; subst hr
    exact Num.i64 n
theorem Nums.set {vs : List Value} {rs : List (Option Int)} (h : Nums vs rs) (k : Nat) {v : Value} {r : Option Int} (hv : Num v r) : Nums (vs.set k v) (rs.set k r) := by
  refine ⟨by simp [h.1], fun i u q hu hq => ?_⟩
  rw [List.getElem?_set] at hu hq
  by_cases hk : k = i
  · subst hk
    simp only [if_true] at hu hq
    split at hu
    · split at hq
      · injection hu with hu; injection hq with hq; subst hu; subst hq; exact hv
      · cases hq
    · cases hu
  · rw [if_neg hk] at hu hq
    exact h.2 i u q hu hq
theorem set_none {ns : List Int} {k : Nat} (hk : k < ns.length) : ((ns.map some).set k none)[k]? = some none ∧ ∀ i, i < k → ∃ q, ((ns.map some).set k none)[i]? = some (some q) := by
  refine ⟨by simp [hk], fun i hi => ⟨ns[i]'(by omega), ?_⟩⟩
  rw [List.getElem?_set, if_neg (by omega)]
  simp
section
variable {w : World} {A : Option Addr} {n c : Nat}
set_option maxHeartbeats 8000000 in
set_option maxRecDepth 100000 in
theorem all12_short {l : List Int} (hl : l.length = n) (hs0 : Src w A (nms l)) (hA : 0 < n → ∀ ad, A = some ad → ad.spot = none) (hsz : n ≤ 20) (hcap : n ≤ c) (s : ByteArray) (hs : s.size ≤ 9223372036854775807) (q : Int) (hq0 : -9223372036854775808 ≤ q) (hq1 : q ≤ 9223372036854775807) :
    Calls Try.prog 12 #[.slice A n c, .string s, .int .i64 q] w (LawPost w) := by
  obtain ⟨i0, hi, hz0, hz1, hz2⟩ := info_parts info_any
  have hl_ := hl
  have hcap2 := hcap
  have HLL := Lib.hid (show (l).length = n by exact hl)
  have HLS := Lib.hid hs0
  have HA := Lib.hid hA
  have HLO := Lib.hid hl
  clear hs0 hA hl hl_
  go_enter Try.func12, Try.ntmps12
  go_wp2_with fail
  have ho0 : (w.alloc (.cells #[.iface 9 (.string s), .iface 4 (.bool true)] 20)).ownsRow w.heap.size 20 1 (.slice (some ⟨w.heap.size, 0, none⟩) 2 2) (2 + 0) ([.iface 9 (.string s), .iface 4 (.bool true)] ++ boxed ((l).take 0)) :=
    own_of_whole (n := 2) (c := 2) (Whole.new w 20 [.iface 9 (.string s), .iface 4 (.bool true)]) (Nat.le_refl _) rfl (by omega) (by unfold maxLen; omega)
  have hc0 : Chg [] w (w.alloc (.cells #[.iface 9 (.string s), .iface 4 (.bool true)] 20)) := (Chg.refl _ _).alloc _
  go_loopw [7, 28] (fun v i wr => ∃ k : Nat, k ≤ n ∧ i = .int .i64 (k : Int) ∧ wr.ownsRow w.heap.size 20 1 v (2 + k) ([.iface 9 (.string s), .iface 4 (.bool true)] ++ boxed ((l).take k)) ∧ Chg [] w wr) (fun _ i _ => n - (intOf i).toNat)
  case atStart => exact ⟨0, Nat.zero_le _, rfl, ho0, hc0⟩
  case round =>
    obtain ⟨k, hk, rfl, hown, hcg⟩ := hrel
    have hwr := hcg.size
    clear ho0 hc0
    by_cases hlt : k < n
    · have hll : k < (l).length := by rw [HLL.out]; exact hlt
      have hla : k < l.length := by rw [HLO.out]; exact hlt
      obtain ⟨ad, rfl, _, hx⟩ := (HLS.out.keep hcg) (by rw [nms_len]; omega)
      have hx1 := hx k _ (nms_get l k hla)
      obtain ⟨b1, o1, s1⟩ := ad
      obtain rfl : s1 = none := HA.out (by omega) _ rfl
      rw [add_plain] at hx1
      have HT := Lib.hid (show boxed ((l).take (k + 1)) = boxed ((l).take k) ++ [.iface 2 (.int .i64 l[k])] by rw [boxed_next _ k hll])
      generalize l[k] = z at hx1 HT
      obtain ⟨X, hX⟩ : ∃ X, X = [.iface 9 (.string s), .iface 4 (.bool true)] ++ boxed ((l).take k) := ⟨_, rfl⟩
      rw [← hX] at hown
      have HX := Lib.hid hX
      clear hx hX
      have hkI : (k : Int) < ((n : Nat) : Int) := by omega
      go_wp2_with (first
        | (at_builtin
           refine wpList_append_own _ rfl (.tmp 31) (.tmp 37) _ rfl w.heap.size 20 i0 .nilIface 1 16 Try.underlying53 hi hz0 hz1 hz2 rfl (by decide) _ (2 + k) X rfl (own_keep hown ((Chg.refl _ _).alloc _)) ⟨wr.heap.size, 0, none⟩ 1 1 [.iface 2 (.int .i64 z)] rfl rfl ?c1 ?c2 ?c3 ?c4 ?c5 ?_
           case c1 => exact cell_one_new _ _ _
           case c2 => simp [Value.oneCell']
           case c3 => simp only [maxLen]; omega
           case c4 => omega
           case c5 => simp; omega
           intro v' w2 hown' hg' _))
      go_roundw
      case rel =>
        refine ⟨k + 1, by omega, by go_num, ?_, chg_grown (hcg.alloc _) hg' fun g hgg => (hown.lt g hgg).1⟩
        rw [HT.out, ← List.append_assoc, ← HX.out]
        exact hown'
      case measure => simp [intOf]; omega
    · obtain rfl : n = k := by omega
      have HK := Lib.hid (show (l).take n = l by rw [List.take_of_length_le (by rw [HLL.out]; exact Nat.le_refl _)])
      rw [HK.out] at hown
      obtain ⟨M, hM⟩ : ∃ M, M = 2 + n := ⟨_, rfl⟩
      rw [← hM] at hown
      have hM22 : 2 ≤ M ∧ M ≤ 22 := by omega
      obtain ⟨ns, hns⟩ : ∃ ns : List Int, ns = (runesN s : Int) :: 1 :: l := ⟨_, rfl⟩
      obtain ⟨vs, hvs⟩ : ∃ vs : List Value, vs = [.iface 9 (.string s), .iface 4 (.bool true)] ++ boxed (l) := ⟨_, rfl⟩
      have hNums : Nums vs (ns.map some) := by rw [hns, hvs]; exact Nums.cons (Num.str s hs) (Nums.cons Num.yes (boxed_nums _))
      have hvl : vs.length = M := by rw [hvs, hM, List.length_append, boxed_len, HLL.out]; rfl
      rw [← hvs] at hown
      clear hns hvs hM hlt hk
      have HVL := Lib.hid hvl
      have HNL := Lib.hid (show ns.length = M by have := hNums.1; rw [List.length_map] at this; omega)
      have HNU := Lib.hid hNums
      clear hvl hNums
      obtain ⟨g1, r1, rfl, hg1, hW1, hm1⟩ := own_whole hown (by omega)
      have HW1 := Lib.hid hW1
      have hsv : Src wr (some ⟨g1, 0, none⟩) vs := by have := Src.of_whole hW1 0 M; rwa [List.drop_zero, List.take_left' HVL.out] at this
      have HR1 := Lib.hid hcg
      clear hown hW1 hcg
      go_wp2_with fail
      refine (all_yes (n := M) HNU.out hsv (fun ad e => by injection e with e; subst e; rfl) HVL.out (by omega)).mono ?_
      rintro e w2 ⟨v2, rfl, ho2, hc2⟩
      rw [HNL.out] at ho2
      obtain ⟨A2, c2, rfl, _, _, hs2, hA2⟩ := own_slice ho2
      have hW2 := HW1.out.keep hc2
      have h2 := HR1.out.new hc2
      have HA2 := Lib.hid hA2
      have HS2 := Lib.hid hs2
      clear hA2 hs2 ho2 hsv hc2
      go_wp2_with fail
      go_loopw [56] (fun i wr => ∃ k : Nat, k ≤ M ∧ i = .int .i64 (k : Int) ∧ Whole wr g1 20 (vs ++ r1) ∧ Src wr A2 (nms ns) ∧ Chg [] w wr) (fun i _ => M - (intOf i).toNat)
      case atStart => exact ⟨0, Nat.zero_le _, rfl, hW2, HS2.out, h2⟩
      case round =>
        obtain ⟨k, hk, rfl, hWr, hSr, hcr⟩ := hrel
        clear hW2 h2
        have HCR := Lib.hid hcr
        have HWR := Lib.hid hWr
        clear hcr hWr
        by_cases hlt : k < M
        · have hvl : k < vs.length := by rw [HVL.out]; exact hlt
          have hnl : k < ns.length := by rw [HNL.out]; exact hlt
          have ck := HWR.out.cell k
          rw [List.getElem?_append_left hvl, List.getElem?_eq_getElem hvl] at ck
          have hnum : Num vs[k] (some ns[k]) := HNU.out.2 k _ _ (List.getElem?_eq_getElem hvl) (by simp [hnl])
          obtain ⟨ad, rfl, _, hx⟩ := hSr (by rw [nms_len]; omega)
          have HSR := Lib.hid hSr
          clear hSr
          have hx1 := hx k _ (nms_get ns k hnl)
          obtain ⟨b1, o1, s1⟩ := ad
          obtain rfl : s1 = none := (HA2.out _ rfl).1
          obtain rfl : o1 = 0 := (HA2.out _ rfl).2.2.1
          rw [add_plain, Nat.zero_add] at hx1
          have hb1 : b1 < wr.heap.size := block_lt_of_cell hx1
          generalize vs[k] = u at ck hnum
          generalize ns[k] = z at hnum hx1
          have hkI : (k : Int) < (M : Int) := by omega
          clear hx
          go_wp2_with fail
          refine (vof_any hnum).mono ?_
          rintro e wa ⟨rfl, hca⟩
          simp only [Option.getD_some, Option.isSome_some]
          have hkp : ∀ j, wa.cell? ⟨g1, j, none⟩ = wr.cell? ⟨g1, j, none⟩ := fun j => World.cell?_of_block (w := wr) (hca.block g1 HWR.out.lt (by simp))
          have hkq : ∀ j, wa.cell? ⟨b1, j, none⟩ = wr.cell? ⟨b1, j, none⟩ := fun j => World.cell?_of_block (w := wr) (hca.block b1 hb1 (by simp))
          have ck2 := (hkp k).trans ck
          have hx2 := (hkq k).trans hx1
          clear hkp hkq ck hx1
          go_wp2_with fail
          refine (must_yes hnum).mono ?_
          rintro e wb ⟨rfl, hcb⟩
          go_wp2_with fail
          go_roundw
          case rel => exact ⟨k + 1, by omega, by go_num, (HWR.out.keep hca).keep hcb, (HSR.out.keep hca).keep hcb, (HCR.out.new hca).new hcb⟩
          case measure => simp [intOf]; omega
        · obtain rfl : k = M := by omega
          obtain ⟨j, hj, hjM⟩ : ∃ j : Nat, withinI q 0 ((k : Int) - 1) = (j : Int) ∧ j < k := by
            have hin := into_within q 0 ((k : Int) - 1) (by omega)
            exact ⟨(withinI q 0 ((k : Int) - 1)).toNat, by have := hin.1; omega, by have h1 := hin.1; have h2 := hin.2.1; omega⟩
          have HJ := Lib.hid hj
          clear hj hSr
          go_wp2_with fail
          with_reducible refine (within_is q 0 ((k : Int) - 1) (by omega) (by omega) (by omega) hq0 hq1).mono ?_
          rintro e w' ⟨rfl, rfl⟩
          rw [HJ.out]
          have hjl : j < vs.length := by rw [HVL.out]; exact hjM
          have cj := HWR.out.cell j
          rw [List.getElem?_append_left hjl, List.getElem?_eq_getElem hjl] at cj
          have fj := HWR.out.frozen j
          have hW3 := HWR.out.set_ j (.iface 63 (.agg #[.int .i64 (j : Int)]))
          rw [List.set_append_left _ _ hjl] at hW3
          have hc3 : Chg [] w (wr.setCell ⟨g1, j, none⟩ (.iface 63 (.agg #[.int .i64 (j : Int)]))) := HCR.out.setCell (fun hlt => absurd hlt (by simp only; omega)) _
          have hvl3 : (vs.set j (.iface 63 (.agg #[.int .i64 (j : Int)]))).length = k := by rw [List.length_set]; exact HVL.out
          have hsv3 : Src (wr.setCell ⟨g1, j, none⟩ (.iface 63 (.agg #[.int .i64 (j : Int)]))) (some ⟨g1, 0, none⟩) (vs.set j (.iface 63 (.agg #[.int .i64 (j : Int)]))) := by
            have := Src.of_whole hW3 0 k
            rwa [List.drop_zero, List.take_left' hvl3] at this
          have HN3 := Lib.hid (HNU.out.set j (Num.none_ 63 (.agg #[.int .i64 (j : Int)]) (by decide)))
          have HZ := Lib.hid (set_none (ns := ns) (k := j) (by rw [HNL.out]; exact hjM))
          have HV3 := Lib.hid hvl3
          have HS3 := Lib.hid hsv3
          have HC3 := Lib.hid hc3
          have hjI : (j : Int) < (k : Int) := by omega
          clear hW3 hvl3 hsv3 hc3
          go_wp2_with fail
          refine (all_no (n := k) HN3.out HS3.out (fun ad e => by injection e with e; subst e; rfl) HV3.out (by omega) j HZ.out.1 HZ.out.2).mono ?_
          rintro e wa ⟨rfl, hca⟩
          go_wp2_with fail
          refine rknown_any.mono ?_
          rintro e wb ⟨rfl, hcb⟩
          go_wp2_with fail
          go_ret
          exact ⟨rfl, (HC3.out.new hca).new hcb⟩
set_option maxHeartbeats 8000000 in
set_option maxRecDepth 100000 in
theorem all12_long {l : List Int} (hl : l.length = n) (hs0 : Src w A (nms l)) (hA : 0 < n → ∀ ad, A = some ad → ad.spot = none) (hsz : 20 < n) (hcap : n ≤ c) (s : ByteArray) (hs : s.size ≤ 9223372036854775807) (q : Int) (hq0 : -9223372036854775808 ≤ q) (hq1 : q ≤ 9223372036854775807) :
    Calls Try.prog 12 #[.slice A n c, .string s, .int .i64 q] w (LawPost w) := by
  obtain ⟨i0, hi, hz0, hz1, hz2⟩ := info_parts info_any
  have hl_ := hl
  have hd : decide ((20 : Int) < (n : Int)) = true := by simp; omega
  have hcap2 := hcap
  have HLL := Lib.hid (show (l.take 20).length = 20 by rw [List.length_take, hl]; omega)
  have HLS := Lib.hid hs0
  have HA := Lib.hid hA
  have HLO := Lib.hid hl
  clear hs0 hA hl hl_
  go_enter Try.func12, Try.ntmps12
  go_wp2_with fail
  have ho0 : (w.alloc (.cells #[.iface 9 (.string s), .iface 4 (.bool true)] 20)).ownsRow w.heap.size 20 1 (.slice (some ⟨w.heap.size, 0, none⟩) 2 2) (2 + 0) ([.iface 9 (.string s), .iface 4 (.bool true)] ++ boxed ((l.take 20).take 0)) :=
    own_of_whole (n := 2) (c := 2) (Whole.new w 20 [.iface 9 (.string s), .iface 4 (.bool true)]) (Nat.le_refl _) rfl (by omega) (by unfold maxLen; omega)
  have hc0 : Chg [] w (w.alloc (.cells #[.iface 9 (.string s), .iface 4 (.bool true)] 20)) := (Chg.refl _ _).alloc _
  go_loopw [7, 28] (fun v i wr => ∃ k : Nat, k ≤ 20 ∧ i = .int .i64 (k : Int) ∧ wr.ownsRow w.heap.size 20 1 v (2 + k) ([.iface 9 (.string s), .iface 4 (.bool true)] ++ boxed ((l.take 20).take k)) ∧ Chg [] w wr) (fun _ i _ => 20 - (intOf i).toNat)
  case atStart => exact ⟨0, Nat.zero_le _, rfl, ho0, hc0⟩
  case round =>
    obtain ⟨k, hk, rfl, hown, hcg⟩ := hrel
    have hwr := hcg.size
    clear ho0 hc0
    by_cases hlt : k < 20
    · have hll : k < (l.take 20).length := by rw [HLL.out]; exact hlt
      have hla : k < l.length := by have := HLO.out; omega
      obtain ⟨ad, rfl, _, hx⟩ := (HLS.out.keep hcg) (by rw [nms_len]; omega)
      have hx1 := hx k _ (nms_get l k hla)
      obtain ⟨b1, o1, s1⟩ := ad
      obtain rfl : s1 = none := HA.out (by omega) _ rfl
      rw [add_plain] at hx1
      have HT := Lib.hid (show boxed ((l.take 20).take (k + 1)) = boxed ((l.take 20).take k) ++ [.iface 2 (.int .i64 l[k])] by rw [boxed_next _ k hll]; simp)
      generalize l[k] = z at hx1 HT
      obtain ⟨X, hX⟩ : ∃ X, X = [.iface 9 (.string s), .iface 4 (.bool true)] ++ boxed ((l.take 20).take k) := ⟨_, rfl⟩
      rw [← hX] at hown
      have HX := Lib.hid hX
      clear hx hX
      have hkI : (k : Int) < ((20 : Nat) : Int) := by omega
      go_wp2_with (first
        | (at_builtin
           refine wpList_append_own _ rfl (.tmp 31) (.tmp 37) _ rfl w.heap.size 20 i0 .nilIface 1 16 Try.underlying53 hi hz0 hz1 hz2 rfl (by decide) _ (2 + k) X rfl (own_keep hown ((Chg.refl _ _).alloc _)) ⟨wr.heap.size, 0, none⟩ 1 1 [.iface 2 (.int .i64 z)] rfl rfl ?c1 ?c2 ?c3 ?c4 ?c5 ?_
           case c1 => exact cell_one_new _ _ _
           case c2 => simp [Value.oneCell']
           case c3 => simp only [maxLen]; omega
           case c4 => omega
           case c5 => simp; omega
           intro v' w2 hown' hg' _))
      go_roundw
      case rel =>
        refine ⟨k + 1, by omega, by go_num, ?_, chg_grown (hcg.alloc _) hg' fun g hgg => (hown.lt g hgg).1⟩
        rw [HT.out, ← List.append_assoc, ← HX.out]
        exact hown'
      case measure => simp [intOf]; omega
    · obtain rfl : 20 = k := by omega
      have HK := Lib.hid (show (l.take 20).take 20 = l.take 20 by rw [List.take_of_length_le (by rw [HLL.out]; exact Nat.le_refl _)])
      rw [HK.out] at hown
      obtain ⟨M, hM⟩ : ∃ M, M = 2 + 20 := ⟨_, rfl⟩
      rw [← hM] at hown
      have hM22 : 2 ≤ M ∧ M ≤ 22 := by omega
      obtain ⟨ns, hns⟩ : ∃ ns : List Int, ns = (runesN s : Int) :: 1 :: l.take 20 := ⟨_, rfl⟩
      obtain ⟨vs, hvs⟩ : ∃ vs : List Value, vs = [.iface 9 (.string s), .iface 4 (.bool true)] ++ boxed (l.take 20) := ⟨_, rfl⟩
      have hNums : Nums vs (ns.map some) := by rw [hns, hvs]; exact Nums.cons (Num.str s hs) (Nums.cons Num.yes (boxed_nums _))
      have hvl : vs.length = M := by rw [hvs, hM, List.length_append, boxed_len, HLL.out]; rfl
      rw [← hvs] at hown
      clear hns hvs hM hlt hk
      have HVL := Lib.hid hvl
      have HNL := Lib.hid (show ns.length = M by have := hNums.1; rw [List.length_map] at this; omega)
      have HNU := Lib.hid hNums
      clear hvl hNums
      obtain ⟨g1, r1, rfl, hg1, hW1, hm1⟩ := own_whole hown (by omega)
      have HW1 := Lib.hid hW1
      have hsv : Src wr (some ⟨g1, 0, none⟩) vs := by have := Src.of_whole hW1 0 M; rwa [List.drop_zero, List.take_left' HVL.out] at this
      have HR1 := Lib.hid hcg
      clear hown hW1 hcg
      go_wp2_with fail
      refine (all_yes (n := M) HNU.out hsv (fun ad e => by injection e with e; subst e; rfl) HVL.out (by omega)).mono ?_
      rintro e w2 ⟨v2, rfl, ho2, hc2⟩
      rw [HNL.out] at ho2
      obtain ⟨A2, c2, rfl, _, _, hs2, hA2⟩ := own_slice ho2
      have hW2 := HW1.out.keep hc2
      have h2 := HR1.out.new hc2
      have HA2 := Lib.hid hA2
      have HS2 := Lib.hid hs2
      clear hA2 hs2 ho2 hsv hc2
      go_wp2_with fail
      go_loopw [56] (fun i wr => ∃ k : Nat, k ≤ M ∧ i = .int .i64 (k : Int) ∧ Whole wr g1 20 (vs ++ r1) ∧ Src wr A2 (nms ns) ∧ Chg [] w wr) (fun i _ => M - (intOf i).toNat)
      case atStart => exact ⟨0, Nat.zero_le _, rfl, hW2, HS2.out, h2⟩
      case round =>
        obtain ⟨k, hk, rfl, hWr, hSr, hcr⟩ := hrel
        clear hW2 h2
        have HCR := Lib.hid hcr
        have HWR := Lib.hid hWr
        clear hcr hWr
        by_cases hlt : k < M
        · have hvl : k < vs.length := by rw [HVL.out]; exact hlt
          have hnl : k < ns.length := by rw [HNL.out]; exact hlt
          have ck := HWR.out.cell k
          rw [List.getElem?_append_left hvl, List.getElem?_eq_getElem hvl] at ck
          have hnum : Num vs[k] (some ns[k]) := HNU.out.2 k _ _ (List.getElem?_eq_getElem hvl) (by simp [hnl])
          obtain ⟨ad, rfl, _, hx⟩ := hSr (by rw [nms_len]; omega)
          have HSR := Lib.hid hSr
          clear hSr
          have hx1 := hx k _ (nms_get ns k hnl)
          obtain ⟨b1, o1, s1⟩ := ad
          obtain rfl : s1 = none := (HA2.out _ rfl).1
          obtain rfl : o1 = 0 := (HA2.out _ rfl).2.2.1
          rw [add_plain, Nat.zero_add] at hx1
          have hb1 : b1 < wr.heap.size := block_lt_of_cell hx1
          generalize vs[k] = u at ck hnum
          generalize ns[k] = z at hnum hx1
          have hkI : (k : Int) < (M : Int) := by omega
          clear hx
          go_wp2_with fail
          refine (vof_any hnum).mono ?_
          rintro e wa ⟨rfl, hca⟩
          simp only [Option.getD_some, Option.isSome_some]
          have hkp : ∀ j, wa.cell? ⟨g1, j, none⟩ = wr.cell? ⟨g1, j, none⟩ := fun j => World.cell?_of_block (w := wr) (hca.block g1 HWR.out.lt (by simp))
          have hkq : ∀ j, wa.cell? ⟨b1, j, none⟩ = wr.cell? ⟨b1, j, none⟩ := fun j => World.cell?_of_block (w := wr) (hca.block b1 hb1 (by simp))
          have ck2 := (hkp k).trans ck
          have hx2 := (hkq k).trans hx1
          clear hkp hkq ck hx1
          go_wp2_with fail
          refine (must_yes hnum).mono ?_
          rintro e wb ⟨rfl, hcb⟩
          go_wp2_with fail
          go_roundw
          case rel => exact ⟨k + 1, by omega, by go_num, (HWR.out.keep hca).keep hcb, (HSR.out.keep hca).keep hcb, (HCR.out.new hca).new hcb⟩
          case measure => simp [intOf]; omega
        · obtain rfl : k = M := by omega
          obtain ⟨j, hj, hjM⟩ : ∃ j : Nat, withinI q 0 ((k : Int) - 1) = (j : Int) ∧ j < k := by
            have hin := into_within q 0 ((k : Int) - 1) (by omega)
            exact ⟨(withinI q 0 ((k : Int) - 1)).toNat, by have := hin.1; omega, by have h1 := hin.1; have h2 := hin.2.1; omega⟩
          have HJ := Lib.hid hj
          clear hj hSr
          go_wp2_with fail
          with_reducible refine (within_is q 0 ((k : Int) - 1) (by omega) (by omega) (by omega) hq0 hq1).mono ?_
          rintro e w' ⟨rfl, rfl⟩
          rw [HJ.out]
          have hjl : j < vs.length := by rw [HVL.out]; exact hjM
          have cj := HWR.out.cell j
          rw [List.getElem?_append_left hjl, List.getElem?_eq_getElem hjl] at cj
          have fj := HWR.out.frozen j
          have hW3 := HWR.out.set_ j (.iface 63 (.agg #[.int .i64 (j : Int)]))
          rw [List.set_append_left _ _ hjl] at hW3
          have hc3 : Chg [] w (wr.setCell ⟨g1, j, none⟩ (.iface 63 (.agg #[.int .i64 (j : Int)]))) := HCR.out.setCell (fun hlt => absurd hlt (by simp only; omega)) _
          have hvl3 : (vs.set j (.iface 63 (.agg #[.int .i64 (j : Int)]))).length = k := by rw [List.length_set]; exact HVL.out
          have hsv3 : Src (wr.setCell ⟨g1, j, none⟩ (.iface 63 (.agg #[.int .i64 (j : Int)]))) (some ⟨g1, 0, none⟩) (vs.set j (.iface 63 (.agg #[.int .i64 (j : Int)]))) := by
            have := Src.of_whole hW3 0 k
            rwa [List.drop_zero, List.take_left' hvl3] at this
          have HN3 := Lib.hid (HNU.out.set j (Num.none_ 63 (.agg #[.int .i64 (j : Int)]) (by decide)))
          have HZ := Lib.hid (set_none (ns := ns) (k := j) (by rw [HNL.out]; exact hjM))
          have HV3 := Lib.hid hvl3
          have HS3 := Lib.hid hsv3
          have HC3 := Lib.hid hc3
          have hjI : (j : Int) < (k : Int) := by omega
          clear hW3 hvl3 hsv3 hc3
          go_wp2_with fail
          refine (all_no (n := k) HN3.out HS3.out (fun ad e => by injection e with e; subst e; rfl) HV3.out (by omega) j HZ.out.1 HZ.out.2).mono ?_
          rintro e wa ⟨rfl, hca⟩
          go_wp2_with fail
          refine rknown_any.mono ?_
          rintro e wb ⟨rfl, hcb⟩
          go_wp2_with fail
          go_ret
          exact ⟨rfl, (HC3.out.new hca).new hcb⟩
end
end Go.Proofs.Ytigbnmckdjlihaa
