/-
  Layer 12: All; the law's count and tells; engrambook.Same of int64s.
-/
import Derived.Test.YtigbnmckdjlihaaReplyMust
import Derived.Test.YtigbnmckdjlihaaFresh
import Derived.Test.YtigbnmckdjlihaaWaits
import Derived.Test.YtigbnmckdjlihaaLaw
import Derived.Deep.DeepCutAuto
namespace Go.Proofs.Ytigbnmckdjlihaa
open Go.RowKit

/-- Values and their numbers, one by one. -/
def Nums (vs : List Value) (rs : List (Option Int)) : Prop := vs.length = rs.length ∧ ∀ (i : Nat) (v : Value) (r : Option Int), vs[i]? = some v → rs[i]? = some r → Num v r
theorem Nums.nil : Nums [] [] := ⟨rfl, fun i v r h _ => by simp at h⟩
theorem Nums.cons {v : Value} {r : Option Int} {vs : List Value} {rs : List (Option Int)} (h : Num v r) (k : Nums vs rs) : Nums (v :: vs) (r :: rs) := by
  refine ⟨by simp [k.1], fun i u q hu hq => ?_⟩
  cases i with
  | zero => simp at hu hq; subst hu; subst hq; exact h
  | succ i => simp at hu hq; exact k.2 i u q hu hq
theorem Nums.app {vs vs' : List Value} {rs rs' : List (Option Int)} (h : Nums vs rs) (k : Nums vs' rs') : Nums (vs ++ vs') (rs ++ rs') := by
  refine ⟨by simp [h.1, k.1], fun i u q hu hq => ?_⟩
  rcases Nat.lt_or_ge i vs.length with hi | hi
  · rw [List.getElem?_append_left hi] at hu
    rw [List.getElem?_append_left (by rw [← h.1]; exact hi)] at hq
    exact h.2 i u q hu hq
  · rw [List.getElem?_append_right hi] at hu
    rw [List.getElem?_append_right (by rw [← h.1]; exact hi), ← h.1] at hq
    exact k.2 _ u q hu hq
theorem nms_len (l : List Int) : (nms l).length = l.length := by simp [nms]
theorem nms_get (l : List Int) (i : Nat) (h : i < l.length) : (nms l)[i]? = some (.int .i64 l[i]) := by simp [nms, h]
theorem nms_app (l m : List Int) : nms (l ++ m) = nms l ++ nms m := by simp [nms]
theorem nms_one (l : List Int) : ∀ v ∈ nms l, v.oneCell' = true := by
  intro v hv
  simp only [nms, List.mem_map] at hv
  obtain ⟨c, _, rfl⟩ := hv
  rfl
theorem info_i64 : (Try.prog.info? 2).map (fun i => (i.zero, i.size, i.bytes)) = some (some (.int .i64 0), 1, 8) := by kernel_rfl
theorem make_i64s (n : Nat) (hn : n ≤ 1000000) (W : World) : (Instr.makeSlice 22 (.int .i64 0) (.int .i64 (n : Int))).run Try.prog W = .ok (.slice (some ⟨W.heap.size, 0, none⟩) 0 n) (W.alloc (.cells (List.replicate n (Value.int .i64 0)).toArray 2)) := by
  obtain ⟨i, hi, hz, hs1, hb⟩ := info_parts info_i64
  exact run_make0 (P := Try.prog) 22 2 i _ rfl Try.underlying22 hi hz hs1 n (by rw [hb]; omega) (by omega) W
section
variable {w : World} {A : Option Addr} {n c : Nat} {vs : List Value}
/-- All's answer where each has a number. -/
def AllYes (ns : List Int) (w : World) (e : Ending) (w' : World) : Prop := ∃ v, e = .returned (.tuple #[v, .bool true]) ∧ w'.ownsRow w.heap.size 2 1 v ns.length (nms ns) ∧ Chg [] w w'
def AllNo (w : World) (e : Ending) (w' : World) : Prop := e = .returned (.tuple #[.slice none 0 0, .bool false]) ∧ Chg [] w w'
set_option maxHeartbeats 2000000 in
set_option maxRecDepth 100000 in
theorem all_yes {ns : List Int} (hN : Nums vs (ns.map some)) (hs : Src w A vs) (hA : ∀ ad, A = some ad → ad.spot = none) (hn : vs.length = n) (hm : n ≤ 1000000) :
    Calls Try.prog 35 #[.slice A n c] w (AllYes ns w) := by
  obtain ⟨i0, hi, hz0, hz1, hz2⟩ := info_parts info_i64
  have hmk := make_i64s n hm
  have HNS := Lib.hid (show ns.length = n by have := hN.1; rw [List.length_map] at this; omega)
  have HVS := Lib.hid hn
  have HA := Lib.hid hA
  have HN := Lib.hid hN
  clear hn hA hN
  go_enter Try.func35, Try.ntmps35
  go_wp2_with fail
  have ho0 : (w.alloc (.cells (List.replicate n (Value.int .i64 0)).toArray 2)).ownsRow w.heap.size 2 1 (.slice (some ⟨w.heap.size, 0, none⟩) 0 n) 0 (nms (ns.take 0)) := by
    have := own_of_whole (B := w.heap.size) (n := 0) (c := n) (Whole.new w 2 (List.replicate n (Value.int .i64 0))) (Nat.le_refl _) (by simp) (by omega) (by unfold maxLen; omega)
    simpa [nms] using this
  have hc0 : Chg [] w (w.alloc (.cells (List.replicate n (Value.int .i64 0)).toArray 2)) := (Chg.refl _ _).alloc _
  go_loopw [4, 14] (fun v i wr => ∃ k : Nat, k ≤ n ∧ i = .int .i64 (k : Int) ∧ wr.ownsRow w.heap.size 2 1 v k (nms (ns.take k)) ∧ Chg [] w wr) (fun _ i _ => n - (intOf i).toNat)
  case atStart => exact ⟨0, Nat.zero_le _, rfl, ho0, hc0⟩
  case round =>
    obtain ⟨k, hk, rfl, hown, hcg⟩ := hrel
    have hwr := hcg.size
    clear ho0 hc0
    by_cases hlt : k < n
    · have hlv : k < vs.length := by rw [HVS.out]; exact hlt
      have hln : k < ns.length := by rw [HNS.out]; exact hlt
      obtain ⟨ad, rfl, _, hx⟩ := (hs.keep hcg) (by omega)
      have hx1 := hx k _ (List.getElem?_eq_getElem hlv)
      obtain ⟨b1, o1, s1⟩ := ad
      obtain rfl : s1 = none := HA.out _ rfl
      rw [add_plain] at hx1
      have hnum : Num vs[k] (some ns[k]) := HN.out.2 k _ _ (List.getElem?_eq_getElem hlv) (by simp [hln])
      have HT := Lib.hid (show nms (ns.take (k + 1)) = nms (ns.take k) ++ [.int .i64 ns[k]] by rw [List.take_succ_eq_append_getElem hln, nms_app]; rfl)
      generalize vs[k] = u at hx1 hnum
      generalize ns[k] = q at hnum HT
      obtain ⟨X, hX⟩ : ∃ X, X = nms (ns.take k) := ⟨_, rfl⟩
      rw [← hX] at hown HT
      clear hx hX
      go_wp2_with fail
      refine (vof_any hnum).mono ?_
      rintro e w1 ⟨rfl, hc1⟩
      have hown1 := own_keep hown hc1
      have hs1 := hc1.size
      simp only [Option.getD_some, Option.isSome_some]
      go_wp2_with (first
        | (at_builtin
           refine wpList_append_own _ rfl (.tmp 25) (.tmp 27) _ rfl w.heap.size 2 i0 (.int .i64 0) 1 8 Try.underlying22 hi hz0 hz1 hz2 rfl (by decide) _ k X rfl (own_keep hown1 ((Chg.refl _ _).alloc _)) ⟨w1.heap.size, 0, none⟩ 1 1 [.int .i64 q] rfl rfl ?c1 ?c2 ?c3 ?c4 ?c5 ?_
           case c1 => exact cell_one_new _ _ _
           case c2 => simp [Value.oneCell']
           case c3 => simp only [maxLen]; omega
           case c4 => omega
           case c5 => simp; omega
           intro v' w2 hown' hg' _))
      go_roundw
      case rel =>
        refine ⟨k + 1, by omega, by go_num, ?_, chg_grown ((hcg.new hc1).alloc _) hg' fun g hgg => (hown1.lt g hgg).1⟩
        rw [HT.out]
        exact hown'
      case measure => simp [intOf]; omega
    · have hkn : k = n := by omega
      subst hkn
      have HK := Lib.hid (show ns.take k = ns by rw [List.take_of_length_le (by rw [HNS.out]; exact Nat.le_refl _)])
      rw [HK.out] at hown
      rw [← HNS.out] at hown
      clear hlt hk
      go_wp2_with fail
      go_ret2
      exact ⟨_, rfl, hown, hcg⟩
set_option maxHeartbeats 2000000 in
set_option maxRecDepth 100000 in
theorem all_no {rs : List (Option Int)} (hN : Nums vs rs) (hs : Src w A vs) (hA : ∀ ad, A = some ad → ad.spot = none) (hn : vs.length = n) (hm : n ≤ 1000000) (z : Nat) (hz : rs[z]? = some none) (hzz : ∀ i, i < z → ∃ q, rs[i]? = some (some q)) :
    Calls Try.prog 35 #[.slice A n c] w (AllNo w) := by
  obtain ⟨i0, hi, hz0, hz1, hz2⟩ := info_parts info_i64
  have hmk := make_i64s n hm
  have hzn : z < n := by have := (List.getElem?_eq_some_iff.1 hz).1; have := hN.1; omega
  have HVS := Lib.hid hn
  have HA := Lib.hid hA
  have HN := Lib.hid hN
  have HZ := Lib.hid hz
  have HZZ := Lib.hid hzz
  clear hn hA hN hz hzz
  go_enter Try.func35, Try.ntmps35
  go_wp2_with fail
  have ho0 : (w.alloc (.cells (List.replicate n (Value.int .i64 0)).toArray 2)).ownsRow w.heap.size 2 1 (.slice (some ⟨w.heap.size, 0, none⟩) 0 n) 0 [] := by
    have := own_of_whole (B := w.heap.size) (n := 0) (c := n) (Whole.new w 2 (List.replicate n (Value.int .i64 0))) (Nat.le_refl _) (by simp) (by omega) (by unfold maxLen; omega)
    simpa using this
  have hc0 : Chg [] w (w.alloc (.cells (List.replicate n (Value.int .i64 0)).toArray 2)) := (Chg.refl _ _).alloc _
  go_loopw [4, 14] (fun v i wr => ∃ k : Nat, k ≤ z ∧ i = .int .i64 (k : Int) ∧ (∃ X, wr.ownsRow w.heap.size 2 1 v k X) ∧ Chg [] w wr) (fun _ i _ => n - (intOf i).toNat)
  case atStart => exact ⟨0, Nat.zero_le _, rfl, ⟨_, ho0⟩, hc0⟩
  case round =>
    obtain ⟨k, hk, rfl, ⟨X, hown⟩, hcg⟩ := hrel
    have hwr := hcg.size
    clear ho0 hc0
    have hlt : k < n := by omega
    have hlv : k < vs.length := by rw [HVS.out]; exact hlt
    obtain ⟨ad, rfl, _, hx⟩ := (hs.keep hcg) (by omega)
    have hx1 := hx k _ (List.getElem?_eq_getElem hlv)
    obtain ⟨b1, o1, s1⟩ := ad
    obtain rfl : s1 = none := HA.out _ rfl
    rw [add_plain] at hx1
    by_cases hkz : k < z
    · obtain ⟨q, hq⟩ := HZZ.out k hkz
      have hnum : Num vs[k] (some q) := HN.out.2 k _ _ (List.getElem?_eq_getElem hlv) hq
      generalize vs[k] = u at hx1 hnum
      clear hx hq
      go_wp2_with fail
      refine (vof_any hnum).mono ?_
      rintro e w1 ⟨rfl, hc1⟩
      have hown1 := own_keep hown hc1
      have hs1 := hc1.size
      simp only [Option.getD_some, Option.isSome_some]
      go_wp2_with (first
        | (at_builtin
           refine wpList_append_own _ rfl (.tmp 25) (.tmp 27) _ rfl w.heap.size 2 i0 (.int .i64 0) 1 8 Try.underlying22 hi hz0 hz1 hz2 rfl (by decide) _ k X rfl (own_keep hown1 ((Chg.refl _ _).alloc _)) ⟨w1.heap.size, 0, none⟩ 1 1 [.int .i64 q] rfl rfl ?c1 ?c2 ?c3 ?c4 ?c5 ?_
           case c1 => exact cell_one_new _ _ _
           case c2 => simp [Value.oneCell']
           case c3 => simp only [maxLen]; omega
           case c4 => omega
           case c5 => simp; omega
           intro v' w2 hown' hg' _))
      go_roundw
      case rel => exact ⟨k + 1, by omega, by go_num, ⟨_, hown'⟩, chg_grown ((hcg.new hc1).alloc _) hg' fun g hgg => (hown1.lt g hgg).1⟩
      case measure => simp [intOf]; omega
    · obtain rfl : k = z := by omega
      have hnum : Num vs[k] none := HN.out.2 k _ _ (List.getElem?_eq_getElem hlv) HZ.out
      generalize vs[k] = u at hx1 hnum
      clear hx
      go_wp2_with fail
      refine (vof_any hnum).mono ?_
      rintro e w1 ⟨rfl, hc1⟩
      simp only [Option.getD_none, Option.isSome_none]
      go_wp2_with fail
      go_ret2
      exact ⟨rfl, hcg.new hc1⟩
end
section
variable {w : World} {v : Value}
set_option maxHeartbeats 1000000 in
set_option maxRecDepth 1000000 in
theorem count_any (s : ByteArray) (hs : s.size ≤ 9223372036854775807) : Calls Try.prog 52 #[.string s] w (NumPost (runesN s) w) := by
  go_enter Try.func52, Try.ntmps52
  go_wp2
  go_loopw [3] (fun n wr => ∃ (pos b acc : Nat), wr = w.iter s pos ∧ n = .int .i64 (acc : Int) ∧ acc ≤ pos ∧ acc + cntR s b pos = runesN s ∧ s.size ≤ pos + b) (fun _ wr => s.size - wr.iterPos w.heap.size)
  case atStart => exact ⟨0, s.size, 0, rfl, rfl, Nat.le_refl _, by unfold runesN; omega, by omega⟩
  case round =>
    obtain ⟨pos, b, acc, rfl, rfl, hap, hcnt, hb⟩ := hrel
    by_cases hlt : pos < s.size
    · obtain ⟨c, rfl, hn⟩ := cntR_next s b pos hlt hb
      have hw := rune_width s pos hlt
      have HN := Lib.hid hn
      have HC := Lib.hid hcnt
      clear hn hcnt
      have hnx := run_next_any (P := Try.prog) w s pos
      go_wp2
      go_roundw
      case rel => exact ⟨_, c, acc + 1, rfl, by go_num, by omega, by have := HN.out; have := HC.out; omega, by omega⟩
      case measure => simp; omega
    · have HC := Lib.hid hcnt
      clear hcnt
      have hne := run_next_end (P := Try.prog) w s pos
      go_wp2
      go_ret
      have h1 := HC.out
      rw [cntR_end s b pos hlt] at h1
      exact ⟨by rw [← h1]; rfl, chg_iter w s pos⟩
set_option maxHeartbeats 1000000 in
set_option maxRecDepth 100000 in
theorem tells_yes {n : Int} (h : Num v (some n)) : Calls Try.prog 51 #[v, .int .i64 n, .bool true] w (LawPost w) := by
  go_enter Try.func51, Try.ntmps51
  go_wp2_with fail
  refine (vof_any h).mono ?_
  rintro e w1 ⟨rfl, hc1⟩
  simp only [Option.getD_some, Option.isSome_some]
  go_wp2_with fail
  refine (must_yes h).mono ?_
  rintro e w2 ⟨rfl, hc2⟩
  go_wp2_with fail
  go_ret
  exact ⟨rfl, hc1.new hc2⟩
set_option maxHeartbeats 1000000 in
set_option maxRecDepth 100000 in
theorem tells_no (n : Int) (h : Num v none) : Calls Try.prog 51 #[v, .int .i64 n, .bool false] w (LawPost w) := by
  go_enter Try.func51, Try.ntmps51
  go_wp2_with fail
  refine (vof_any h).mono ?_
  rintro e w1 ⟨rfl, hc1⟩
  simp only [Option.getD_none, Option.isSome_none]
  go_wp2_with fail
  refine (must_no h).mono ?_
  rintro e w2 ⟨rfl, hc2⟩
  go_wp2_with fail
  go_ret
  exact ⟨rfl, hc1.new hc2⟩
set_option maxHeartbeats 1000000 in
theorem same64_yes {A B : Option Addr} {n c d : Nat} {l : List Int} (hl : l.length = n) (hn : n ≤ 1000000) (ha : Src w A (nms l)) (hb : Src w B (nms l)) (hA : ∀ ad, A = some ad → ad.spot = none) (hB : ∀ ad, B = some ad → ad.spot = none) :
    Calls Try.prog 53 #[.slice A n c, .slice B n d] w (LawPost w) := by
  have HL := Lib.hid hl
  have HA := Lib.hid hA
  have HB := Lib.hid hB
  clear hl hA hB
  go_enter Try.func53, Try.ntmps53
  go_wp2_with fail
  go_loopw [5] (fun i wr => ∃ k : Nat, k ≤ n ∧ i = .int .i64 (k : Int) ∧ Chg [] w wr) (fun i _ => n - (intOf i).toNat)
  case atStart => exact ⟨0, Nat.zero_le _, rfl, Chg.refl _ _⟩
  case round =>
    obtain ⟨k, hk, rfl, hc⟩ := hrel
    by_cases hlt : k < n
    · have ha2 := ha.keep hc
      have hb2 := hb.keep hc
      obtain ⟨a1, rfl, _, hx⟩ := ha2 (by rw [nms_len, HL.out]; omega)
      obtain ⟨a2, rfl, _, hy⟩ := hb2 (by rw [nms_len, HL.out]; omega)
      have hx1 := hx k _ (nms_get l k (by rw [HL.out]; exact hlt))
      have hy1 := hy k _ (nms_get l k (by rw [HL.out]; exact hlt))
      clear hx hy
      obtain ⟨b1, o1, s1⟩ := a1
      obtain rfl : s1 = none := HA.out _ rfl
      obtain ⟨b2, o2, s2⟩ := a2
      obtain rfl : s2 = none := HB.out _ rfl
      rw [add_plain] at hx1 hy1
      generalize l[k]'(by rw [HL.out]; exact hlt) = q at hx1 hy1
      have hki : (k : Int) < (n : Int) := by omega
      go_wp2_with fail
      go_quiet (fail)
      go_wp2_with fail
      go_roundw
      case rel => exact ⟨k + 1, by omega, by go_num, hc.drewN _⟩
      case measure => simp [intOf]; omega
    · go_wp2_with fail
      go_ret
      exact ⟨rfl, hc⟩
end
end Go.Proofs.Ytigbnmckdjlihaa
