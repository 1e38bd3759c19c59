/-
  The walk of FrameNumbers.
-/
import Derived.Test.YtamdpmbonoolcaaRowFrm
import Derived.Test.YtamdpmbonoolcaaKnownFrm
import Derived.Test.YtamdpmbonoolcaaFrame
namespace Go.Proofs.Ytamdpmbonoolcaa
open Go.RowKit
def first : List UInt8 := [102, 105, 114, 115, 116]
def third : List UInt8 := [116, 104, 101, 32, 116, 104, 105, 114, 100]
section
variable {w : World}
set_option maxHeartbeats 4000000 in
set_option maxRecDepth 100000 in
theorem frameNumbers_any : Calls Try.prog 12 #[] w (LawPost w) := by
  obtain ⟨i0, hi, hz, hs1, hb⟩ := info_parts info_byte
  have kc := fun (w : World) (C : Array Value) (n c : Nat) => Lib.run_convert_bytes_const (P := Try.prog) w 28 5 C n c Try.underlying28 Try.underlying5
  have kc2 := fun (w : World) (o : Obj) (C : Array Value) (n c : Nat) => kc (w.alloc o) C n c
  simp only [show ∀ (w : World) (o : Obj), (w.alloc o).heap.size = w.heap.size + 1 from fun w o => by simp] at kc2
  go_enter Try.func12, Try.ntmps12
  go_wp2_with fail
  have hb0 := Bs.of_const w 5 first (5, 6) (by decide)
  have hb1 := (Bs.of_const (w.alloc (.cells (bts first).toArray 5 (5, 6))) 5 third (9, 10) (by decide))
  have hb0' := (hb0.keep ((Chg.refl [] _).alloc (.cells (bts third).toArray 5 (9, 10))))
  have hc0 : Chg [] w ((w.alloc (.cells (bts first).toArray 5 (5, 6))).alloc (.cells (bts third).toArray 5 (9, 10))) := ((Chg.refl _ _).alloc _).alloc _
  have hsz : (w.alloc (.cells (bts first).toArray 5 (5, 6))).heap.size = w.heap.size + 1 := by simp
  have hsz2 : ((w.alloc (.cells (bts first).toArray 5 (5, 6))).alloc (.cells (bts third).toArray 5 (9, 10))).heap.size = w.heap.size + 1 + 1 := by simp
  rw [hsz] at hb1
  have ef : (bts first).toArray = #[.int .u8 102, .int .u8 105, .int .u8 114, .int .u8 115, .int .u8 116] := rfl
  have et : (bts third).toArray = #[.int .u8 116, .int .u8 104, .int .u8 101, .int .u8 32, .int .u8 116, .int .u8 104, .int .u8 105, .int .u8 114, .int .u8 100] := rfl
  rw [ef] at hb0' hb1 hc0 hsz2
  rw [et] at hb0' hb1 hc0 hsz2
  generalize (w.alloc (.cells #[.int .u8 102, .int .u8 105, .int .u8 114, .int .u8 115, .int .u8 116] 5 (5, 6))).alloc (.cells #[.int .u8 116, .int .u8 104, .int .u8 101, .int .u8 32, .int .u8 116, .int .u8 104, .int .u8 105, .int .u8 114, .int .u8 100] 5 (9, 10)) = W2 at hb0' hb1 hc0 hsz2 ⊢
  rw [← hsz2]
  have hLs : Lists W2 [.slice (some ⟨w.heap.size, 0, none⟩) 5 5, .slice none 0 0, .slice (some ⟨w.heap.size + 1, 0, none⟩) 9 9] [first, [], third] := by
    refine ⟨rfl, fun i v X hv hX => ?_⟩
    match i, hv, hX with
    | 0, hv, hX => simp at hv hX; subst hv; subst hX; exact ⟨_, _, _, rfl, hb0'⟩
    | 1, hv, hX => simp at hv hX; subst hv; subst hX; exact ⟨_, _, _, rfl, Bs.nil _⟩
    | 2, hv, hX => simp at hv hX; subst hv; subst hX; exact ⟨_, _, _, rfl, hb1⟩
    | i + 3, hv, _ => simp at hv
  refine (row_any (ls := [first, [], third]) (Src.of_all (Whole.new W2 28 [.slice (some ⟨w.heap.size, 0, none⟩) 5 5, .slice none 0 0, .slice (some ⟨w.heap.size + 1, 0, none⟩) 9 9])) (fun ad e => by injection e with e; subst e; rfl) rfl (by simp) (hLs.keep ((Chg.refl _ _).alloc _)) 7 (by omega)).mono ?_
  rintro e w1 ⟨v1, rfl, ho1, hc1⟩
  have hc01 : Chg [] w w1 := (hc0.alloc _).new hc1
  have hFl : (rowB 7 [first, [], third] (min 3 6)).length = 62 := by
    show (rowB 7 [first, [], third] 3).length = 62
    simp only [rowB, List.length_append, frameL_len]
    rfl
  generalize rowB 7 [first, [], third] (min 3 6) = F at ho1 hFl
  rw [hFl] at ho1
  obtain ⟨g, r, rfl, _, hW1, hr⟩ := own_whole ho1 (by omega)
  have hBF : Bs w1 (some ⟨g, 0, none⟩) 62 (62 + r.length) F := Bs.of_whole hW1 hFl (by rw [List.take_left' (by rw [bts_len, hFl])]) (by omega) (by simpa [maxLen] using hr)
  have hlF := Lib.hid (show (bts F).length = 62 by rw [bts_len, hFl])
  have hFL := Lib.hid hFl
  have hrr : 62 + r.length ≤ 9223372036854775807 := by simpa [maxLen] using hr
  clear hFl hr hLs hb0 hb0' hb1 hsz hsz2 ef et ho1 kc kc2
  go_wp2_with fail
  go_loopw [2] (fun i wr => (∃ k : Nat, k ≤ 63 ∧ i = .int .i64 (k : Int)) ∧ Chg [] w1 wr) (fun i _ => 63 - (intOf i).toNat)
  case atStart => exact ⟨⟨0, by omega, rfl⟩, Chg.refl _ _⟩
  case round =>
    obtain ⟨⟨k, hk, rfl⟩, hcr⟩ := hrel
    have hBr := hBF.keep hcr
    by_cases hlt : k ≤ 62
    · have hl1 : (k : Int) ≤ 62 := by omega
      have e0 : ¬ 62 + r.length < k := by omega
      have e1 : ¬ 62 < k := by omega
      have e2 : ¬ (62 : Int) + (r.length : Int) < (k : Int) := by omega
      have hk62 : k ≤ 62 := hlt
      obtain ⟨Ak, hAk⟩ : ∃ Ak : Option Addr, Ak = (if 62 + r.length = k then some ⟨g, 0, none⟩ else some ⟨g, k, none⟩) := ⟨_, rfl⟩
      have hBk : Bs wr Ak (62 - k) (62 + r.length - k) (F.drop k) := by
        have h1 := hBr.cut (lo := k) (hi := 62) hk62 (Nat.le_refl _)
        rw [List.take_of_length_le (by rw [List.length_drop, hFL.out]; exact Nat.le_refl _)] at h1
        rw [hAk]
        simpa only [Option.map_some, add_plain, Nat.zero_add] using h1
      have hBt := hBr.take hk62
      have kp : ∀ W, Low wr.heap.size wr.drew W → Chg [] wr W := fun W hW => (Chg.refl [] wr).drew.new (hW.chg (Nat.le_refl _))
      have T := lowT_ok wr.heap.size [19] [13, 15, 19]
      have hltk := Lib.hid (show (bts (F.take k)).length = k by rw [bts_len, List.length_take, hFL.out]; omega)
      have hcat := Lib.hid (show (F ++ F.take k).length = 62 + k by rw [List.length_append, List.length_take, hFL.out]; omega)
      go_wp2_with fail
      refine wp_flow (by kernel_rfl) (lowT wr.heap.size [19] [13, 15, 19]) (lowT_ok _ _ _) (by kernel_rfl) ?_
      refine flow_move_out T rfl rfl rfl ?_
      refine flow_move_out T rfl rfl rfl ?_
      refine flow_slice_hi (r := .slice (some ⟨g, 0, none⟩) k (62 + r.length)) T (.inn rfl) (.inn rfl) (fun ev W he e1 e2 => by go_simp) rfl ?_
      refine flow_callv (.bool true) (by kernel_rfl) rfl (.cons (.inn rfl) (.cons (.const _) (.cons (.const _) .nil))) (fun W hW => (fsame_any (hBt.keep (kp W hW)) 7 0 (by omega) (by omega) (by omega)).mono ?_) ?_
      · rintro e w' ⟨rfl, hc⟩; exact ⟨rfl, low_by _ hc⟩
      refine flow1 (r := .bool false) T rfl (.inn rfl) rfl (fun ev W he e1 => by go_simp) ?_
      refine flow_move T rfl (keeps_isV _) (.inr (keeps_isV _)) rfl ?_
      refine flow_move_out T rfl rfl rfl ?_
      refine flow_move_out T rfl rfl rfl ?_
      refine flow_slice_lo (r := .slice Ak (62 - k) (62 + r.length - k)) T (.inn rfl) (.inn rfl) (fun ev W he e1 e2 => by rw [hAk]; split <;> go_simp) rfl ?_
      refine flow_callv (.bool true) (by kernel_rfl) rfl (.cons (.inn rfl) (.cons (.const _) (.cons (.const _) .nil))) (fun W hW => (fsame_any (hBk.keep (kp W hW)) 7 1 (by omega) (by omega) (by omega)).mono ?_) ?_
      · rintro e w' ⟨rfl, hc⟩; exact ⟨rfl, low_by _ hc⟩
      refine flow1 (r := .bool false) T rfl (.inn rfl) rfl (fun ev W he e1 => by go_simp) ?_
      refine flow_or_false T rfl rfl rfl ?_
      refine flow_move T rfl (keeps_isV _) (.inr (keeps_isV _)) rfl ?_
      refine flow_build0 (e := 5) (Nat.le_refl _) (fun ev W he => by go_simp) rfl rfl ?_
      refine flow_move_out T rfl rfl rfl ?_
      refine flow_append_empty (news := bts F) (Nat.le_refl _) rfl rfl (.inn rfl) Try.underlying28 hi hz hs1 hb cells_u8 hlF.out (fun W hW => (hBr.keep (kp W hW)).src) (by omega) (by unfold maxLen; omega) rfl rfl ?_
      refine flow_move_out T rfl rfl rfl ?_
      refine flow_move_out T rfl rfl rfl ?_
      refine flow_slice_hi (r := .slice (some ⟨g, 0, none⟩) k (62 + r.length)) T (.inn rfl) (.inn rfl) (fun ev W he e1 e2 => by go_simp) rfl ?_
      refine flow_append_det (Nat.le_refl _) rfl rfl (.inn rfl) Try.underlying28 hi hz hs1 hb cells_u8 hltk.out (fun W hW => (hBt.keep (kp W hW)).src) (bts_one _) (by rw [hlF.out]; omega) (by rw [hlF.out]; unfold maxLen; omega) rfl rfl rfl ?_
      refine flow_call (isV (.bool true)) (keeps_isV _) (.inr (keeps_isV _)) (by kernel_rfl) rfl (fun ev W he hW hf => ?_) ?_
      · have hf1 : ownF wr.heap.size 5 (bts F ++ bts (F.take k)) (ev (.tmp 39)) W := hf.1
        rw [← bts_app] at hf1
        obtain ⟨A2, c2, e2, hB2, _⟩ := Bs.of_own (l := F ++ F.take k) hf1
        have hf2 : ev (.const (.int .u32 7)) = .int .u32 7 := hf.2.1
        have hf3 : ev (.const (.int .u32 0)) = .int .u32 0 := hf.2.2.1
        refine (?_ : Calls _ _ #[ev (.tmp 39), ev (.const (.int .u32 7)), ev (.const (.int .u32 0))] _ _)
        rw [e2, hf2, hf3]
        refine (fsame_any hB2 7 0 (by omega) (by omega) (by rw [bts_len, hcat.out]; omega)).mono ?_
        rintro e w' ⟨rfl, hc⟩
        exact ⟨_, rfl, low_by _ hc, rfl⟩
      refine flow1 (r := .bool false) T rfl (.inn rfl) rfl (fun ev W he e1 => by go_simp) ?_
      refine flow_or_false T rfl rfl rfl ?_
      intro vs W hW hF
      have e42 : vs 42 = .bool false := hF 42 _ rfl rfl
      have hcW := kp W hW
      simp only [putAll, Act.put, List.setIfInBounds_toArray, List.set_cons_zero, List.set_cons_succ, e42]
      by_cases hk2 : k < 62
      rotate_left
      · obtain rfl : k = 62 := by omega
        go_wp2_with fail
        go_roundw
        case rel => exact ⟨⟨63, by omega, by go_num⟩, hcr.new hcW⟩
        case measure => simp [intOf]
      have hk2i : (k : Int) < 62 := by omega
      have hk2j : (0 : Int) ≤ (k : Int) := by omega
      clear hBk hBt hltk hcat hAk T
      have HLit := Whole.new W 5 (bts [1, 128, 255])
      have ebt : (bts [1, 128, 255]).toArray = #[.int .u8 1, .int .u8 128, .int .u8 255] := rfl
      have hcA : Chg [] w1 (W.alloc (.cells #[.int .u8 1, .int .u8 128, .int .u8 255] 5)) := (hcr.new hcW).alloc _
      rw [ebt] at HLit
      clear ebt
      go_wp2_with fail
      generalize W.alloc (.cells #[.int .u8 1, .int .u8 128, .int .u8 255] 5) = W7 at HLit hcA ⊢
      go_loopw [49] (fun i w5 => (∃ q : Nat, q ≤ 3 ∧ i = .int .i64 (q : Int)) ∧ Chg [] W7 w5) (fun i _ => 3 - (intOf i).toNat)
      case atStart => exact ⟨⟨0, by omega, rfl⟩, Chg.refl _ _⟩
      case round =>
        obtain ⟨⟨q, hq, rfl⟩, hc5⟩ := hrel
        by_cases hq3 : q < 3
        · have hq3i : (q : Int) < 3 := by omega
          obtain ⟨y, hy⟩ : ∃ y : UInt8, (bts [1, 128, 255])[q]? = some (.int .u8 (y.toNat : Int)) := by
            match q, hq3 with
            | 0, _ => exact ⟨1, rfl⟩
            | 1, _ => exact ⟨128, rfl⟩
            | 2, _ => exact ⟨255, rfl⟩
          have cq := (HLit.keep hc5).cell q
          rw [hy] at cq
          clear hy
          have hB5 := hBF.keep (hcA.new hc5)
          obtain ⟨z0, hz0⟩ : ∃ z0, z0 = F[k]'(by rw [hFL.out]; exact hk2) := ⟨_, rfl⟩
          have HZ := Lib.hid (show (bts F)[k]? = some (B8 z0) by rw [hz0]; exact bts_get F k _)
          clear hz0
          obtain ⟨D, hD⟩ : ∃ D : UInt8, bits .xor .u8 (z0.toNat : Int) (y.toNat : Int) = (D.toNat : Int) := by
            have h1 := z0.toNat_lt
            have h2 := y.toNat_lt
            refine ⟨UInt8.ofNat (z0.toNat ^^^ y.toNat), ?_⟩
            rw [u8_xor_nat _ _ (by omega) (by omega), UInt8.toNat_ofNat']
            have h3 : z0.toNat ^^^ y.toNat < 256 := Nat.xor_lt_two_pow (n := 8) (by omega) (by omega)
            omega
          have HD := Lib.hid hD
          clear hD
          have hx1 := Lib.hid (show 0 + 62 ≤ maxLen by unfold maxLen; omega)
          have hx3 := Lib.hid (show (0 + 62) * 1 ≤ 140737488355328 by omega)
          have ho0 : (wr.alloc (.cells #[] 5)).ownsRow wr.heap.size 5 1 (.slice (some ⟨wr.heap.size, 0, none⟩) 0 0) 0 [] :=
            own_of_whole (B := wr.heap.size) (n := 0) (c := 0) (Whole.new wr 5 []) (Nat.le_refl _) rfl (by omega) (by unfold maxLen; omega)
          go_wp2_with (at_builtin
                       refine wpList_append_src rfl (.tmp 53) (.tmp 54) 28 rfl wr.heap.size 5 i0 _ 1 Try.underlying28 hi hz hs1 hb cells_u8 (.slice (some ⟨wr.heap.size, 0, none⟩) 0 0) 0 [] rfl ho0 (some ⟨g, 0, none⟩) 62 (62 + r.length) (bts F) rfl hlF.out (hB5.src.keep ((Chg.refl _ _).alloc _)) (bts_one F) hx1.out hx3.out (by simp) ?_
                       intro v2 w2 ho2 hg2 _
                       have hc2 : Chg [] wr w2 := ((Chg.refl [] wr).alloc _).own ho0 (Nat.le_refl _) hg2
                       clear hg2
                       simp only [Nat.zero_add, List.nil_append] at ho2
                       obtain ⟨g2, r2, rfl, hbg, hW2, hr2⟩ := own_whole ho2 (by omega)
                       have c0 : w2.cell? ⟨g2, k, none⟩ = some (B8 z0) := by
                         rw [hW2.cell, List.getElem?_append_left (by rw [hlF.out]; exact hk2)]
                         exact HZ.out
                       have f0 := hW2.frozen k
                       have hW3 := hW2.set_ k (B8 D)
                       rw [List.set_append_left _ _ (by rw [hlF.out]; exact hk2), bts_set] at hW3
                       have hc3 : Chg [] wr (w2.setCell ⟨g2, k, none⟩ (B8 D)) := hc2.setCell (fun hlt => absurd hlt (by simp only; omega)) _
                       unfold B8 at c0 hW3 hc3
                       rw [← HD.out] at hW3 hc3
                       clear ho2 hW2)
          have hX : Bs (w2.setCell ⟨g2, k, none⟩ (.int .u8 (bits .xor .u8 (z0.toNat : Int) (y.toNat : Int)))) (some ⟨g2, 0, none⟩) 62 (62 + r2.length) (F.set k D) := Bs.of_whole hW3 (by rw [List.length_set]; exact hFL.out) (by rw [List.take_left' (by rw [bts_len, List.length_set]; exact hFL.out)]) (by omega) (by simpa [maxLen] using hr2)
          refine (fsame_any hX 7 0 (by omega) (by omega) (by omega)).mono ?_
          rintro e w8 ⟨rfl, hc8⟩
          go_wp2_with fail
          go_roundw
          case rel => exact ⟨⟨q + 1, by omega, by go_num⟩, (hc5.new hc3).new hc8⟩
          case measure => simp [intOf]; omega
        · obtain rfl : q = 3 := by omega
          go_wp2_with fail
          go_roundw
          case rel => exact ⟨⟨k + 1, by omega, by go_num⟩, hcA.new hc5⟩
          case measure => simp [intOf]; omega
    · have hl1 : ¬ (k : Int) ≤ 62 := by omega
      have hLit := Whole.new wr 48 (u32s [0, 1, 2147483647, 2147483648, 4294967295])
      have eul : (u32s [0, 1, 2147483647, 2147483648, 4294967295]).toArray = #[.int .u32 0, .int .u32 1, .int .u32 2147483647, .int .u32 2147483648, .int .u32 4294967295] := rfl
      have hcA : Chg [] w1 (wr.alloc (.cells #[.int .u32 0, .int .u32 1, .int .u32 2147483647, .int .u32 2147483648, .int .u32 4294967295] 48)) := hcr.alloc _
      rw [eul] at hLit
      clear eul
      go_wp2_with fail
      generalize wr.alloc (.cells #[.int .u32 0, .int .u32 1, .int .u32 2147483647, .int .u32 2147483648, .int .u32 4294967295] 48) = W7 at hLit hcA ⊢
      go_loopw [69] (fun i w5 => (∃ q : Nat, q ≤ 5 ∧ i = .int .i64 (q : Int)) ∧ Chg [] W7 w5) (fun i _ => 5 - (intOf i).toNat)
      case atStart => exact ⟨⟨0, by omega, rfl⟩, Chg.refl _ _⟩
      case round =>
        obtain ⟨⟨q, hq, rfl⟩, hc5⟩ := hrel
        by_cases hq3 : q < 5
        · have hq3i : (q : Int) < 5 := by omega
          obtain ⟨y, hy, hyl⟩ : ∃ y : Nat, (u32s [0, 1, 2147483647, 2147483648, 4294967295])[q]? = some (.int .u32 (y : Int)) ∧ y < 4294967296 := by
            match q, hq3 with
            | 0, _ => exact ⟨0, rfl, by omega⟩
            | 1, _ => exact ⟨1, rfl, by omega⟩
            | 2, _ => exact ⟨2147483647, rfl, by omega⟩
            | 3, _ => exact ⟨2147483648, rfl, by omega⟩
            | 4, _ => exact ⟨4294967295, rfl, by omega⟩
          have cq := (hLit.keep hc5).cell q
          rw [hy] at cq
          clear hy
          go_wp2_with fail
          refine (rput_b (Bs.nil wr) y hyl (by omega)).mono ?_
          rintro e wa ⟨va, rfl, hoa, hca⟩
          obtain ⟨Aa, ca, rfl, hBa, _⟩ := Bs.of_own hoa
          go_wp2_with fail
          refine (rput_b hBa 0 (by omega) (by simp [be4_len])).mono ?_
          rintro e wb ⟨vb, rfl, hob, hcb⟩
          obtain ⟨Ab, cb, rfl, hBb, _⟩ := Bs.of_own hob
          go_wp2_with fail
          refine (rput_b hBb y hyl (by simp [be4_len])).mono ?_
          rintro e wc ⟨vc, rfl, hoc, hcc⟩
          have hPl : ([] ++ be4 y ++ be4 0 ++ be4 y).length = 12 := rfl
          generalize [] ++ be4 y ++ be4 0 ++ be4 y = P3 at hoc hPl
          rw [hPl] at hoc
          obtain ⟨Ac, cc, rfl, hBc, _⟩ := Bs.of_own hoc
          have hcabc : Chg [] wr wc := (hca.new hcb).new hcc
          have hoc' := own_keep (own_more hoc (hca.new hcb).size) ((Chg.refl [] wc).alloc (.cells #[.int .u8 1, .int .u8 2, .int .u8 3, .int .u8 4, .int .u8 5] 5))
          have hlit5 := Whole.new wc 5 (bts [1, 2, 3, 4, 5])
          have e5 : (bts [1, 2, 3, 4, 5]).toArray = #[.int .u8 1, .int .u8 2, .int .u8 3, .int .u8 4, .int .u8 5] := rfl
          rw [e5] at hlit5
          clear e5
          have hx1 := Lib.hid (show 12 + 5 ≤ maxLen by unfold maxLen; omega)
          have hx3 := Lib.hid (show (12 + 5) * 1 ≤ 140737488355328 by omega)
          have hcabl : Chg [] wr (wc.alloc (.cells #[.int .u8 1, .int .u8 2, .int .u8 3, .int .u8 4, .int .u8 5] 5)) := hcabc.alloc _
          go_wp2_with (at_builtin
                       refine wpList_append_src rfl (.tmp 77) (.tmp 78) 28 rfl wr.heap.size 5 i0 _ 1 Try.underlying28 hi hz hs1 hb cells_u8 (.slice Ac 12 cc) 12 (bts P3) rfl hoc' (some ⟨wc.heap.size, 0, none⟩) 5 5 (bts [1, 2, 3, 4, 5]) rfl rfl (Src.of_all hlit5) (bts_one _) hx1.out hx3.out hcabl.size ?_
                       intro vd wd hod hgd _
                       have hcd : Chg [] wr wd := hcabl.own hoc' (Nat.le_refl _) hgd
                       clear hgd
                       rw [← bts_app] at hod
                       obtain ⟨Ad, cd, rfl, hBd, _⟩ := Bs.of_own hod)
          refine (fsame_any hBd y 0 hyl (by omega) (by omega)).mono ?_
          rintro e we ⟨rfl, hce⟩
          have hlit1 := Whole.new we 5 (bts [1])
          have e1' : (bts [1]).toArray = #[.int .u8 1] := rfl
          rw [e1'] at hlit1
          clear e1'
          have hcl1 : Chg [] we (we.alloc (.cells #[.int .u8 1] 5)) := (Chg.refl _ _).alloc _
          go_wp2_with fail
          refine (rframe_any (Bs.of_all (l := [1]) hlit1 (by simp)) y y hyl hyl (by simp)).mono ?_
          rintro e wf ⟨vf, rfl, hof, hcf⟩
          obtain ⟨Af, cf, rfl, hBf, _⟩ := Bs.of_own hof
          have hfl : (frameL y y [1]).length = 17 := by rw [frameL_len]; rfl
          rw [hfl] at hBf ⊢
          clear hof hfl
          go_wp2_with fail
          refine (fsame_any hBf y y hyl hyl (by omega)).mono ?_
          rintro e wg ⟨rfl, hcg⟩
          go_wp2_with fail
          go_roundw
          case rel => exact ⟨⟨q + 1, by omega, by go_num⟩, ((((hc5.new hcd).new hce).new hcl1).new hcf).new hcg⟩
          case measure => simp [intOf]; omega
        · obtain rfl : q = 5 := by omega
          go_wp2_with fail
          refine fknown_any.mono ?_
          rintro e w8 ⟨rfl, hc8⟩
          go_wp2_with fail
          go_ret
          exact ⟨rfl, (hc01.new (hcA.new hc5)).new hc8⟩
end
end Go.Proofs.Ytamdpmbonoolcaa
