/-
  S: Frm, FrmRead, FrmScan, RedoRec, FrmPure.
-/
import Derived.Test.YtddjgncdjdjgeaaGreatZS3
import Derived.Test.YtddjgncdjdjgeaaGreatZS5
import Derived.Test.YtddjgncdjdjgeaaGreatZS10
import Derived.Test.YtddjgncdjdjgeaaGreatZS14
import Derived.Test.YtddjgncdjdjgeaaGreatZS15
namespace Go.Proofs.YtddjgncdjdjgeaaGreat
open Go.RowKit

def headL (ep sq : Nat) (l : List UInt8) : List UInt8 := be4 ep ++ be4 sq ++ be4 (l.length % 4294967296) ++ l
def frameL (ep sq : Nat) (l : List UInt8) : List UInt8 := headL ep sq l ++ be4 (sumK (headL ep sq l))
theorem headL_len (ep sq : Nat) (l : List UInt8) : (headL ep sq l).length = 12 + l.length := by simp only [headL, List.length_append, be4_len]
theorem frameL_len (ep sq : Nat) (l : List UInt8) : (frameL ep sq l).length = 16 + l.length := by simp only [frameL, List.length_append, be4_len, headL_len]; omega

/-- The first k of some numbers, as bytes. -/
def preL (N : List Nat) (k : Nat) : List UInt8 := (N.take k).flatMap be4
theorem preL_next (N : List Nat) (k : Nat) (h : k < N.length) : preL N (k + 1) = preL N k ++ be4 N[k] := by
  unfold preL
  rw [List.take_succ_eq_append_getElem h, List.flatMap_append]
  simp
def u32s (N : List Nat) : List Value := N.map fun (q : Nat) => Value.int .u32 (q : Int)
section
variable {w : World} {A : Option Addr} {n c : Nat} {l : List UInt8}
set_option maxHeartbeats 1000000 in
set_option maxRecDepth 100000 in
theorem frame_any (h : Bs w A n c l) (ep sq : Nat) (he : ep < 4294967296) (hs : sq < 4294967296) (hn : n + 16 ≤ 140737488355328) :
    Calls Tryz.prog 70 #[.int .u32 (ep : Int), .int .u32 (sq : Int), .slice A n c] w (BytesPost w (frameL ep sq l)) := by
  obtain ⟨i, hi, hz, hs1, hb⟩ := info_parts info_byte
  have hmk : ∀ W : World, (Instr.makeSlice 30 (.int .i64 0) (.int .i64 (12 + (n : Int)))).run Tryz.prog W = .ok (.slice (some ⟨W.heap.size, 0, none⟩) 0 (12 + n)) (W.alloc (.cells (bts (zeros (12 + n))).toArray 5)) := by
    intro W
    rw [bts_zeros]
    have := run_make0 (P := Tryz.prog) 30 5 i _ rfl Tryz.underlying30 hi hz hs1 (12 + n) (by rw [hb]; omega) (by omega) W
    simpa using this
  go_enter Tryz.func70, Tryz.ntmps70
  go_wp2_with fail
  have ho0 : (w.alloc (.cells (bts (zeros (12 + n))).toArray 5)).ownsRow w.heap.size 5 1 (.slice (some ⟨w.heap.size, 0, none⟩) 0 (12 + n)) 0 [] := by
    have := own_of_whole (B := w.heap.size) (n := 0) (c := 12 + n) (Whole.new w 5 (bts (zeros (12 + n)))) (Nat.le_refl _) (by simp [bts_len, zeros_len]) (by omega) (by unfold maxLen; omega)
    simpa using this
  have hm32 : n % 4294967296 < 4294967296 := Nat.mod_lt _ (by omega)
  have hN : ∀ q ∈ [ep, sq, n % 4294967296], q < 4294967296 := by
    intro q hq
    simp only [List.mem_cons, List.not_mem_nil, or_false] at hq
    rcases hq with rfl | rfl | rfl <;> assumption
  have hNl : [ep, sq, n % 4294967296].length = 3 := rfl
  have hfin : preL [ep, sq, n % 4294967296] 3 ++ l = headL ep sq l := by rw [headL, h.len]; simp [preL]
  have HC := Whole.new (w.alloc (.cells (bts (zeros (12 + n))).toArray 5)) 56 (u32s [ep, sq, n % 4294967296])
  have ho1 := own_keep ho0 ((Chg.refl [] _).alloc (.cells (u32s [ep, sq, n % 4294967296]).toArray 56))
  have hc1 : Chg [] w ((w.alloc (.cells (bts (zeros (12 + n))).toArray 5)).alloc (.cells (u32s [ep, sq, n % 4294967296]).toArray 56)) := ((Chg.refl [] w).alloc _).alloc _
  have hzz : (w.alloc (.cells (bts (zeros (12 + n))).toArray 5)).heap.size = w.heap.size + 1 := by simp
  have hu : (u32s [ep, sq, n % 4294967296]).toArray = #[.int .u32 (ep : Int), .int .u32 (sq : Int), .int .u32 ((n : Int) % 4294967296)] := by
    simp [u32s]
  rw [hzz] at HC
  rw [hu] at HC ho1 hc1
  generalize (w.alloc (.cells (bts (zeros (12 + n))).toArray 5)).alloc (.cells #[.int .u32 (ep : Int), .int .u32 (sq : Int), .int .u32 ((n : Int) % 4294967296)] 56) = w1 at HC ho1 hc1 ⊢
  generalize [ep, sq, n % 4294967296] = N at HC hN hNl hfin
  have HN := Lib.hid hN
  have HNL := Lib.hid hNl
  have HFIN := Lib.hid hfin
  have HB1 := h.keep hc1
  clear hzz hu ho0 hN hNl hfin hmk
  go_loopw [7, 9, 21] (fun v _ i wr => ∃ k : Nat, k ≤ 3 ∧ i = .int .i64 (k : Int) ∧ (∃ m, m = 4 * k ∧ wr.ownsRow w.heap.size 5 1 v m (bts (preL N k))) ∧ Chg [] w1 wr) (fun _ _ i _ => 3 - (intOf i).toNat)
  case atStart => exact ⟨0, by omega, rfl, ⟨0, rfl, ho1⟩, Chg.refl _ _⟩
  case round =>
    obtain ⟨k, hk, rfl, ⟨m, hm0, hown⟩, hcr⟩ := hrel
    have hm1 : 4 * k ≤ m := by omega
    have hm2 : m ≤ 4 * k := by omega
    clear hm0
    obtain ⟨Av, cv, rfl, hBv, _⟩ := Bs.of_own hown
    by_cases hlt : k < 3
    · obtain ⟨q, hq⟩ : ∃ q, q = N[k]'(by rw [HNL.out]; exact hlt) := ⟨_, rfl⟩
      have hq2 := HN.out q (by rw [hq]; exact List.getElem_mem _)
      have hnx := Lib.hid (show preL N (k + 1) = preL N k ++ be4 q by rw [hq]; exact preL_next N k _)
      have cq : wr.cell? ⟨w.heap.size + 1, k, none⟩ = some (.int .u32 (q : Int)) := by
        rw [(HC.keep hcr).cell]
        unfold u32s
        rw [List.getElem?_map, List.getElem?_eq_getElem (by rw [HNL.out]; exact hlt), ← hq]
        rfl
      clear hq
      go_wp2_with fail
      refine (put_b hBv q hq2 (by omega)).mono ?_
      rintro e w2 ⟨v2, rfl, ho2, hc2⟩
      go_wp2_with fail
      go_roundw
      case rel =>
        refine ⟨k + 1, by omega, by go_num, ⟨(preL N k ++ be4 q).length, ?_, ?_⟩, hcr.new hc2⟩
        · have := hBv.len; rw [List.length_append, be4_len]; omega
        · rw [hnx.out]; exact own_more ho2 (by have := hc1.size; have := hcr.size; omega)
      case measure => simp [intOf]; omega
    · obtain rfl : k = 3 := by omega
      obtain ⟨w3, rfl⟩ : ∃ w3 : World, w3 = wr := ⟨_, rfl⟩
      have hl3 := HB1.keep hcr
      have hmx : m = 12 := by omega
      have hlb := Lib.hid (show (bts l).length = n by rw [bts_len, h.len])
      have hx1 := Lib.hid (show m + n ≤ maxLen by unfold maxLen; omega)
      have hx2 := Lib.hid (show (m + n) * 1 ≤ 140737488355328 by omega)
      clear hmx
      go_wp2_with (at_builtin
                   refine wpList_append_src rfl (.tmp 29) (.tmp 30) 30 rfl w.heap.size 5 i _ 1 Tryz.underlying30 hi hz hs1 hb cells_u8 (.slice Av m cv) m (bts (preL N 3)) rfl hown A n c (bts l) rfl hlb.out hl3.src (bts_one l) hx1.out hx2.out (by have := hc1.size; have := hcr.size; omega) ?_
                   intro v4 w4 ho4 hg4 _
                   have hc4 : Chg [] w w4 := (hc1.new hcr).own hown (Nat.le_refl _) hg4
                   clear hg4
                   rw [← bts_app, HFIN.out] at ho4
                   obtain ⟨A4, c4, rfl, hB4, _⟩ := Bs.of_own ho4)
      refine (sumk_b hB4).mono ?_
      rintro e w' ⟨rfl, rfl⟩
      go_wp2_with fail
      refine (put_b hB4 (sumK (headL ep sq l)) (sumK_lt _) (by omega)).mono ?_
      rintro e w5 ⟨v5, rfl, ho5, hc5⟩
      go_wp2_with fail
      go_ret
      exact ⟨v5, rfl, own_more ho5 hc4.size, hc4.new hc5⟩
end
end Go.Proofs.YtddjgncdjdjgeaaGreat
namespace Go.Proofs.YtddjgncdjdjgeaaGreat
open Go.RowKit

/-- What Read answers. -/
def readOk (l : List UInt8) (ep sq : Nat) : Prop := 16 ≤ l.length ∧ getI l 0 = ep ∧ getI l 4 = sq ∧ getI l 8 ≤ l.length - 16 ∧ getI l ((12 + getI l 8 : Nat) : Int) = sumK (l.take (12 + getI l 8))
def recL (l : List UInt8) : List UInt8 := (l.drop 12).take (getI l 8)
def ReadPost (w : World) (l : List UInt8) (ep sq : Nat) (e : Ending) (w' : World) : Prop :=
  (readOk l ep sq ∧ ∃ v, e = .returned (.tuple #[v, .int .i64 ((16 + getI l 8 : Nat) : Int), .bool true]) ∧ w'.ownsRow w.heap.size 5 1 v (recL l).length (bts (recL l)) ∧ Chg [] w w') ∨
  (¬ readOk l ep sq ∧ e = .returned (.tuple #[.slice none 0 0, .int .i64 0, .bool false]) ∧ Chg [] w w')
theorem make_u32 (q : Nat) (hq : q ≤ 281474976710656) (W : World) :
    (Instr.makeSlice 30 (.int .u32 (q : Int)) (.int .u32 (q : Int))).run Tryz.prog W = .ok (.slice (some ⟨W.heap.size, 0, none⟩) q q) (W.alloc (.cells (bts (zeros q)).toArray 5)) := by
  obtain ⟨i, hi, hz, hs1, hb⟩ := info_parts info_byte
  have hb' : (i.bytes : Int) * (q : Int) ≤ 281474976710656 := by rw [hb]; omega
  have h := run_make (P := Tryz.prog) W 30 5 i _ Tryz.underlying30 hi hz .u32 .u32 (q : Int) (q : Int) (by omega) (Int.le_refl _) hb' (by omega)
  have h1 : (Value.int .u8 0).cells = #[Value.int .u8 0] := rfl
  rw [h, hs1, h1, made_one, bts_zeros]
  simp
theorem size_byte : (Tryz.prog.info? 5).map (·.size) = some 1 := by kernel_rfl
theorem bne_f {a b : Int} (h : a = b) : (a != b) = false := by simpa using h
theorem bne_t {a b : Int} (h : a ≠ b) : (a != b) = true := by simpa using h

section
variable {w : World} {A : Option Addr} {n c : Nat} {l : List UInt8}
set_option maxHeartbeats 2000000 in
set_option maxRecDepth 100000 in
theorem read_any' (h : Bs w A n c l) (ep sq : Nat) (hn : n ≤ 140737488355328) :
    Calls Tryz.prog 121 #[.slice A n c, .int .u32 (ep : Int), .int .u32 (sq : Int)] w (ReadPost w l ep sq) := by
  have hl := h.len
  by_cases h16 : n < 16
  · have hno : ¬ readOk l ep sq := fun hr => by have := hr.1; omega
    have HNO := Lib.hid hno
    clear hno hl
    go_enter Tryz.func121, Tryz.ntmps121
    go_wp2_with fail
    go_ret3
    exact .inr ⟨HNO.out, rfl, Chg.refl _ _⟩
  have hd16 : decide ((n : Int) < 16) = false := by simp; omega
  have HL := Lib.hid hl
  clear hl
  by_cases h0 : getI l 0 = ep
  rotate_left
  · have HNO := Lib.hid (show ¬ readOk l ep sq from fun hr => h0 hr.2.1)
    have hb := bne_t (show ((getI l 0 : Nat) : Int) ≠ (ep : Int) by omega)
    clear h0
    go_enter Tryz.func121, Tryz.ntmps121
    go_wp2_with fail
    refine (get_b h 0 (by omega)).mono ?_
    rintro e w' ⟨rfl, rfl⟩
    go_wp2_with fail
    go_ret3
    exact .inr ⟨HNO.out, rfl, Chg.refl _ _⟩
  by_cases h4 : getI l 4 = sq
  rotate_left
  · have HNO := Lib.hid (show ¬ readOk l ep sq from fun hr => h4 hr.2.2.1)
    have hb := bne_t (show ((getI l 4 : Nat) : Int) ≠ (sq : Int) by omega)
    have hb0 := bne_f (show ((getI l 0 : Nat) : Int) = (ep : Int) by omega)
    clear h4 h0
    go_enter Tryz.func121, Tryz.ntmps121
    go_wp2_with fail
    refine (get_b h 0 (by omega)).mono ?_
    rintro e w' ⟨rfl, rfl⟩
    go_wp2_with fail
    refine (get_b h 4 (by omega)).mono ?_
    rintro e w' ⟨rfl, rfl⟩
    go_wp2_with fail
    go_ret3
    exact .inr ⟨HNO.out, rfl, Chg.refl _ _⟩
  have hb0 := bne_f (show ((getI l 0 : Nat) : Int) = (ep : Int) by omega)
  have hb4 := bne_f (show ((getI l 4 : Nat) : Int) = (sq : Int) by omega)
  have H0 := Lib.hid h0
  have H4 := Lib.hid h4
  clear h0 h4
  have hq := getI_lt l 8
  by_cases h8 : getI l 8 ≤ n - 16
  rotate_left
  · have HNO := Lib.hid (show ¬ readOk l ep sq from fun hr => h8 (by have := hr.2.2.2.1; rw [HL.out] at this; exact this))
    have hgt : (n : Int) - 16 < ((getI l 8 : Nat) : Int) := by omega
    go_enter Tryz.func121, Tryz.ntmps121
    go_wp2_with fail
    refine (get_b h 0 (by omega)).mono ?_
    rintro e w' ⟨rfl, rfl⟩
    go_wp2_with fail
    refine (get_b h 4 (by omega)).mono ?_
    rintro e w' ⟨rfl, rfl⟩
    go_wp2_with fail
    refine (get_b h 8 (by omega)).mono ?_
    rintro e w' ⟨rfl, rfl⟩
    go_wp2_with fail
    go_ret3
    exact .inr ⟨HNO.out, rfl, Chg.refl _ _⟩
  have hle : ((getI l 8 : Nat) : Int) ≤ (n : Int) - 16 := by omega
  go_enter Tryz.func121, Tryz.ntmps121
  go_wp2_with fail
  refine (get_b h 0 (by omega)).mono ?_
  rintro e w' ⟨rfl, rfl⟩
  go_wp2_with fail
  refine (get_b h 4 (by omega)).mono ?_
  rintro e w' ⟨rfl, rfl⟩
  go_wp2_with fail
  refine (get_b h 8 (by omega)).mono ?_
  rintro e w' ⟨rfl, rfl⟩
  go_wp2_with fail
  obtain ⟨q, hqe⟩ : ∃ q, q = getI l 8 := ⟨_, rfl⟩
  rw [← hqe] at hq h8 hle ⊢
  have ECAST := Lib.hid (show (12 : Int) + (q : Int) = ((12 + q : Nat) : Int) by omega)
  have e1 : ((12 : Int) + (q : Int)).toNat = 12 + q := by omega
  have e2 : (0 : Int) ≤ 12 + (q : Int) := by omega
  have hcap := h.cap
  have e3 : ¬ (c : Int) < 12 + (q : Int) := by omega
  have e4 : ¬ c < 12 + q := by omega
  have hA0 : Option.map (fun x : Addr => x.add 0) A = A := by cases A <;> simp [Addr.add]
  have HE := Lib.hid hqe
  have hT := h.take (m := 12 + q) (by omega)
  clear hqe
  have kp : ∀ W, Chg [] w.drew W → Chg [] w W := fun W hW => (Chg.refl [] w).drew.new hW
  obtain ⟨b, hbt⟩ : ∃ b : Bool, b = (((getI l (12 + (q : Int)) : Nat) : Int) != ((sumK (l.take (12 + q)) : Nat) : Int)) := ⟨_, rfl⟩
  refine wp_flow (by kernel_rfl) plainT plainT_ok (by kernel_rfl) ?_
  refine flow_move_out plainT_ok rfl rfl rfl ?_
  refine flow_move_out plainT_ok rfl rfl rfl ?_
  refine flow_callv (.int .u32 ((getI l (12 + (q : Int)) : Nat) : Int)) (by kernel_rfl) rfl (.cons (.inn rfl) (.cons (.inn rfl) .nil)) (fun W hW => (get_b (h.keep (kp W hW)) (12 + (q : Int)) (by omega)).mono ?_) ?_
  · rintro e w' ⟨rfl, rfl⟩; exact ⟨rfl, Chg.refl _ _⟩
  refine flow_move_out plainT_ok rfl rfl rfl ?_
  refine flow_move_out plainT_ok rfl rfl rfl ?_
  refine flow_slice_hi (r := .slice A (12 + q) c) plainT_ok (.inn rfl) (.inn rfl) (fun ev W he e1 e2 => by go_simp) rfl ?_
  refine flow_callv (.int .u32 ((sumK (l.take (12 + q)) : Nat) : Int)) (by kernel_rfl) rfl (.cons (.inn rfl) .nil) (fun W hW => (sumk_b (hT.keep (kp W hW))).mono ?_) ?_
  · rintro e w' ⟨rfl, rfl⟩; exact ⟨rfl, Chg.refl _ _⟩
  refine flow2 (r := .bool b) plainT_ok rfl (.inn rfl) (.inn rfl) rfl (fun ev W he e1 e2 => by rw [hbt]; go_simp) ?_
  intro vs W hW hF
  have e46 : vs 46 = .bool b := hF 46 _ rfl rfl
  have hcW := kp W hW
  simp only [putAll, Act.put, List.setIfInBounds_toArray, List.set_cons_zero, List.set_cons_succ, e46]
  cases b with
  | true =>
    have hne : getI l (12 + (q : Int)) ≠ sumK (l.take (12 + q)) := fun hc => by rw [hc] at hbt; simp at hbt
    have HNO := Lib.hid (show ¬ readOk l ep sq from fun hr => hne (by have := hr.2.2.2.2; rw [← HE.out, ← ECAST.out] at this; exact this))
    clear hbt hne
    go_wp2_with fail
    go_ret3
    exact .inr ⟨HNO.out, rfl, hcW⟩
  | false =>
    have heq : getI l (12 + (q : Int)) = sumK (l.take (12 + q)) := by
      have h2 := hbt.symm
      simp only [bne_eq_false_iff_eq] at h2
      omega
    have HOK := Lib.hid (show readOk l ep sq from ⟨by rw [HL.out]; omega, H0.out, H4.out, by rw [← HE.out, HL.out]; exact h8, by rw [← HE.out, ← ECAST.out]; exact heq⟩)
    clear hbt heq
    have hmk := make_u32 q (by omega)
    have hC := (h.keep hcW).cut (lo := 12) (hi := 12 + q) (by omega) (by omega)
    have hc12 : ¬ c = 12 := by omega
    rw [if_neg hc12, show 12 + q - 12 = q by omega] at hC
    have e5 : ¬ 12 + q < 12 := by omega
    have e6 : 12 + q - 12 = q := by omega
    obtain ⟨⟨b0, o0, s0⟩, rfl, _, _⟩ := h.src (by rw [bts_len, HL.out]; omega)
    obtain rfl : s0 = none := h.spot (by omega) _ rfl
    simp only [Option.map_some, add_plain] at hC
    obtain ⟨X, hX⟩ : ∃ X, X = (l.drop 12).take q := ⟨_, rfl⟩
    rw [← hX] at hC
    have hXl := Lib.hid (show (bts X).length = Nat.min q q by rw [bts_len, hC.len]; simp)
    have hsp := Lib.hid (show splice (bts (zeros q)) 0 (bts X) = bts X by rw [splice_all]; rw [bts_len, bts_len, zeros_len, hC.len])
    have hfit : 0 + (bts X).length ≤ (bts (zeros q)).length := by rw [bts_len, bts_len, zeros_len, hC.len]; omega
    have HX := Lib.hid hX
    have hXq := Lib.hid hC.len
    clear hX
    have HFIT := Lib.hid hfit
    clear hfit
    have hsX := hC.src
    clear hC
    go_wp2_with (with_reducible refine wpList_copy_chg rfl (.tmp 49) (.tmp 52) _ _ rfl 5 Tryz.underlying30 size_byte (some ⟨W.heap.size, 0, none⟩) (some ⟨b0, o0 + 12, none⟩) q q q (c - 12) rfl rfl W.heap.size 0 5 (bts (zeros q)) (bts X) (Whole.new W _ _) hXl.out (fun _ => rfl) (hsX.keep ((Chg.refl _ _).alloc _)) HFIT.out (bts_one X) ?_
                 intro w1 HG HC
                 rw [hsp.out] at HG)
    go_ret3
    refine .inl ⟨HOK.out, .slice (some ⟨W.heap.size, 0, none⟩) q q, ?_, ?_, ?_⟩
    · rw [← HE.out]
      have e7 : (16 : Int) + (q : Int) = ((16 + q : Nat) : Int) := by omega
      rw [← e7]; rfl
    · have hr : recL l = X := by rw [recL, ← HE.out, HX.out]
      rw [hr, hXq.out]
      have := own_of_whole (B := w.heap.size) (n := q) (c := q) HG hcW.size (by rw [bts_len, hXq.out]) (Nat.le_refl _) (by unfold maxLen; omega)
      rwa [List.take_of_length_le (by rw [bts_len, hXq.out]; exact Nat.le_refl _)] at this
    · exact (hcW.alloc (.cells (bts (zeros q)).toArray 5)).then_ HC (by have := hcW.size; simp; omega)
end
end Go.Proofs.YtddjgncdjdjgeaaGreat
namespace Go.Proofs.YtddjgncdjdjgeaaGreat
open Go.RowKit

/-- One record more, if there is one. -/
noncomputable def stepS (l : List UInt8) (ep : Nat) (s : List (List UInt8) × Nat) : List (List UInt8) × Nat :=
  open Classical in if readOk (l.drop s.2) ep s.1.length then (s.1 ++ [recL (l.drop s.2)], s.2 + 16 + getI (l.drop s.2) 8) else s
noncomputable def itS (l : List UInt8) (ep : Nat) : Nat → List (List UInt8) × Nat
  | 0 => ([], 0)
  | k + 1 => stepS l ep (itS l ep k)
/-- What Scan answers. -/
noncomputable def scanS (l : List UInt8) (ep : Nat) : List (List UInt8) × Nat := itS l ep (l.length + 1)
theorem stepS_yes {l : List UInt8} {ep : Nat} {s : List (List UInt8) × Nat} (h : readOk (l.drop s.2) ep s.1.length) : stepS l ep s = (s.1 ++ [recL (l.drop s.2)], s.2 + 16 + getI (l.drop s.2) 8) := by
  unfold stepS; rw [if_pos h]
theorem stepS_no {l : List UInt8} {ep : Nat} {s : List (List UInt8) × Nat} (h : ¬ readOk (l.drop s.2) ep s.1.length) : stepS l ep s = s := by
  unfold stepS; rw [if_neg h]
theorem itS_stay {l : List UInt8} {ep k : Nat} (h : ¬ readOk (l.drop (itS l ep k).2) ep (itS l ep k).1.length) (j : Nat) : itS l ep (k + j) = itS l ep k := by
  induction j with
  | zero => rfl
  | succ j ih => show stepS l ep (itS l ep (k + j)) = _; rw [ih, stepS_no h]
theorem scanS_is {l : List UInt8} {ep k : Nat} (h : ¬ readOk (l.drop (itS l ep k).2) ep (itS l ep k).1.length) (hk : k ≤ l.length + 1) : scanS l ep = itS l ep k := by
  unfold scanS
  have e : l.length + 1 = k + (l.length + 1 - k) := by omega
  rw [e, itS_stay h]

def ScanPost (w : World) (l : List UInt8) (ep : Nat) (e : Ending) (w' : World) : Prop :=
  ∃ v vs, e = .returned (.tuple #[v, .int .i64 ((scanS l ep).2 : Nat)]) ∧ w'.ownsRow w.heap.size 30 1 v (scanS l ep).1.length vs ∧ Rows w.heap.size w' vs (scanS l ep).1 ∧ Chg [] w w'

/-- Behind k records. -/
structure At (l : List UInt8) (ep k : Nat) (rs : List (List UInt8)) (a : Nat) : Prop where
  it : itS l ep k = (rs, a)
  len : rs.length = k
  low : 16 * k ≤ a
  top : a ≤ l.length
theorem At.zero (l : List UInt8) (ep : Nat) : At l ep 0 [] 0 := ⟨rfl, rfl, by omega, by omega⟩
theorem At.next {l : List UInt8} {ep k : Nat} {rs : List (List UInt8)} {a : Nat} (h : At l ep k rs a) (hr : readOk (l.drop a) ep k) : At l ep (k + 1) (rs ++ [recL (l.drop a)]) (a + (16 + getI (l.drop a) 8)) := by
  have h1 := hr.1
  have h2 := hr.2.2.2.1
  rw [List.length_drop] at h1 h2
  refine ⟨?_, by simp [h.len], by have := h.low; omega, by have := h.top; omega⟩
  show stepS l ep (itS l ep k) = _
  rw [h.it, stepS_yes (by simpa [h.len] using hr)]
  simp only [Nat.add_assoc]
theorem At.last {l : List UInt8} {ep k : Nat} {rs : List (List UInt8)} {a : Nat} (h : At l ep k rs a) (hr : ¬ readOk (l.drop a) ep k) : scanS l ep = (rs, a) := by
  have h1 := h.low
  have h2 := h.top
  rw [scanS_is (k := k) (by rw [h.it]; simpa [h.len] using hr) (by omega), h.it]
section
variable {w : World} {A : Option Addr} {n c : Nat} {l : List UInt8}
set_option maxHeartbeats 1000000 in
set_option maxRecDepth 100000 in
theorem scan_any (h : Bs w A n c l) (ep : Nat) (hn : n ≤ 2147483648) :
    Calls Tryz.prog 96 #[.slice A n c, .int .u32 (ep : Int)] w (ScanPost w l ep) := by
  obtain ⟨i, hi, hz, hs1, hb⟩ := info_parts info_bytes
  go_enter Tryz.func96, Tryz.ntmps96
  go_wp2_with fail
  go_loopw [6, 7] (fun v a wr => ∃ k : Nat, ∃ m : Nat, ∃ rs vs, At l ep k rs m ∧ a = .int .i64 (m : Int) ∧ wr.ownsRow w.heap.size 30 1 v k vs ∧ Rows w.heap.size wr vs rs ∧ Chg [] w wr) (fun _ a _ => n - (intOf a).toNat)
  case atStart => exact ⟨0, 0, [], [], At.zero l ep, rfl, own_nil _ _ _, Rows.nil _ _, Chg.refl _ _⟩
  case round =>
    obtain ⟨k, m, rs, vs, hat, rfl, hown, hrows, hcr⟩ := hrel
    obtain ⟨Av, cv, rfl, hvl, hvc, _⟩ := own_slice hown
    have hm := hat.top
    have hk := hat.low
    have hl := h.len
    have hcap := h.cap
    rw [hl] at hm
    have hB := (h.keep hcr).cut (lo := m) (hi := n) hm (Nat.le_refl _)
    have hdr : (l.drop m).take (n - m) = l.drop m := List.take_of_length_le (by rw [List.length_drop]; omega)
    rw [hdr] at hB
    have e1 : (k : Int) % 4294967296 = (k : Int) := by omega
    have e2 : ¬ n < m := by omega
    have e3 : ¬ c < n := by omega
    have hnx : readOk (l.drop m) ep k → m + (16 + getI (l.drop m) 8) ≤ n := fun hr => by have := (hat.next hr).top; omega
    clear hdr hl
    rcases Decidable.em (m = c) with hcm | hcm
    · have hok : ¬ readOk (l.drop m) ep k := fun hr => by have := hnx hr; omega
      have hnm : n = m := by omega
      rw [if_pos hcm.symm] at hB
      subst hcm
      subst hnm
      rw [Nat.sub_self] at hB
      clear hnx
      go_wp2_with fail
      refine (read_any' hB ep k (by omega)).mono ?_
      rintro e w2 (⟨hyes, _⟩ | ⟨_, rfl, hc2⟩)
      · exact absurd hyes hok
      go_wp2_with fail
      go_ret2
      rw [ScanPost, hat.last hok]
      exact ⟨_, vs, rfl, by rw [hat.len]; exact own_keep hown hc2, hrows.keep hc2, hcr.new hc2⟩
    · rw [if_neg (Ne.symm hcm)] at hB
      have e4 : ¬ c = m := Ne.symm hcm
      by_cases hok : readOk (l.drop m) ep k
      · have hnk := hnx hok
        go_wp2_with fail
        refine (read_any' hB ep k (by omega)).mono ?_
        rintro e w2 (⟨_, v2, rfl, ho2, hc2⟩ | ⟨hno, _⟩)
        rotate_left
        · exact absurd hok hno
        obtain ⟨A2, c2, rfl, _⟩ := own_slice ho2
        have how := own_keep hown hc2
        have hrw := hrows.keep hc2
        have hx1 := Lib.hid (show k + 1 ≤ maxLen by unfold maxLen; omega)
        have hx2 := Lib.hid (show (k + 1) * 24 ≤ 140737488355328 by omega)
        have hx3 := Lib.hid (show w.heap.size ≤ w2.heap.size from Nat.le_trans hcr.size hc2.size)
        go_wp2_with (at_builtin
                     refine wpList_append_src rfl (.tmp 27) (.tmp 29) 66 rfl w.heap.size 30 i _ 24 Tryz.underlying66 hi hz hs1 hb cells_slice (.slice Av k cv) k vs rfl (own_keep how ((Chg.refl _ _).alloc _)) (some ⟨w2.heap.size, 0, none⟩) 1 1 [.slice A2 (recL (l.drop m)).length c2] rfl rfl (Src.of_all (Whole.new w2 30 [.slice A2 (recL (l.drop m)).length c2])) (fun u hu => by simp at hu; rw [hu]; rfl) hx1.out hx2.out (by simp; have := hx3.out; omega) ?_
                     intro v4 w4 ho4 hg4 _)
        have hch4 : Chg [] w w4 := ((hcr.new hc2).alloc _).own (own_keep how ((Chg.refl _ _).alloc _)) (Nat.le_refl _) hg4
        go_roundw
        case rel =>
          refine ⟨k + 1, m + (16 + getI (l.drop m) 8), _, _, hat.next hok, by go_num, ho4, ?_, hch4⟩
          exact ((hrw.keep ((Chg.refl _ _).alloc _)).snoc (own_more (own_keep ho2 ((Chg.refl _ _).alloc _)) hcr.size)).grown (own_keep how ((Chg.refl _ _).alloc _)) hg4
        case measure => simp [intOf]; omega
      · go_wp2_with fail
        refine (read_any' hB ep k (by omega)).mono ?_
        rintro e w2 (⟨hyes, _⟩ | ⟨_, rfl, hc2⟩)
        · exact absurd hyes hok
        go_wp2_with fail
        go_ret2
        rw [ScanPost, hat.last hok]
        exact ⟨_, vs, rfl, by rw [hat.len]; exact own_keep hown hc2, hrows.keep hc2, hcr.new hc2⟩
end
end Go.Proofs.YtddjgncdjdjgeaaGreat
namespace Go.Proofs.YtddjgncdjdjgeaaGreat
open Go.RowKit
/-- Are these bytes changes? -/
def okR (P : Int) (b : List UInt8) : Prop := 2 ≤ b.length ∧ b.length = 2 + num2 b * 66 ∧ rightB P (chsOf b (num2 b)) = true
instance (P : Int) (b : List UInt8) : Decidable (okR P b) := by unfold okR; exact inferInstance
def recM (b : List UInt8) : List ChV := chsOf b (num2 b)
/-- The records as far as they are changes, and how long they are. -/
def recF (P : Int) : List (List UInt8) → List (List ChV) × Nat
  | [] => ([], 0)
  | b :: rs => if okR P b then (recM b :: (recF P rs).1, 16 + b.length + (recF P rs).2) else ([], 0)
def lenS (rs : List (List UInt8)) : Nat := (rs.map fun b => 16 + b.length).sum
theorem recF_stop (P : Int) : ∀ (rs : List (List UInt8)) (k : Nat), k ≤ rs.length → (∀ (j : Nat) b, j < k → rs[j]? = some b → okR P b) → (∀ b, rs[k]? = some b → ¬ okR P b) → recF P rs = ((rs.take k).map recM, lenS (rs.take k))
  | [], k, _, _, _ => by simp [recF, lenS]
  | b :: rs, 0, _, _, h => by
    have := h b rfl
    simp [recF, this, lenS]
  | b :: rs, k + 1, hk, h1, h2 => by
    have hb := h1 0 b (by omega) rfl
    have ih := recF_stop P rs k (by simpa using hk) (fun j c hj hc => h1 (j + 1) c (by omega) (by simpa using hc)) (fun c hc => h2 c (by simpa using hc))
    rw [recF, if_pos hb, ih]
    simp [lenS]
theorem lenS_next (rs : List (List UInt8)) (k : Nat) (b : List UInt8) (h : rs[k]? = some b) : lenS (rs.take (k + 1)) = lenS (rs.take k) + (16 + b.length) := by
  obtain ⟨hk, he⟩ := List.getElem?_eq_some_iff.1 h
  unfold lenS
  rw [List.take_succ_eq_append_getElem hk, List.map_append, List.sum_append, he]
  simp
theorem recM_next (rs : List (List UInt8)) (k : Nat) (b : List UInt8) (h : rs[k]? = some b) : (rs.take (k + 1)).map recM = (rs.take k).map recM ++ [recM b] := by
  obtain ⟨hk, he⟩ := List.getElem?_eq_some_iff.1 h
  rw [List.take_succ_eq_append_getElem hk, List.map_append, he]
  rfl
theorem recM_len (b : List UInt8) : (recM b).length = num2 b := chsOf_len b _
/-- Lists of changes of the call's own. -/
def Recs (B : Nat) (w : World) (vs : List Value) (ms : List (List ChV)) : Prop :=
  vs.length = ms.length ∧ ∀ (i : Nat) (v : Value) (m : List ChV), vs[i]? = some v → ms[i]? = some m → ∃ ls, w.ownsRow B 51 2 v m.length (chCs ls) ∧ (∀ a ∈ ls, RMade w B a) ∧ ls.length = m.length ∧ asC ls m
theorem Recs.nil (B : Nat) (w : World) : Recs B w [] [] := ⟨rfl, fun i v m hv => by simp at hv⟩
theorem Recs.keep {B : Nat} {w w' : World} {vs : List Value} {ms : List (List ChV)} (h : Recs B w vs ms) (hc : Chg [] w w') : Recs B w' vs ms :=
  ⟨h.1, fun i v m hv hm => by obtain ⟨ls, h1, h2, h3⟩ := h.2 i v m hv hm; exact ⟨ls, rown_chg h1 hc (by simp), fun a ha => (h2 a ha).chg hc (by simp), h3⟩⟩
theorem Recs.snoc {B : Nat} {w : World} {vs : List Value} {ms : List (List ChV)} (h : Recs B w vs ms) {v : Value} {m ls : List ChV} (h1 : w.ownsRow B 51 2 v m.length (chCs ls)) (h2 : ∀ a ∈ ls, RMade w B a) (h3 : ls.length = m.length) (h4 : asC ls m) : Recs B w (vs ++ [v]) (ms ++ [m]) := by
  refine ⟨by simp [h.1], fun i u x hu hx => ?_⟩
  rcases Nat.lt_trichotomy i vs.length with hi | hi | hi
  · rw [List.getElem?_append_left hi] at hu
    rw [List.getElem?_append_left (by rw [← h.1]; exact hi)] at hx
    exact h.2 i u x hu hx
  · subst hi
    rw [List.getElem?_concat_length] at hu
    rw [h.1, List.getElem?_concat_length] at hx
    cases hu
    cases hx
    exact ⟨ls, h1, h2, h3, h4⟩
  · rw [List.getElem?_eq_none (by simp; omega)] at hu
    cases hu
theorem rown_grownC {w w' : World} {B B2 n m k k2 : Nat} {e e2 : TypeId} {v v2 : Value} {xs ys : List Value} (h : w.ownsRow B e k v n xs) (h2 : w.ownsRow B2 e2 k2 v2 m ys) (hne : e ≠ e2) (hg : w.grownBy w' v2.ownBlock) : w'.ownsRow B e k v n xs := by
  refine ⟨h.1, h.2.imp id ?_⟩
  rintro ⟨g, cap, cur, rfl, hb, hh, r⟩
  exact ⟨g, cap, cur, rfl, hb, (by
    have hW : w.heap[g]? = some (.cells cur.toList.toArray e (0, 0)) := by simpa using hh
    have := whole_grown (show Whole w g e cur.toList from hW) h2 hne hg
    simpa [Whole] using this), r⟩
theorem RMade.grown2 {w w' : World} {B0 B2 e2 k2 m : Nat} {v2 : Value} {ys : List Value} {a : ChV} (h : RMade w B0 a) (h2 : w.ownsRow B2 e2 k2 v2 m ys) (hne : 5 ≠ e2) (hg : w.grownBy w' v2.ownBlock) : RMade w' B0 a := by
  obtain ⟨g, r, hg1, hB, hW, hr⟩ := h.b
  exact { h with b := ⟨g, r, hg1, hB, whole_grown hW h2 hne hg, hr⟩ }
theorem Recs.grown {B B2 m : Nat} {w w' : World} {vs : List Value} {ms : List (List ChV)} (h : Recs B w vs ms) {v2 : Value} {ys : List Value} (h2 : w.ownsRow B2 52 1 v2 m ys) (hg : w.grownBy w' v2.ownBlock) : Recs B w' vs ms :=
  ⟨h.1, fun i v m hv hm => by
    obtain ⟨ls, h1, h2', h3⟩ := h.2 i v m hv hm
    exact ⟨ls, rown_grownC h1 h2 (by decide) hg, fun a ha => (h2' a ha).grown2 h2 (by decide) hg, h3⟩⟩
theorem RMade.more {w : World} {B0 B1 : Nat} {a : ChV} (h : RMade w B0 a) (hB : B1 ≤ B0) : RMade w B1 a := by
  obtain ⟨g, r, hg, hb, hW⟩ := h.b
  exact { h with b := ⟨g, r, hg, Nat.le_trans hB hb, hW⟩ }
theorem rown_more' {w : World} {B B' n k : Nat} {e : TypeId} {v : Value} {xs : List Value} (h : w.ownsRow B e k v n xs) (hB : B' ≤ B) : w.ownsRow B' e k v n xs := by
  refine ⟨h.1, h.2.imp id ?_⟩
  rintro ⟨g, cap, cur, rfl, hb, r⟩
  exact ⟨g, cap, cur, rfl, Nat.le_trans hB hb, r⟩
theorem Recs.more {B B' : Nat} {w : World} {vs : List Value} {ms : List (List ChV)} (h : Recs B w vs ms) (hB : B' ≤ B) : Recs B' w vs ms :=
  ⟨h.1, fun i v m hv hm => by obtain ⟨ls, h1, h2, h3⟩ := h.2 i v m hv hm; exact ⟨ls, rown_more' h1 hB, fun a ha => (h2 a ha).more hB, h3⟩⟩
def RecPost (w : World) (x : List (List ChV) × Nat) (e : Ending) (w' : World) : Prop :=
  ∃ v vs, e = .returned (.tuple #[v, .int .i64 (x.2 : Int)]) ∧ w'.ownsRow w.heap.size 52 1 v x.1.length vs ∧ Recs w.heap.size w' vs x.1 ∧ Chg [] w w'
/-- How many frames there are, and how long. -/
theorem itS_small (l : List UInt8) (ep : Nat) : ∀ k, (itS l ep k).1.length ≤ k ∧ ∀ r ∈ (itS l ep k).1, r.length ≤ l.length
  | 0 => ⟨Nat.le_refl _, fun r hr => by simp [itS] at hr⟩
  | k + 1 => by
    obtain ⟨h1, h2⟩ := itS_small l ep k
    show (stepS l ep (itS l ep k)).1.length ≤ k + 1 ∧ ∀ r ∈ (stepS l ep (itS l ep k)).1, r.length ≤ l.length
    by_cases h : readOk (l.drop (itS l ep k).2) ep (itS l ep k).1.length
    · rw [stepS_yes h]
      refine ⟨by simp; omega, fun r hr => ?_⟩
      rcases List.mem_append.1 hr with h3 | h3
      · exact h2 r h3
      · simp only [List.mem_cons, List.not_mem_nil, or_false] at h3
        subst h3
        unfold recL
        rw [List.length_take, List.length_drop, List.length_drop]; omega
    · rw [stepS_no h]
      exact ⟨by omega, h2⟩
theorem scanS_small (l : List UInt8) (ep : Nat) : (scanS l ep).1.length ≤ l.length + 1 ∧ ∀ r ∈ (scanS l ep).1, r.length ≤ l.length := itS_small l ep _
theorem logL_small (s : St) (L P E : Int) : (logL s L P E).length ≤ 4096 := by
  unfold logL
  split
  · rename_i h
    have := rightR_true.1 h
    unfold logB; rw [List.length_take]; omega
  · simp
/-- What Records answers. -/
noncomputable def recsS (s : St) (L P : Int) (ep : Nat) : List (List ChV) × Nat := recF P (scanS (logL s L P ep) ep).1
/-- Frames as a fact. -/
def scanF (B : Nat) (x : List (List UInt8) × Nat) : Fact := fun v W => ∃ v1 vs, v = .tuple #[v1, .int .i64 (x.2 : Int)] ∧ W.ownsRow B 30 1 v1 x.1.length vs ∧ Rows B W vs x.1
theorem keeps_scan (B : Nat) (x : List (List UInt8) × Nat) : Keeps (Chg []) (scanF B x) := fun _ _ _ ⟨v1, vs, h1, h2, h3⟩ hc => ⟨v1, vs, h1, own_keep h2 hc, h3.keep hc⟩
theorem info_chs : (Tryz.prog.info? 52).map (fun i => (i.zero, i.size, i.bytes)) = some (some (.slice none 0 0), 1, 24) := by kernel_rfl
end Go.Proofs.YtddjgncdjdjgeaaGreat
namespace Go.Proofs.YtddjgncdjdjgeaaGreat
open Go.RowKit

section
variable (ep sq : Nat) (r m : List UInt8)
theorem frame_head (he : ep < 4294967296) (hs : sq < 4294967296) (hr : r.length < 4294967296) :
    getI (frameL ep sq r ++ m) ((0 : Nat) : Int) = ep ∧ getI (frameL ep sq r ++ m) ((4 : Nat) : Int) = sq ∧ getI (frameL ep sq r ++ m) ((8 : Nat) : Int) = r.length ∧
    getI (frameL ep sq r ++ m) ((12 + r.length : Nat) : Int) = sumK (headL ep sq r) ∧ (frameL ep sq r ++ m).take (12 + r.length) = headL ep sq r := by
  have hm : r.length % 4294967296 = r.length := Nat.mod_eq_of_lt hr
  refine ⟨?_, ?_, ?_, ?_, ?_⟩
  · have e : frameL ep sq r ++ m = [] ++ (be4 ep ++ (be4 sq ++ be4 (r.length % 4294967296) ++ r ++ be4 (sumK (headL ep sq r)) ++ m)) := by
      simp only [frameL, headL, List.append_assoc, List.nil_append]
    rw [e]; exact getI_put _ _ ep he _ rfl
  · have e : frameL ep sq r ++ m = be4 ep ++ (be4 sq ++ (be4 (r.length % 4294967296) ++ r ++ be4 (sumK (headL ep sq r)) ++ m)) := by
      simp only [frameL, headL, List.append_assoc]
    rw [e]; exact getI_put _ _ sq hs _ rfl
  · have e : frameL ep sq r ++ m = (be4 ep ++ be4 sq) ++ (be4 (r.length % 4294967296) ++ (r ++ be4 (sumK (headL ep sq r)) ++ m)) := by
      simp only [frameL, headL, List.append_assoc]
    rw [e, hm]; exact getI_put _ _ _ hr _ rfl
  · have e : frameL ep sq r ++ m = headL ep sq r ++ (be4 (sumK (headL ep sq r)) ++ m) := by
      simp only [frameL, List.append_assoc]
    rw [e]; exact getI_put _ _ _ (sumK_lt _) _ (by rw [headL_len])
  · have e : frameL ep sq r ++ m = headL ep sq r ++ (be4 (sumK (headL ep sq r)) ++ m) := by
      simp only [frameL, List.append_assoc]
    rw [e]; exact List.take_left' (headL_len _ _ _)
theorem frame_ok (he : ep < 4294967296) (hs : sq < 4294967296) (hr : r.length < 4294967296) : readOk (frameL ep sq r ++ m) ep sq := by
  obtain ⟨h0, h4, h8, h12, ht⟩ := frame_head ep sq r m he hs hr
  have e8 : getI (frameL ep sq r ++ m) 8 = r.length := h8
  refine ⟨by rw [List.length_append, frameL_len]; omega, h0, h4, ?_, ?_⟩
  · rw [e8, List.length_append, frameL_len]; omega
  · rw [e8, h12, ht]
theorem frame_len (he : ep < 4294967296) (hs : sq < 4294967296) (hr : r.length < 4294967296) : getI (frameL ep sq r ++ m) 8 = r.length := (frame_head ep sq r m he hs hr).2.2.1
theorem frame_rec (he : ep < 4294967296) (hs : sq < 4294967296) (hr : r.length < 4294967296) : recL (frameL ep sq r ++ m) = r := by
  unfold recL
  rw [frame_len ep sq r m he hs hr]
  have e : frameL ep sq r ++ m = (be4 ep ++ be4 sq ++ be4 (r.length % 4294967296)) ++ (r ++ (be4 (sumK (headL ep sq r)) ++ m)) := by
    simp only [frameL, headL, List.append_assoc]
  rw [e, List.drop_left' (by simp only [List.length_append, be4_len]), List.take_left' rfl]
end
end Go.Proofs.YtddjgncdjdjgeaaGreat
