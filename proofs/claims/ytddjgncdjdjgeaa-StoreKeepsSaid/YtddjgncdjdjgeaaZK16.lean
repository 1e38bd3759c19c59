/-
  K: Frm, FrmRead.
-/
import Derived.Test.YtddjgncdjdjgeaaZK6
import Derived.Test.YtddjgncdjdjgeaaZK8
namespace Go.Proofs.Ytddjgncdjdjgeaa
open Go.RowKit

def headL (ep sq : Nat) (l : List UInt8) : List UInt8 := be4 ep ++ be4 sq ++ be4 (l.length % 4294967296) ++ l
def frameL (ep sq : Nat) (l : List UInt8) : List UInt8 := headL ep sq l ++ be4 (sumK (headL ep sq l))
theorem headL_len (ep sq : Nat) (l : List UInt8) : (headL ep sq l).length = 12 + l.length := by simp only [headL, List.length_append, be4_len]
theorem frameL_len (ep sq : Nat) (l : List UInt8) : (frameL ep sq l).length = 16 + l.length := by simp only [frameL, List.length_append, be4_len, headL_len]; omega

/-- The first k of some numbers, as bytes. -/
def preL (N : List Nat) (k : Nat) : List UInt8 := (N.take k).flatMap be4
theorem preL_next (N : List Nat) (k : Nat) (h : k < N.length) : preL N (k + 1) = preL N k ++ be4 N[k] := by
  unfold preL
  rw [List.take_succ_eq_append_getElem h, List.flatMap_append]
  simp
def u32s (N : List Nat) : List Value := N.map fun (q : Nat) => Value.int .u32 (q : Int)
section
variable {w : World} {A : Option Addr} {n c : Nat} {l : List UInt8}
set_option maxHeartbeats 1000000 in
set_option maxRecDepth 100000 in
theorem frame_any (h : Bs w A n c l) (ep sq : Nat) (he : ep < 4294967296) (hs : sq < 4294967296) (hn : n + 16 ≤ 140737488355328) :
    Calls Try.prog 40 #[.int .u32 (ep : Int), .int .u32 (sq : Int), .slice A n c] w (BytesPost w (frameL ep sq l)) := by
  obtain ⟨i, hi, hz, hs1, hb⟩ := info_parts info_byte
  have hmk : ∀ W : World, (Instr.makeSlice 44 (.int .i64 0) (.int .i64 (12 + (n : Int)))).run Try.prog W = .ok (.slice (some ⟨W.heap.size, 0, none⟩) 0 (12 + n)) (W.alloc (.cells (bts (zeros (12 + n))).toArray 5)) := by
    intro W
    rw [bts_zeros]
    have := run_make0 (P := Try.prog) 44 5 i _ rfl Try.underlying44 hi hz hs1 (12 + n) (by rw [hb]; omega) (by omega) W
    simpa using this
  go_enter Try.func40, Try.ntmps40
  go_wp2_with fail
  have ho0 : (w.alloc (.cells (bts (zeros (12 + n))).toArray 5)).ownsRow w.heap.size 5 1 (.slice (some ⟨w.heap.size, 0, none⟩) 0 (12 + n)) 0 [] := by
    have := own_of_whole (B := w.heap.size) (n := 0) (c := 12 + n) (Whole.new w 5 (bts (zeros (12 + n)))) (Nat.le_refl _) (by simp [bts_len, zeros_len]) (by omega) (by unfold maxLen; omega)
    simpa using this
  have hm32 : n % 4294967296 < 4294967296 := Nat.mod_lt _ (by omega)
  have hN : ∀ q ∈ [ep, sq, n % 4294967296], q < 4294967296 := by
    intro q hq
    simp only [List.mem_cons, List.not_mem_nil, or_false] at hq
    rcases hq with rfl | rfl | rfl <;> assumption
  have hNl : [ep, sq, n % 4294967296].length = 3 := rfl
  have hfin : preL [ep, sq, n % 4294967296] 3 ++ l = headL ep sq l := by rw [headL, h.len]; simp [preL]
  have HC := Whole.new (w.alloc (.cells (bts (zeros (12 + n))).toArray 5)) 59 (u32s [ep, sq, n % 4294967296])
  have ho1 := own_keep ho0 ((Chg.refl [] _).alloc (.cells (u32s [ep, sq, n % 4294967296]).toArray 59))
  have hc1 : Chg [] w ((w.alloc (.cells (bts (zeros (12 + n))).toArray 5)).alloc (.cells (u32s [ep, sq, n % 4294967296]).toArray 59)) := ((Chg.refl [] w).alloc _).alloc _
  have hzz : (w.alloc (.cells (bts (zeros (12 + n))).toArray 5)).heap.size = w.heap.size + 1 := by simp
  have hu : (u32s [ep, sq, n % 4294967296]).toArray = #[.int .u32 (ep : Int), .int .u32 (sq : Int), .int .u32 ((n : Int) % 4294967296)] := by
    simp [u32s]
  rw [hzz] at HC
  rw [hu] at HC ho1 hc1
  generalize (w.alloc (.cells (bts (zeros (12 + n))).toArray 5)).alloc (.cells #[.int .u32 (ep : Int), .int .u32 (sq : Int), .int .u32 ((n : Int) % 4294967296)] 59) = w1 at HC ho1 hc1 ⊢
  generalize [ep, sq, n % 4294967296] = N at HC hN hNl hfin
  have HN := Lib.hid hN
  have HNL := Lib.hid hNl
  have HFIN := Lib.hid hfin
  have HB1 := h.keep hc1
  clear hzz hu ho0 hN hNl hfin hmk
  go_loopw [7, 9, 21] (fun v _ i wr => ∃ k : Nat, k ≤ 3 ∧ i = .int .i64 (k : Int) ∧ (∃ m, m = 4 * k ∧ wr.ownsRow w.heap.size 5 1 v m (bts (preL N k))) ∧ Chg [] w1 wr) (fun _ _ i _ => 3 - (intOf i).toNat)
  case atStart => exact ⟨0, by omega, rfl, ⟨0, rfl, ho1⟩, Chg.refl _ _⟩
  case round =>
    obtain ⟨k, hk, rfl, ⟨m, hm0, hown⟩, hcr⟩ := hrel
    have hm1 : 4 * k ≤ m := by omega
    have hm2 : m ≤ 4 * k := by omega
    clear hm0
    obtain ⟨Av, cv, rfl, hBv, _⟩ := Bs.of_own hown
    by_cases hlt : k < 3
    · obtain ⟨q, hq⟩ : ∃ q, q = N[k]'(by rw [HNL.out]; exact hlt) := ⟨_, rfl⟩
      have hq2 := HN.out q (by rw [hq]; exact List.getElem_mem _)
      have hnx := Lib.hid (show preL N (k + 1) = preL N k ++ be4 q by rw [hq]; exact preL_next N k _)
      have cq : wr.cell? ⟨w.heap.size + 1, k, none⟩ = some (.int .u32 (q : Int)) := by
        rw [(HC.keep hcr).cell]
        unfold u32s
        rw [List.getElem?_map, List.getElem?_eq_getElem (by rw [HNL.out]; exact hlt), ← hq]
        rfl
      clear hq
      go_wp2_with fail
      refine (put_b hBv q hq2 (by omega)).mono ?_
      rintro e w2 ⟨v2, rfl, ho2, hc2⟩
      go_wp2_with fail
      go_roundw
      case rel =>
        refine ⟨k + 1, by omega, by go_num, ⟨(preL N k ++ be4 q).length, ?_, ?_⟩, hcr.new hc2⟩
        · have := hBv.len; rw [List.length_append, be4_len]; omega
        · rw [hnx.out]; exact own_more ho2 (by have := hc1.size; have := hcr.size; omega)
      case measure => simp [intOf]; omega
    · obtain rfl : k = 3 := by omega
      obtain ⟨w3, rfl⟩ : ∃ w3 : World, w3 = wr := ⟨_, rfl⟩
      have hl3 := HB1.keep hcr
      have hmx : m = 12 := by omega
      have hlb := Lib.hid (show (bts l).length = n by rw [bts_len, h.len])
      have hx1 := Lib.hid (show m + n ≤ maxLen by unfold maxLen; omega)
      have hx2 := Lib.hid (show (m + n) * 1 ≤ 140737488355328 by omega)
      clear hmx
      go_wp2_with (at_builtin
                   refine wpList_append_src rfl (.tmp 29) (.tmp 30) 44 rfl w.heap.size 5 i _ 1 Try.underlying44 hi hz hs1 hb cells_u8 (.slice Av m cv) m (bts (preL N 3)) rfl hown A n c (bts l) rfl hlb.out hl3.src (bts_one l) hx1.out hx2.out (by have := hc1.size; have := hcr.size; omega) ?_
                   intro v4 w4 ho4 hg4 _
                   have hc4 : Chg [] w w4 := (hc1.new hcr).own hown (Nat.le_refl _) hg4
                   clear hg4
                   rw [← bts_app, HFIN.out] at ho4
                   obtain ⟨A4, c4, rfl, hB4, _⟩ := Bs.of_own ho4)
      refine (sumk_b hB4).mono ?_
      rintro e w' ⟨rfl, rfl⟩
      go_wp2_with fail
      refine (put_b hB4 (sumK (headL ep sq l)) (sumK_lt _) (by omega)).mono ?_
      rintro e w5 ⟨v5, rfl, ho5, hc5⟩
      go_wp2_with fail
      go_ret
      exact ⟨v5, rfl, own_more ho5 hc4.size, hc4.new hc5⟩
end
end Go.Proofs.Ytddjgncdjdjgeaa
namespace Go.Proofs.Ytddjgncdjdjgeaa
open Go.RowKit

/-- What Read answers. -/
def readOk (l : List UInt8) (ep sq : Nat) : Prop := 16 ≤ l.length ∧ getI l 0 = ep ∧ getI l 4 = sq ∧ getI l 8 ≤ l.length - 16 ∧ getI l ((12 + getI l 8 : Nat) : Int) = sumK (l.take (12 + getI l 8))
def recL (l : List UInt8) : List UInt8 := (l.drop 12).take (getI l 8)
def ReadPost (w : World) (l : List UInt8) (ep sq : Nat) (e : Ending) (w' : World) : Prop :=
  (readOk l ep sq ∧ ∃ v, e = .returned (.tuple #[v, .int .i64 ((16 + getI l 8 : Nat) : Int), .bool true]) ∧ w'.ownsRow w.heap.size 5 1 v (recL l).length (bts (recL l)) ∧ Chg [] w w') ∨
  (¬ readOk l ep sq ∧ e = .returned (.tuple #[.slice none 0 0, .int .i64 0, .bool false]) ∧ Chg [] w w')
theorem make_u32 (q : Nat) (hq : q ≤ 281474976710656) (W : World) :
    (Instr.makeSlice 44 (.int .u32 (q : Int)) (.int .u32 (q : Int))).run Try.prog W = .ok (.slice (some ⟨W.heap.size, 0, none⟩) q q) (W.alloc (.cells (bts (zeros q)).toArray 5)) := by
  obtain ⟨i, hi, hz, hs1, hb⟩ := info_parts info_byte
  have hb' : (i.bytes : Int) * (q : Int) ≤ 281474976710656 := by rw [hb]; omega
  have h := run_make (P := Try.prog) W 44 5 i _ Try.underlying44 hi hz .u32 .u32 (q : Int) (q : Int) (by omega) (Int.le_refl _) hb' (by omega)
  have h1 : (Value.int .u8 0).cells = #[Value.int .u8 0] := rfl
  rw [h, hs1, h1, made_one, bts_zeros]
  simp
theorem size_byte : (Try.prog.info? 5).map (·.size) = some 1 := by kernel_rfl
theorem bne_f {a b : Int} (h : a = b) : (a != b) = false := by simpa using h
theorem bne_t {a b : Int} (h : a ≠ b) : (a != b) = true := by simpa using h

section
variable {w : World} {A : Option Addr} {n c : Nat} {l : List UInt8}
set_option maxHeartbeats 2000000 in
set_option maxRecDepth 100000 in
theorem read_any' (h : Bs w A n c l) (ep sq : Nat) (hn : n ≤ 140737488355328) :
    Calls Try.prog 105 #[.slice A n c, .int .u32 (ep : Int), .int .u32 (sq : Int)] w (ReadPost w l ep sq) := by
  have hl := h.len
  by_cases h16 : n < 16
  · have hno : ¬ readOk l ep sq := fun hr => by have := hr.1; omega
    have HNO := Lib.hid hno
    clear hno hl
    go_enter Try.func105, Try.ntmps105
    go_wp2_with fail
    go_ret3
    exact .inr ⟨HNO.out, rfl, Chg.refl _ _⟩
  have hd16 : decide ((n : Int) < 16) = false := by simp; omega
  have HL := Lib.hid hl
  clear hl
  by_cases h0 : getI l 0 = ep
  rotate_left
  · have HNO := Lib.hid (show ¬ readOk l ep sq from fun hr => h0 hr.2.1)
    have hb := bne_t (show ((getI l 0 : Nat) : Int) ≠ (ep : Int) by omega)
    clear h0
    go_enter Try.func105, Try.ntmps105
    go_wp2_with fail
    refine (get_b h 0 (by omega)).mono ?_
    rintro e w' ⟨rfl, rfl⟩
    go_wp2_with fail
    go_ret3
    exact .inr ⟨HNO.out, rfl, Chg.refl _ _⟩
  by_cases h4 : getI l 4 = sq
  rotate_left
  · have HNO := Lib.hid (show ¬ readOk l ep sq from fun hr => h4 hr.2.2.1)
    have hb := bne_t (show ((getI l 4 : Nat) : Int) ≠ (sq : Int) by omega)
    have hb0 := bne_f (show ((getI l 0 : Nat) : Int) = (ep : Int) by omega)
    clear h4 h0
    go_enter Try.func105, Try.ntmps105
    go_wp2_with fail
    refine (get_b h 0 (by omega)).mono ?_
    rintro e w' ⟨rfl, rfl⟩
    go_wp2_with fail
    refine (get_b h 4 (by omega)).mono ?_
    rintro e w' ⟨rfl, rfl⟩
    go_wp2_with fail
    go_ret3
    exact .inr ⟨HNO.out, rfl, Chg.refl _ _⟩
  have hb0 := bne_f (show ((getI l 0 : Nat) : Int) = (ep : Int) by omega)
  have hb4 := bne_f (show ((getI l 4 : Nat) : Int) = (sq : Int) by omega)
  have H0 := Lib.hid h0
  have H4 := Lib.hid h4
  clear h0 h4
  have hq := getI_lt l 8
  by_cases h8 : getI l 8 ≤ n - 16
  rotate_left
  · have HNO := Lib.hid (show ¬ readOk l ep sq from fun hr => h8 (by have := hr.2.2.2.1; rw [HL.out] at this; exact this))
    have hgt : (n : Int) - 16 < ((getI l 8 : Nat) : Int) := by omega
    go_enter Try.func105, Try.ntmps105
    go_wp2_with fail
    refine (get_b h 0 (by omega)).mono ?_
    rintro e w' ⟨rfl, rfl⟩
    go_wp2_with fail
    refine (get_b h 4 (by omega)).mono ?_
    rintro e w' ⟨rfl, rfl⟩
    go_wp2_with fail
    refine (get_b h 8 (by omega)).mono ?_
    rintro e w' ⟨rfl, rfl⟩
    go_wp2_with fail
    go_ret3
    exact .inr ⟨HNO.out, rfl, Chg.refl _ _⟩
  have hle : ((getI l 8 : Nat) : Int) ≤ (n : Int) - 16 := by omega
  go_enter Try.func105, Try.ntmps105
  go_wp2_with fail
  refine (get_b h 0 (by omega)).mono ?_
  rintro e w' ⟨rfl, rfl⟩
  go_wp2_with fail
  refine (get_b h 4 (by omega)).mono ?_
  rintro e w' ⟨rfl, rfl⟩
  go_wp2_with fail
  refine (get_b h 8 (by omega)).mono ?_
  rintro e w' ⟨rfl, rfl⟩
  go_wp2_with fail
  obtain ⟨q, hqe⟩ : ∃ q, q = getI l 8 := ⟨_, rfl⟩
  rw [← hqe] at hq h8 hle ⊢
  have ECAST := Lib.hid (show (12 : Int) + (q : Int) = ((12 + q : Nat) : Int) by omega)
  have e1 : ((12 : Int) + (q : Int)).toNat = 12 + q := by omega
  have e2 : (0 : Int) ≤ 12 + (q : Int) := by omega
  have hcap := h.cap
  have e3 : ¬ (c : Int) < 12 + (q : Int) := by omega
  have e4 : ¬ c < 12 + q := by omega
  have hA0 : Option.map (fun x : Addr => x.add 0) A = A := by cases A <;> simp [Addr.add]
  have HE := Lib.hid hqe
  have hT := h.take (m := 12 + q) (by omega)
  clear hqe
  have kp : ∀ W, Chg [] w.drew W → Chg [] w W := fun W hW => (Chg.refl [] w).drew.new hW
  obtain ⟨b, hbt⟩ : ∃ b : Bool, b = (((getI l (12 + (q : Int)) : Nat) : Int) != ((sumK (l.take (12 + q)) : Nat) : Int)) := ⟨_, rfl⟩
  refine wp_flow (by kernel_rfl) plainT plainT_ok (by kernel_rfl) ?_
  refine flow_move_out plainT_ok rfl rfl rfl ?_
  refine flow_move_out plainT_ok rfl rfl rfl ?_
  refine flow_callv (.int .u32 ((getI l (12 + (q : Int)) : Nat) : Int)) (by kernel_rfl) rfl (.cons (.inn rfl) (.cons (.inn rfl) .nil)) (fun W hW => (get_b (h.keep (kp W hW)) (12 + (q : Int)) (by omega)).mono ?_) ?_
  · rintro e w' ⟨rfl, rfl⟩; exact ⟨rfl, Chg.refl _ _⟩
  refine flow_move_out plainT_ok rfl rfl rfl ?_
  refine flow_move_out plainT_ok rfl rfl rfl ?_
  refine flow_slice_hi (r := .slice A (12 + q) c) plainT_ok (.inn rfl) (.inn rfl) (fun ev W he e1 e2 => by go_simp) rfl ?_
  refine flow_callv (.int .u32 ((sumK (l.take (12 + q)) : Nat) : Int)) (by kernel_rfl) rfl (.cons (.inn rfl) .nil) (fun W hW => (sumk_b (hT.keep (kp W hW))).mono ?_) ?_
  · rintro e w' ⟨rfl, rfl⟩; exact ⟨rfl, Chg.refl _ _⟩
  refine flow2 (r := .bool b) plainT_ok rfl (.inn rfl) (.inn rfl) rfl (fun ev W he e1 e2 => by rw [hbt]; go_simp) ?_
  intro vs W hW hF
  have e46 : vs 46 = .bool b := hF 46 _ rfl rfl
  have hcW := kp W hW
  simp only [putAll, Act.put, List.setIfInBounds_toArray, List.set_cons_zero, List.set_cons_succ, e46]
  cases b with
  | true =>
    have hne : getI l (12 + (q : Int)) ≠ sumK (l.take (12 + q)) := fun hc => by rw [hc] at hbt; simp at hbt
    have HNO := Lib.hid (show ¬ readOk l ep sq from fun hr => hne (by have := hr.2.2.2.2; rw [← HE.out, ← ECAST.out] at this; exact this))
    clear hbt hne
    go_wp2_with fail
    go_ret3
    exact .inr ⟨HNO.out, rfl, hcW⟩
  | false =>
    have heq : getI l (12 + (q : Int)) = sumK (l.take (12 + q)) := by
      have h2 := hbt.symm
      simp only [bne_eq_false_iff_eq] at h2
      omega
    have HOK := Lib.hid (show readOk l ep sq from ⟨by rw [HL.out]; omega, H0.out, H4.out, by rw [← HE.out, HL.out]; exact h8, by rw [← HE.out, ← ECAST.out]; exact heq⟩)
    clear hbt heq
    have hmk := make_u32 q (by omega)
    have hC := (h.keep hcW).cut (lo := 12) (hi := 12 + q) (by omega) (by omega)
    have hc12 : ¬ c = 12 := by omega
    rw [if_neg hc12, show 12 + q - 12 = q by omega] at hC
    have e5 : ¬ 12 + q < 12 := by omega
    have e6 : 12 + q - 12 = q := by omega
    obtain ⟨⟨b0, o0, s0⟩, rfl, _, _⟩ := h.src (by rw [bts_len, HL.out]; omega)
    obtain rfl : s0 = none := h.spot (by omega) _ rfl
    simp only [Option.map_some, add_plain] at hC
    obtain ⟨X, hX⟩ : ∃ X, X = (l.drop 12).take q := ⟨_, rfl⟩
    rw [← hX] at hC
    have hXl := Lib.hid (show (bts X).length = Nat.min q q by rw [bts_len, hC.len]; simp)
    have hsp := Lib.hid (show splice (bts (zeros q)) 0 (bts X) = bts X by rw [splice_all]; rw [bts_len, bts_len, zeros_len, hC.len])
    have hfit : 0 + (bts X).length ≤ (bts (zeros q)).length := by rw [bts_len, bts_len, zeros_len, hC.len]; omega
    have HX := Lib.hid hX
    have hXq := Lib.hid hC.len
    clear hX
    have HFIT := Lib.hid hfit
    clear hfit
    have hsX := hC.src
    clear hC
    go_wp2_with (with_reducible refine wpList_copy_chg rfl (.tmp 49) (.tmp 52) _ _ rfl 5 Try.underlying44 size_byte (some ⟨W.heap.size, 0, none⟩) (some ⟨b0, o0 + 12, none⟩) q q q (c - 12) rfl rfl W.heap.size 0 5 (bts (zeros q)) (bts X) (Whole.new W _ _) hXl.out (fun _ => rfl) (hsX.keep ((Chg.refl _ _).alloc _)) HFIT.out (bts_one X) ?_
                 intro w1 HG HC
                 rw [hsp.out] at HG)
    go_ret3
    refine .inl ⟨HOK.out, .slice (some ⟨W.heap.size, 0, none⟩) q q, ?_, ?_, ?_⟩
    · rw [← HE.out]
      have e7 : (16 : Int) + (q : Int) = ((16 + q : Nat) : Int) := by omega
      rw [← e7]; rfl
    · have hr : recL l = X := by rw [recL, ← HE.out, HX.out]
      rw [hr, hXq.out]
      have := own_of_whole (B := w.heap.size) (n := q) (c := q) HG hcW.size (by rw [bts_len, hXq.out]) (Nat.le_refl _) (by unfold maxLen; omega)
      rwa [List.take_of_length_le (by rw [bts_len, hXq.out]; exact Nat.le_refl _)] at this
    · exact (hcW.alloc (.cells (bts (zeros q)).toArray 5)).then_ HC (by have := hcW.size; simp; omega)
end
end Go.Proofs.Ytddjgncdjdjgeaa
