/-
  K: FrmRef, FrmRefScan.
-/
import Derived.Test.YtddjgncdjdjgeaaZK8
import Derived.Test.YtddjgncdjdjgeaaZK18
namespace Go.Proofs.Ytddjgncdjdjgeaa
open Go.RowKit
section
variable {w : World} {A : Option Addr} {n c : Nat} {l : List UInt8}
set_option maxHeartbeats 2000000 in
set_option maxRecDepth 100000 in
theorem rread_any' (h : Bs w A n c l) (ep sq : Nat) (hn : n ≤ 140737488355328) :
    Calls Try.prog 85 #[.slice A n c, .int .u32 (ep : Int), .int .u32 (sq : Int)] w (ReadPost w l ep sq) := by
  have hl := h.len
  by_cases h16 : n < 16
  · have hno : ¬ readOk l ep sq := fun hr => by have := hr.1; omega
    have HNO := Lib.hid hno
    clear hno hl
    go_enter Try.func85, Try.ntmps85
    go_wp2_with fail
    go_ret3
    exact .inr ⟨HNO.out, rfl, Chg.refl _ _⟩
  have hd16 : decide ((n : Int) < 16) = false := by simp; omega
  have HL := Lib.hid hl
  clear hl
  by_cases h0 : getI l 0 = ep
  rotate_left
  · have HNO := Lib.hid (show ¬ readOk l ep sq from fun hr => h0 hr.2.1)
    have hb := bne_t (show ((getI l 0 : Nat) : Int) ≠ (ep : Int) by omega)
    clear h0
    go_enter Try.func85, Try.ntmps85
    go_wp2_with fail
    refine (rget_b h 0 (by omega)).mono ?_
    rintro e w1 ⟨rfl, hc1⟩
    go_wp2_with fail
    go_ret3
    exact .inr ⟨HNO.out, rfl, hc1⟩
  by_cases h4 : getI l 4 = sq
  rotate_left
  · have HNO := Lib.hid (show ¬ readOk l ep sq from fun hr => h4 hr.2.2.1)
    have hb := bne_t (show ((getI l 4 : Nat) : Int) ≠ (sq : Int) by omega)
    have hb0 := bne_f (show ((getI l 0 : Nat) : Int) = (ep : Int) by omega)
    clear h4 h0
    go_enter Try.func85, Try.ntmps85
    go_wp2_with fail
    refine (rget_b h 0 (by omega)).mono ?_
    rintro e w1 ⟨rfl, hc1⟩
    go_wp2_with fail
    refine (rget_b (h.keep hc1) 4 (by omega)).mono ?_
    rintro e w2 ⟨rfl, hc2⟩
    go_wp2_with fail
    go_ret3
    exact .inr ⟨HNO.out, rfl, hc1.new hc2⟩
  have hb0 := bne_f (show ((getI l 0 : Nat) : Int) = (ep : Int) by omega)
  have hb4 := bne_f (show ((getI l 4 : Nat) : Int) = (sq : Int) by omega)
  have H0 := Lib.hid h0
  have H4 := Lib.hid h4
  clear h0 h4
  have hq := getI_lt l 8
  by_cases h8 : getI l 8 ≤ n - 16
  rotate_left
  · have HNO := Lib.hid (show ¬ readOk l ep sq from fun hr => h8 (by have := hr.2.2.2.1; rw [HL.out] at this; exact this))
    have hgt : (n : Int) - 16 < ((getI l 8 : Nat) : Int) := by omega
    go_enter Try.func85, Try.ntmps85
    go_wp2_with fail
    refine (rget_b h 0 (by omega)).mono ?_
    rintro e w1 ⟨rfl, hc1⟩
    go_wp2_with fail
    refine (rget_b (h.keep hc1) 4 (by omega)).mono ?_
    rintro e w2 ⟨rfl, hc2⟩
    go_wp2_with fail
    refine (rget_b ((h.keep hc1).keep hc2) 8 (by omega)).mono ?_
    rintro e w3 ⟨rfl, hc3⟩
    go_wp2_with fail
    go_ret3
    exact .inr ⟨HNO.out, rfl, (hc1.new hc2).new hc3⟩
  have hle : ((getI l 8 : Nat) : Int) ≤ (n : Int) - 16 := by omega
  go_enter Try.func85, Try.ntmps85
  go_wp2_with fail
  refine (rget_b h 0 (by omega)).mono ?_
  rintro e w1 ⟨rfl, hc1⟩
  go_wp2_with fail
  refine (rget_b (h.keep hc1) 4 (by omega)).mono ?_
  rintro e w2 ⟨rfl, hc2⟩
  go_wp2_with fail
  refine (rget_b ((h.keep hc1).keep hc2) 8 (by omega)).mono ?_
  rintro e w3 ⟨rfl, hc3⟩
  go_wp2_with fail
  refine (rget_b (((h.keep hc1).keep hc2).keep hc3) 8 (by omega)).mono ?_
  rintro e w4 ⟨rfl, hc4⟩
  go_wp2_with fail
  have h5 := (((h.keep hc1).keep hc2).keep hc3).keep hc4
  have hc14 : Chg [] w w4 := ((hc1.new hc2).new hc3).new hc4
  clear hc1 hc2 hc3 hc4
  obtain ⟨i0, hi, hz, hs1, hb⟩ := info_parts info_byte
  obtain ⟨q, hqe⟩ : ∃ q, q = getI l 8 := ⟨_, rfl⟩
  rw [← hqe] at hq h8 hle ⊢
  have ECAST := Lib.hid (show (12 : Int) + (q : Int) = ((12 + q : Nat) : Int) by omega)
  have e1 : ((12 : Int) + (q : Int)).toNat = 12 + q := by omega
  have e2 : (0 : Int) ≤ 12 + (q : Int) := by omega
  have hcap := h.cap
  have e3 : ¬ (c : Int) < 12 + (q : Int) := by omega
  have e4 : ¬ c < 12 + q := by omega
  have hA0 : Option.map (fun x : Addr => x.add 0) A = A := by cases A <;> simp [Addr.add]
  have HE := Lib.hid hqe
  have hT := h5.take (m := 12 + q) (by omega)
  have hwr : IntKind.i64.wrap (12 + (q : Int)) = 12 + (q : Int) := by rw [IntKind.wrap_i64]; omega
  clear hqe
  have kp : ∀ W, Chg [] w4.drew W → Chg [] w4 W := fun W hW => (Chg.refl [] w4).drew.new hW
  obtain ⟨b, hbt⟩ : ∃ b : Bool, b = (((getI l (12 + (q : Int)) : Nat) : Int) != ((sumK (l.take (12 + q)) : Nat) : Int)) := ⟨_, rfl⟩
  refine wp_flow (by kernel_rfl) plainT plainT_ok (by kernel_rfl) ?_
  refine flow_move_out plainT_ok rfl rfl rfl ?_
  refine flow_move_out plainT_ok rfl rfl rfl ?_
  refine flow2 (r := .int .i64 (12 + (q : Int))) plainT_ok rfl (.const _) (.inn rfl) rfl (fun ev W he e1 e2 => by go_simp) ?_
  refine flow_callv (.int .u32 ((getI l (12 + (q : Int)) : Nat) : Int)) (by kernel_rfl) rfl (.cons (.inn rfl) (.cons (.inn rfl) .nil)) (fun W hW => (rget_b (h5.keep (kp W hW)) (12 + (q : Int)) (by omega)).mono ?_) ?_
  · rintro e w' ⟨rfl, hc⟩; exact ⟨rfl, hc⟩
  refine flow_move_out plainT_ok rfl rfl rfl ?_
  refine flow_move_out plainT_ok rfl rfl rfl ?_
  refine flow2 (r := .int .i64 (12 + (q : Int))) plainT_ok rfl (.const _) (.inn rfl) rfl (fun ev W he e1 e2 => by go_simp) ?_
  refine flow_slice_hi (r := .slice A (12 + q) c) plainT_ok (.inn rfl) (.inn rfl) (fun ev W he e1 e2 => by go_simp) rfl ?_
  refine flow_callv (.int .u32 ((sumK (l.take (12 + q)) : Nat) : Int)) (by kernel_rfl) rfl (.cons (.inn rfl) .nil) (fun W hW => (rsumk_b (hT.keep (kp W hW))).mono ?_) ?_
  · rintro e w' ⟨rfl, rfl⟩; exact ⟨rfl, Chg.refl _ _⟩
  refine flow2 (r := .bool b) plainT_ok rfl (.inn rfl) (.inn rfl) rfl (fun ev W he e1 e2 => by rw [hbt]; go_simp) ?_
  intro vs W hW hF
  have e46 : vs 47 = .bool b := hF 47 _ rfl rfl
  have hcW := kp W hW
  simp only [putAll, Act.put, List.setIfInBounds_toArray, List.set_cons_zero, List.set_cons_succ, e46]
  cases b with
  | true =>
    have hne : getI l (12 + (q : Int)) ≠ sumK (l.take (12 + q)) := fun hc => by rw [hc] at hbt; simp at hbt
    have HNO := Lib.hid (show ¬ readOk l ep sq from fun hr => hne (by have := hr.2.2.2.2; rw [← HE.out, ← ECAST.out] at this; exact this))
    clear hbt hne
    go_wp2_with fail
    go_ret3
    exact .inr ⟨HNO.out, rfl, hc14.new hcW⟩
  | false =>
    have heq : getI l (12 + (q : Int)) = sumK (l.take (12 + q)) := by
      have h2 := hbt.symm
      simp only [bne_eq_false_iff_eq] at h2
      omega
    have HOK := Lib.hid (show readOk l ep sq from ⟨by rw [HL.out]; omega, H0.out, H4.out, by rw [← HE.out, HL.out]; exact h8, by rw [← HE.out, ← ECAST.out]; exact heq⟩)
    clear hbt heq
    have hC := (h5.keep hcW).cut (lo := 12) (hi := 12 + q) (by omega) (by omega)
    have hc12 : ¬ c = 12 := by omega
    rw [if_neg hc12, show 12 + q - 12 = q by omega] at hC
    have e5 : ¬ 12 + q < 12 := by omega
    have e6 : 12 + q - 12 = q := by omega
    obtain ⟨⟨b0, o0, s0⟩, rfl, _, _⟩ := h.src (by rw [bts_len, HL.out]; omega)
    obtain rfl : s0 = none := h.spot (by omega) _ rfl
    simp only [Option.map_some, add_plain] at hC
    obtain ⟨X, hX⟩ : ∃ X, X = (l.drop 12).take q := ⟨_, rfl⟩
    rw [← hX] at hC
    have HX := Lib.hid hX
    have hXq := Lib.hid hC.len
    clear hX
    have hlb := Lib.hid (show (bts X).length = q by rw [bts_len, hXq.out])
    have hx1 := Lib.hid (show 0 + q ≤ maxLen by unfold maxLen; omega)
    have hx2 := Lib.hid (show (0 + q) * 1 ≤ 140737488355328 by omega)
    have hsX := hC.src
    clear hC
    have ho0 : (W.alloc (.cells #[] 5)).ownsRow W.heap.size 5 1 (.slice (some ⟨W.heap.size, 0, none⟩) 0 0) 0 [] :=
      own_of_whole (B := W.heap.size) (n := 0) (c := 0) (Whole.new W 5 []) (Nat.le_refl _) rfl (by omega) (by unfold maxLen; omega)
    go_wp2_with (at_builtin
                 refine wpList_append_src rfl (.tmp 48) (.tmp 52) 44 rfl W.heap.size 5 i0 _ 1 Try.underlying44 hi hz hs1 hb cells_u8 (.slice (some ⟨W.heap.size, 0, none⟩) 0 0) 0 [] rfl ho0 (some ⟨b0, o0 + 12, none⟩) q (c - 12) (bts X) rfl hlb.out (hsX.keep ((Chg.refl _ _).alloc _)) (bts_one X) hx1.out hx2.out (by simp) ?_
                 intro v6 w6 ho6 hg6 _
                 have hc6 : Chg [] W w6 := ((Chg.refl [] W).alloc _).own ho0 (Nat.le_refl _) hg6
                 clear hg6
                 simp only [Nat.zero_add, List.nil_append] at ho6
                 obtain ⟨A6, c6, rfl, _⟩ := own_slice ho6)
    go_ret3
    refine .inl ⟨HOK.out, .slice A6 q c6, ?_, ?_, ?_⟩
    · rw [← HE.out]
      have e7 : (16 : Int) + (q : Int) = ((16 + q : Nat) : Int) := by omega
      rw [← e7]; rfl
    · have hr : recL l = X := by rw [recL, ← HE.out, HX.out]
      rw [hr, hXq.out]
      exact own_more ho6 ((hc14.new hcW).size)
    · exact (hc14.new hcW).new hc6
end
end Go.Proofs.Ytddjgncdjdjgeaa
namespace Go.Proofs.Ytddjgncdjdjgeaa
open Go.RowKit
section
variable {w : World} {A : Option Addr} {n c : Nat} {l : List UInt8}
set_option maxHeartbeats 1000000 in
set_option maxRecDepth 100000 in
theorem rscan_any (h : Bs w A n c l) (ep : Nat) (hn : n ≤ 2147483648) :
    Calls Try.prog 51 #[.slice A n c, .int .u32 (ep : Int)] w (ScanPost w l ep) := by
  obtain ⟨i, hi, hz, hs1, hb⟩ := info_parts info_bytes
  go_enter Try.func51, Try.ntmps51
  go_wp2_with fail
  go_loopw [6, 7] (fun v a wr => ∃ k : Nat, ∃ m : Nat, ∃ rs vs, At l ep k rs m ∧ a = .int .i64 (m : Int) ∧ wr.ownsRow w.heap.size 44 1 v k vs ∧ Rows w.heap.size wr vs rs ∧ Chg [] w wr) (fun _ a _ => n - (intOf a).toNat)
  case atStart => exact ⟨0, 0, [], [], At.zero l ep, rfl, own_nil _ _ _, Rows.nil _ _, Chg.refl _ _⟩
  case round =>
    obtain ⟨k, m, rs, vs, hat, rfl, hown, hrows, hcr⟩ := hrel
    obtain ⟨Av, cv, rfl, hvl, hvc, _⟩ := own_slice hown
    have hm := hat.top
    have hk := hat.low
    have hl := h.len
    have hcap := h.cap
    rw [hl] at hm
    have hB := (h.keep hcr).cut (lo := m) (hi := n) hm (Nat.le_refl _)
    have hdr : (l.drop m).take (n - m) = l.drop m := List.take_of_length_le (by rw [List.length_drop]; omega)
    rw [hdr] at hB
    have e1 : (k : Int) % 4294967296 = (k : Int) := by omega
    have e2 : ¬ n < m := by omega
    have e3 : ¬ c < n := by omega
    have hnx : readOk (l.drop m) ep k → m + (16 + getI (l.drop m) 8) ≤ n := fun hr => by have := (hat.next hr).top; omega
    clear hdr hl
    rcases Decidable.em (m = c) with hcm | hcm
    · have hok : ¬ readOk (l.drop m) ep k := fun hr => by have := hnx hr; omega
      have hnm : n = m := by omega
      rw [if_pos hcm.symm] at hB
      subst hcm
      subst hnm
      rw [Nat.sub_self] at hB
      clear hnx
      go_wp2_with fail
      refine (rread_any' hB ep k (by omega)).mono ?_
      rintro e w2 (⟨hyes, _⟩ | ⟨_, rfl, hc2⟩)
      · exact absurd hyes hok
      go_wp2_with fail
      go_ret2
      rw [ScanPost, hat.last hok]
      exact ⟨_, vs, rfl, by rw [hat.len]; exact own_keep hown hc2, hrows.keep hc2, hcr.new hc2⟩
    · rw [if_neg (Ne.symm hcm)] at hB
      have e4 : ¬ c = m := Ne.symm hcm
      by_cases hok : readOk (l.drop m) ep k
      · have hnk := hnx hok
        go_wp2_with fail
        refine (rread_any' hB ep k (by omega)).mono ?_
        rintro e w2 (⟨_, v2, rfl, ho2, hc2⟩ | ⟨hno, _⟩)
        rotate_left
        · exact absurd hok hno
        obtain ⟨A2, c2, rfl, _⟩ := own_slice ho2
        have how := own_keep hown hc2
        have hrw := hrows.keep hc2
        have hx1 := Lib.hid (show k + 1 ≤ maxLen by unfold maxLen; omega)
        have hx2 := Lib.hid (show (k + 1) * 24 ≤ 140737488355328 by omega)
        have hx3 := Lib.hid (show w.heap.size ≤ w2.heap.size from Nat.le_trans hcr.size hc2.size)
        go_wp2_with (at_builtin
                     refine wpList_append_src rfl (.tmp 27) (.tmp 29) 36 rfl w.heap.size 44 i _ 24 Try.underlying36 hi hz hs1 hb cells_slice (.slice Av k cv) k vs rfl (own_keep how ((Chg.refl _ _).alloc _)) (some ⟨w2.heap.size, 0, none⟩) 1 1 [.slice A2 (recL (l.drop m)).length c2] rfl rfl (Src.of_all (Whole.new w2 44 [.slice A2 (recL (l.drop m)).length c2])) (fun u hu => by simp at hu; rw [hu]; rfl) hx1.out hx2.out (by simp; have := hx3.out; omega) ?_
                     intro v4 w4 ho4 hg4 _)
        have hch4 : Chg [] w w4 := ((hcr.new hc2).alloc _).own (own_keep how ((Chg.refl _ _).alloc _)) (Nat.le_refl _) hg4
        go_roundw
        case rel =>
          refine ⟨k + 1, m + (16 + getI (l.drop m) 8), _, _, hat.next hok, by go_num, ho4, ?_, hch4⟩
          exact ((hrw.keep ((Chg.refl _ _).alloc _)).snoc (own_more (own_keep ho2 ((Chg.refl _ _).alloc _)) hcr.size)).grown (own_keep how ((Chg.refl _ _).alloc _)) hg4
        case measure => simp [intOf]; omega
      · go_wp2_with fail
        refine (rread_any' hB ep k (by omega)).mono ?_
        rintro e w2 (⟨hyes, _⟩ | ⟨_, rfl, hc2⟩)
        · exact absurd hyes hok
        go_wp2_with fail
        go_ret2
        rw [ScanPost, hat.last hok]
        exact ⟨_, vs, rfl, by rw [hat.len]; exact own_keep hown hc2, hrows.keep hc2, hcr.new hc2⟩
end
end Go.Proofs.Ytddjgncdjdjgeaa
