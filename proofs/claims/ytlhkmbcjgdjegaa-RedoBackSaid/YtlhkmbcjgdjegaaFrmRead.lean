/-
  package frame's Read: a contract.
-/
import Derived.Test.YtlhkmbcjgdjegaaFrm
namespace Go.Proofs.Ytlhkmbcjgdjegaa
open Go.RowKit

/-- What Read answers. -/
def readOk (l : List UInt8) (ep sq : Nat) : Prop := 16 ≤ l.length ∧ getI l 0 = ep ∧ getI l 4 = sq ∧ getI l 8 ≤ l.length - 16 ∧ getI l ((12 + getI l 8 : Nat) : Int) = sumK (l.take (12 + getI l 8))
def recL (l : List UInt8) : List UInt8 := (l.drop 12).take (getI l 8)
theorem recL_len {l : List UInt8} {ep sq : Nat} (h : readOk l ep sq) : (recL l).length = getI l 8 := by
  have h1 := h.1
  have h2 := h.2.2.2.1
  unfold recL
  rw [List.length_take, List.length_drop]
  omega
def ReadPost (w : World) (l : List UInt8) (ep sq : Nat) (e : Ending) (w' : World) : Prop :=
  (readOk l ep sq ∧ ∃ v, e = .returned (.tuple #[v, .int .i64 ((16 + getI l 8 : Nat) : Int), .bool true]) ∧ w'.ownsRow w.heap.size 5 1 v (recL l).length (bts (recL l)) ∧ Chg [] w w') ∨
  (¬ readOk l ep sq ∧ e = .returned (.tuple #[.slice none 0 0, .int .i64 0, .bool false]) ∧ Chg [] w w')
theorem make_u32 (q : Nat) (hq : q ≤ 281474976710656) (W : World) :
    (Instr.makeSlice 22 (.int .u32 (q : Int)) (.int .u32 (q : Int))).run Try.prog W = .ok (.slice (some ⟨W.heap.size, 0, none⟩) q q) (W.alloc (.cells (bts (zeros q)).toArray 5)) := by
  obtain ⟨i, hi, hz, hs1, hb⟩ := info_parts info_byte
  have hb' : (i.bytes : Int) * (q : Int) ≤ 281474976710656 := by rw [hb]; omega
  have h := run_make (P := Try.prog) W 22 5 i _ Try.underlying22 hi hz .u32 .u32 (q : Int) (q : Int) (by omega) (Int.le_refl _) hb' (by omega)
  have h1 : (Value.int .u8 0).cells = #[Value.int .u8 0] := rfl
  rw [h, hs1, h1, made_one, bts_zeros]
  simp
theorem size_byte : (Try.prog.info? 5).map (·.size) = some 1 := by kernel_rfl
theorem bne_f {a b : Int} (h : a = b) : (a != b) = false := by simpa using h
theorem bne_t {a b : Int} (h : a ≠ b) : (a != b) = true := by simpa using h

section
variable {w : World} {A : Option Addr} {n c : Nat} {l : List UInt8}
set_option maxHeartbeats 2000000 in
theorem read_any' (h : Bs w A n c l) (ep sq : Nat) (hn : n ≤ 140737488355328) :
    Calls Try.prog 120 #[.slice A n c, .int .u32 (ep : Int), .int .u32 (sq : Int)] w (ReadPost w l ep sq) := by
  have hl := h.len
  by_cases h16 : n < 16
  · have hno : ¬ readOk l ep sq := fun hr => by have := hr.1; omega
    have HNO := Lib.hid hno
    clear hno hl
    go_enter Try.func120, Try.ntmps120
    go_wp2_with fail
    go_ret3
    exact .inr ⟨HNO.out, rfl, Chg.refl _ _⟩
  have hd16 : decide ((n : Int) < 16) = false := by simp; omega
  have HL := Lib.hid hl
  clear hl
  by_cases h0 : getI l 0 = ep
  rotate_left
  · have HNO := Lib.hid (show ¬ readOk l ep sq from fun hr => h0 hr.2.1)
    have hb := bne_t (show ((getI l 0 : Nat) : Int) ≠ (ep : Int) by omega)
    clear h0
    go_enter Try.func120, Try.ntmps120
    go_wp2_with fail
    refine (get_b h 0 (by omega)).mono ?_
    rintro e w' ⟨rfl, rfl⟩
    go_wp2_with fail
    go_ret3
    exact .inr ⟨HNO.out, rfl, Chg.refl _ _⟩
  by_cases h4 : getI l 4 = sq
  rotate_left
  · have HNO := Lib.hid (show ¬ readOk l ep sq from fun hr => h4 hr.2.2.1)
    have hb := bne_t (show ((getI l 4 : Nat) : Int) ≠ (sq : Int) by omega)
    have hb0 := bne_f (show ((getI l 0 : Nat) : Int) = (ep : Int) by omega)
    clear h4 h0
    go_enter Try.func120, Try.ntmps120
    go_wp2_with fail
    refine (get_b h 0 (by omega)).mono ?_
    rintro e w' ⟨rfl, rfl⟩
    go_wp2_with fail
    refine (get_b h 4 (by omega)).mono ?_
    rintro e w' ⟨rfl, rfl⟩
    go_wp2_with fail
    go_ret3
    exact .inr ⟨HNO.out, rfl, Chg.refl _ _⟩
  have hb0 := bne_f (show ((getI l 0 : Nat) : Int) = (ep : Int) by omega)
  have hb4 := bne_f (show ((getI l 4 : Nat) : Int) = (sq : Int) by omega)
  have H0 := Lib.hid h0
  have H4 := Lib.hid h4
  clear h0 h4
  have hq := getI_lt l 8
  by_cases h8 : getI l 8 ≤ n - 16
  rotate_left
  · have HNO := Lib.hid (show ¬ readOk l ep sq from fun hr => h8 (by have := hr.2.2.2.1; rw [HL.out] at this; exact this))
    have hgt : (n : Int) - 16 < ((getI l 8 : Nat) : Int) := by omega
    go_enter Try.func120, Try.ntmps120
    go_wp2_with fail
    refine (get_b h 0 (by omega)).mono ?_
    rintro e w' ⟨rfl, rfl⟩
    go_wp2_with fail
    refine (get_b h 4 (by omega)).mono ?_
    rintro e w' ⟨rfl, rfl⟩
    go_wp2_with fail
    refine (get_b h 8 (by omega)).mono ?_
    rintro e w' ⟨rfl, rfl⟩
    go_wp2_with fail
    go_ret3
    exact .inr ⟨HNO.out, rfl, Chg.refl _ _⟩
  have hle : ((getI l 8 : Nat) : Int) ≤ (n : Int) - 16 := by omega
  go_enter Try.func120, Try.ntmps120
  go_wp2_with fail
  refine (get_b h 0 (by omega)).mono ?_
  rintro e w' ⟨rfl, rfl⟩
  go_wp2_with fail
  refine (get_b h 4 (by omega)).mono ?_
  rintro e w' ⟨rfl, rfl⟩
  go_wp2_with fail
  refine (get_b h 8 (by omega)).mono ?_
  rintro e w' ⟨rfl, rfl⟩
  go_wp2_with fail
  obtain ⟨q, hqe⟩ : ∃ q, q = getI l 8 := ⟨_, rfl⟩
  rw [← hqe] at hq h8 hle ⊢
  have ECAST := Lib.hid (show (12 : Int) + (q : Int) = ((12 + q : Nat) : Int) by omega)
  have e1 : ((12 : Int) + (q : Int)).toNat = 12 + q := by omega
  have e2 : (0 : Int) ≤ 12 + (q : Int) := by omega
  have hcap := h.cap
  have e3 : ¬ (c : Int) < 12 + (q : Int) := by omega
  have e4 : ¬ c < 12 + q := by omega
  have hA0 : Option.map (fun x : Addr => x.add 0) A = A := by cases A <;> simp [Addr.add]
  have HE := Lib.hid hqe
  have hT := h.take (m := 12 + q) (by omega)
  clear hqe
  have kp : ∀ W, Chg [] w.drew W → Chg [] w W := fun W hW => (Chg.refl [] w).drew.new hW
  obtain ⟨b, hbt⟩ : ∃ b : Bool, b = (((getI l (12 + (q : Int)) : Nat) : Int) != ((sumK (l.take (12 + q)) : Nat) : Int)) := ⟨_, rfl⟩
  refine wp_flow (by kernel_rfl) plainT plainT_ok (by kernel_rfl) ?_
  refine flow_move_out plainT_ok rfl rfl rfl ?_
  refine flow_move_out plainT_ok rfl rfl rfl ?_
  refine flow_callv (.int .u32 ((getI l (12 + (q : Int)) : Nat) : Int)) (by kernel_rfl) rfl (.cons (.inn rfl) (.cons (.inn rfl) .nil)) (fun W hW => (get_b (h.keep (kp W hW)) (12 + (q : Int)) (by omega)).mono ?_) ?_
  · rintro e w' ⟨rfl, rfl⟩; exact ⟨rfl, Chg.refl _ _⟩
  refine flow_move_out plainT_ok rfl rfl rfl ?_
  refine flow_move_out plainT_ok rfl rfl rfl ?_
  refine flow_slice_hi (r := .slice A (12 + q) c) plainT_ok (.inn rfl) (.inn rfl) (fun ev W he e1 e2 => by go_simp) rfl ?_
  refine flow_callv (.int .u32 ((sumK (l.take (12 + q)) : Nat) : Int)) (by kernel_rfl) rfl (.cons (.inn rfl) .nil) (fun W hW => (sumk_b (hT.keep (kp W hW))).mono ?_) ?_
  · rintro e w' ⟨rfl, rfl⟩; exact ⟨rfl, Chg.refl _ _⟩
  refine flow2 (r := .bool b) plainT_ok rfl (.inn rfl) (.inn rfl) rfl (fun ev W he e1 e2 => by rw [hbt]; go_simp) ?_
  intro vs W hW hF
  have e46 : vs 46 = .bool b := hF 46 _ rfl rfl
  have hcW := kp W hW
  simp only [putAll, Act.put, List.setIfInBounds_toArray, List.set_cons_zero, List.set_cons_succ, e46]
  cases b with
  | true =>
    have hne : getI l (12 + (q : Int)) ≠ sumK (l.take (12 + q)) := fun hc => by rw [hc] at hbt; simp at hbt
    have HNO := Lib.hid (show ¬ readOk l ep sq from fun hr => hne (by have := hr.2.2.2.2; rw [← HE.out, ← ECAST.out] at this; exact this))
    clear hbt hne
    go_wp2_with fail
    go_ret3
    exact .inr ⟨HNO.out, rfl, hcW⟩
  | false =>
    have heq : getI l (12 + (q : Int)) = sumK (l.take (12 + q)) := by
      have h2 := hbt.symm
      simp only [bne_eq_false_iff_eq] at h2
      omega
    have HOK := Lib.hid (show readOk l ep sq from ⟨by rw [HL.out]; omega, H0.out, H4.out, by rw [← HE.out, HL.out]; exact h8, by rw [← HE.out, ← ECAST.out]; exact heq⟩)
    clear hbt heq
    have hmk := make_u32 q (by omega)
    have hC := (h.keep hcW).cut (lo := 12) (hi := 12 + q) (by omega) (by omega)
    have hc12 : ¬ c = 12 := by omega
    rw [if_neg hc12, show 12 + q - 12 = q by omega] at hC
    have e5 : ¬ 12 + q < 12 := by omega
    have e6 : 12 + q - 12 = q := by omega
    obtain ⟨⟨b0, o0, s0⟩, rfl, _, _⟩ := h.src (by rw [bts_len, HL.out]; omega)
    obtain rfl : s0 = none := h.spot (by omega) _ rfl
    simp only [Option.map_some, add_plain] at hC
    obtain ⟨X, hX⟩ : ∃ X, X = (l.drop 12).take q := ⟨_, rfl⟩
    rw [← hX] at hC
    have hXl := Lib.hid (show (bts X).length = Nat.min q q by rw [bts_len, hC.len]; simp)
    have hsp := Lib.hid (show splice (bts (zeros q)) 0 (bts X) = bts X by rw [splice_all]; rw [bts_len, bts_len, zeros_len, hC.len])
    have hfit : 0 + (bts X).length ≤ (bts (zeros q)).length := by rw [bts_len, bts_len, zeros_len, hC.len]; omega
    have HX := Lib.hid hX
    have hXq := Lib.hid hC.len
    clear hX
    have HFIT := Lib.hid hfit
    clear hfit
    have hsX := hC.src
    clear hC
    go_wp2_with (with_reducible refine wpList_copy_chg rfl (.tmp 49) (.tmp 52) _ _ rfl 5 Try.underlying22 size_byte (some ⟨W.heap.size, 0, none⟩) (some ⟨b0, o0 + 12, none⟩) q q q (c - 12) rfl rfl W.heap.size 0 5 (bts (zeros q)) (bts X) (Whole.new W _ _) hXl.out (fun _ => rfl) (hsX.keep ((Chg.refl _ _).alloc _)) HFIT.out (bts_one X) ?_
                 intro w1 HG HC
                 rw [hsp.out] at HG)
    go_ret3
    refine .inl ⟨HOK.out, .slice (some ⟨W.heap.size, 0, none⟩) q q, ?_, ?_, ?_⟩
    · rw [← HE.out]
      have e7 : (16 : Int) + (q : Int) = ((16 + q : Nat) : Int) := by omega
      rw [← e7]; rfl
    · have hr : recL l = X := by rw [recL, ← HE.out, HX.out]
      rw [hr, hXq.out]
      have := own_of_whole (B := w.heap.size) (n := q) (c := q) HG hcW.size (by rw [bts_len, hXq.out]) (Nat.le_refl _) (by unfold maxLen; omega)
      rwa [List.take_of_length_le (by rw [bts_len, hXq.out]; exact Nat.le_refl _)] at this
    · exact (hcW.alloc (.cells (bts (zeros q)).toArray 5)).then_ HC (by have := hcW.size; simp; omega)
end
end Go.Proofs.Ytlhkmbcjgdjegaa
