/-
  cells: Store.
-/
import Derived.Test.YtlhkmbcjgdjegaaMm
import Derived.StillTailTactics
import Derived.Deep.AppendLies
namespace Go.Proofs.Ytlhkmbcjgdjegaa
open Go.RowKit
section
variable {w w' : World} {p gC gD : Nat} {L : List UInt8} {X : List Value} {V : List Bool} {Y : List Value} {most : Nat}
theorem store_step (h : Mm w p gC gD L X V Y most) (k i : Nat) (n : Int) (b : UInt8) (hb : b = byteN n i) (hk : k + i < L.length) :
    Mm ((w.setCell ⟨gC, k + i, none⟩ (B8 b)).setCell ⟨gD, (k + i) / 64, none⟩ (.bool true)) p gC gD (L.set (k + i) (byteN n i)) X (V.set ((k + i) / 64) true) Y most ∧
      Chg [gC, gD] w ((w.setCell ⟨gC, k + i, none⟩ (B8 b)).setCell ⟨gD, (k + i) / 64, none⟩ (.bool true)) := by
  subst hb
  have d0 := h.rec_.ne_ h.cel (by decide)
  have d1 := h.rec_.ne_ h.dir (by decide)
  have d2 := h.cel.ne_ h.dir (by decide)
  have hl := h.len
  have hc := h.cel.set_ (k + i) (B8 (byteN n i))
  rw [List.set_append_left _ _ (by rw [bts_len]; exact hk), bts_set] at hc
  have hd := (h.dir.far (p := ⟨gC, k + i, none⟩) (Ne.symm d2) (B8 (byteN n i))).set_ ((k + i) / 64) (.bool true)
  rw [List.set_append_left _ _ (by rw [bls_len]; omega), bls_set] at hd
  refine ⟨⟨?_, hc.far d2 _, hd, by rw [List.length_set, List.length_set]; exact h.len, by rw [List.length_set]; exact h.le, h.top, by rw [List.length_set]; exact h.capX, by rw [List.length_set]; exact h.capY⟩, ?_⟩
  · rw [List.length_set, List.length_set]
    exact (h.rec_.far d0 _).far d1 _
  · exact ((Chg.refl [gC, gD] w).setCell (by simp) _).setCell (by simp) _
theorem stL_next (L : List UInt8) (k : Nat) (n : Int) (m : Nat) : stL L k n (m + 1) = (stL L k n m).set (k + m) (byteN n m) := rfl
theorem stV_next (V : List Bool) (k m : Nat) : stV V k (m + 1) = (stV V k m).set ((k + m) / 64) true := rfl
set_option maxHeartbeats 400000 in
theorem store_no (h : Mm w p gC gD L X V Y most) (k n : Int) (wide : Bool) (s : Nat) (hw : s = if wide then 8 else 1) (hk : k < 0 ∨ (L.length : Int) - s < k) :
    Calls Try.prog 25 #[.pointer (some ⟨p, 0, none⟩), .int .i64 k, .int .i64 n, .bool wide] w fun e w' => e = .returned (.bool false) ∧ w = w' := by
  have s1 : s ≤ 8 := by subst hw; split <;> omega
  have HW := Lib.hid (show (if wide then (8 : Int) else 1) = (s : Int) by subst hw; cases wide <;> rfl)
  have HK := Lib.hid hk
  clear hw hk
  go_enter Try.func25, Try.ntmps25
  go_wp2_with (first
    | (go_at_call 62; refine (width_any wide).mono ?_; rintro e w' ⟨rfl, rfl⟩; rw [HW.out])
    | (go_at_call 63; refine (within_no h k s s1 HK.out).mono ?_; rintro e w' ⟨rfl, rfl⟩))
  go_ret
  exact ⟨rfl, rfl⟩
/-- Store's post. -/
def StorePost (w : World) (p gC gD : Nat) (L : List UInt8) (X : List Value) (V : List Bool) (Y : List Value) (most k : Nat) (n : Int) (s : Nat) (e : Ending) (w' : World) : Prop :=
  e = .returned (.bool true) ∧ Mm w' p gC gD (stL L k n s) X (stV V k s) Y most ∧ Chg [gC, gD] w w'
set_option maxHeartbeats 2000000 in
set_option maxRecDepth 100000 in
theorem store_yes (h : Mm w p gC gD L X V Y most) (k : Nat) (n : Int) (wide : Bool) (s : Nat) (hw : s = if wide then 8 else 1) (hk : k + s ≤ L.length) :
    Calls Try.prog 25 #[.pointer (some ⟨p, 0, none⟩), .int .i64 (k : Int), .int .i64 n, .bool wide] w (StorePost w p gC gD L X V Y most k n s) := by
  have b1 := h.small
  have hlen := h.len
  have s1 : s ≤ 8 := by subst hw; split <;> omega
  have HW := Lib.hid (show (if wide then (8 : Int) else 1) = (s : Int) by subst hw; cases wide <;> rfl)
  have HL := Lib.hid hlen
  clear hw hlen
  go_enter Try.func25, Try.ntmps25
  go_wp2_with (first
    | (go_at_call 62; refine (width_any wide).mono ?_; rintro e w' ⟨rfl, rfl⟩; rw [HW.out])
    | (go_at_call 63; refine (within_yes h k s s1 hk).mono ?_; rintro e w' ⟨rfl, rfl⟩))
  go_loopw [19] (fun i wr => ∃ m : Nat, m ≤ s ∧ i = .int .i64 (m : Int) ∧ Mm wr p gC gD (stL L k n m) X (stV V k m) Y most ∧ Chg [gC, gD] w wr) (fun i _ => s - (intOf i).toNat)
  case atStart => exact ⟨0, by omega, rfl, h, Chg.refl _ _⟩
  case round =>
    obtain ⟨m, hm, rfl, hM, hC⟩ := hrel
    by_cases hlt : m < s
    · have hki : k + m < (stL L k n m).length := by rw [stL_len]; omega
      have hst := store_step hM k m n (byteN n m) rfl hki
      have hl1 : (stL L k n m).length = L.length := stL_len _ _ _ _
      have hl2 : (stV V k m).length = V.length := stV_len _ _ _
      have c0 := hM.rec_.cell 0
      have c2 := hM.rec_.cell 2
      have cb := hM.byte (k + m) hki
      have hx64 : (k + m) / 64 < (stV V k m).length := by rw [hl2]; have := HL.out; omega
      have cd := hM.bit ((k + m) / 64) hx64
      have fc := hM.cel.frozen (k + m)
      have fd := hM.dir.frozen ((k + m) / 64)
      have dcd := hM.cel.ne_ hM.dir (by decide)
      have dpc := hM.rec_.ne_ hM.cel (by decide)
      have hby := Lib.hid (byteN_int n m)
      rw [hl1] at c0 c2
      rw [hl2] at c0 c2
      have HC := Lib.hid hC
      have HST := Lib.hid hst
      have HM := Lib.hid hM
      have e1 : IntKind.i64.wrap ((k : Int) + (m : Int)) = (k : Int) + (m : Int) := IntWalk.i64_in _ (by omega)
      have e2 : ((k : Int) + (m : Int)).toNat = k + m := by omega
      have e3 : (0 : Int) ≤ (k : Int) + (m : Int) := by omega
      have e4 : IntKind.i64.wrap (8 * (m : Int)) = 8 * (m : Int) := IntWalk.i64_in _ (by omega)
      have e5 : (8 * (m : Int)).toNat = 8 * m := by omega
      have e6 : (0 : Int) ≤ 8 * (m : Int) := by omega
      have e7 : min (8 * m) 64 = 8 * m := by omega
      have e8 : k + m < L.length := by omega
      have e9 : (k + m) / 64 < V.length := by have := HL.out; omega
      clear hl1 hl2 hC hst hM
      go_wp2_with fail
      go_still_tail 12, (by kernel_rfl)
      change wpList _ _ _ _ _ wr.drew
      go_wp2_with fail
      · go_roundw
        case rel =>
          have hq := HST.out
          unfold B8 at hq
          rw [hby.out] at hq
          exact ⟨m + 1, by omega, by go_num, hq.1.keep (Chg.refl [] _).drew, (HC.out.trans hq.2).drew⟩
        case measure => simp [intOf] <;> omega
    · obtain rfl : m = s := by omega
      go_wp2_with fail
      go_ret
      exact ⟨rfl, hM, hC⟩
end
end Go.Proofs.Ytlhkmbcjgdjegaa
