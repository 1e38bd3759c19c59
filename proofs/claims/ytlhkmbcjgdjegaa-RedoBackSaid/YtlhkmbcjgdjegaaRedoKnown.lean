/-
  Layer 16: what is known.
-/
import Derived.Test.YtlhkmbcjgdjegaaRedoRecA
import Derived.Test.YtlhkmbcjgdjegaaNew
import Derived.Test.YtlhkmbcjgdjegaaSame
namespace Go.Proofs.Ytlhkmbcjgdjegaa
open Go.RowKit
def rk0 : St := ⟨zeros 512, zeros 512, falses 8⟩
def acr : List UInt8 := [97, 99, 114, 111, 115, 115]
def rk1 : St := apS rk0 188 acr
theorem rk0_len : rk0.V.length = 8 := by simp [rk0, falses_len]
theorem rk1_len : rk1.V.length = 8 := by rw [rk1, apS_V, rk0_len]
theorem rk1_log : logL rk1 2 3 4 = zeros 60 ++ acr ++ zeros 62 := by unfold logL; rw [rk1_len, if_pos (by decide +kernel)]; decide +kernel
theorem rk1_wl : wl rk1.V rk1.V.length = [2, 3] := by rw [rk1_len]; decide +kernel
theorem rk0_log : logL rk0 2 3 4 = zeros 128 := by unfold logL; rw [rk0_len, if_pos (by decide +kernel)]; decide +kernel
theorem rk0_rec : recsS rk0 2 3 4 = ([], 0) := by
  have hl := rk0_log
  have h : ¬ readOk ((zeros 128).drop (itS (zeros 128) 4 0).2) 4 (itS (zeros 128) 4 0).1.length := fun h => by
    have h2 := h.2.1
    rw [show getI ((zeros 128).drop (itS (zeros 128) 4 0).2) 0 = 0 by decide +kernel] at h2
    omega
  have hs : scanS (zeros 128) 4 = ([], 0) := by rw [scanS_is h (by omega)]; rfl
  unfold recsS
  show recF 3 (scanS (logL rk0 2 3 ((4 : Nat) : Int)) 4).1 = _
  rw [show (((4 : Nat) : Int)) = 4 from rfl, hl, hs]
  rfl
theorem acr_cells : (bts acr).toArray = #[.int .u8 97, .int .u8 99, .int .u8 114, .int .u8 111, .int .u8 115, .int .u8 115] := by kernel_rfl
theorem x_cells : (bts [120]).toArray = #[.int .u8 120] := by kernel_rfl
theorem two_cells : (nmsN [2, 3]).toArray = #[.int .i64 2, .int .i64 3] := by kernel_rfl
theorem rk_can1 : canA rk0 2 3 4 60 6 := by unfold canA; rw [rk0_len]; exact ⟨by decide +kernel, by omega, by omega, by omega⟩
theorem rk_can2 : ¬ canA rk1 2 3 4 128 1 := fun h => by have := h.2.2.2; omega
theorem rk_can3 : canA rk1 2 3 4 128 0 := by unfold canA; rw [rk1_len]; exact ⟨by decide +kernel, by omega, by omega, by omega⟩
theorem rk1_none : apS rk1 256 [] = rk1 := apS_nil _ _ (by decide +kernel)
theorem rk1_zero : logL rk1 0 0 0 = [] := by unfold logL; rw [if_neg (by rw [rk1_len]; decide +kernel)]
section
variable {w : World} {p bL bS bW : Nat}
theorem rec_k (h : DskS w p bL bS bW rk0) : Calls Try.prog 78 #[.pointer (some ⟨p, 0, none⟩), rootV 2 3 4] w fun e w' => ∃ A c, e = .returned (.tuple #[.slice A 0 c, .int .i64 0]) ∧ Chg [] w w' := by
  have := rec_any h 2 3 4
  rw [rk0_rec] at this
  refine Calls.mono this ?_
  rintro e w' ⟨v, vs, rfl, ho, _, hc⟩
  obtain ⟨A, c, rfl, _⟩ := own_slice ho
  exact ⟨A, c, rfl, hc⟩
theorem app_k1 (h : DskS w p bL bS bW rk0) {g : Nat} (hx : Bs w (some ⟨g, 0, none⟩) 6 6 acr) (h1 : g ≠ bS ∧ g ≠ bW) : Calls Try.prog 37 #[.pointer (some ⟨p, 0, none⟩), rootV 2 3 4, .int .i64 60, .slice (some ⟨g, 0, none⟩) 6 6] w fun e w' => e = .returned (.bool true) ∧ DskS w' p bL bS bW rk1 ∧ Chg [bS, bW] w w' := by
  refine (append_any h 2 3 4 60 (by omega) (by omega) hx (fun _ ad e => by injection e with e; subst e; exact h1)).mono ?_
  rintro e w' (⟨_, rfl, hd, hc⟩ | ⟨hn, _⟩)
  · exact ⟨rfl, hd, hc⟩
  · exact absurd rk_can1 hn
theorem app_k2 (h : DskS w p bL bS bW rk1) {g : Nat} (hx : Bs w (some ⟨g, 0, none⟩) 1 1 [120]) (h1 : g ≠ bS ∧ g ≠ bW) : Calls Try.prog 37 #[.pointer (some ⟨p, 0, none⟩), rootV 2 3 4, .int .i64 128, .slice (some ⟨g, 0, none⟩) 1 1] w fun e w' => e = .returned (.bool false) ∧ Chg [] w w' := by
  refine (append_any h 2 3 4 128 (by omega) (by omega) hx (fun _ ad e => by injection e with e; subst e; exact h1)).mono ?_
  rintro e w' (⟨hy, _⟩ | ⟨_, rfl, hc⟩)
  · exact absurd hy rk_can2
  · exact ⟨rfl, hc⟩
theorem app_k3 (h : DskS w p bL bS bW rk1) : Calls Try.prog 37 #[.pointer (some ⟨p, 0, none⟩), rootV 2 3 4, .int .i64 128, .slice none 0 0] w fun e w' => e = .returned (.bool true) ∧ DskS w' p bL bS bW rk1 ∧ Chg [bS, bW] w w' := by
  refine (append_any h 2 3 4 128 (by omega) (by omega) (Bs.nil w) (fun _ ad e => by cases e)).mono ?_
  rintro e w' (⟨_, rfl, hd, hc⟩ | ⟨hn, _⟩)
  · rw [show (128 + Int.toNat 128) = 256 from rfl, rk1_none] at hd
    exact ⟨rfl, hd, hc⟩
  · exact absurd rk_can3 hn
set_option maxHeartbeats 1000000 in
theorem app_nil (L P E at_ : Int) (A : Option Addr) (n c : Nat) : Calls Try.prog 37 #[.pointer none, rootV L P E, .int .i64 at_, .slice A n c] w fun e w' => e = .returned (.bool false) ∧ Chg [] w w' := by
  have hr0 : rootV L P E = .agg #[.int .i64 L, .int .i64 P, .int .u32 E] := rfl
  rw [hr0]
  go_enter Try.func37, Try.ntmps37
  go_wp2_with fail
  have hR := Whole.new w 26 [.int .i64 L, .int .i64 P, .int .u32 E]
  have hc1 : Chg [] w (w.alloc (.cells #[.int .i64 L, .int .i64 P, .int .u32 E] 26)) := (Chg.refl [] w).alloc _
  obtain ⟨g, hg⟩ : ∃ g, g = w.heap.size := ⟨_, rfl⟩
  rw [← hg] at hR ⊢
  generalize w.alloc (.cells #[.int .i64 L, .int .i64 P, .int .u32 E] 26) = w1 at hc1 hR ⊢
  clear hg
  obtain ⟨c0, c1, c2, _, _, _⟩ := root_cells hR
  go_wp2_with fail
  refine (parts_nil L P E).mono ?_
  rintro e w2 ⟨rfl, hc2⟩
  have HC2 := Lib.hid (hc1.new hc2)
  clear hc1 hc2 hR c0 c1 c2
  go_wp2_with fail
  go_ret
  exact ⟨rfl, HC2.out⟩
end
end Go.Proofs.Ytlhkmbcjgdjegaa
