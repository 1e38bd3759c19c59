/-
  The law's 'known': chapter 1's runs.
-/
import Derived.Test.YtigbnmckdjlihaaFlush
import Derived.Test.YtigbnmckdjlihaaWrite
import Derived.Test.YtigbnmckdjlihaaNew
namespace Go.Proofs.Ytigbnmckdjlihaa
open Go.RowKit

def St.write (s : St) (k : Nat) (x : List UInt8) : St := ⟨s.L, splice s.S (k * 64) x, s.V.set k true⟩
def St.new (n : Nat) : St := ⟨zeros (n * 64), zeros (n * 64), falses n⟩
def St.of (l : List UInt8) : St := ⟨l, l, falses (l.length / 64)⟩

section
variable {w : World} {p bL bS bW : Nat} {s : St}
theorem new_int (n : Int) (h1 : 1 ≤ n) (h2 : n ≤ 160) :
    Calls Try.prog 42 #[.int .i64 n] w fun e w' => ∃ p bL bS bW, e = .returned (.pointer (some ⟨p, 0, none⟩)) ∧ DskS w' p bL bS bW (St.new n.toNat) ∧
      w.heap.size ≤ p ∧ w.heap.size ≤ bL ∧ w.heap.size ≤ bS ∧ w.heap.size ≤ bW ∧ Chg [] w w' := by
  obtain ⟨k, rfl⟩ := Int.eq_ofNat_of_zero_le (show 0 ≤ n by omega)
  rw [Int.toNat_natCast]
  exact new_yes k (by omega) (by omega)
theorem write_int (h : DskS w p bL bS bW s) (i : Int) (h0 : 0 ≤ i) (h1 : i < s.V.length) {A : Option Addr} {c : Nat} {x : List UInt8} (hx : x.length = 64) (hs : Src w A (bts x)) :
    Calls Try.prog 65 #[.pointer (some ⟨p, 0, none⟩), .int .i64 i, .slice A 64 c] w fun e w' => e = .returned (.bool true) ∧
      DskS w' p bL bS bW (s.write i.toNat x) ∧ Chg [bS, bW] w w' := by
  obtain ⟨k, rfl⟩ := Int.eq_ofNat_of_zero_le h0
  rw [Int.toNat_natCast]
  exact write_yes h k (by omega) hx hs
theorem read_int (h : DskS w p bL bS bW s) (i : Int) (h0 : 0 ≤ i) (h1 : i < s.V.length) :
    Calls Try.prog 62 #[.pointer (some ⟨p, 0, none⟩), .int .i64 i] w fun e w' => e = .returned (.tuple #[.slice (some ⟨w.heap.size, 0, none⟩) 64 64, .bool true]) ∧
      Whole w' w.heap.size 5 (bts ((s.S.drop (i.toNat * 64)).take 64)) ∧ Chg [] w w' := by
  obtain ⟨k, rfl⟩ := Int.eq_ofNat_of_zero_le h0
  rw [Int.toNat_natCast]
  exact read_yes h k (by omega)
end

/-- The run of chapter 1, in states. -/
def ones (k : Nat) : List UInt8 := List.replicate k 1 ++ List.replicate (64 - k) 0
def kn1 : St := (St.new 2).write 1 (ones 64)
def kn2 : St := kn1.crash [1] [3] 1
theorem kn1_wl : wl kn1.V kn1.V.length = [1] := by decide
theorem kn2_wl : wl kn2.V kn2.V.length = [] := by decide
theorem kn2_V : kn2.V.length = 2 := by decide
theorem kn2_L : kn2.L.length = 128 := by decide +kernel
theorem kn2_at2 : ((kn2.S.drop 64).take 64)[2]? = some 1 := by decide +kernel
theorem kn2_at3 : ((kn2.S.drop 64).take 64)[3]? = some 0 := by decide +kernel
theorem bts_at {l : List UInt8} {i : Nat} {c : UInt8} (h : l[i]? = some c) : (bts l)[i]? = some (B8 c) := by simp [bts, h]
theorem ones_len (k : Nat) (h : k ≤ 64) : (ones k).length = 64 := by simp [ones]; omega
theorem ones_zero : ones 0 = zeros 64 := rfl
theorem ones_next (k : Nat) (h : k < 64) : (ones k).set k 1 = ones (k + 1) := by
  unfold ones
  rw [List.set_append_right _ _ (by simp)]
  simp only [List.length_replicate, Nat.sub_self]
  obtain ⟨m, hm⟩ : ∃ m, 64 - k = m + 1 := ⟨63 - k, by omega⟩
  rw [hm, show 64 - (k + 1) = m by omega]
  rw [List.replicate_succ (n := m), List.set_cons_zero, List.replicate_succ' (n := k), List.append_assoc]
  rfl

theorem crash_kn1 {w : World} {p bL bS bW g c : Nat} (h : DskS w p bL bS bW kn1) (hg : Whole w g 3 [.int .i64 3]) :
    Calls Try.prog 60 #[.pointer (some ⟨p, 0, none⟩), .slice (some ⟨g, 0, none⟩) 1 c] w fun e w' => e = .returned (.int .i64 1) ∧ DskS w' p bL bS bW kn2 ∧ Chg [bL, bS, bW] w w' := by
  have h1 := hg.ne_ h.last (by decide)
  have h2 := hg.ne_ h.seen (by decide)
  have h3 := hg.ne_ h.wait (by decide)
  refine (crash_any h (cuts := [3]) (c := c) rfl (Src.of_all hg) (fun _ ad e => by injection e with e; subst e; rfl) (fun _ ad e => by injection e with e; subst e; simp [h1, h2, h3]) (by simp)).mono ?_
  rintro e w' ⟨rfl, hd, hc⟩
  rw [kn1_wl] at hd
  rw [kn1_wl]
  exact ⟨rfl, hd, hc⟩
theorem crash_kn2 {w : World} {p bL bS bW : Nat} (h : DskS w p bL bS bW kn2) :
    Calls Try.prog 60 #[.pointer (some ⟨p, 0, none⟩), .slice none 0 0] w fun e w' => e = .returned (.int .i64 0) ∧ DskS w' p bL bS bW kn2 ∧ Chg [bL, bS, bW] w w' := by
  refine (crash_any h (cuts := []) (c := 0) rfl (Src.nil _ _) (fun _ ad e => by cases e) (fun _ ad e => by cases e) (by simp)).mono ?_
  rintro e w' ⟨rfl, hd, hc⟩
  rw [kn2_wl] at hd
  rw [kn2_wl]
  exact ⟨rfl, hd, hc⟩

section
variable {w : World}
set_option maxHeartbeats 3000000 in
set_option maxRecDepth 100000 in
theorem known_any : Calls Try.prog 41 #[] w fun e w' => e = .returned (.bool true) ∧ Chg [] w w' := by
  have hmk63 : ∀ W : World, (Instr.makeSlice 40 (.int .i64 63) (.int .i64 63)).run Try.prog W = .ok (.slice (some ⟨W.heap.size, 0, none⟩) 63 63) (W.alloc (.cells (bts (zeros 63)).toArray 5)) := fun W => make_u8 63 (by omega) W
  have hmk64 : ∀ W : World, (Instr.makeSlice 40 (.int .i64 64) (.int .i64 64)).run Try.prog W = .ok (.slice (some ⟨W.heap.size, 0, none⟩) 64 64) (W.alloc (.cells (bts (zeros 64)).toArray 5)) := fun W => make_u8 64 (by omega) W
  go_enter Try.func41, Try.ntmps41
  go_wp2_with fail
  refine (new_int 2 (by omega) (by omega)).mono ?_
  rintro e w1 ⟨p, bL, bS, bW, rfl, hd, _, b1, b2, b3, hc1⟩
  go_wp2_with fail
  refine (new_no 0 (by omega)).mono ?_
  rintro e w1' ⟨rfl, rfl⟩
  go_wp2_with fail
  refine (new_no 161 (by omega)).mono ?_
  rintro e w1' ⟨rfl, rfl⟩
  go_wp2_with fail
  refine (of_no (by omega) (by omega)).mono ?_
  rintro e w2 ⟨rfl, hw2⟩
  have hc2 : Chg [] w1 w2 := by rw [← hw2]; exact (Chg.refl _ _).alloc _
  clear hw2
  have hd2 : DskS w2 p bL bS bW (St.new 2) := hd.keep hc2
  have l2 := hd2.last.lt
  have l3 := hd2.seen.lt
  have l4 := hd2.wait.lt
  go_wp2_with fail
  have hWn := Whole.new w2 5 (bts (zeros 64))
  go_loopw [27] (fun i wr => ∃ k : Nat, k ≤ 64 ∧ i = .int .i64 (k : Int) ∧ Whole wr w2.heap.size 5 (bts (ones k)) ∧ Chg [w2.heap.size] w2 wr) (fun i _ => 64 - (intOf i).toNat)
  case atStart => exact ⟨0, by omega, rfl, hWn, (Chg.refl _ _).alloc _⟩
  case round =>
    obtain ⟨k, hk, rfl, hB, hcB⟩ := hrel
    by_cases hlt : k < 64
    · have c4 := (hB.cell k).trans (bts_get _ k (by rw [ones_len k hk]; exact hlt))
      have c5 := hB.frozen k
      have hn := Lib.hid (ones_next k hlt)
      go_wp2_with fail
      go_roundw
      case rel =>
        refine ⟨k + 1, by omega, by go_num, ?_, hcB.setCell (by simp) _⟩
        have := hB.set_ k (B8 1)
        rw [bts_set, hn.out] at this
        exact this
      case measure => simp [intOf]; omega
    · have hk64 : k = 64 := by omega
      have hB2 : Whole wr w2.heap.size 5 (bts (ones 64)) := hk64 ▸ hB
      clear hk64 hB hWn
      have hd3 : DskS wr p bL bS bW (St.new 2) := Dsk.away hd2 hcB (by simp; have := hd2.rec_.lt; omega) (by simp; omega) (by simp; omega) (by simp; omega)
      have g0 := hcB.size
      have gB := hB2.lt
      go_wp2_with fail
      refine (write_int hd3 1 (by omega) (by decide) (x := ones 64) (by decide) (Src.of_all hB2)).mono ?_
      rintro e w3 ⟨rfl, hd4, hc3⟩
      have hd4 : DskS w3 p bL bS bW kn1 := hd4
      have hB3 : Whole w3 w2.heap.size 5 (bts (ones 64)) := hB2.chg hc3 (by simp; omega)
      go_wp2_with fail
      refine (crash_kn1 (hd4.keep ((Chg.refl _ _).alloc _)) (Whole.new w3 _ [.int .i64 3])).mono ?_
      rintro e w4 ⟨rfl, hd5, hc4⟩
      have hB4 : Whole w4 w2.heap.size 5 (bts (ones 64)) := (hB3.keep ((Chg.refl _ _).alloc _)).chg hc4 (by simp; omega)
      go_wp2_with fail
      refine (read_int hd5 1 (by omega) (by decide)).mono ?_
      rintro e w5 ⟨rfl, hR, hc5⟩
      have hd6 : DskS w5 p bL bS bW kn2 := hd5.keep hc5
      have hB5 := hB4.keep hc5
      have c52 : w5.cell? ⟨w4.heap.size, 2, none⟩ = some (.int .u8 1) := by rw [hR.cell]; exact bts_at kn2_at2
      have c53 : w5.cell? ⟨w4.heap.size, 3, none⟩ = some (.int .u8 0) := by rw [hR.cell]; exact bts_at kn2_at3
      clear hR
      go_wp2_with fail
      refine (crash_kn2 hd6).mono ?_
      rintro e w6 ⟨rfl, hd7, hc6⟩
      have hB6 : Whole w6 w2.heap.size 5 (bts (ones 64)) := hB5.chg hc6 (by simp; omega)
      go_wp2_with fail
      refine (write_no hd7 2 _ _ _ (by right; left; rw [kn2_V]; simp)).mono ?_
      rintro e w6' ⟨rfl, rfl⟩
      go_wp2_with fail
      refine (write_no hd7 0 _ _ _ (by omega)).mono ?_
      rintro e w6' ⟨rfl, rfl⟩
      go_wp2_with fail
      refine (len_any hd7).mono ?_
      rintro e w6' ⟨rfl, rfl⟩
      rw [kn2_V]
      go_wp2_with fail
      refine (image_any hd7).mono ?_
      rintro e w7 ⟨rfl, _, hc7⟩
      rw [kn2_L]
      go_wp2_with fail
      go_ret
      refine ⟨rfl, ?_⟩
      have a1 : Chg [] w w2 := hc1.new hc2
      have s2 := a1.size
      have a2 : Chg [] w wr := a1.then_ hcB (by simp; omega)
      have a3 : Chg [] w w3 := a2.then_ hc3 (by simp; omega)
      have a4 : Chg [] w w4 := (a3.alloc _).then_ hc4 (by simp; omega)
      have a6 : Chg [] w w6 := (a4.new hc5).then_ hc6 (by simp; omega)
      exact a6.new hc7
end

end Go.Proofs.Ytigbnmckdjlihaa
