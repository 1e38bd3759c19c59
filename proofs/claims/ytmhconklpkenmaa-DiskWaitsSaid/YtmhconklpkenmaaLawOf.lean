/-
  The walk of DiskOf.
-/
import Derived.Test.YtmhconklpkenmaaWithin
import Derived.OpenShut
namespace Go.Proofs.Ytmhconklpkenmaa
open Go.RowKit

theorem wl_falses (n k : Nat) : wl (falses n) k = [] := by
  unfold wl falses
  rw [List.filter_eq_nil_iff]
  intro a _
  simp [List.getD, List.getElem?_replicate]
  split <;> simp

theorem src_take {w : World} {A : Option Addr} {l : List UInt8} (m : Nat) (hs : Src w A (bts l)) : Src w A (bts (l.take m)) := fun hp => by
  obtain ⟨ad, e, hb, hx⟩ := hs (by simp [bts] at hp ⊢; omega)
  refine ⟨ad, e, hb, fun j v hj => hx j v ?_⟩
  unfold bts at hj ⊢
  rw [List.map_take, List.getElem?_take] at hj
  split at hj
  · exact hj
  · cases hj
/-- 'string(b)' of a whole block. -/
theorem str_whole {w : World} {g n : Nat} {X : List UInt8} (h : Whole w g 5 (bts X)) (hn : X.length = n) (c : Nat) :
    (convert 28 9 (.slice (some ⟨g, 0, none⟩) n c)).run Try.prog w = .ok (.string (strOf X)) w := by
  subst hn
  exact run_str 28 5 9 Try.underlying28 Try.underlying5 Try.underlying9 _ X c w (Src.of_all h) (fun ad e => by injection e with e; subst e; rfl)

theorem xor_byte (c : UInt8) : ∃ d : UInt8, bits .xor .u8 (c.toNat : Int) 255 = (d.toNat : Int) := by
  have h := Go.wf_bits .xor .u8 (c.toNat : Int) 255
  generalize bits .xor .u8 (c.toNat : Int) 255 = v at h
  have hv : 0 ≤ v ∧ v ≤ 255 := by simpa [Lit.wf, IntKind.min, IntKind.max, IntKind.signed, IntKind.bits] using h
  refine ⟨UInt8.ofNat v.toNat, ?_⟩
  rw [UInt8.toNat_ofNat']
  omega

section
variable {w : World} {p bL bS bW : Nat} {L S : List UInt8}
/-- Nothing waits. -/
theorem waits_none {n : Nat} (h : Dsk w p bL bS bW L S (falses n)) :
    Calls Try.prog 10 #[.pointer (some ⟨p, 0, none⟩)] w fun e w' => ∃ A c, e = .returned (.slice A 0 c) ∧ Chg [] w w' := by
  refine (waits_any h).mono ?_
  rintro e w' ⟨v, rfl, hown, hc⟩
  obtain ⟨A, c, rfl, _⟩ := own_form hown
  rw [wl_falses]
  exact ⟨A, c, rfl, hc⟩

/-- What a law says of a call: true, and nothing old has turned. -/
def LawPost (w : World) (e : Ending) (w' : World) : Prop := e = .returned (.bool true) ∧ Chg [] w w'

set_option maxHeartbeats 3000000 in
set_option maxRecDepth 100000 in
theorem diskOf_any {A : Option Addr} {n c : Nat} {l : List UInt8} (hl : l.length = n) (hs : Src w A (bts l)) (m : Int) (hm0 : -9223372036854775808 ≤ m) (hm1 : m ≤ 9223372036854775807) :
    Calls Try.prog 7 #[.slice A n c, .int .i64 m] w (LawPost w) := by
  go_enter Try.func7, Try.ntmps7
  go_wp2_with fail
  refine (within_any m 1 9 (by omega) (by omega) (by omega) hm0 hm1).mono ?_
  rintro e w' ⟨r, ⟨r0, r1, _⟩, rfl, rfl⟩
  obtain ⟨k, rfl⟩ := Int.eq_ofNat_of_zero_le (show 0 ≤ r by omega)
  have hmk : ∀ W : World, (Instr.makeSlice 28 (.int .i64 ((k : Int) * 64)) (.int .i64 ((k : Int) * 64))).run Try.prog W = .ok (.slice (some ⟨W.heap.size, 0, none⟩) (k * 64) (k * 64)) (W.alloc (.cells (bts (zeros (k * 64))).toArray 5)) :=
    fun W => by
      have := make_u8 (k * 64) (by omega) W
      simpa using this
  have hcs := Lib.hid (show (bts (l.take (k * 64))).length = Nat.min n (k * 64) by rw [bts_len, List.length_take, hl, Nat.min_comm])
  have hfit : 0 + (bts (l.take (k * 64))).length ≤ (bts (zeros (k * 64))).length := by rw [bts_len, bts_len, zeros_len, List.length_take]; omega
  have hsl := src_take (k * 64) hs
  have hb1 := bts_one (l.take (k * 64))
  have hX0 := Lib.hid (show (splice (zeros (k * 64)) 0 (l.take (k * 64))).length = k * 64 by rw [length_splice, zeros_len]; rw [zeros_len, List.length_take]; omega)
  have hX1 := Lib.hid (bts_splice (zeros (k * 64)) (l.take (k * 64)) 0)
  generalize splice (zeros (k * 64)) 0 (l.take (k * 64)) = X at hX0 hX1
  generalize bts (l.take (k * 64)) = Y at hcs hfit hsl hb1 hX1
  go_wp2_with (with_reducible refine wpList_copy_chg rfl (.tmp 15) (.tmp 16) _ _ rfl 5 Try.underlying28 size_u8 (some ⟨w.heap.size, 0, none⟩) A (k * 64) (k * 64) n c rfl rfl w.heap.size 0 5 (bts (zeros (k * 64))) Y (Whole.new w _ _) hcs.out (fun _ => rfl) (hsl.keep ((Chg.refl _ _).alloc _)) hfit hb1 ?_
               intro w1 HG HC
               rw [hX1.out] at HG
               have hv1 := str_whole HG hX0.out (k * 64))
  refine (of_yes (l := X) hX0.out (Src.of_all HG) (by omega) (by omega) (by omega)).mono ?_
  rintro e w2 ⟨p, bL, bS, bW, rfl, hd, b0, b1, b2, b3, hc2⟩
  rw [show k * 64 / 64 = k by omega] at hd
  have HG2 := HG.keep hc2
  go_wp2_with fail
  refine (image_any hd).mono ?_
  rintro e w3 ⟨rfl, hi3, hc3⟩
  have hv3 := str_whole hi3 rfl X.length
  have hd3 := hd.keep hc3
  have HG3 := HG2.keep hc3
  clear hi3
  go_wp2_with fail
  refine (waits_none hd3).mono ?_
  rintro e w4 ⟨A4, c4, rfl, hc4⟩
  have hd4 := hd3.keep hc4
  have HG4 := HG3.keep hc4
  go_wp2_with fail
  go_loopw [39] (fun i wr => ∃ j : Nat, j ≤ k * 64 ∧ i = .int .i64 (j : Int) ∧ (∃ Y : List UInt8, Hid (Y.length = k * 64) ∧ Whole wr w.heap.size 5 (bts Y)) ∧ Chg [w.heap.size] w4 wr) (fun i _ => k * 64 - (intOf i).toNat)
  case atStart => exact ⟨0, Nat.zero_le _, rfl, ⟨X, hX0, HG4⟩, Chg.refl _ _⟩
  case round =>
    obtain ⟨j, hj, rfl, ⟨Z, hZ, hB⟩, hcB⟩ := hrel
    by_cases hlt : j < k * 64
    · have c1 := (hB.cell j).trans (bts_get Z j (by rw [hZ.out]; exact hlt))
      have c2 := hB.frozen j
      obtain ⟨d, hxd⟩ := xor_byte (Z[j]'(by rw [hZ.out]; exact hlt))
      have hx := Lib.hid hxd
      clear hxd
      unfold B8 at c1
      go_wp2_with fail
      go_roundw
      case rel =>
        refine ⟨j + 1, by omega, by go_num, ⟨Z.set j d, (by rw [List.length_set]; exact hZ.out), ?_⟩, hcB.setCell (by simp) _⟩
        have := hB.set_ j (B8 d)
        rw [bts_set] at this
        unfold B8 at this
        rw [← hx.out] at this
        exact this
      case measure => simp [intOf]; omega
    · clear hB
      have g4 := hcB.size
      have ok4 : Chg [] w w4 := (((((Chg.refl [] w).alloc (.cells (bts (zeros (k * 64))).toArray 5)).then_ HC (by simp)).new hc2).new hc3).new hc4
      have hz1 := HC.size
      have hz0 : (w.alloc (.cells (bts (zeros (k * 64))).toArray 5)).heap.size = w.heap.size + 1 := by simp
      have ok5 : Chg [] w wr := ok4.then_ hcB (by simp)
      have hd5 : Dsk wr p bL bS bW X X (falses k) := hd4.away hcB (by simp; omega) (by simp; omega) (by simp; omega) (by simp; omega)
      clear hz0 hz1
      obtain ⟨wo, rfl⟩ : ∃ wo : World, wo = wr := ⟨_, rfl⟩
      go_wp2_with fail
      refine (image_any hd5).mono ?_
      rintro e w5 ⟨rfl, hi5, hc5⟩
      have hd6 := hd5.keep hc5
      have hXl : X.length ≤ 1000000 := by rw [hX0.out]; omega
      go_wp2_with fail
      go_loopw [53] (fun i wr => ∃ j : Nat, j ≤ X.length ∧ i = .int .i64 (j : Int) ∧ (∃ Y : List UInt8, Hid (Y.length = X.length) ∧ Whole wr wo.heap.size 5 (bts Y)) ∧ Chg [wo.heap.size] w5 wr) (fun i _ => X.length - (intOf i).toNat)
      case atStart => exact ⟨0, Nat.zero_le _, rfl, ⟨X, Lib.hid rfl, hi5⟩, Chg.refl _ _⟩
      case round =>
        obtain ⟨j, hj, rfl, ⟨Z, hZ, hB⟩, hcC⟩ := hrel
        by_cases hlt : j < X.length
        · have c1 := (hB.cell j).trans (bts_get Z j (by rw [hZ.out]; exact hlt))
          have c2 := hB.frozen j
          obtain ⟨d, hxd⟩ := xor_byte (Z[j]'(by rw [hZ.out]; exact hlt))
          have hx := Lib.hid hxd
          clear hxd
          unfold B8 at c1
          go_wp2_with fail
          go_roundw
          case rel =>
            refine ⟨j + 1, by omega, by go_num, ⟨Z.set j d, (by rw [List.length_set]; exact hZ.out), ?_⟩, hcC.setCell (by simp) _⟩
            have := hB.set_ j (B8 d)
            rw [bts_set] at this
            unfold B8 at this
            rw [← hx.out] at this
            exact this
          case measure => simp [intOf]; omega
        · clear hB hi5
          have l6 := hd5.rec_.lt
          have l7 := hd5.last.lt
          have l8 := hd5.seen.lt
          have l9 := hd5.wait.lt
          have hd7 : Dsk wr p bL bS bW X X (falses k) := hd6.away hcC (by simp; omega) (by simp; omega) (by simp; omega) (by simp; omega)
          have ok7 : Chg [] w wr := (ok5.new hc5).then_ hcC (by simp; have := ok5.size; omega)
          go_wp2_with fail
          refine (image_any hd7).mono ?_
          rintro e w8 ⟨rfl, hi8, hc8⟩
          have hv8 := str_whole hi8 rfl X.length
          have hd8 := hd7.keep hc8
          go_wp2_with fail
          refine (seen_any hd8).mono ?_
          rintro e w9 ⟨rfl, hi9, hc9⟩
          have hv9 := str_whole hi9 rfl X.length
          have hd9 := hd8.keep hc9
          go_wp2_with fail
          refine (len_any hd9).mono ?_
          rintro e w9' ⟨rfl, rfl⟩
          rw [falses_len]
          go_wp2_with fail
          refine (known_any).mono ?_
          rintro e w10 ⟨rfl, hc10⟩
          go_wp2_with fail
          go_ret
          exact ⟨rfl, ((ok7.new hc8).new hc9).new hc10⟩
end
end Go.Proofs.Ytmhconklpkenmaa
