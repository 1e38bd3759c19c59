/-
  UU: RLines, RValue, RHead.
-/
import Derived.Test.YtbkfhndmeljlcaaGreatDoorZUU35
namespace Go.Proofs.YtbkfhndmeljlcaaGreatDoor
open Go.RowKit
theorem strOf_at (l : List UInt8) (p : Nat) (h : p < (strOf l).size) : ((strOf l)[p]'h) = l.getD p 0 := by
  have h2 : p < l.length := by rw [strOf_len] at h; exact h
  show (l.toArray)[p]'(by simpa using h2) = _
  simp [List.getD, List.getElem?_eq_getElem h2]
section
variable {w : World}
set_option maxHeartbeats 8000000 in
set_option maxRecDepth 100000 in
theorem rlines_any (l : List UInt8) (hl : l.length ≤ 1000000) : Calls Tryz.prog 84 #[.string (strOf l)] w (LinesPost l (decide ((splitL l []).2 = [])) w) := by
  obtain ⟨i0, hi0, hz0, hz1, hz2⟩ := info_parts info_str
  obtain ⟨X, hX⟩ : ∃ X, X = splitL l [] := ⟨_, rfl⟩
  rw [← hX]
  have HPP := Lib.hid (show ∀ (b : Bool) (v : Value) (wr : World), b = decide (X.2 = []) → wr.ownsRow w.heap.size 9 1 v X.1.length (strs X.1) → Chg [] w wr → LinesPost l (decide (X.2 = [])) w (.returned (.tuple #[v, .bool b])) wr from fun b v wr h0 h1 h2 => ⟨v, by rw [h0], by rw [← hX]; exact h1, h2⟩)
  generalize LinesPost l (decide (X.2 = [])) w = PO at HPP ⊢
  have HX0 := Lib.hid (show X = (([] : List (List UInt8)) ++ (splitL (l.drop 0) ((l.drop 0).take (0 - 0))).1, (splitL (l.drop 0) ((l.drop 0).take (0 - 0))).2) from by rw [hX]; rfl)
  clear hX
  obtain ⟨S, hS⟩ : ∃ S, S = strOf l := ⟨_, rfl⟩
  have HS := Lib.hid hS
  have hszS : S.size = l.length := by rw [hS]; exact strOf_len l
  have HAT := Lib.hid (fun (p : Nat) => show ∀ h : p < S.size, ((S[p]'h).toNat : Nat) = (l.getD p 0).toNat from by
    intro h
    subst hS
    rw [strOf_at])
  rw [← hS]
  clear hS
  obtain ⟨n, hn⟩ : ∃ n, n = l.length := ⟨_, rfl⟩
  rw [← hn] at hszS hl
  have HNL := Lib.hid hn
  clear hn
  have HSZ := Lib.hid hszS
  go_enter Tryz.func84, Tryz.ntmps84
  go_wp2_with fail
  go_loopw [4, 5, 6] (fun v f i wr => ∃ (q pos k : Nat) (L : List (List UInt8)), f = .int .i64 (q : Int) ∧ i = .int .i64 (pos : Int) ∧ q ≤ pos ∧ pos ≤ n ∧ k ≤ pos ∧ Hid (k = L.length) ∧ Hid (wr.ownsRow w.heap.size 9 1 v k (strs L)) ∧ Hid (X = (L ++ (splitL (l.drop pos) ((l.drop q).take (pos - q))).1, (splitL (l.drop pos) ((l.drop q).take (pos - q))).2)) ∧ Hid (Chg [] w wr)) (fun _ _ i _ => n - (intOf i).toNat)
  case atStart => exact ⟨0, 0, 0, [], rfl, rfl, by omega, by omega, by omega, Lib.hid rfl, Lib.hid (World.ownsRow_nil _ _ _ _), HX0, Lib.hid (Chg.refl _ _)⟩
  case round =>
    obtain ⟨q, pos, k, L, rfl, rfl, hqp, hpn, hkp, HKL, HO, HX, HCr⟩ := hrel
    by_cases hlt : pos < n
    · have hltS : pos < S.size := by rw [HSZ.out]; exact hlt
      have hltI : (pos : Int) < (S.size : Int) := by omega
      have hat := HAT.out pos
      have hdr := drop_getD (l := l) (p := pos) (by rw [← HNL.out]; exact hlt)
      by_cases h10 : l.getD pos 0 = 10
      · rw [h10] at hat hdr
        have hat2 : ∀ h : pos < S.size, (S[pos]'h).toNat = 10 := hat
        have HX2 := Lib.hid (show X = ((L ++ [(l.drop q).take (pos - q)]) ++ (splitL (l.drop (pos + 1)) ((l.drop (pos + 1)).take (pos + 1 - (pos + 1)))).1, (splitL (l.drop (pos + 1)) ((l.drop (pos + 1)).take (pos + 1 - (pos + 1)))).2) from by
          rw [HX.out, hdr, splitL, if_pos rfl, Nat.sub_self, List.take_zero]
          simp)
        have hqI : (0 : Int) ≤ (q : Int) := by omega
        have hpI : (q : Int) ≤ (pos : Int) := by omega
        have hpS : (pos : Int) ≤ (S.size : Int) := by omega
        have hpT : (pos : Int) ≤ (n : Int) := by omega
        have HEX := Lib.hid (show S.extract q pos = strOf ((l.drop q).take (pos - q)) from by rw [HS.out]; exact strOf_ext l q pos)
        have HB3 := Lib.hid (show w.heap.size ≤ wr.heap.size from HCr.out.size)
        clear hdr hat h10
        go_wp2_with (at_builtin
                     refine wpList_append_own _ rfl (.tmp 17) (.tmp 22) _ rfl w.heap.size 9 i0 _ 1 16 Tryz.underlying59 hi0 hz0 hz1 hz2 rfl (by decide) u4 k (strs L) rfl (own_keep HO.out ((Chg.refl [] wr).alloc _)) ⟨wr.heap.size, 0, none⟩ 1 1 [.string (S.extract q pos)] rfl rfl (cells_page _ _ _) (by simp [Value.oneCell']) (by simp only [maxLen]; omega) (by omega) (by have := HB3.out; simp; omega) ?_
                     intro v6 w6 ho6 hg6 _
                     have HO6 := Lib.hid ho6
                     have HC6 := Lib.hid (chg_grown2 (HCr.out.alloc _) hg6 (fun g hg => by have := ((own_keep HO.out ((Chg.refl [] wr).alloc (.cells #[.string (S.extract q pos)] 9))).lt g hg).1; omega))
                     clear ho6 hg6)
        have HO7 := Lib.hid (show w6.ownsRow w.heap.size 9 1 v6 (k + 1) (strs (L ++ [(l.drop q).take (pos - q)])) from by
          rw [strs_app]
          show w6.ownsRow _ _ _ _ _ (strs L ++ [.string (strOf ((l.drop q).take (pos - q)))])
          rw [← HEX.out]
          exact HO6.out)
        go_roundw
        case rel => exact ⟨pos + 1, pos + 1, k + 1, _, by go_num, by go_num, by omega, by omega, by omega, Lib.hid (by rw [HKL.out]; simp), HO7, HX2, HC6⟩
        case measure => simp [intOf]; omega
      · have hxn : (l.getD pos 0).toNat ≠ 10 := fun h => h10 (UInt8.toNat_inj.1 (by rw [h]; rfl))
        generalize (l.getD pos 0).toNat = x at hat hxn
        have h10d : ((x : Int) == 10) = false := by simp; omega
        have HX2 := Lib.hid (show X = (L ++ (splitL (l.drop (pos + 1)) ((l.drop q).take (pos + 1 - q))).1, (splitL (l.drop (pos + 1)) ((l.drop q).take (pos + 1 - q))).2) from by
          have htk : (l.drop q).take (pos + 1 - q) = (l.drop q).take (pos - q) ++ [l.getD pos 0] := by
            rw [show pos + 1 - q = (pos - q) + 1 from by omega, List.take_add, List.drop_drop, show q + (pos - q) = pos from by omega, hdr]
            rfl
          rw [htk, HX.out, hdr, splitL, if_neg h10])
        clear hdr h10 hxn
        go_wp2_with fail
        go_roundw
        case rel => exact ⟨q, pos + 1, k, L, rfl, by go_num, by omega, by omega, by omega, HKL, HO, HX2, HCr⟩
        case measure => simp [intOf]; omega
    · have hltI : ¬ (pos : Int) < (S.size : Int) := by omega
      obtain rfl : pos = n := by omega
      have HXE := Lib.hid (show X = (L, l.drop q) from by
        rw [HX.out, HNL.out, List.drop_length, splitL, List.append_nil, List.take_of_length_le (by rw [List.length_drop]; exact Nat.le_refl _)])
      have hX1 : X.1 = L := by rw [HXE.out]
      have hX2 : X.2 = l.drop q := by rw [HXE.out]
      have hOf := (show wr.ownsRow w.heap.size 9 1 u4 X.1.length (strs X.1) from by rw [hX1, ← HKL.out]; exact HO.out)
      have hdec : ∀ b : Bool, b = ((q : Int) == (pos : Int)) → b = decide (X.2 = []) := by
        intro b hb
        rw [hb, hX2]
        by_cases hq : q = pos
        · subst hq
          rw [List.drop_eq_nil_of_le (by rw [← HNL.out]; exact Nat.le_refl _)]
          simp
        · have h1 : ((q : Int) == (pos : Int)) = false := by simp; omega
          have h2 : ¬ l.drop q = [] := by
            intro h
            have := congrArg List.length h
            rw [List.length_drop, ← HNL.out] at this
            simp at this
            omega
          rw [h1, decide_eq_false h2]
      have HDE := Lib.hid hdec
      have HOF := Lib.hid hOf
      have hszI : (S.size : Int) = (pos : Int) := by omega
      clear hdec hOf hX1 hX2
      go_wp2_with fail
      exact HPP.out _ _ _ (HDE.out _ rfl) HOF.out HCr.out
end
end Go.Proofs.YtbkfhndmeljlcaaGreatDoor
namespace Go.Proofs.YtbkfhndmeljlcaaGreatDoor
open Go.RowKit
def RvPost (l : List UInt8) (w : World) (e : Ending) (w' : World) : Prop :=
  ∃ (n : Nat) (b : Bool), e = .returned (.tuple #[.int .i64 (n : Int), .bool b]) ∧ (b = true → valP l = some n) ∧ (b = false → valP l = none) ∧ Chg [] w w'
section
variable {w : World}
set_option maxHeartbeats 8000000 in
set_option maxRecDepth 100000 in
theorem rvalue_any (l : List UInt8) (hl : l.length ≤ 1000000) : Calls Tryz.prog 110 #[.string (strOf l)] w (RvPost l w) := by
  have HPO := Lib.hid (show ∀ (n : Nat) (b : Bool) (wr : World), (b = true → valP l = some n) → (b = false → valP l = none) → Chg [] w wr → RvPost l w (.returned (.tuple #[.int .i64 (n : Int), .bool b])) wr from fun n b wr h1 h2 h3 => ⟨n, b, rfl, h1, h2, h3⟩)
  generalize RvPost l w = PO at HPO ⊢
  have hVP : ∀ o, valN l 0 = o → valP l = if l = [] ∨ (1 < l.length ∧ l.getD 0 0 = 48) then none else o := fun o h => by unfold valP; rw [h]
  have HVP := Lib.hid hVP
  clear hVP
  obtain ⟨S, hS⟩ : ∃ S, S = strOf l := ⟨_, rfl⟩
  have hszS : S.size = l.length := by rw [hS]; exact strOf_len l
  have HAT := Lib.hid (fun (p : Nat) => show ∀ h : p < S.size, ((S[p]'h).toNat : Nat) = (l.getD p 0).toNat from by
    intro h
    subst hS
    rw [strOf_at])
  rw [← hS]
  clear hS
  obtain ⟨n, hn⟩ : ∃ n, n = l.length := ⟨_, rfl⟩
  rw [← hn] at hszS hl
  have HNL := Lib.hid hn
  clear hn
  have HSZ := Lib.hid hszS
  go_enter Tryz.func110, Tryz.ntmps110
  go_wp2_with fail
  go_loopw [4, 5] (fun v i wr => ∃ (m pos : Nat), v = .int .i64 (m : Int) ∧ i = .int .i64 (pos : Int) ∧ m ≤ 9223372036854775807 ∧ pos ≤ n ∧ Hid (valN l 0 = valN (l.drop pos) m) ∧ Hid (Chg [] w wr)) (fun _ i _ => n - (intOf i).toNat)
  case atStart => exact ⟨0, 0, rfl, rfl, by omega, by omega, Lib.hid rfl, Lib.hid (Chg.refl _ _)⟩
  case round =>
    obtain ⟨m, pos, rfl, rfl, hm, hpn, HV, HCr⟩ := hrel
    by_cases hlt : pos < n
    · have hltS : pos < S.size := by rw [HSZ.out]; exact hlt
      have hltI : (pos : Int) < (S.size : Int) := by omega
      have hat := HAT.out pos
      have hdr := drop_getD (l := l) (p := pos) (by rw [← HNL.out]; exact hlt)
      have hx255 : (l.getD pos 0).toNat < 256 := UInt8.toNat_lt _
      have HVD := Lib.hid (show valN l 0 = valN (l.getD pos 0 :: l.drop (pos + 1)) m from by rw [← hdr]; exact HV.out)
      have HNO := Lib.hid (show valN l 0 = none → valP l = none from fun h => by rw [HVP.out _ h]; split <;> rfl)
      clear hdr
      generalize l.getD pos 0 = c at hat hx255 HVD
      obtain ⟨x, hx⟩ : ∃ x, x = c.toNat := ⟨_, rfl⟩
      rw [← hx] at hat hx255
      have HX := Lib.hid hx
      clear hx
      by_cases hd48 : x < 48
      · have HZ := Lib.hid (HNO.out (by rw [HVD.out, valN, if_neg (by rw [← HX.out]; omega)]))
        have b1 : decide ((x : Int) < 48) = true := by simp; omega
        go_wp2_with fail
        exact HPO.out 0 false _ (fun h => by cases h) (fun _ => HZ.out) HCr.out
      · have b1 : decide ((x : Int) < 48) = false := by simp; omega
        by_cases hd57 : 57 < x
        · have HZ := Lib.hid (HNO.out (by rw [HVD.out, valN, if_neg (by rw [← HX.out]; omega)]))
          have b2 : decide ((57 : Int) < (x : Int)) = true := by simp; omega
          go_wp2_with fail
          exact HPO.out 0 false _ (fun h => by cases h) (fun _ => HZ.out) HCr.out
        · have b2 : decide ((57 : Int) < (x : Int)) = false := by simp; omega
          have hwx : IntKind.u8.wrap ((x : Int) - 48) = (x : Int) - 48 := by rw [IntKind.wrap_u8]; omega
          have hq : ((9223372036854775807 : Int) - ((x : Int) - 48)).tdiv 10 = (((9223372036854775807 - (x - 48)) / 10 : Nat) : Int) := by
            rw [Int.tdiv_eq_ediv_of_nonneg (by omega)]; omega
          obtain ⟨q, hqe⟩ : ∃ q, q = (9223372036854775807 - (x - 48)) / 10 := ⟨_, rfl⟩
          rw [← hqe] at hq
          have hqB : (q : Int) ≤ 922337203685477580 := by omega
          have hqC : (0 : Int) ≤ (q : Int) := by omega
          by_cases hov : q < m
          · have HZ := Lib.hid (HNO.out (by rw [HVD.out, valN, if_pos (by rw [← HX.out]; omega), if_pos (by rw [← HX.out, ← hqe]; exact hov)]))
            have hovD : decide ((q : Int) < (m : Int)) = true := by simpa using hov
            have hovI : (q : Int) < (m : Int) := by omega
            clear hov hqe
            go_wp2_with fail
            exact HPO.out 0 false _ (fun h => by cases h) (fun _ => HZ.out) HCr.out
          · have HV2 := Lib.hid (show valN l 0 = valN (l.drop (pos + 1)) (m * 10 + (x - 48)) from by
              rw [HVD.out, valN, if_pos (by rw [← HX.out]; omega), if_neg (by rw [← HX.out, ← hqe]; exact hov), ← HX.out])
            have hovJ : (m : Int) ≤ (q : Int) := by omega
            have hovD : decide ((q : Int) < (m : Int)) = false := by simpa using hov
            have hm2 : m * 10 + (x - 48) ≤ 9223372036854775807 := by omega
            have HMM := Lib.hid (show ((m * 10 + (x - 48) : Nat) : Int) = (m : Int) * 10 + ((x : Int) - 48) from by omega)
            clear hov hqe
            go_wp2_with fail
            go_roundw
            case rel => exact ⟨m * 10 + (x - 48), pos + 1, by rw [HMM.out], by go_num, hm2, by omega, HV2, HCr⟩
            case measure => simp [intOf]; omega
    · have hltI : ¬ (pos : Int) < (S.size : Int) := by omega
      have HVS := Lib.hid (HVP.out (some m) (by rw [HV.out, List.drop_eq_nil_of_le (by rw [← HNL.out]; omega), valN]))
      have hat0 := HAT.out 0
      by_cases hn0 : n = 0
      · have HL := Lib.hid (show l = [] from List.eq_nil_of_length_eq_zero (by rw [← HNL.out]; exact hn0))
        have b0 : decide (0 < n) = false := decide_eq_false (by omega)
        have b00 : decide ((0 : Int) < (n : Int)) = false := decide_eq_false (by omega)
        go_upto_region 8 with fail
        go_region
        go_wp2_with fail
        exact HPO.out m false _ (fun h => by cases h) (fun _ => by rw [HVS.out, if_pos (.inl HL.out)]) HCr.out.drew
      · have b0 : decide (0 < n) = true := decide_eq_true (by omega)
        have b00 : decide ((0 : Int) < (n : Int)) = true := decide_eq_true (by omega)
        have hn0p : 0 < n := by omega
        have HL := Lib.hid (show l ≠ [] from fun h => hn0 (by rw [HNL.out, h]; rfl))
        by_cases hn1 : n = 1
        · subst hn1
          go_upto_region 8 with fail
          go_region
          go_wp2_with fail
          exact HPO.out m true _ (fun _ => by rw [HVS.out, if_neg (fun h => h.elim HL.out (fun h => by have := HNL.out; omega))]) (fun h => by cases h) HCr.out.drew
        · have b1 : ((n : Int) == 1) = false := by simp; omega
          have b11 : (n == 1) = false := by simpa using hn1
          have hS0 : 0 < S.size := by omega
          have hS0I : (0 : Int) < (S.size : Int) := by omega
          generalize hc : l.getD 0 0 = c0 at hat0
          by_cases h48 : c0.toNat = 48
          · rw [h48] at hat0
            have hat1 : ∀ h : 0 < S.size, (S[0]'h).toNat = 48 := hat0
            have HZ := Lib.hid (show l.getD 0 0 = 48 from by rw [hc]; exact UInt8.toNat_inj.1 (by rw [h48]; rfl))
            clear hat0 hc
            go_upto_region 8 with fail
            go_region
            go_wp2_with fail
            exact HPO.out m false _ (fun h => by cases h) (fun _ => by rw [HVS.out, if_pos (.inr ⟨by have := HNL.out; omega, HZ.out⟩)]) HCr.out.drew
          · have HZ := Lib.hid (show l.getD 0 0 ≠ 48 from fun h => h48 (by rw [← hc, h]; rfl))
            generalize c0.toNat = x0 at hat0 h48
            have h48d : ((x0 : Int) == 48) = false := by simp; omega
            have h48e : ((x0 : Int) != 48) = true := by simp; omega
            clear hc
            go_upto_region 8 with fail
            go_region
            go_wp2_with fail
            exact HPO.out m true _ (fun _ => by rw [HVS.out, if_neg (fun h => h.elim HL.out (fun h => HZ.out h.2))]) (fun h => by cases h) HCr.out.drew
end
end Go.Proofs.YtbkfhndmeljlcaaGreatDoor
namespace Go.Proofs.YtbkfhndmeljlcaaGreatDoor
open Go.RowKit
def RhPost (l : List UInt8) (w : World) (e : Ending) (w' : World) : Prop :=
  ∃ (x y : Nat) (b : Bool), e = .returned (.tuple #[.int .i64 (x : Int), .int .i64 (y : Int), .bool b]) ∧ (b = true → headP l = some (x, y)) ∧ (b = false → headP l = none) ∧ Chg [] w w'
def unitS : List UInt8 := [117, 110, 105, 116, 32]
theorem cut1_at : ∀ (a : List UInt8) (p : Nat), p < a.length → (∀ j, j < p → a.getD j 0 ≠ 32) → a.getD p 0 = 32 → cut1 a = some (a.take p, a.drop (p + 1))
  | [], p, h, _, _ => by simp at h
  | b :: a, 0, _, _, h => by
    simp at h
    rw [cut1, if_pos h]
    rfl
  | b :: a, p + 1, hl, hn, h => by
    have h0 := hn 0 (by omega)
    simp at h0
    rw [cut1, if_neg h0, cut1_at a p (by simpa using hl) (fun j hj => by have := hn (j + 1) (by omega); simpa using this) (by simpa using h)]
    rfl
theorem cut1_none : ∀ (a : List UInt8), (∀ j, j < a.length → a.getD j 0 ≠ 32) → cut1 a = none
  | [], _ => rfl
  | b :: a, h => by
    have h0 := h 0 (by simp)
    simp at h0
    rw [cut1, if_neg h0, cut1_none a (fun j hj => by have := h (j + 1) (by simpa using hj); simpa using this)]
    rfl
section
variable {w : World}
set_option maxHeartbeats 8000000 in
set_option maxRecDepth 100000 in
theorem rhead_any (l : List UInt8) (hl : l.length ≤ 1000000) : Calls Tryz.prog 85 #[.string (strOf l)] w (RhPost l w) := by
  have HPO := Lib.hid (show ∀ (x y : Nat) (b : Bool) (wr : World), (b = true → headP l = some (x, y)) → (b = false → headP l = none) → Chg [] w wr → RhPost l w (.returned (.tuple #[.int .i64 (x : Int), .int .i64 (y : Int), .bool b])) wr from fun x y b wr h1 h2 h3 => ⟨x, y, b, rfl, h1, h2, h3⟩)
  generalize RhPost l w = PO at HPO ⊢
  have hsz := strOf_len l
  have hex := strOf_ext l 0 5
  by_cases h5 : l.take 5 = unitS
  · have hlen5 : 5 ≤ l.length := by
      have := congrArg List.length h5
      rw [List.length_take] at this
      simp [unitS] at this
      omega
    have HHP := Lib.hid (show headP l = (match cut1 (l.drop 5) with
      | none => none
      | some (a, b) => match valP a, valP b with
        | some x, some y => some (x, y)
        | _, _ => none) from by unfold headP; rw [if_pos (show l.take 5 = [117, 110, 105, 116, 32] from h5)]; rfl)
    have hex2 : (strOf l).extract 0 5 = ⟨#[117, 110, 105, 116, 32]⟩ := by
      rw [hex, List.drop_zero, Nat.sub_zero, h5]
      rfl
    have hexR : (strOf l).extract 5 l.length = strOf (l.drop 5) := by
      rw [strOf_ext]
      congr 1
      exact List.take_of_length_le (by rw [List.length_drop]; exact Nat.le_refl _)
    have hsI : decide ((l.length : Int) < 5) = false := decide_eq_false (by omega)
    have hne : ((strOf unitS).toList == [117, 110, 105, 116, 32]) = true := by rw [ByteArray.toList_eq, strOf_toList]; decide
    have h5I : (5 : Int) ≤ (l.length : Int) := by omega
    obtain ⟨r, hr⟩ : ∃ r, r = l.drop 5 := ⟨_, rfl⟩
    rw [← hr] at HHP
    have hrl : r.length ≤ 1000000 := by rw [hr, List.length_drop]; omega
    have HR := Lib.hid hr
    clear hex2
    go_enter Tryz.func85, Tryz.ntmps85
    go_wp2_with fail
    rw [← HR.out]
    have hszS : (strOf r).size = r.length := strOf_len r
    have HAT := Lib.hid (fun (p : Nat) => show ∀ h : p < (strOf r).size, (((strOf r)[p]'h).toNat : Nat) = (r.getD p 0).toNat from by
      intro h
      rw [strOf_at])
    have HEA := Lib.hid (fun (p : Nat) => show (strOf r).extract 0 p = strOf (r.take p) from by rw [strOf_ext, List.drop_zero, Nat.sub_zero])
    have HEB := Lib.hid (fun (p : Nat) => show (strOf r).extract p r.length = strOf (r.drop p) from by
      rw [strOf_ext]
      congr 1
      exact List.take_of_length_le (by rw [List.length_drop]; exact Nat.le_refl _))
    generalize strOf r = S at *
    obtain ⟨n, hn⟩ : ∃ n, n = r.length := ⟨_, rfl⟩
    rw [← hn] at hszS hrl HEB
    have HNL := Lib.hid hn
    clear hn hr hex hexR hsI hne h5I hlen5 h5 hsz
    go_loopw [5] (fun i wr => ∃ (pos : Nat), i = .int .i64 (pos : Int) ∧ pos ≤ n ∧ Hid (∀ j, j < pos → r.getD j 0 ≠ 32) ∧ Hid (Chg [] w wr)) (fun i _ => n - (intOf i).toNat)
    case atStart => exact ⟨0, rfl, by omega, Lib.hid (fun j hj => by omega), Lib.hid (Chg.refl _ _)⟩
    case round =>
      obtain ⟨pos, rfl, hpn, HNB, HCr⟩ := hrel
      by_cases hlt : pos < n
      · have hltS : pos < S.size := by omega
        have hltI : (pos : Int) < (S.size : Int) := by omega
        have hltN : (pos : Int) < (n : Int) := by omega
        have hat := HAT.out pos
        by_cases h32 : r.getD pos 0 = 32
        · rw [h32] at hat
          have hat1 : ∀ h : pos < S.size, (S[pos]'h).toNat = 32 := hat
          have HC := Lib.hid (cut1_at r pos (by rw [← HNL.out]; exact hlt) HNB.out h32)
          have hea := HEA.out pos
          have heb := HEB.out (pos + 1)
          have HV1 := Lib.hid (fun (W : World) => rvalue_any (w := W) (r.take pos) (by rw [List.length_take]; omega))
          have HV2 := Lib.hid (fun (W : World) => rvalue_any (w := W) (r.drop (pos + 1)) (by rw [List.length_drop, ← HNL.out]; omega))
          have HHQ := Lib.hid (show headP l = (match valP (r.take pos), valP (r.drop (pos + 1)) with
            | some x, some y => some (x, y)
            | _, _ => none) from by rw [HHP.out, HC.out])
          have hpS : (pos : Int) ≤ (S.size : Int) := by omega
          have hpT : (pos : Int) ≤ (n : Int) := by omega
          have hp1 : (pos : Int) + 1 ≤ (n : Int) := by omega
          have hp0 : (0 : Int) ≤ (pos : Int) + 1 := by omega
          clear hat h32
          generalize strOf (r.take pos) = ZA at hea HV1
          generalize strOf (r.drop (pos + 1)) = ZB at heb HV2
          go_wp2_with (first
            | (go_at_call 110
               with_reducible refine (HV1.out _).mono ?_
               rintro e w1 ⟨x, b1, rfl, hx1, hx2, hc1⟩
               have HX1 := Lib.hid hx1
               have HX2 := Lib.hid hx2
               have HC1 := Lib.hid (HCr.out.trans hc1)
               clear hx1 hx2 hc1)
            | (go_at_call 110
               with_reducible refine (HV2.out _).mono ?_
               rintro e w2 ⟨y, b2, rfl, hy1, hy2, hc2⟩
               have HY1 := Lib.hid hy1
               have HY2 := Lib.hid hy2
               have HC2 := Lib.hid (HC1.out.trans hc2)
               clear hy1 hy2 hc2))
          · go_ret3
            exact HPO.out x y b2 _ (fun hb => by rw [HHQ.out, HX1.out (by assumption), HY1.out hb]) (fun hb => by rw [HHQ.out, HX1.out (by assumption), HY2.out hb]) HC2.out
          · go_ret3
            exact HPO.out x y false _ (fun h => by cases h) (fun _ => by rw [HHQ.out, HX2.out (Bool.eq_false_iff.2 (by assumption))]) HC2.out
        · have hxn : (r.getD pos 0).toNat ≠ 32 := fun h => h32 (UInt8.toNat_inj.1 (by rw [h]; rfl))
          generalize (r.getD pos 0).toNat = x at hat hxn
          have h32d : ((x : Int) == 32) = false := by simp; omega
          have HNB2 := Lib.hid (show ∀ j, j < pos + 1 → r.getD j 0 ≠ 32 from fun j hj => by
            by_cases hjp : j < pos
            · exact HNB.out j hjp
            · obtain rfl : j = pos := by omega
              exact h32)
          clear h32 hxn
          go_wp2_with fail
          go_roundw
          case rel => exact ⟨pos + 1, by go_num, by omega, HNB2, HCr⟩
          case measure => simp [intOf]; omega
      · have hltI : ¬ (pos : Int) < (S.size : Int) := by omega
        have hltN : ¬ (pos : Int) < (n : Int) := by omega
        have HZ := Lib.hid (show headP l = none from by
          rw [HHP.out, cut1_none r (fun j hj => HNB.out j (by rw [← HNL.out] at hj; omega))])
        go_wp2_with fail
        go_ret3
        exact HPO.out 0 0 false _ (fun h => by cases h) (fun _ => HZ.out) HCr.out
  · have HZ := Lib.hid (show headP l = none from by unfold headP; rw [if_neg (show ¬ l.take 5 = [117, 110, 105, 116, 32] from h5)])
    by_cases hlen5 : l.length < 5
    · have hsI : decide ((l.length : Int) < 5) = true := decide_eq_true (by omega)
      clear hex h5
      go_enter Tryz.func85, Tryz.ntmps85
      go_wp2_with fail
      go_ret3
      exact HPO.out 0 0 false _ (fun h => by cases h) (fun _ => HZ.out) (Chg.refl _ _)
    · have hsI : decide ((l.length : Int) < 5) = false := decide_eq_false (by omega)
      have h5I : (5 : Int) ≤ (l.length : Int) := by omega
      rw [List.drop_zero, Nat.sub_zero] at hex
      have hne : ((strOf (l.take 5)).toList == [117, 110, 105, 116, 32]) = false := by
        rw [ByteArray.toList_eq, strOf_toList, beq_eq_false_iff_ne]
        exact h5
      clear h5 hlen5
      go_enter Tryz.func85, Tryz.ntmps85
      go_wp2_with fail
      go_ret3
      exact HPO.out 0 0 false _ (fun h => by cases h) (fun _ => HZ.out) (Chg.refl _ _)
end
end Go.Proofs.YtbkfhndmeljlcaaGreatDoor
