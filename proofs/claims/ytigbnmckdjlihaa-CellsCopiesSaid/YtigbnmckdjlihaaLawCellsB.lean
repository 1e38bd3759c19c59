/-
  The walk of CellsBack.
-/
import Derived.Test.YtigbnmckdjlihaaLawCells
import Derived.Test.YtigbnmckdjlihaaBs
namespace Go.Proofs.Ytigbnmckdjlihaa
open Go.RowKit
section
variable {P : Program} {T : Turns} {w0 : World} {a0 : Act} {ops : List Oper} {Q : Exit → Act → World → Prop} {F : Said} {k : Nat} {rest : List Oper}
  {d : Option Tmp} {ty : TypeId} {pos : String} {af : Array Edge} {g : Option (Nat × Bool)}
/-- len of an own row. -/
theorem flow_len_own {t : Tmp} {B : Nat} {e : TypeId} {xs : List Value} {ats : Array TypeId} (n : Nat) (hn : xs.length = n) (hT : T.Ok) (hs : look F t = some (ownF B e xs))
    (hrun : ∀ ev W A c, EvOk ev → ev (.tmp t) = .slice A n c → (execOp ev ⟨d, .call { callee := .builtin .len, args := #[.tmp t], argTypes := ats }, ty, pos, af, g⟩).run P W = .ok (.value (.int .i64 (n : Int))) W)
    (hg : guardIs ops F true ⟨d, .call { callee := .builtin .len, args := #[.tmp t], argTypes := ats }, ty, pos, af, g⟩) (h : Flow P T w0 a0 ops Q ((d, isV (.int .i64 (n : Int))) :: F) (k + 1) rest) :
    Flow P T w0 a0 ops Q F k (⟨d, .call { callee := .builtin .len, args := #[.tmp t], argTypes := ats }, ty, pos, af, g⟩ :: rest) := by
  refine flow_op _ (keeps_isV _) (.inr (keeps_isV _)) hg (fun ev W he hW hf => ?_) h
  have hf1 : factOf a0 F (.tmp t) (ev (.tmp t)) W := hf.1
  simp only [factOf, hs] at hf1
  obtain ⟨A, c, e1, _⟩ := own_slice hf1
  rw [hn] at e1
  rw [hrun ev W A c he e1]
  exact ⟨hT.by_refl k W, rfl⟩
end
/-- 128 bytes of l, zeros behind them. -/
def pad128 (l : List UInt8) : List UInt8 := splice (zeros 128) 0 (l.take 128)
theorem pad128_len (l : List UInt8) : (pad128 l).length = 128 := by
  unfold pad128
  rw [length_splice]
  · exact zeros_len 128
  · rw [zeros_len, List.length_take]; omega
theorem make128 (W : World) : (Instr.makeSlice 40 (.int .i64 128) (.int .i64 128)).run Try.prog W = .ok (.slice (some ⟨W.heap.size, 0, none⟩) 128 128) (W.alloc (.cells (bts (zeros 128)).toArray 5)) := make_u8 128 (by omega) W
theorem bs_all {w : World} {g : Nat} {l : List UInt8} {n : Nat} (h : Whole w g 5 (bts l)) (hn : l.length = n) (hm : n ≤ 1000000) : Bs w (some ⟨g, 0, none⟩) n n l := by
  subst hn; exact Bs.of_all h (by omega)
theorem trues2 : trues (falses 2) 2 = [] := by decide
theorem byte_mod (n : Int) (i : Nat) (h : i < 8) : n % 18446744073709551616 / 2 ^ (8 * i) % 256 = n / 2 ^ (8 * i) % 256 := by
  have h8 : i = 0 ∨ i = 1 ∨ i = 2 ∨ i = 3 ∨ i = 4 ∨ i = 5 ∨ i = 6 ∨ i = 7 := by omega
  rcases h8 with rfl | rfl | rfl | rfl | rfl | rfl | rfl | rfl
  · simp
  all_goals
    simp only [Nat.reduceMul, Int.reducePow]
    omega
/-- The mathematics of a byte of n that is asked. -/
theorem byte_asked (n : Int) (i : Nat) : bits .and .u64 (IntKind.u64.wrap n / 2 ^ (8 * i)) 255 = ((byteN n i).toNat : Int) ∨ 8 ≤ i := by
  by_cases h : i < 8
  · left
    have e255 : ∀ m : Int, 0 ≤ m → m < 18446744073709551616 → bits .and .u64 m 255 = m % 256 := by
      intro m h0 h1
      obtain ⟨M, rfl⟩ := Int.eq_ofNat_of_zero_le h0
      have e := bits_and_u64_nat M 255 (by omega) (by omega)
      have e2 : ((255 : Nat) : Int) = 255 := rfl
      rw [e2] at e
      rw [e, show (255 : Nat) = 2 ^ 8 - 1 by decide, Nat.and_two_pow_sub_one_eq_mod]
      omega
    rw [byteN_int]
    have hp : (0 : Int) < 2 ^ (8 * i) := Int.pow_pos (by decide)
    have h0 : 0 ≤ IntKind.u64.wrap n := by rw [IntKind.wrap_u64]; omega
    have h1 : IntKind.u64.wrap n < 18446744073709551616 := by rw [IntKind.wrap_u64]; omega
    rw [e255 _ (Int.ediv_nonneg h0 (Int.le_of_lt hp)) (Int.lt_of_le_of_lt (Int.ediv_le_self _ h0) h1), IntKind.wrap_u64]
    exact byte_mod n i h
  · exact .inr (by omega)
section
variable {w : World} {A : Option Addr} {m c : Nat} {l : List UInt8}
set_option maxHeartbeats 4000000 in
set_option maxRecDepth 100000 in
theorem cellsBack_any (q n : Int) (hn : In64 n) (h : Bs w A m c l) : Calls Try.prog 8 #[.int .i64 q, .int .i64 n, .slice A m c] w (LawPost w) := by
  obtain ⟨r, hr⟩ : ∃ r, q.tmod 130 = r := ⟨_, rfl⟩
  have r1 : -130 < r := hr ▸ Int.lt_tmod_of_pos q (by omega)
  have r2 : r < 130 := hr ▸ Int.tmod_lt_of_pos q (by omega)
  have hmk := make128
  have hY1 := bts_one (l.take 128)
  have hlm := h.len
  have Hn := Lib.hid (show (bts (l.take 128)).length = Nat.min m 128 by rw [bts_len, List.length_take, hlm]; exact Nat.min_comm _ _)
  have Hf : 0 + (bts (l.take 128)).length ≤ (bts (zeros 128)).length := by rw [bts_len, bts_len, zeros_len, List.length_take]; omega
  have HG0 := Whole.new w 5 (bts (zeros 128))
  have hC0 : Chg [] w (w.alloc (.cells (bts (zeros 128)).toArray 5)) := (Chg.refl [] w).alloc _
  have hsr : Src (w.alloc (.cells (bts (zeros 128)).toArray 5)) A (bts (l.take 128)) := by
    refine Src.keep (fun hp => ?_) hC0
    obtain ⟨ad, e, hb, hx⟩ := h.src (by simp [bts] at hp ⊢; omega)
    refine ⟨ad, e, hb, fun j v hj => hx j v ?_⟩
    unfold bts at hj ⊢
    rw [List.map_take, List.getElem?_take] at hj
    split at hj
    · exact hj
    · cases hj
  have hspl := Lib.hid (show splice (bts (zeros 128)) 0 (bts (l.take 128)) = bts (pad128 l) from bts_splice _ _ _)
  have hxl := pad128_len l
  have HN := Lib.hid hn
  generalize bts (l.take 128) = Y at hY1 Hn Hf hsr hspl
  generalize pad128 l = x0 at hspl hxl
  have HX := Lib.hid hxl
  have hz0 : w.heap.size < (w.alloc (.cells (bts (zeros 128)).toArray 5)).heap.size := by simp
  clear hlm hn hxl
  have HZ0 := Lib.hid hz0
  clear hz0
  go_enter Try.func8, Try.ntmps8
  go_wp2_with (with_reducible refine wpList_copy_chg rfl (.tmp 18) (.tmp 19) _ _ rfl 5 Try.underlying40 size_u8 (some ⟨w.heap.size, 0, none⟩) A 128 128 m c rfl rfl w.heap.size 0 5 (bts (zeros 128)) Y HG0 Hn.out (fun _ => rfl) hsr Hf hY1 ?_
               intro w1 HG1 HC1)
  rw [hspl.out] at HG1
  have hc1 : Chg [] w w1 := hC0.then_ HC1 fun i hi hlt => by simp only [List.mem_cons, List.not_mem_nil, or_false] at hi; omega
  have hz1 : w.heap.size < w1.heap.size := Nat.lt_of_lt_of_le HZ0.out HC1.size
  clear hsr HG0 hC0 HC1 HZ0 hmk
  have hs1 : Src w1 (some ⟨w.heap.size, 0, none⟩) (bts x0) := Src.of_all HG1
  go_wp2_with fail
  refine (cof_yes (l := x0) HX.out hs1 3 (by decide) (by decide) (by decide)).mono ?_
  rintro e w2 ⟨p, gC, gD, rfl, hM, b0, b1, b2, hc2⟩
  have hW2 := Whole.keep HG1 hc2
  have hc12 := hc1.new hc2
  have n0 : w.heap.size ≠ p := by omega
  have n1 : w.heap.size ≠ gC := by omega
  have n2 : w.heap.size ≠ gD := by omega
  have m0 : w.heap.size ≤ p := by omega
  have m1 : w.heap.size ≤ gC := by omega
  have m2 : w.heap.size ≤ gD := by omega
  have hf2 : falses (128 / 64) = falses 2 := rfl
  rw [hf2] at hM
  clear hs1 HG1 hc1 hc2 b0 b1 b2 hf2 hz1
  have HM := Lib.hid hM
  have HW := Lib.hid hW2
  have HC := Lib.hid hc12
  clear hM hW2 hc12
  by_cases hin : 0 ≤ r ∧ r ≤ 120
  · obtain ⟨hi0, hi1⟩ := hin
    obtain ⟨k, rfl⟩ := Int.eq_ofNat_of_zero_le hi0
    have hk : k + 8 ≤ x0.length := by rw [HX.out]; omega
    go_wp2_with fail
    refine (store_yes HM.out k n true 8 rfl hk).mono ?_
    rintro e w3 ⟨rfl, hM3, hc3⟩
    have hW3 := HW.out.chg hc3 (by simp [n1, n2])
    have hc03 : Chg [] w w3 := HC.out.then_ hc3 fun i hi hlt => by simp only [List.mem_cons, List.not_mem_nil, or_false] at hi; omega
    have HM3 := Lib.hid hM3
    have HW3 := Lib.hid hW3
    have HC3 := Lib.hid hc03
    have HK := Lib.hid hk
    have hz3 : w.heap.size < w3.heap.size := hW3.lt
    clear hM3 hc3 hW3 hc03 hk
    go_wp2_with fail
    refine (load_yes HM3.out k true 8 rfl (by rw [stL_len]; exact HK.out)).mono ?_
    rintro e w' ⟨rfl, rfl⟩
    rw [ldI_st x0 k n HN.out HK.out]
    go_wp2_with fail
    go_loopw [14] (fun i wr => ∃ j : Nat, j ≤ 8 ∧ i = .int .i64 (j : Int) ∧ Whole wr w.heap.size 5 (bts (stL x0 k n j)) ∧ Chg [w.heap.size] w3 wr) (fun i _ => 8 - (intOf i).toNat)
    case atStart => exact ⟨0, by omega, rfl, HW3.out, Chg.refl _ _⟩
    case round =>
      obtain ⟨j, hj, rfl, hWr, hCr⟩ := hrel
      have HMr := Lib.hid (HM3.out.away hCr (by simp [Ne.symm n0]) (by simp [Ne.symm n1]) (by simp [Ne.symm n2]))
      by_cases hlt : j < 8
      · have hkj : k + j + 1 ≤ (stL x0 k n 8).length := by rw [stL_len]; have := HK.out; omega
        have HV := Lib.hid (show ldI (stL x0 k n 8) (k + j) 1 = ((byteN n j).toNat : Int) from ldI_one _ _ _ (stL_get x0 k n 8 j hlt (by have := HK.out; omega)))
        have HKJ := Lib.hid hkj
        have hb := (byte_asked n j).resolve_right (by omega)
        have cX := (hWr.cell (k + j)).trans (bts_get _ (k + j) (by rw [stL_len]; have := HK.out; omega))
        have fX := hWr.frozen (k + j)
        have hnx : Whole (wr.setCell ⟨w.heap.size, k + j, none⟩ (B8 (byteN n j))) w.heap.size 5 (bts (stL x0 k n (j + 1))) := by
          have := hWr.set_ (k + j) (B8 (byteN n j))
          rwa [bts_set] at this
        have HNX := Lib.hid hnx
        have HCr := Lib.hid hCr
        have e5 : IntKind.i64.wrap (8 * (j : Int)) = 8 * (j : Int) := IntWalk.i64_in _ (by omega)
        have e7 : min (8 * j) 64 = 8 * j := by omega
        have bb : (byteN n j).toNat ≤ 255 := by have := (byteN n j).toNat_lt; omega
        clear hkj hnx hCr hWr
        go_wp2_with fail
        refine (load_yes HMr.out (k + j) false 1 rfl HKJ.out).mono ?_
        rintro e w' ⟨rfl, rfl⟩
        rw [HV.out]
        go_wp2_with fail
        go_roundw
        case rel =>
          have hq := HNX.out
          unfold B8 at hq
          exact ⟨j + 1, by omega, by go_num, hq, HCr.out.setCell (by simp) _⟩
        case measure => simp [intOf] <;> omega
      · obtain rfl : j = 8 := by omega
        have hBx : Bs wr (some ⟨w.heap.size, 0, none⟩) 128 128 (stL x0 k n 8) := bs_all hWr (by rw [stL_len]; exact HX.out) (by omega)
        have hcEnd : Chg [] w wr := HC3.out.then_ hCr fun i hi hlt => by simp only [List.mem_cons, List.not_mem_nil, or_false] at hi; omega
        have HB := Lib.hid (hBx.keep (Chg.refl [] wr).drew)
        have HMd := Lib.hid (HMr.out.keep (Chg.refl [] wr).drew)
        have HE := Lib.hid hcEnd
        have el : (stL x0 k n 8).length = 128 := by rw [stL_len]; exact HX.out
        have HEL := Lib.hid el
        clear hWr hCr hBx hcEnd el
        generalize stL x0 k n 8 = xe at *
        go_wp2_with fail
        have T := plainT_ok
        refine wp_flow (by kernel_rfl) plainT plainT_ok (by kernel_rfl) ?_
        refine flow_move_out T rfl rfl rfl ?_
        refine flow_move T rfl (keeps_isV _) (.inr (keeps_isV _)) rfl ?_
        refine flow_move_out T rfl rfl rfl ?_
        refine flow_move_out T rfl rfl rfl ?_
        refine flow_eql T (.inn rfl) (.inn rfl) (fun ev W he e1 e2 => by go_simp) rfl ?_
        refine flow_and T rfl rfl rfl ?_
        refine flow_move T rfl (keeps_isV _) (.inr (keeps_isV _)) rfl ?_
        refine flow_move_out T rfl rfl rfl ?_
        refine flow_calld (ownF 0 5 (bts xe)) (keeps_own _ _ _) (.inr (keeps_own _ _ _)) (by kernel_rfl) rfl (.cons (.inn rfl) .nil) (fun W hW => (mbytes_any (HMd.out.keep hW)).mono ?_) ?_
        · rintro e w' ⟨v, rfl, ho, hc⟩
          exact ⟨v, rfl, hc, by unfold ownF; rw [bts_len]; exact own_more ho (Nat.zero_le _)⟩
        refine flow_str T rfl Try.underlying40 Try.underlying5 Try.underlying9 rfl ?_
        refine flow_move_out T rfl rfl rfl ?_
        refine flow_strd T (.inn rfl) (fun W hW => HB.out.keep hW) Try.underlying40 Try.underlying5 Try.underlying9 rfl ?_
        refine flow_eql T (.inn rfl) (.inn rfl) (fun ev W he e1 e2 => by go_simp) rfl ?_
        refine flow_and T rfl rfl rfl ?_
        refine flow_move T rfl (keeps_isV _) (.inr (keeps_isV _)) rfl ?_
        refine flow_callv (.bool true) (by kernel_rfl) rfl .nil (fun W hW => (cknown_any).mono ?_) ?_
        · rintro e w' ⟨rfl, hc⟩; exact ⟨rfl, hc⟩
        refine flow_and T rfl rfl rfl ?_
        refine flow_assign T rfl (keeps_isV _) (.inr (keeps_isV _)) rfl ?_
        intro vs W hW hF
        have e6 : vs 6 = .bool true := hF 6 _ rfl rfl
        simp only [putAll, Act.put, List.setIfInBounds_toArray, List.set_cons_zero, List.set_cons_succ, e6]
        go_wp2_with fail
        go_ret
        exact ⟨rfl, HE.out.drew.new hW⟩
  · have hd : (r < 0 ∨ 120 < r) := by omega
    have HNo := Lib.hid (show r < 0 ∨ ((x0.length : Nat) : Int) - ((8 : Nat) : Int) < r by rw [HX.out]; omega)
    have HB := Lib.hid ((bs_all HW.out HX.out (by omega)).keep (Chg.refl [] w2).drew)
    have HMd := Lib.hid (HM.out.keep (Chg.refl [] w2).drew)
    have T := plainT_ok
    have HD := Lib.hid hd
    clear hin hd
    rcases HD.out with h0 | h0
    case' inl => have hf : decide (0 ≤ r) = false := by simpa using h0
    case' inr =>
      have hf : decide (r ≤ 120) = false := by simpa using h0
      have hf2 : 0 ≤ r := by omega
    all_goals
      go_wp2_with fail
      refine (store_no HM.out r n true 8 rfl HNo.out).mono ?_
      rintro e w' ⟨rfl, rfl⟩
      go_wp2_with fail
      refine wp_flow (by kernel_rfl) plainT plainT_ok (by kernel_rfl) ?_
      refine flow_move_out T rfl rfl rfl ?_
      refine flow_calld (ownF 0 5 (bts x0)) (keeps_own _ _ _) (.inr (keeps_own _ _ _)) (by kernel_rfl) rfl (.cons (.inn rfl) .nil) (fun W hW => (mbytes_any (HMd.out.keep hW)).mono ?_) ?_
      · rintro e w' ⟨v, rfl, ho, hc⟩
        exact ⟨v, rfl, hc, by unfold ownF; rw [bts_len]; exact own_more ho (Nat.zero_le _)⟩
      refine flow_str T rfl Try.underlying40 Try.underlying5 Try.underlying9 rfl ?_
      refine flow_move_out T rfl rfl rfl ?_
      refine flow_strd T (.inn rfl) (fun W hW => HB.out.keep hW) Try.underlying40 Try.underlying5 Try.underlying9 rfl ?_
      refine flow_eql T (.inn rfl) (.inn rfl) (fun ev W he e1 e2 => by go_simp) rfl ?_
      refine flow_move T rfl (keeps_isV _) (.inr (keeps_isV _)) rfl ?_
      refine flow_move_out T rfl rfl rfl ?_
      refine flow_calld (ownF 0 3 (nms [])) (keeps_own _ _ _) (.inr (keeps_own _ _ _)) (by kernel_rfl) rfl (.cons (.inn rfl) .nil) (fun W hW => (mdirty_any (HMd.out.keep hW)).mono ?_) ?_
      · rintro e w' ⟨v, rfl, ho, hc⟩
        exact ⟨v, rfl, hc, own_more ho (Nat.zero_le _)⟩
      refine flow_len_own 0 rfl T rfl (fun ev W A c he e1 => by go_simp) rfl ?_
      refine flow2 (r := .bool true) T rfl (.inn rfl) (.const _) rfl (fun ev W he e1 e2 => by go_simp) ?_
      refine flow_and T rfl rfl rfl ?_
      refine flow_move T rfl (keeps_isV _) (.inr (keeps_isV _)) rfl ?_
      refine flow_callv (.bool true) (by kernel_rfl) rfl .nil (fun W hW => (cknown_any).mono ?_) ?_
      · rintro e w' ⟨rfl, hc⟩; exact ⟨rfl, hc⟩
      refine flow_and T rfl rfl rfl ?_
      refine flow_assign T rfl (keeps_isV _) (.inr (keeps_isV _)) rfl ?_
      intro vs W hW hF
      have e6 : vs 6 = .bool true := hF 6 _ rfl rfl
      simp only [putAll, Act.put, List.setIfInBounds_toArray, List.set_cons_zero, List.set_cons_succ, e6]
      go_wp2_with fail
      go_ret
      exact ⟨rfl, HC.out.drew.new hW⟩
end
end Go.Proofs.Ytigbnmckdjlihaa
