/-
  The walk of ShadeNone.
-/
import Derived.Test.YtlhkmbcjgdjegaaShadeK
import Derived.Test.YtlhkmbcjgdjegaaMade
namespace Go.Proofs.Ytlhkmbcjgdjegaa
open Go.RowKit
theorem i64_and127 (n : Int) : bits .and .i64 n 127 = n % 128 := by
  have h127 : (BitVec.ofInt 64 127).toNat = 2 ^ 7 - 1 := by decide
  have key : (BitVec.ofInt 64 n &&& BitVec.ofInt 64 127).toNat = (n % ((2 ^ 64 : Nat) : Int)).toNat % 2 ^ 7 := by
    rw [BitVec.toNat_and, BitVec.toNat_ofInt, h127, Nat.and_two_pow_sub_one_eq_mod]
  show IntKind.i64.wrap ((BitVec.ofInt 64 n &&& BitVec.ofInt 64 127).toNat : Nat) = n % 128
  rw [key, IntKind.wrap_i64]
  omega
/-- Memories that are alike have no changes. -/
theorem chsS_same (L : List UInt8) (f : Nat) : ∀ k, k ≤ L.length / 64 → chsS L L f k = []
  | 0, _ => rfl
  | k + 1, h => by rw [chsS, chsS_same L f k (by omega), show sameP L L k = true from decide_eq_true ⟨by omega, rfl⟩]; rfl
theorem pg_at {L : List UInt8} {i j : Nat} (hj : j < 64) : (pg L i)[j]? = L[i * 64 + j]? := by
  unfold pg
  rw [List.getElem?_take, if_pos hj, List.getElem?_drop]
theorem pg_set_ne {L : List UInt8} {q i : Nat} {b : UInt8} (hi : i ≠ q / 64) : pg (L.set q b) i = pg L i := by
  apply List.ext_getElem?
  intro j
  rcases Nat.lt_or_ge j 64 with hj | hj
  · rw [pg_at hj, pg_at hj, List.getElem?_set_ne (by omega)]
  · unfold pg
    rw [List.getElem?_take, List.getElem?_take, if_neg (by omega), if_neg (by omega)]
theorem sameP_set {L : List UInt8} {q i : Nat} {b : UInt8} (hq : q < L.length) (hi : i < L.length / 64) (hb : L[q]? ≠ some b) : sameP L (L.set q b) i = decide (i ≠ q / 64) := by
  by_cases h : i = q / 64
  · subst h
    rw [decide_eq_false (by simp)]
    refine decide_eq_false fun h => hb ?_
    have h1 : (pg L (q / 64))[q % 64]? = (pg (L.set q b) (q / 64))[q % 64]? := congrArg (fun l : List UInt8 => l[q % 64]?) h.2
    rw [pg_at (by omega), pg_at (by omega), show q / 64 * 64 + q % 64 = q by omega, List.getElem?_set_self hq] at h1
    exact h1
  · rw [decide_eq_true h]
    exact decide_eq_true ⟨hi, (pg_set_ne h).symm⟩
theorem chsS_set {L : List UInt8} {q : Nat} {b : UInt8} (f : Nat) (hq : q < L.length) (hl : L.length % 64 = 0) (hb : L[q]? ≠ some b) : ∀ k, k ≤ L.length / 64 → chsS L (L.set q b) f k = if q / 64 < k then [(f + q / 64, pg (L.set q b) (q / 64))] else []
  | 0, _ => by simp [chsS]
  | k + 1, h => by
    rw [chsS, chsS_set f hq hl hb k (by omega), sameP_set hq (by omega) hb]
    by_cases e : k = q / 64
    · subst e
      rw [if_neg (show ¬ q / 64 < q / 64 by omega), if_pos (show q / 64 < q / 64 + 1 by omega), decide_eq_false (show ¬ (q / 64 ≠ q / 64) by simp)]
      rfl
    · rw [decide_eq_true (show k ≠ q / 64 from e)]
      by_cases h2 : q / 64 < k
      · rw [if_pos h2, if_pos (show q / 64 < k + 1 by omega)]; rfl
      · rw [if_neg h2, if_neg (show ¬ q / 64 < k + 1 by omega)]; rfl
theorem make192 (W : World) : (Instr.makeSlice 22 (.int .i64 192) (.int .i64 192)).run Try.prog W = .ok (.slice (some ⟨W.heap.size, 0, none⟩) 192 192) (W.alloc (.cells (bts (zeros 192)).toArray 5)) := make_u8 192 (by omega) W
theorem cof4 {w : World} {A : Option Addr} {c : Nat} {l : List UInt8} (h : Bs w A 192 c l) : Calls Try.prog 24 #[.slice A 192 c, .int .i64 4] w (NewPost w l 3 4) := cof_yes h.len h.src 4 (by omega) (by omega) (by omega)
/-- Changes of none. -/
theorem ch_none {w : World} {e : Ending} {w' : World} (h : ChPost w [] e w') : ∃ A c, e = .returned (.slice A 0 c) ∧ Chg [] w w' := by
  obtain ⟨v, ls, rfl, ho, _, hcs, hc⟩ := h
  have hn : ls.length = 0 := hcs.len
  rw [hn] at ho
  rcases ho.2 with ⟨rfl, _⟩ | ⟨g, cap, _, rfl, _⟩
  · exact ⟨_, _, rfl, hc⟩
  · exact ⟨_, _, rfl, hc⟩
/-- One change. -/
theorem ch_one {w : World} {p : Nat} {B : List UInt8} {e : Ending} {w' : World} (h : ChPost w [(p, B)] e w') : ∃ g c A, e = .returned (.slice (some ⟨g, 0, none⟩) 1 c) ∧ 1 ≤ c ∧ w'.cell? ⟨g, 0, none⟩ = some (.int .i64 (p : Int)) ∧ w'.cell? ⟨g, 1, none⟩ = some (.slice A 64 64) ∧ Bs w' A 64 64 B ∧ Chg [] w w' := by
  obtain ⟨v, ls, rfl, ho, hmade, hcs, hc⟩ := h
  have hn : ls.length = 1 := hcs.len
  rw [hn] at ho
  obtain ⟨g, c, rfl, hgc, hl, hat⟩ := chs_at ho (by omega) hmade
  obtain ⟨a, h0⟩ : ∃ a, ls[0]? = some a := ⟨_, List.getElem?_eq_getElem (by omega)⟩
  obtain ⟨e0, e1, hB⟩ := hat 0 a h0
  obtain ⟨p0, q0⟩ := hcs.at (k := 0) h0 rfl
  rw [p0] at e0
  rw [q0] at hB
  exact ⟨g, c, a.bA, rfl, hgc, e0, e1, hB, hc⟩
section
variable {w : World} {A : Option Addr} {n c : Nat} {l : List UInt8}
set_option maxHeartbeats 2000000 in
set_option maxRecDepth 100000 in
theorem shadeNone_any (h : Bs w A n c l) (at_ m first : Int) :
    Calls Try.prog 7 #[.slice A n c, .int .i64 at_, .int .i64 m, .int .i64 first] w (LawPost w) := by
  obtain ⟨f, hf, hf255⟩ : ∃ f : Nat, bits .and .i64 first 255 = (f : Int) ∧ f ≤ 255 := ⟨(first % 256).toNat, by rw [i64_and255]; omega, by omega⟩
  obtain ⟨q, hq, hq127, hqm⟩ : ∃ q : Nat, bits .and .i64 at_ 127 = (q : Int) ∧ q ≤ 127 ∧ (q : Int) = at_ % 128 := ⟨(at_ % 128).toNat, by rw [i64_and127]; omega, by omega, by omega⟩
  have hr : bits .and .i64 at_ 63 = ((q % 64 : Nat) : Int) := by rw [i64_and63]; omega
  obtain ⟨r, hre, hr63⟩ : ∃ r, r = q % 64 ∧ r < 64 := ⟨_, rfl, by omega⟩
  rw [← hre] at hr
  obtain ⟨b, hb⟩ : ∃ b, b = byteN m 0 := ⟨_, rfl⟩
  have hm : bits .and .i64 m 255 = (b.toNat : Int) := by rw [i64_and255, hb, byteN_int]; simp
  have hmc : m % 256 = (b.toNat : Int) := by rw [hb, byteN_int]; simp
  have hdiv : (q : Int).tdiv 64 = ((q / 64 : Nat) : Int) := by rw [Int.tdiv_eq_ediv_of_nonneg (by omega)]; omega
  obtain ⟨j, hj⟩ : ∃ j, j = q / 64 := ⟨_, rfl⟩
  rw [← hj] at hdiv
  have HJ := Lib.hid hj
  have HRE := Lib.hid hre
  have HBm := Lib.hid hb
  clear hqm hj hre hb
  have hmk := make192
  have Hn := Lib.hid (take_min h 192)
  have Hf := take_fits 192 l
  have hY1 := bts_one (l.take 192)
  have hsp := Lib.hid (padN_bts 192 l)
  have hsr := src_take h 192
  generalize bts (l.take 192) = Y at Hn Hf hY1 hsp hsr
  have HPl := Lib.hid (padN_len 192 l)
  generalize padN 192 l = X at hsp HPl
  have hG0 := Whole.new w 5 (bts (zeros 192))
  have hC0 : Chg [] w (w.alloc (.cells (bts (zeros 192)).toArray 5)) := (Chg.refl [] w).alloc _
  have hsr2 := hsr.keep hC0
  clear h hsr
  go_enter Try.func7, Try.ntmps7
  go_wp2_with (with_reducible refine wpList_copy_chg rfl (.tmp 17) (.tmp 18) _ _ rfl 5 Try.underlying22 size_u8 (some ⟨w.heap.size, 0, none⟩) A 192 192 n c rfl rfl w.heap.size 0 5 (bts (zeros 192)) Y hG0 Hn.out (fun _ => rfl) hsr2 Hf hY1 ?_
               intro w1 HG1 HC1)
  rw [hsp.out] at HG1
  have HB : Hid (Bs w1 (some ⟨w.heap.size, 0, none⟩) 192 192 X) := Lib.hid (by have := Bs.of_all HG1 (by rw [HPl.out]; omega); rwa [HPl.out] at this)
  have HC := Lib.hid (hC0.then_ HC1 fun i hi hlt => by simp only [List.mem_cons, List.not_mem_nil, or_false] at hi; omega)
  clear HG1 HC1 hC0 hG0 hsr2 hsp Hn Hf hY1
  refine (cof4 HB.out).mono ?_
  rintro e w2 ⟨p, gC, gD, rfl, hM, -, -, -, hc2⟩
  have HM := Lib.hid hM
  have HC2 := Lib.hid (HC.out.new hc2)
  clear hM hc2
  go_wp2_with fail
  refine (mcopy_any HM.out).mono ?_
  rintro e w3 ⟨p3, hC, hD, rfl, hO, b0, b1, b2, hc3⟩
  have HO := Lib.hid hO
  have HM3 := Lib.hid (HM.out.keep hc3)
  have HC3 := Lib.hid (HC2.out.new hc3)
  have HLT := Lib.hid (show p < w2.heap.size ∧ gC < w2.heap.size ∧ gD < w2.heap.size ∧ w.heap.size ≤ w2.heap.size from ⟨HM.out.rec_.lt, HM.out.cel.lt, HM.out.dir.lt, HC2.out.size⟩)
  have HGE := Lib.hid (show w2.heap.size ≤ p3 ∧ w2.heap.size ≤ hC ∧ w2.heap.size ≤ hD from ⟨b0, b1, b2⟩)
  clear hO b0 b1 b2 hc3
  go_wp2_with fail
  refine (shchanges_any HM3.out HO.out f (by omega)).mono ?_
  intro e w4 hch
  rw [show chsS X X f (falses (falses 3).length).length = [] from chsS_same X f _ (by rw [HPl.out]; decide)] at hch
  obtain ⟨A4, c4, rfl, hc4⟩ := ch_none hch
  have HO4 := Lib.hid (HO.out.keep hc4)
  have HM4 := Lib.hid (HM3.out.keep hc4)
  have HC4 := Lib.hid (HC3.out.new hc4)
  clear hch hc4
  go_wp2_with fail
  obtain ⟨cx, hcx⟩ : ∃ c, X[q]? = some c := ⟨_, List.getElem?_eq_getElem (by rw [HPl.out]; omega)⟩
  refine (load_yes HO4.out q false 1 rfl (by rw [HPl.out]; omega)).mono ?_
  rintro e w' ⟨rfl, rfl⟩
  rw [ldI_one X q cx hcx]
  go_wp2_with fail
  refine (store_yes HO4.out q m false 1 rfl (by rw [HPl.out]; omega)).mono ?_
  rintro e w5 ⟨rfl, hO5, hc5⟩
  have hst : stL X q m 1 = X.set q b := by rw [HBm.out]; rfl
  rw [hst] at hO5
  have hlt := HLT.out
  have hge := HGE.out
  have HO5 := Lib.hid hO5
  have HM5 := Lib.hid (HM4.out.away hc5 (not2' (by omega) (by omega)) (not2' (by omega) (by omega)) (not2' (by omega) (by omega)))
  have HC5 := Lib.hid (HC4.out.then_ hc5 fun i hi hl => by
    rcases (by simpa using hi : i = hC ∨ i = hD) with e | e <;> omega)
  clear hO5 hc5 hlt hge hst
  go_wp2_with fail
  refine (shchanges_any HM5.out HO5.out f (by omega)).mono ?_
  intro e w6 hch
  rw [show (stV (falses (falses 3).length) q 1).length = 3 by rw [stV_len]; rfl] at hch
  have hbq := b.toNat_lt
  by_cases hbc : b = cx
  · have hXs : X.set q b = X := by
      rw [hbc]
      apply List.ext_getElem?
      intro i
      by_cases e : q = i
      · subst e; rw [List.getElem?_set_self (by rw [HPl.out]; omega), hcx]
      · rw [List.getElem?_set_ne e]
    rw [hXs, chsS_same X f 3 (by rw [HPl.out]; decide)] at hch
    obtain ⟨A6, c6, rfl, hc6⟩ := ch_none hch
    have HC6 := Lib.hid (HC5.out.new hc6)
    have hbi : (cx.toNat : Int) = (b.toNat : Int) := by rw [hbc]
    rw [hbi]
    clear hch hc6 hXs hbi hbc
    go_wp2_with fail
    refine shknown_any.mono ?_
    rintro e w7 ⟨rfl, hc7⟩
    have HC7 := Lib.hid (HC6.out.new hc7)
    clear hc7
    go_wp2_with fail
    go_ret
    exact ⟨rfl, HC7.out⟩
  · have hbi : ¬ (cx.toNat : Int) = (b.toNat : Int) := fun h => hbc (UInt8.toNat_inj.1 (by omega)).symm
    rw [chsS_set f (by rw [HPl.out]; omega) (by rw [HPl.out]) (by rw [hcx]; intro h; injection h with h; exact hbc h.symm) 3 (by rw [HPl.out]; decide), if_pos (by omega), ← HJ.out] at hch
    obtain ⟨g, c6, A6, rfl, hc61, e0, e1, hB6, hc6⟩ := ch_one hch
    have hx := hB6.src (by rw [bts_len, hB6.len]; omega)
    obtain ⟨⟨bb, ob, sb⟩, rfl, _, hx⟩ := hx
    obtain rfl : sb = none := hB6.spot (by omega) _ rfl
    have d3 := hx r (B8 b) (by unfold bts; rw [List.getElem?_map, pg_at hr63, show j * 64 + r = q by rw [HJ.out, HRE.out]; omega, List.getElem?_set_self (by rw [HPl.out]; omega)]; rfl)
    rw [add_plain] at d3
    have d3' : w6.cell? ⟨bb, ob + r, none⟩ = some (.int .u8 (b.toNat : Int)) := d3
    have e0' : w6.cell? ⟨g, 0, none⟩ = some (.int .i64 ((f : Int) + (j : Int))) := by rw [e0]; simp
    have hjb : j ≤ 1 := by rw [HJ.out]; omega
    have HC6 := Lib.hid (HC5.out.new hc6)
    clear hch hc6 hx d3 e0 hbc hB6
    go_wp2_with fail
    refine shknown_any.mono ?_
    rintro e w7 ⟨rfl, hc7⟩
    have HC7 := Lib.hid (HC6.out.new hc7)
    clear hc7
    go_wp2_with fail
    go_ret
    exact ⟨rfl, HC7.out⟩
end
end Go.Proofs.Ytlhkmbcjgdjegaa
