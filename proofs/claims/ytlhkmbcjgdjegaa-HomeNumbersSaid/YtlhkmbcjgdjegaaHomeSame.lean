/-
  The law's same of layer 17.
-/
import Derived.Test.YtlhkmbcjgdjegaaHomeAll
import Derived.Test.YtlhkmbcjgdjegaaAlikeH
import Derived.Test.YtlhkmbcjgdjegaaPairH
namespace Go.Proofs.Ytlhkmbcjgdjegaa
open Go.RowKit
theorem Rows.more {B B' : Nat} {w : World} {vs : List Value} {rs : List (List UInt8)} (h : Rows B w vs rs) (hB : B' ≤ B) : Rows B' w vs rs := ⟨h.1, fun i v l hv hl => own_more (h.2 i v l hv hl) hB⟩
/-- A row of rows of the call's own. -/
def rowsF (B : Nat) (ls : List (List UInt8)) : Fact := fun v W => ∃ vs, W.ownsRow B 22 1 v ls.length vs ∧ Rows B W vs ls
theorem keeps_rows (B : Nat) (ls : List (List UInt8)) : Keeps (Chg []) (rowsF B ls) := fun _ _ _ ⟨vs, h1, h2⟩ hc => ⟨vs, own_keep h1 hc, h2.keep hc⟩
/-- Bytes stay where other blocks are written. -/
theorem Bs.away {w w' : World} {A : Option Addr} {n c : Nat} {l : List UInt8} {T : List Nat} (h : Bs w A n c l) (hc : Chg T w w') (hA : ∀ ad, A = some ad → ad.block ∉ T) : Bs w' A n c l :=
  ⟨h.len, h.src.chg hc fun _ => hA, h.cap, h.max, h.spot⟩
theorem Bs.blk {w : World} {A : Option Addr} {n c : Nat} {l : List UInt8} (h : Bs w A n c l) (h0 : 0 < n) : ∀ ad, A = some ad → ad.block < w.heap.size := fun ad e => by
  obtain ⟨ad', e', hb, _⟩ := h.src (by rw [bts_len, h.len]; exact h0)
  rw [e] at e'; injection e' with e'; subst e'; exact hb
section
variable {w : World} {A C : Option Addr} {n c m d : Nat} {l x : List UInt8}
set_option maxHeartbeats 1600000 in
set_option maxRecDepth 100000 in
theorem hsame_any (h : Bs w A n c l) (h1 : 64 ≤ n) (h2 : n < 10304) (h3 : n % 64 = 0) (L P E i : Int) (hx : Bs w C m d x) (hC : 0 < m → ∀ ad, C = some ad → ad.block < w.heap.size) :
    Calls Try.prog 15 #[.slice A n c, rootV L P E, .int .i64 i, .slice C m d] w (LawPost w) := by
  have hr0 : rootV L P E = .agg #[.int .i64 L, .int .i64 P, .int .u32 E] := rfl
  have H := Lib.hid h
  have HI := Lib.hid hx
  have HCb := Lib.hid hC
  have H3 := Lib.hid h3
  have hxl := hx.len
  clear h hx hC h3
  rw [hr0]
  go_enter Try.func15, Try.ntmps15
  go_wp2_with fail
  have hR := Whole.new w 26 [.int .i64 L, .int .i64 P, .int .u32 E]
  have hc1 : Chg [] w (w.alloc (.cells #[.int .i64 L, .int .i64 P, .int .u32 E] 26)) := (Chg.refl [] w).alloc _
  obtain ⟨g, hg⟩ : ∃ g, g = w.heap.size := ⟨_, rfl⟩
  rw [← hg] at hR ⊢
  generalize w.alloc (.cells #[.int .i64 L, .int .i64 P, .int .u32 E] 26) = w1 at hc1 hR ⊢
  clear hg
  have hglt := hR.lt
  have HC1 := Lib.hid hc1
  go_wp2_with fail
  refine (pairH_any (H.out.keep HC1.out) h1 h2 H3.out).mono ?_
  rintro e w2 ⟨k, rL, rN, m2, rfl, hT, hA, hc2⟩
  have HTa := Lib.hid hT
  have HAp := Lib.hid hA
  have HRa := Lib.hid (hR.keep hc2)
  have HCa := Lib.hid (HC1.out.new hc2)
  have HIa := Lib.hid ((HI.out.keep HC1.out).keep hc2)
  have HG := Lib.hid (show g ≠ k.q ∧ g ≠ k.gN ∧ g ≠ k.gW by have h1 := hA.low2.1; have h2 := hA.low2.2.2.1; have h3 := hA.low2.2.2.2; omega)
  have HG2 := Lib.hid (show g ≠ k.bS ∧ g ≠ k.bW by have h1 := hA.low.2.2.1; have h2 := hA.low.2.2.2; omega)
  have HX3 := Lib.hid (show 0 < m → ∀ ad, C = some ad → ad.block ≠ k.q from fun h0 ad e => by have h1 := HCb.out h0 ad e; have h2 := hA.low2.1; have h3 := HC1.out.size; omega)
  have HX4 := Lib.hid (show 0 < m → ∀ ad, C = some ad → ad.block ∉ [k.q, k.gN, k.gW] from fun h0 ad e => by have h1 := HCb.out h0 ad e; have h2 := hA.low2.1; have h4 := hA.low2.2.2.1; have h5 := hA.low2.2.2.2; have h3 := HC1.out.size; exact not3 (by omega) (by omega) (by omega))
  clear hT hA hc2 hR hc1 hglt HCb
  generalize St.img l = s0 at HTa
  have hld := fun (W : World) (hW : Chg [] w2.drew W) => root_cells (HRa.out.drew.keep hW)
  go_wp2_with fail
  refine wp_flow (by kernel_rfl) plainT plainT_ok (by kernel_rfl) ?_
  refine flow1h (r := rootV L P E) plainT_ok rfl (.out rfl rfl) rfl (fun ev W he hW e1 => by obtain ⟨c0, c1, c2, _, _, _⟩ := hld W hW; go_simp) ?_
  refine flow_move_out plainT_ok rfl rfl rfl ?_
  refine flow_callv (.int .i64 (s0.V.length : Int)) (by kernel_rfl) rfl (.cons (.inn rfl) .nil) (fun W hW => (rlen_any (HTa.out.keep (wdrew hW)).r).mono ?_) ?_
  · rintro e w' ⟨rfl, rfl⟩; exact ⟨rfl, Chg.refl _ _⟩
  refine flow_callv (.bool (rightR L P E s0.V.length)) (by kernel_rfl) rfl (.cons (.inn rfl) (.cons (.inn rfl) .nil)) (fun W hW => (rrright_any _ _ _ _).mono ?_) ?_
  · rintro e w' ⟨rfl, hc⟩; exact ⟨rfl, hc⟩
  refine flow_assign plainT_ok rfl (keeps_isV _) (.inr (keeps_isV _)) rfl ?_
  intro vs W hW hF
  have e11 : vs 11 = .bool (rightR L P E s0.V.length) := hF 11 _ rfl rfl
  simp only [putAll, Act.put, List.setIfInBounds_toArray, List.set_cons_zero, List.set_cons_succ, e11]
  have HTc := Lib.hid (HTa.out.keep (wdrew hW))
  have HRc := Lib.hid (HRa.out.keep (wdrew hW))
  have HCc := Lib.hid (HCa.out.new (wdrew hW))
  have HIc := Lib.hid (HIa.out.keep (wdrew hW))
  clear hW hF hld HTa HRa HCa HIa e11
  obtain ⟨c0, c1, c2, _, _, _⟩ := root_cells HRc.out
  go_wp2_with fail
  refine (rhome_any L P E i).mono ?_
  rintro e w3 ⟨rfl, hc3⟩
  have HTb := Lib.hid (HTc.out.keep hc3)
  have HRb := Lib.hid (HRc.out.keep hc3)
  have HCb := Lib.hid (HCc.out.new hc3)
  have HIb := Lib.hid (HIc.out.keep hc3)
  clear hc3 c0 c1 c2 HTc HRc HCc HIc
  by_cases hh : hasR L P E i s0.V.length = true
  · obtain ⟨hrr, q, hk, hkn, -⟩ := hasR_yes hh
    rw [hk, hrr]
    have HX := Lib.hid (show (homeI L P i).toNat = q by rw [hk]; omega)
    have HS := Lib.hid (show sectL s0.S s0.V.length q = (s0.S.drop (q * 64)).take 64 by unfold sectL; rw [if_pos hkn])
    have HSl := Lib.hid (sectL_len (k := q) HTb.out.d.lenS hkn)
    clear hk
    go_wp2_with fail
    refine (rread_own HTb.out.r q hkn).mono ?_
    rintro e w4 ⟨v4, rfl, ho4, hc4⟩
    rw [← HS.out] at ho4
    have ho4' := ho4
    rw [← HSl.out] at ho4'
    obtain ⟨A4, c4, rfl, hB4, _⟩ := Bs.of_own ho4'
    rw [HSl.out] at hB4 ⊢
    have HBw := Lib.hid hB4
    have HT2 := Lib.hid (HTb.out.keep hc4)
    have HR2 := Lib.hid (HRb.out.keep hc4)
    have HC2 := Lib.hid (HCb.out.new hc4)
    have HI2 := Lib.hid (HIb.out.keep hc4)
    clear ho4 ho4' hB4 hc4
    by_cases hm : m = 64
    · subst hm
      obtain ⟨c0, c1, c2, _, _, _⟩ := root_cells HR2.out
      go_wp2_with fail
      refine (hpage_any HT2.out.d L P E i).mono ?_
      rintro e w5 (⟨_, v5, rfl, ho5, hc5⟩ | ⟨hno, _⟩)
      rotate_left
      · rw [hh] at hno; cases hno
      rw [HX.out] at ho5
      obtain ⟨X, hX⟩ : ∃ X, X = sectL s0.S s0.V.length q := ⟨_, rfl⟩
      rw [← hX] at ho5
      obtain ⟨A5, c5, rfl, hB5, _⟩ := Bs.of_own ho5
      have hBw := HBw.out
      rw [← hX] at hBw
      have str5 := hB5.str (P := Try.prog) 22 5 9 Try.underlying22 Try.underlying5 Try.underlying9
      have strw := (hBw.keep hc5).str (P := Try.prog) 22 5 9 Try.underlying22 Try.underlying5 Try.underlying9
      clear ho5 hB5 hBw hX
      have HT5 := Lib.hid (HT2.out.keep hc5)
      have HR5 := Lib.hid (HR2.out.keep hc5)
      have HC5 := Lib.hid (HC2.out.new hc5)
      have HI5 := Lib.hid (HI2.out.keep hc5)
      clear hc5 c0 c1 c2
      obtain ⟨c0, c1, c2, _, _, _⟩ := root_cells HR5.out
      go_wp2_with fail
      refine (rwrite_yes HT5.out.r q hkn hxl HI5.out.src (HX3.out (by omega))).mono ?_
      rintro e w6 ⟨m6, rfl, hR6, hc6⟩
      have HR6 := Lib.hid (HR5.out.chg hc6 (not3 HG.out.1 HG.out.2.1 HG.out.2.2))
      have HD6 := Lib.hid (HAp.out.dsk HT5.out.d hc6)
      have HF6 := Lib.hid hR6
      have HC6 := Lib.hid (HAp.out.new2 HC5.out HC1.out.size hc6)
      have HI6 := Lib.hid (HI5.out.away hc6 (HX4.out (by omega)))
      clear hR6 hc6 c0 c1 c2
      obtain ⟨c0, c1, c2, _, _, _⟩ := root_cells HR6.out
      go_wp2_with fail
      refine (hput_any HD6.out L P E i HI6.out).mono ?_
      rintro e w7 (⟨_, _, rfl, hD7, hc7⟩ | ⟨hno, _⟩)
      rotate_left
      · exact absurd ⟨hh, hxl⟩ hno
      rw [HX.out] at hD7
      have HT7 := Lib.hid (Two.mk hD7 (HAp.out.ref HF6.out hc7))
      have HR7 := Lib.hid (HR6.out.chg hc7 (not2' HG2.out.1 HG2.out.2))
      have HC7 := Lib.hid (HAp.out.new1 HC6.out HC1.out.size hc7)
      clear hD7 hc7 c0 c1 c2
      generalize s0.write q x = s7 at HT7 HF6
      go_wp2_with fail
      refine (alikeH_yes HT7.out.d HT7.out.r).mono ?_
      rintro e w8 ⟨rfl, hc8⟩
      have HT8 := Lib.hid (HT7.out.keep hc8)
      have HR8 := Lib.hid (HR7.out.keep hc8)
      have HC8 := Lib.hid (HC7.out.new hc8)
      clear hc8
      have hld := fun (W : World) (hW : Chg [] w8.drew W) => root_cells (HR8.out.drew.keep hW)
      go_wp2_with fail
      refine wp_flow (by kernel_rfl) plainT plainT_ok (by kernel_rfl) ?_
      refine flow_move_out plainT_ok rfl rfl rfl ?_
      refine flow1h (r := rootV L P E) plainT_ok rfl (.out rfl rfl) rfl (fun ev W he hW e1 => by obtain ⟨c0, c1, c2, _, _, _⟩ := hld W hW; go_simp) ?_
      refine flow_calld (rowsF w8.drew.heap.size (allL s7 L P E)) (keeps_rows _ _) (.inr (keeps_rows _ _)) (by kernel_rfl) rfl (.cons (.inn rfl) (.cons (.inn rfl) .nil)) (fun W hW => (hall_any (HT8.out.keep (wdrew hW)).d L P E).mono ?_) ?_
      · rintro e w' ⟨v, us, rfl, ho, hr, hc⟩; exact ⟨v, rfl, hc, us, own_more ho hW.size, hr.more hW.size⟩
      refine flow_move_out plainT_ok rfl rfl rfl ?_
      refine flow1h (r := rootV L P E) plainT_ok rfl (.out rfl rfl) rfl (fun ev W he hW e1 => by obtain ⟨c0, c1, c2, _, _, _⟩ := hld W hW; go_simp) ?_
      refine flow_calld (rowsF w8.drew.heap.size (allL s7 L P E)) (keeps_rows _ _) (.inr (keeps_rows _ _)) (by kernel_rfl) rfl (.cons (.inn rfl) (.cons (.inn rfl) .nil)) (fun W hW => (rall_any (HT8.out.keep (wdrew hW)).r L P E).mono ?_) ?_
      · rintro e w' ⟨v, us, rfl, ho, hr, hc⟩; exact ⟨v, rfl, hc, us, own_more ho hW.size, hr.more hW.size⟩
      refine flow_assign plainT_ok rfl (keeps_rows _ _) (.inr (keeps_rows _ _)) rfl ?_
      refine flow_assign plainT_ok rfl (keeps_rows _ _) (.inr (keeps_rows _ _)) rfl ?_
      intro vs W hW hF
      have e18 : rowsF w8.drew.heap.size (allL s7 L P E) (vs 18) W := hF 18 _ rfl rfl
      have e19 : rowsF w8.drew.heap.size (allL s7 L P E) (vs 19) W := hF 19 _ rfl rfl
      generalize allL s7 L P E = rs at e18 e19
      obtain ⟨us3, ho3, hr3⟩ := e18
      obtain ⟨us4, ho4, hr4⟩ := e19
      have hmx := own_le ho3
      obtain ⟨A3, c3, hv3, hl3, _, hs3, hA3⟩ := own_slice ho3
      obtain ⟨A4, c4, hv4, hl4, _, hs4, hA4⟩ := own_slice ho4
      simp only [putAll, Act.put, List.setIfInBounds_toArray, List.set_cons_zero, List.set_cons_succ, hv3, hv4]
      have HCW := Lib.hid (HC8.out.new (wdrew hW))
      have HL3 := Lib.hid hl3
      have HL4 := Lib.hid hl4
      clear hl3 hl4 hv3 hv4 ho3 ho4 hF hW hld
      obtain ⟨t, ht⟩ : ∃ t, t = rs.length := ⟨_, rfl⟩
      rw [← ht] at hmx ⊢
      unfold maxLen at hmx
      have HT := Lib.hid ht
      clear ht
      go_wp2_with fail
      go_loopw [116] (fun i wr => (∃ j : Nat, j ≤ t ∧ i = .int .i64 (j : Int)) ∧ Chg [] W wr) (fun i _ => t - (intOf i).toNat)
      case atStart => exact ⟨⟨0, Nat.zero_le _, rfl⟩, Chg.refl _ _⟩
      case round =>
        obtain ⟨⟨j, hj, rfl⟩, hcr⟩ := hrel
        by_cases hl2 : j < t
        · obtain ⟨⟨b3, o3, s3⟩, rfl, _, hx3⟩ := (hs3.keep hcr) (by have := HL3.out; have := HT.out; omega)
          obtain rfl : s3 = none := (hA3 _ rfl).1
          obtain ⟨⟨b4, o4, s4⟩, rfl, _, hx4⟩ := (hs4.keep hcr) (by have := HL4.out; have := HT.out; omega)
          obtain rfl : s4 = none := (hA4 _ rfl).1
          obtain ⟨x3, hv3⟩ : ∃ x, us3[j]? = some x := ⟨_, List.getElem?_eq_getElem (by have := HL3.out; have := HT.out; omega)⟩
          obtain ⟨x4, hv4⟩ : ∃ x, us4[j]? = some x := ⟨_, List.getElem?_eq_getElem (by have := HL4.out; have := HT.out; omega)⟩
          obtain ⟨r, hr⟩ : ∃ r, rs[j]? = some r := ⟨_, List.getElem?_eq_getElem (by have := HT.out; omega)⟩
          obtain ⟨A5, c5, rfl, hB5, _⟩ := Bs.of_own (hr3.2 j x3 r hv3 hr)
          obtain ⟨A6, c6, rfl, hB6, _⟩ := Bs.of_own (hr4.2 j x4 r hv4 hr)
          have c3j := hx3 j _ hv3
          have c4j := hx4 j _ hv4
          rw [add_plain] at c3j c4j
          clear hx3 hx4 hv3 hv4 hr
          have hjt : (j : Int) < (t : Int) := by omega
          have hj0 : (0 : Int) ≤ (j : Int) := by omega
          have kp : ∀ W, Chg [] wr.drew W → Chg [] wr W := fun W hW => (Chg.refl [] wr).drew.new hW
          go_wp2_with fail
          refine wp_flow (by kernel_rfl) plainT plainT_ok (by kernel_rfl) ?_
          refine flow_move_out plainT_ok rfl rfl rfl ?_
          refine flow_move_out plainT_ok rfl rfl rfl ?_
          refine flow2 (r := .pointer (some ⟨b3, o3 + j, none⟩)) plainT_ok rfl (.inn rfl) (.inn rfl) rfl (fun ev W he e1 e2 => by go_simp) ?_
          refine flow1h (r := .slice A5 r.length c5) plainT_ok rfl (.inn rfl) rfl (fun ev W he hW e1 => by have c0 := cell_keep c3j (kp W hW); go_simp) ?_
          refine flow_strd plainT_ok (.inn rfl) (fun W hW => (hB5.keep hcr).keep (kp W hW)) Try.underlying22 Try.underlying5 Try.underlying9 rfl ?_
          refine flow_move_out plainT_ok rfl rfl rfl ?_
          refine flow_move_out plainT_ok rfl rfl rfl ?_
          refine flow2 (r := .pointer (some ⟨b4, o4 + j, none⟩)) plainT_ok rfl (.inn rfl) (.inn rfl) rfl (fun ev W he e1 e2 => by go_simp) ?_
          refine flow1h (r := .slice A6 r.length c6) plainT_ok rfl (.inn rfl) rfl (fun ev W he hW e1 => by have c0 := cell_keep c4j (kp W hW); go_simp) ?_
          refine flow_strd plainT_ok (.inn rfl) (fun W hW => (hB6.keep hcr).keep (kp W hW)) Try.underlying22 Try.underlying5 Try.underlying9 rfl ?_
          refine flow2 (r := .bool false) plainT_ok rfl (.inn rfl) (.inn rfl) rfl (fun ev W he e1 e2 => by go_simp) ?_
          intro vs W2 hW2 hF
          have e88 : vs 129 = .bool false := hF 129 _ rfl rfl
          have hcW := kp W2 hW2
          simp only [putAll, Act.put, List.setIfInBounds_toArray, List.set_cons_zero, List.set_cons_succ, e88]
          clear hW2 hF
          go_wp2_with fail
          go_roundw
          case rel => exact ⟨⟨j + 1, by omega, by go_num⟩, hcr.new hcW⟩
          case measure => simp [intOf]; omega
        · obtain rfl : j = t := by omega
          go_wp2_with fail
          go_ret
          exact ⟨rfl, HCW.out.new hcr⟩
    · have hm' : ¬ (m : Int) = 64 := by omega
      obtain ⟨c0, c1, c2, _, _, _⟩ := root_cells HR2.out
      go_wp2_with fail
      refine (hpage_any HT2.out.d L P E i).mono ?_
      rintro e w5 (⟨_, v5, rfl, ho5, hc5⟩ | ⟨hno, _⟩)
      rotate_left
      · rw [hh] at hno; cases hno
      rw [HX.out] at ho5
      obtain ⟨X, hX⟩ : ∃ X, X = sectL s0.S s0.V.length q := ⟨_, rfl⟩
      rw [← hX] at ho5
      obtain ⟨A5, c5, rfl, hB5, _⟩ := Bs.of_own ho5
      have hBw := HBw.out
      rw [← hX] at hBw
      have str5 := hB5.str (P := Try.prog) 22 5 9 Try.underlying22 Try.underlying5 Try.underlying9
      have strw := (hBw.keep hc5).str (P := Try.prog) 22 5 9 Try.underlying22 Try.underlying5 Try.underlying9
      clear ho5 hB5 hBw hX
      have HT5 := Lib.hid (HT2.out.keep hc5)
      have HR5 := Lib.hid (HR2.out.keep hc5)
      have HC5 := Lib.hid (HC2.out.new hc5)
      have HI5 := Lib.hid (HI2.out.keep hc5)
      clear hc5 c0 c1 c2
      obtain ⟨c0, c1, c2, _, _, _⟩ := root_cells HR5.out
      go_wp2_with fail
      refine (hput_any HT5.out.d L P E i HI5.out).mono ?_
      rintro e w7 (⟨ha, hb, _⟩ | ⟨_, rfl, hc7⟩)
      · exact absurd hb (by omega)
      have HT7 := Lib.hid (HT5.out.keep hc7)
      have HR7 := Lib.hid (HR5.out.keep hc7)
      have HC7 := Lib.hid (HC5.out.new hc7)
      clear hc7 c0 c1 c2
      go_wp2_with fail
      refine (alikeH_yes HT7.out.d HT7.out.r).mono ?_
      rintro e w8 ⟨rfl, hc8⟩
      have HT8 := Lib.hid (HT7.out.keep hc8)
      have HR8 := Lib.hid (HR7.out.keep hc8)
      have HC8 := Lib.hid (HC7.out.new hc8)
      clear hc8
      have hld := fun (W : World) (hW : Chg [] w8.drew W) => root_cells (HR8.out.drew.keep hW)
      go_wp2_with fail
      refine wp_flow (by kernel_rfl) plainT plainT_ok (by kernel_rfl) ?_
      refine flow_move_out plainT_ok rfl rfl rfl ?_
      refine flow1h (r := rootV L P E) plainT_ok rfl (.out rfl rfl) rfl (fun ev W he hW e1 => by obtain ⟨c0, c1, c2, _, _, _⟩ := hld W hW; go_simp) ?_
      refine flow_calld (rowsF w8.drew.heap.size (allL s0 L P E)) (keeps_rows _ _) (.inr (keeps_rows _ _)) (by kernel_rfl) rfl (.cons (.inn rfl) (.cons (.inn rfl) .nil)) (fun W hW => (hall_any (HT8.out.keep (wdrew hW)).d L P E).mono ?_) ?_
      · rintro e w' ⟨v, us, rfl, ho, hr, hc⟩; exact ⟨v, rfl, hc, us, own_more ho hW.size, hr.more hW.size⟩
      refine flow_move_out plainT_ok rfl rfl rfl ?_
      refine flow1h (r := rootV L P E) plainT_ok rfl (.out rfl rfl) rfl (fun ev W he hW e1 => by obtain ⟨c0, c1, c2, _, _, _⟩ := hld W hW; go_simp) ?_
      refine flow_calld (rowsF w8.drew.heap.size (allL s0 L P E)) (keeps_rows _ _) (.inr (keeps_rows _ _)) (by kernel_rfl) rfl (.cons (.inn rfl) (.cons (.inn rfl) .nil)) (fun W hW => (rall_any (HT8.out.keep (wdrew hW)).r L P E).mono ?_) ?_
      · rintro e w' ⟨v, us, rfl, ho, hr, hc⟩; exact ⟨v, rfl, hc, us, own_more ho hW.size, hr.more hW.size⟩
      refine flow_assign plainT_ok rfl (keeps_rows _ _) (.inr (keeps_rows _ _)) rfl ?_
      refine flow_assign plainT_ok rfl (keeps_rows _ _) (.inr (keeps_rows _ _)) rfl ?_
      intro vs W hW hF
      have e18 : rowsF w8.drew.heap.size (allL s0 L P E) (vs 18) W := hF 18 _ rfl rfl
      have e19 : rowsF w8.drew.heap.size (allL s0 L P E) (vs 19) W := hF 19 _ rfl rfl
      generalize allL s0 L P E = rs at e18 e19
      obtain ⟨us3, ho3, hr3⟩ := e18
      obtain ⟨us4, ho4, hr4⟩ := e19
      have hmx := own_le ho3
      obtain ⟨A3, c3, hv3, hl3, _, hs3, hA3⟩ := own_slice ho3
      obtain ⟨A4, c4, hv4, hl4, _, hs4, hA4⟩ := own_slice ho4
      simp only [putAll, Act.put, List.setIfInBounds_toArray, List.set_cons_zero, List.set_cons_succ, hv3, hv4]
      have HCW := Lib.hid (HC8.out.new (wdrew hW))
      have HL3 := Lib.hid hl3
      have HL4 := Lib.hid hl4
      clear hl3 hl4 hv3 hv4 ho3 ho4 hF hW hld
      obtain ⟨t, ht⟩ : ∃ t, t = rs.length := ⟨_, rfl⟩
      rw [← ht] at hmx ⊢
      unfold maxLen at hmx
      have HT := Lib.hid ht
      clear ht
      go_wp2_with fail
      go_loopw [116] (fun i wr => (∃ j : Nat, j ≤ t ∧ i = .int .i64 (j : Int)) ∧ Chg [] W wr) (fun i _ => t - (intOf i).toNat)
      case atStart => exact ⟨⟨0, Nat.zero_le _, rfl⟩, Chg.refl _ _⟩
      case round =>
        obtain ⟨⟨j, hj, rfl⟩, hcr⟩ := hrel
        by_cases hl2 : j < t
        · obtain ⟨⟨b3, o3, s3⟩, rfl, _, hx3⟩ := (hs3.keep hcr) (by have := HL3.out; have := HT.out; omega)
          obtain rfl : s3 = none := (hA3 _ rfl).1
          obtain ⟨⟨b4, o4, s4⟩, rfl, _, hx4⟩ := (hs4.keep hcr) (by have := HL4.out; have := HT.out; omega)
          obtain rfl : s4 = none := (hA4 _ rfl).1
          obtain ⟨x3, hv3⟩ : ∃ x, us3[j]? = some x := ⟨_, List.getElem?_eq_getElem (by have := HL3.out; have := HT.out; omega)⟩
          obtain ⟨x4, hv4⟩ : ∃ x, us4[j]? = some x := ⟨_, List.getElem?_eq_getElem (by have := HL4.out; have := HT.out; omega)⟩
          obtain ⟨r, hr⟩ : ∃ r, rs[j]? = some r := ⟨_, List.getElem?_eq_getElem (by have := HT.out; omega)⟩
          obtain ⟨A5, c5, rfl, hB5, _⟩ := Bs.of_own (hr3.2 j x3 r hv3 hr)
          obtain ⟨A6, c6, rfl, hB6, _⟩ := Bs.of_own (hr4.2 j x4 r hv4 hr)
          have c3j := hx3 j _ hv3
          have c4j := hx4 j _ hv4
          rw [add_plain] at c3j c4j
          clear hx3 hx4 hv3 hv4 hr
          have hjt : (j : Int) < (t : Int) := by omega
          have hj0 : (0 : Int) ≤ (j : Int) := by omega
          have kp : ∀ W, Chg [] wr.drew W → Chg [] wr W := fun W hW => (Chg.refl [] wr).drew.new hW
          go_wp2_with fail
          refine wp_flow (by kernel_rfl) plainT plainT_ok (by kernel_rfl) ?_
          refine flow_move_out plainT_ok rfl rfl rfl ?_
          refine flow_move_out plainT_ok rfl rfl rfl ?_
          refine flow2 (r := .pointer (some ⟨b3, o3 + j, none⟩)) plainT_ok rfl (.inn rfl) (.inn rfl) rfl (fun ev W he e1 e2 => by go_simp) ?_
          refine flow1h (r := .slice A5 r.length c5) plainT_ok rfl (.inn rfl) rfl (fun ev W he hW e1 => by have c0 := cell_keep c3j (kp W hW); go_simp) ?_
          refine flow_strd plainT_ok (.inn rfl) (fun W hW => (hB5.keep hcr).keep (kp W hW)) Try.underlying22 Try.underlying5 Try.underlying9 rfl ?_
          refine flow_move_out plainT_ok rfl rfl rfl ?_
          refine flow_move_out plainT_ok rfl rfl rfl ?_
          refine flow2 (r := .pointer (some ⟨b4, o4 + j, none⟩)) plainT_ok rfl (.inn rfl) (.inn rfl) rfl (fun ev W he e1 e2 => by go_simp) ?_
          refine flow1h (r := .slice A6 r.length c6) plainT_ok rfl (.inn rfl) rfl (fun ev W he hW e1 => by have c0 := cell_keep c4j (kp W hW); go_simp) ?_
          refine flow_strd plainT_ok (.inn rfl) (fun W hW => (hB6.keep hcr).keep (kp W hW)) Try.underlying22 Try.underlying5 Try.underlying9 rfl ?_
          refine flow2 (r := .bool false) plainT_ok rfl (.inn rfl) (.inn rfl) rfl (fun ev W he e1 e2 => by go_simp) ?_
          intro vs W2 hW2 hF
          have e88 : vs 129 = .bool false := hF 129 _ rfl rfl
          have hcW := kp W2 hW2
          simp only [putAll, Act.put, List.setIfInBounds_toArray, List.set_cons_zero, List.set_cons_succ, e88]
          clear hW2 hF
          go_wp2_with fail
          go_roundw
          case rel => exact ⟨⟨j + 1, by omega, by go_num⟩, hcr.new hcW⟩
          case measure => simp [intOf]; omega
        · obtain rfl : j = t := by omega
          go_wp2_with fail
          go_ret
          exact ⟨rfl, HCW.out.new hcr⟩
  · have hf : hasR L P E i s0.V.length = false := by simpa using hh
    have hh := hf
    clear hf
    by_cases hin : 0 ≤ homeI L P i ∧ homeI L P i < s0.V.length
    · have hrr : rightR L P E s0.V.length = false := by
        unfold hasR at hh
        rw [decide_eq_true hin.1, Bool.and_true] at hh
        exact hh
      obtain ⟨q, hq⟩ : ∃ q : Nat, homeI L P i = (q : Int) := ⟨(homeI L P i).toNat, by omega⟩
      rw [hq, hrr]
      have hqn : q < s0.V.length := by omega
      clear hin hq
      go_wp2_with fail
      refine (rread_own HTb.out.r q hqn).mono ?_
      rintro e w4 ⟨v4, rfl, -, hc4⟩
      have HT2 := Lib.hid (HTb.out.keep hc4)
      have HR2 := Lib.hid (HRb.out.keep hc4)
      have HC2 := Lib.hid (HCb.out.new hc4)
      have HI2 := Lib.hid (HIb.out.keep hc4)
      clear hc4
      obtain ⟨c0, c1, c2, _, _, _⟩ := root_cells HR2.out
      go_wp2_with fail
      refine (hpage_any HT2.out.d L P E i).mono ?_
      rintro e w5 (⟨hyes, _⟩ | ⟨_, rfl, hc5⟩)
      · rw [hh] at hyes; cases hyes
      have HT5 := Lib.hid (HT2.out.keep hc5)
      have HR5 := Lib.hid (HR2.out.keep hc5)
      have HC5 := Lib.hid (HC2.out.new hc5)
      have HI5 := Lib.hid (HI2.out.keep hc5)
      clear hc5 c0 c1 c2
      obtain ⟨c0, c1, c2, _, _, _⟩ := root_cells HR5.out
      go_wp2_with fail
      refine (hput_any HT5.out.d L P E i HI5.out).mono ?_
      rintro e w7 (⟨ha, hb, _⟩ | ⟨_, rfl, hc7⟩)
      · exact absurd ha (by rw [hh]; simp)
      have HT7 := Lib.hid (HT5.out.keep hc7)
      have HR7 := Lib.hid (HR5.out.keep hc7)
      have HC7 := Lib.hid (HC5.out.new hc7)
      clear hc7 c0 c1 c2
      go_wp2_with fail
      refine (alikeH_yes HT7.out.d HT7.out.r).mono ?_
      rintro e w8 ⟨rfl, hc8⟩
      have HT8 := Lib.hid (HT7.out.keep hc8)
      have HR8 := Lib.hid (HR7.out.keep hc8)
      have HC8 := Lib.hid (HC7.out.new hc8)
      clear hc8
      have hld := fun (W : World) (hW : Chg [] w8.drew W) => root_cells (HR8.out.drew.keep hW)
      go_wp2_with fail
      refine wp_flow (by kernel_rfl) plainT plainT_ok (by kernel_rfl) ?_
      refine flow_move_out plainT_ok rfl rfl rfl ?_
      refine flow1h (r := rootV L P E) plainT_ok rfl (.out rfl rfl) rfl (fun ev W he hW e1 => by obtain ⟨c0, c1, c2, _, _, _⟩ := hld W hW; go_simp) ?_
      refine flow_calld (rowsF w8.drew.heap.size (allL s0 L P E)) (keeps_rows _ _) (.inr (keeps_rows _ _)) (by kernel_rfl) rfl (.cons (.inn rfl) (.cons (.inn rfl) .nil)) (fun W hW => (hall_any (HT8.out.keep (wdrew hW)).d L P E).mono ?_) ?_
      · rintro e w' ⟨v, us, rfl, ho, hr, hc⟩; exact ⟨v, rfl, hc, us, own_more ho hW.size, hr.more hW.size⟩
      refine flow_move_out plainT_ok rfl rfl rfl ?_
      refine flow1h (r := rootV L P E) plainT_ok rfl (.out rfl rfl) rfl (fun ev W he hW e1 => by obtain ⟨c0, c1, c2, _, _, _⟩ := hld W hW; go_simp) ?_
      refine flow_calld (rowsF w8.drew.heap.size (allL s0 L P E)) (keeps_rows _ _) (.inr (keeps_rows _ _)) (by kernel_rfl) rfl (.cons (.inn rfl) (.cons (.inn rfl) .nil)) (fun W hW => (rall_any (HT8.out.keep (wdrew hW)).r L P E).mono ?_) ?_
      · rintro e w' ⟨v, us, rfl, ho, hr, hc⟩; exact ⟨v, rfl, hc, us, own_more ho hW.size, hr.more hW.size⟩
      refine flow_assign plainT_ok rfl (keeps_rows _ _) (.inr (keeps_rows _ _)) rfl ?_
      refine flow_assign plainT_ok rfl (keeps_rows _ _) (.inr (keeps_rows _ _)) rfl ?_
      intro vs W hW hF
      have e18 : rowsF w8.drew.heap.size (allL s0 L P E) (vs 18) W := hF 18 _ rfl rfl
      have e19 : rowsF w8.drew.heap.size (allL s0 L P E) (vs 19) W := hF 19 _ rfl rfl
      generalize allL s0 L P E = rs at e18 e19
      obtain ⟨us3, ho3, hr3⟩ := e18
      obtain ⟨us4, ho4, hr4⟩ := e19
      have hmx := own_le ho3
      obtain ⟨A3, c3, hv3, hl3, _, hs3, hA3⟩ := own_slice ho3
      obtain ⟨A4, c4, hv4, hl4, _, hs4, hA4⟩ := own_slice ho4
      simp only [putAll, Act.put, List.setIfInBounds_toArray, List.set_cons_zero, List.set_cons_succ, hv3, hv4]
      have HCW := Lib.hid (HC8.out.new (wdrew hW))
      have HL3 := Lib.hid hl3
      have HL4 := Lib.hid hl4
      clear hl3 hl4 hv3 hv4 ho3 ho4 hF hW hld
      obtain ⟨t, ht⟩ : ∃ t, t = rs.length := ⟨_, rfl⟩
      rw [← ht] at hmx ⊢
      unfold maxLen at hmx
      have HT := Lib.hid ht
      clear ht
      go_wp2_with fail
      go_loopw [116] (fun i wr => (∃ j : Nat, j ≤ t ∧ i = .int .i64 (j : Int)) ∧ Chg [] W wr) (fun i _ => t - (intOf i).toNat)
      case atStart => exact ⟨⟨0, Nat.zero_le _, rfl⟩, Chg.refl _ _⟩
      case round =>
        obtain ⟨⟨j, hj, rfl⟩, hcr⟩ := hrel
        by_cases hl2 : j < t
        · obtain ⟨⟨b3, o3, s3⟩, rfl, _, hx3⟩ := (hs3.keep hcr) (by have := HL3.out; have := HT.out; omega)
          obtain rfl : s3 = none := (hA3 _ rfl).1
          obtain ⟨⟨b4, o4, s4⟩, rfl, _, hx4⟩ := (hs4.keep hcr) (by have := HL4.out; have := HT.out; omega)
          obtain rfl : s4 = none := (hA4 _ rfl).1
          obtain ⟨x3, hv3⟩ : ∃ x, us3[j]? = some x := ⟨_, List.getElem?_eq_getElem (by have := HL3.out; have := HT.out; omega)⟩
          obtain ⟨x4, hv4⟩ : ∃ x, us4[j]? = some x := ⟨_, List.getElem?_eq_getElem (by have := HL4.out; have := HT.out; omega)⟩
          obtain ⟨r, hr⟩ : ∃ r, rs[j]? = some r := ⟨_, List.getElem?_eq_getElem (by have := HT.out; omega)⟩
          obtain ⟨A5, c5, rfl, hB5, _⟩ := Bs.of_own (hr3.2 j x3 r hv3 hr)
          obtain ⟨A6, c6, rfl, hB6, _⟩ := Bs.of_own (hr4.2 j x4 r hv4 hr)
          have c3j := hx3 j _ hv3
          have c4j := hx4 j _ hv4
          rw [add_plain] at c3j c4j
          clear hx3 hx4 hv3 hv4 hr
          have hjt : (j : Int) < (t : Int) := by omega
          have hj0 : (0 : Int) ≤ (j : Int) := by omega
          have kp : ∀ W, Chg [] wr.drew W → Chg [] wr W := fun W hW => (Chg.refl [] wr).drew.new hW
          go_wp2_with fail
          refine wp_flow (by kernel_rfl) plainT plainT_ok (by kernel_rfl) ?_
          refine flow_move_out plainT_ok rfl rfl rfl ?_
          refine flow_move_out plainT_ok rfl rfl rfl ?_
          refine flow2 (r := .pointer (some ⟨b3, o3 + j, none⟩)) plainT_ok rfl (.inn rfl) (.inn rfl) rfl (fun ev W he e1 e2 => by go_simp) ?_
          refine flow1h (r := .slice A5 r.length c5) plainT_ok rfl (.inn rfl) rfl (fun ev W he hW e1 => by have c0 := cell_keep c3j (kp W hW); go_simp) ?_
          refine flow_strd plainT_ok (.inn rfl) (fun W hW => (hB5.keep hcr).keep (kp W hW)) Try.underlying22 Try.underlying5 Try.underlying9 rfl ?_
          refine flow_move_out plainT_ok rfl rfl rfl ?_
          refine flow_move_out plainT_ok rfl rfl rfl ?_
          refine flow2 (r := .pointer (some ⟨b4, o4 + j, none⟩)) plainT_ok rfl (.inn rfl) (.inn rfl) rfl (fun ev W he e1 e2 => by go_simp) ?_
          refine flow1h (r := .slice A6 r.length c6) plainT_ok rfl (.inn rfl) rfl (fun ev W he hW e1 => by have c0 := cell_keep c4j (kp W hW); go_simp) ?_
          refine flow_strd plainT_ok (.inn rfl) (fun W hW => (hB6.keep hcr).keep (kp W hW)) Try.underlying22 Try.underlying5 Try.underlying9 rfl ?_
          refine flow2 (r := .bool false) plainT_ok rfl (.inn rfl) (.inn rfl) rfl (fun ev W he e1 e2 => by go_simp) ?_
          intro vs W2 hW2 hF
          have e88 : vs 129 = .bool false := hF 129 _ rfl rfl
          have hcW := kp W2 hW2
          simp only [putAll, Act.put, List.setIfInBounds_toArray, List.set_cons_zero, List.set_cons_succ, e88]
          clear hW2 hF
          go_wp2_with fail
          go_roundw
          case rel => exact ⟨⟨j + 1, by omega, by go_num⟩, hcr.new hcW⟩
          case measure => simp [intOf]; omega
        · obtain rfl : j = t := by omega
          go_wp2_with fail
          go_ret
          exact ⟨rfl, HCW.out.new hcr⟩
    · go_wp2_with fail
      refine (rread_no HTb.out.r (homeI L P i) (by omega)).mono ?_
      rintro e w4 ⟨rfl, rfl⟩
      have hc4 := Chg.refl [] w3
      have HT2 := Lib.hid (HTb.out.keep hc4)
      have HR2 := Lib.hid (HRb.out.keep hc4)
      have HC2 := Lib.hid (HCb.out.new hc4)
      have HI2 := Lib.hid (HIb.out.keep hc4)
      clear hc4
      obtain ⟨c0, c1, c2, _, _, _⟩ := root_cells HR2.out
      go_wp2_with fail
      refine (hpage_any HT2.out.d L P E i).mono ?_
      rintro e w5 (⟨hyes, _⟩ | ⟨_, rfl, hc5⟩)
      · rw [hh] at hyes; cases hyes
      have HT5 := Lib.hid (HT2.out.keep hc5)
      have HR5 := Lib.hid (HR2.out.keep hc5)
      have HC5 := Lib.hid (HC2.out.new hc5)
      have HI5 := Lib.hid (HI2.out.keep hc5)
      clear hc5 c0 c1 c2
      obtain ⟨c0, c1, c2, _, _, _⟩ := root_cells HR5.out
      go_wp2_with fail
      refine (hput_any HT5.out.d L P E i HI5.out).mono ?_
      rintro e w7 (⟨ha, hb, _⟩ | ⟨_, rfl, hc7⟩)
      · exact absurd ha (by rw [hh]; simp)
      have HT7 := Lib.hid (HT5.out.keep hc7)
      have HR7 := Lib.hid (HR5.out.keep hc7)
      have HC7 := Lib.hid (HC5.out.new hc7)
      clear hc7 c0 c1 c2
      go_wp2_with fail
      refine (alikeH_yes HT7.out.d HT7.out.r).mono ?_
      rintro e w8 ⟨rfl, hc8⟩
      have HT8 := Lib.hid (HT7.out.keep hc8)
      have HR8 := Lib.hid (HR7.out.keep hc8)
      have HC8 := Lib.hid (HC7.out.new hc8)
      clear hc8
      have hld := fun (W : World) (hW : Chg [] w8.drew W) => root_cells (HR8.out.drew.keep hW)
      go_wp2_with fail
      refine wp_flow (by kernel_rfl) plainT plainT_ok (by kernel_rfl) ?_
      refine flow_move_out plainT_ok rfl rfl rfl ?_
      refine flow1h (r := rootV L P E) plainT_ok rfl (.out rfl rfl) rfl (fun ev W he hW e1 => by obtain ⟨c0, c1, c2, _, _, _⟩ := hld W hW; go_simp) ?_
      refine flow_calld (rowsF w8.drew.heap.size (allL s0 L P E)) (keeps_rows _ _) (.inr (keeps_rows _ _)) (by kernel_rfl) rfl (.cons (.inn rfl) (.cons (.inn rfl) .nil)) (fun W hW => (hall_any (HT8.out.keep (wdrew hW)).d L P E).mono ?_) ?_
      · rintro e w' ⟨v, us, rfl, ho, hr, hc⟩; exact ⟨v, rfl, hc, us, own_more ho hW.size, hr.more hW.size⟩
      refine flow_move_out plainT_ok rfl rfl rfl ?_
      refine flow1h (r := rootV L P E) plainT_ok rfl (.out rfl rfl) rfl (fun ev W he hW e1 => by obtain ⟨c0, c1, c2, _, _, _⟩ := hld W hW; go_simp) ?_
      refine flow_calld (rowsF w8.drew.heap.size (allL s0 L P E)) (keeps_rows _ _) (.inr (keeps_rows _ _)) (by kernel_rfl) rfl (.cons (.inn rfl) (.cons (.inn rfl) .nil)) (fun W hW => (rall_any (HT8.out.keep (wdrew hW)).r L P E).mono ?_) ?_
      · rintro e w' ⟨v, us, rfl, ho, hr, hc⟩; exact ⟨v, rfl, hc, us, own_more ho hW.size, hr.more hW.size⟩
      refine flow_assign plainT_ok rfl (keeps_rows _ _) (.inr (keeps_rows _ _)) rfl ?_
      refine flow_assign plainT_ok rfl (keeps_rows _ _) (.inr (keeps_rows _ _)) rfl ?_
      intro vs W hW hF
      have e18 : rowsF w8.drew.heap.size (allL s0 L P E) (vs 18) W := hF 18 _ rfl rfl
      have e19 : rowsF w8.drew.heap.size (allL s0 L P E) (vs 19) W := hF 19 _ rfl rfl
      generalize allL s0 L P E = rs at e18 e19
      obtain ⟨us3, ho3, hr3⟩ := e18
      obtain ⟨us4, ho4, hr4⟩ := e19
      have hmx := own_le ho3
      obtain ⟨A3, c3, hv3, hl3, _, hs3, hA3⟩ := own_slice ho3
      obtain ⟨A4, c4, hv4, hl4, _, hs4, hA4⟩ := own_slice ho4
      simp only [putAll, Act.put, List.setIfInBounds_toArray, List.set_cons_zero, List.set_cons_succ, hv3, hv4]
      have HCW := Lib.hid (HC8.out.new (wdrew hW))
      have HL3 := Lib.hid hl3
      have HL4 := Lib.hid hl4
      clear hl3 hl4 hv3 hv4 ho3 ho4 hF hW hld
      obtain ⟨t, ht⟩ : ∃ t, t = rs.length := ⟨_, rfl⟩
      rw [← ht] at hmx ⊢
      unfold maxLen at hmx
      have HT := Lib.hid ht
      clear ht
      go_wp2_with fail
      go_loopw [116] (fun i wr => (∃ j : Nat, j ≤ t ∧ i = .int .i64 (j : Int)) ∧ Chg [] W wr) (fun i _ => t - (intOf i).toNat)
      case atStart => exact ⟨⟨0, Nat.zero_le _, rfl⟩, Chg.refl _ _⟩
      case round =>
        obtain ⟨⟨j, hj, rfl⟩, hcr⟩ := hrel
        by_cases hl2 : j < t
        · obtain ⟨⟨b3, o3, s3⟩, rfl, _, hx3⟩ := (hs3.keep hcr) (by have := HL3.out; have := HT.out; omega)
          obtain rfl : s3 = none := (hA3 _ rfl).1
          obtain ⟨⟨b4, o4, s4⟩, rfl, _, hx4⟩ := (hs4.keep hcr) (by have := HL4.out; have := HT.out; omega)
          obtain rfl : s4 = none := (hA4 _ rfl).1
          obtain ⟨x3, hv3⟩ : ∃ x, us3[j]? = some x := ⟨_, List.getElem?_eq_getElem (by have := HL3.out; have := HT.out; omega)⟩
          obtain ⟨x4, hv4⟩ : ∃ x, us4[j]? = some x := ⟨_, List.getElem?_eq_getElem (by have := HL4.out; have := HT.out; omega)⟩
          obtain ⟨r, hr⟩ : ∃ r, rs[j]? = some r := ⟨_, List.getElem?_eq_getElem (by have := HT.out; omega)⟩
          obtain ⟨A5, c5, rfl, hB5, _⟩ := Bs.of_own (hr3.2 j x3 r hv3 hr)
          obtain ⟨A6, c6, rfl, hB6, _⟩ := Bs.of_own (hr4.2 j x4 r hv4 hr)
          have c3j := hx3 j _ hv3
          have c4j := hx4 j _ hv4
          rw [add_plain] at c3j c4j
          clear hx3 hx4 hv3 hv4 hr
          have hjt : (j : Int) < (t : Int) := by omega
          have hj0 : (0 : Int) ≤ (j : Int) := by omega
          have kp : ∀ W, Chg [] wr.drew W → Chg [] wr W := fun W hW => (Chg.refl [] wr).drew.new hW
          go_wp2_with fail
          refine wp_flow (by kernel_rfl) plainT plainT_ok (by kernel_rfl) ?_
          refine flow_move_out plainT_ok rfl rfl rfl ?_
          refine flow_move_out plainT_ok rfl rfl rfl ?_
          refine flow2 (r := .pointer (some ⟨b3, o3 + j, none⟩)) plainT_ok rfl (.inn rfl) (.inn rfl) rfl (fun ev W he e1 e2 => by go_simp) ?_
          refine flow1h (r := .slice A5 r.length c5) plainT_ok rfl (.inn rfl) rfl (fun ev W he hW e1 => by have c0 := cell_keep c3j (kp W hW); go_simp) ?_
          refine flow_strd plainT_ok (.inn rfl) (fun W hW => (hB5.keep hcr).keep (kp W hW)) Try.underlying22 Try.underlying5 Try.underlying9 rfl ?_
          refine flow_move_out plainT_ok rfl rfl rfl ?_
          refine flow_move_out plainT_ok rfl rfl rfl ?_
          refine flow2 (r := .pointer (some ⟨b4, o4 + j, none⟩)) plainT_ok rfl (.inn rfl) (.inn rfl) rfl (fun ev W he e1 e2 => by go_simp) ?_
          refine flow1h (r := .slice A6 r.length c6) plainT_ok rfl (.inn rfl) rfl (fun ev W he hW e1 => by have c0 := cell_keep c4j (kp W hW); go_simp) ?_
          refine flow_strd plainT_ok (.inn rfl) (fun W hW => (hB6.keep hcr).keep (kp W hW)) Try.underlying22 Try.underlying5 Try.underlying9 rfl ?_
          refine flow2 (r := .bool false) plainT_ok rfl (.inn rfl) (.inn rfl) rfl (fun ev W he e1 e2 => by go_simp) ?_
          intro vs W2 hW2 hF
          have e88 : vs 129 = .bool false := hF 129 _ rfl rfl
          have hcW := kp W2 hW2
          simp only [putAll, Act.put, List.setIfInBounds_toArray, List.set_cons_zero, List.set_cons_succ, e88]
          clear hW2 hF
          go_wp2_with fail
          go_roundw
          case rel => exact ⟨⟨j + 1, by omega, by go_num⟩, hcr.new hcW⟩
          case measure => simp [intOf]; omega
        · obtain rfl : j = t := by omega
          go_wp2_with fail
          go_ret
          exact ⟨rfl, HCW.out.new hcr⟩
end
end Go.Proofs.Ytlhkmbcjgdjegaa
