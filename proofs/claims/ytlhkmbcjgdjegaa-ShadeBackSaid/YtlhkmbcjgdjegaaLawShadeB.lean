/-
  The walk of ShadeBack.
-/
import Derived.Test.YtlhkmbcjgdjegaaShadeB
import Derived.Test.YtlhkmbcjgdjegaaMmAny
import Derived.Test.YtlhkmbcjgdjegaaFlowStr
import Derived.StillTailTactics
namespace Go.Proofs.Ytlhkmbcjgdjegaa
open Go.RowKit
theorem make256 (W : World) : (Instr.makeSlice 22 (.int .i64 256) (.int .i64 256)).run Try.prog W = .ok (.slice (some ⟨W.heap.size, 0, none⟩) 256 256) (W.alloc (.cells (bts (zeros 256)).toArray 5)) := make_u8 256 (by omega) W
theorem cof8 {w : World} {A : Option Addr} {c : Nat} {l : List UInt8} (h : Bs w A 256 c l) : Calls Try.prog 24 #[.slice A 256 c, .int .i64 8] w (NewPost w l 4 8) := cof_yes h.len h.src 8 (by omega) (by omega) (by omega)
/-- Grow by one, whatever it answers. -/
theorem grow_any {w : World} {p gC gD : Nat} {L : List UInt8} {X : List Value} {V : List Bool} {Y : List Value} {most : Nat} (h : Mm w p gC gD L X V Y most) :
    Calls Try.prog 27 #[.pointer (some ⟨p, 0, none⟩), .int .i64 1] w fun e w' => ∃ (gC' gD' : Nat) (L' : List UInt8) (X' : List Value) (V' : List Bool) (Y' : List Value) (r : Int), e = .returned (.int .i64 r) ∧ Mm w' p gC' gD' L' X' V' Y' most ∧ Chg [p, gC, gD] w w' ∧ (gC' = gC ∨ w.heap.size ≤ gC') ∧ (gD' = gD ∨ w.heap.size ≤ gD') := by
  by_cases hv : V.length + 1 ≤ most
  · refine (grow_yes h 1 hv).mono ?_
    rintro e w' ⟨gC', gD', X', Y', rfl, hM, hc, h1, h2⟩
    exact ⟨gC', gD', _, X', _, Y', _, rfl, hM, hc, h1, h2⟩
  · refine (grow_no h 1 (.inr (by omega))).mono ?_
    rintro e w' ⟨rfl, rfl⟩
    exact ⟨gC, gD, _, X, _, Y, _, rfl, h, Chg.refl _ _, .inl rfl, .inl rfl⟩
/-- The pages' slices. -/
def vsJ (g c j : Nat) : List Value := (List.range j).map fun i => .slice (some ⟨g, i * 64, none⟩) 64 (c - i * 64)
theorem vsJ_next (g c j : Nat) : vsJ g c (j + 1) = vsJ g c j ++ [.slice (some ⟨g, j * 64, none⟩) 64 (c - j * 64)] := by
  unfold vsJ; rw [List.range_succ, List.map_append]; rfl
theorem vsJ_lists {w : World} {g c : Nat} {b : List UInt8} {r : List Value} (h : Whole w g 5 (bts b ++ r)) (hb : b.length = 512) (hc : 512 ≤ c) (hm : c ≤ 9223372036854775807) : Lists w (vsJ g c 8) (mix b [] 8 0) := by
  refine ⟨by simp [vsJ, mix], fun i v X hv hX => ?_⟩
  have hi : i < 8 := by
    have := (List.getElem?_eq_some_iff.1 hv).1
    simpa [vsJ] using this
  unfold vsJ at hv
  unfold mix at hX
  rw [List.getElem?_map, List.getElem?_range hi, Option.map_some] at hv hX
  rw [if_neg (by omega)] at hX
  injection hv with hv
  injection hX with hX
  subst hv hX
  have h0 : Bs w (some ⟨g, 0, none⟩) 512 c b := Bs.of_whole h hb (by rw [List.take_left' (by rw [bts_len, hb])]) hc hm
  have h1 := h0.cut (lo := i * 64) (hi := i * 64 + 64) (by omega) (by omega)
  rw [if_neg (by omega), Option.map_some, add_plain, Nat.zero_add, show i * 64 + 64 - i * 64 = 64 by omega] at h1
  exact ⟨_, _, _, rfl, h1⟩
theorem mix_small (b M : List UInt8) (k : Nat) : ∀ l ∈ mix b M 8 k, l.length ≤ 1000000 := by
  intro l hl
  obtain ⟨i, _, rfl⟩ := List.mem_map.1 hl
  split <;> · unfold pg; rw [List.length_take]; omega
theorem mix0 (b M M' : List UInt8) (n : Nat) : mix b M n 0 = mix b M' n 0 := by
  unfold mix
  apply List.map_congr_left
  intro i _
  rw [if_neg (by omega), if_neg (by omega)]
theorem pg_front {L Z : List UInt8} {i : Nat} (h : (i + 1) * 64 ≤ L.length) : pg (L ++ Z) i = pg L i := by
  unfold pg
  rw [List.drop_append_of_le_length (by omega), List.take_append_of_le_length (by rw [List.length_drop]; omega)]
theorem chsS_len (L M : List UInt8) (f : Nat) : ∀ k, (chsS L M f k).length ≤ k
  | 0 => Nat.le_refl _
  | k + 1 => by
    have := chsS_len L M f k
    rw [chsS, List.length_append]
    split <;> simp <;> omega
section
variable {w : World} {A C : Option Addr} {n c m d : Nat} {l : List UInt8} {lt : List Int}
set_option maxHeartbeats 2000000 in
set_option maxRecDepth 100000 in
theorem shadeBack_any (h : Bs w A n c l) (hl : lt.length = m) (hs : Src w C (nms lt)) (hm : m ≤ 9223372036854775807) (hsp : 0 < m → ∀ ad, C = some ad → ad.spot = none) :
    Calls Try.prog 6 #[.slice A n c, .slice C m d] w (LawPost w) := by
  obtain ⟨i0, hi, hz, hs1, hb⟩ := info_parts info_bytes
  obtain ⟨iu, hui, huz, hus, hub⟩ := info_parts info_byte
  have hmk := make256
  have HL := Lib.hid hl
  have HS := Lib.hid hs
  have HA := Lib.hid h
  have hnle := h.le
  clear hl hs h
  go_enter Try.func6, Try.ntmps6
  go_wp2_with fail
  have hW := Whole.new w 5 (bts (zeros 256))
  have hal : Chg [] w (w.alloc (.cells (bts (zeros 256)).toArray 5)) := (Chg.refl [] w).alloc _
  generalize w.alloc (.cells (bts (zeros 256)).toArray 5) = w0 at hW hal ⊢
  have hB0 : Bs w0 (some ⟨w.heap.size, 0, none⟩) 256 256 (zeros 256) := by have := Bs.of_all hW (by rw [zeros_len]; omega); rwa [zeros_len] at this
  refine (cof8 hB0).mono ?_
  rintro e w1 ⟨p, gC, gD, rfl, hM, b0, b1, b2, hc1⟩
  have HM : Hid (∃ L X V Y, Mm w1 p gC gD L X V Y 8 ∧ L.length = 256) := Lib.hid ⟨_, _, _, _, hM, zeros_len 256⟩
  have HC1 := Lib.hid (hal.new hc1)
  have hsz := hal.size
  have HB := Lib.hid (show w.heap.size ≤ gC ∧ w.heap.size ≤ gD by omega)
  clear hM b0 b1 b2 hc1 hW hal hB0 hsz
  go_wp2_with fail
  go_loopw [6] (fun v wr => ∃ k : Nat, k ≤ n ∧ k ≤ 30 ∧ v = .int .i64 (k : Int) ∧ Hid (∃ L X V Y, Mm wr p gC gD L X V Y 8 ∧ L.length = 256) ∧ Hid (Chg [] w wr)) (fun v _ => 30 - (intOf v).toNat)
  case atStart => exact ⟨0, by omega, by omega, rfl, HM, HC1⟩
  case round =>
    obtain ⟨k, hk, hk30, rfl, HMr, HCr⟩ := hrel
    clear HM HC1
    by_cases hlt : k < n ∧ k < 30
    · obtain ⟨hl1, hl2⟩ := hlt
      have hk1 : (k : Int) < (n : Int) := by omega
      have hk2 : (k : Int) < 30 := by omega
      have hk0 : (0 : Int) ≤ (k : Int) := by omega
      obtain ⟨L, X, V, Y, hM, hL⟩ := HMr.out
      obtain ⟨ad, rfl, _, hx⟩ := (HA.out.keep HCr.out).src (by rw [bts_len, HA.out.len]; omega)
      obtain ⟨bA, oA, sA⟩ := ad
      obtain rfl : sA = none := HA.out.spot (by omega) _ rfl
      have hkl : k < l.length := by rw [HA.out.len]; exact hl1
      have ck := hx k _ (bts_get l k hkl)
      rw [add_plain] at ck
      have hbl := (l[k]).toNat_lt
      generalize l[k] = bk at ck hbl
      have ck' : wr.cell? ⟨bA, oA + k, none⟩ = some (.int .u8 (bk.toNat : Int)) := ck
      have HMs := Lib.hid hM
      have HLs := Lib.hid hL
      clear hx ck hM hL hkl
      go_wp2_with fail
      refine (store_any HMs.out _ _ true).mono ?_
      rintro e w3 ⟨b3, L3, V3, rfl, hM3, hL3, hV3, hc3⟩
      have HM3 := Lib.hid (show ∃ L X V Y, Mm w3 p gC gD L X V Y 8 ∧ L.length = 256 from ⟨_, _, _, _, hM3, by rw [hL3]; exact HLs.out⟩)
      have HC3 := Lib.hid (HCr.out.then_ hc3 fun i hi hlt => by
        have := HB.out
        rcases (by simpa using hi : i = gC ∨ i = gD) with e | e <;> omega)
      clear hM3 hL3 hV3 hc3
      go_wp2_with fail
      go_roundw
      case rel => exact ⟨k + 1, by omega, by omega, by go_num, HM3, HC3⟩
      case measure => simp [intOf]; omega
    · have hend : n ≤ k ∨ (k < n ∧ 30 ≤ k) := by omega
      obtain ⟨L, X, V, Y, hM, hL⟩ := HMr.out
      have HMs := Lib.hid hM
      have HLs := Lib.hid hL
      clear hM hL HMr hk hk30 hlt
      rcases hend with h1 | ⟨h1, h2⟩
      · have hk1 : ¬ (k : Int) < (n : Int) := by omega
        clear h1
        go_wp2_with fail
        refine (mcopy_any HMs.out).mono ?_
        rintro e w2 ⟨q, hC0, hD0, rfl, hO, b0, b1, b2, hc2⟩
        have HMm := Lib.hid (HMs.out.keep hc2)
        have HO : Hid (∃ (hC hD : Nat) (Lo : List UInt8) (Xo : List Value) (Vo : List Bool) (Yo : List Value), Mm w2 q hC hD Lo Xo Vo Yo 8 ∧ wr.heap.size ≤ hC ∧ wr.heap.size ≤ hD) := Lib.hid ⟨_, _, _, _, _, _, hO, b1, b2⟩
        have HBq := Lib.hid (show wr.heap.size ≤ q ∧ p < wr.heap.size ∧ gC < wr.heap.size ∧ gD < wr.heap.size ∧ w.heap.size ≤ wr.heap.size from ⟨b0, HMs.out.rec_.lt, HMs.out.cel.lt, HMs.out.dir.lt, HCr.out.size⟩)
        have HC2 := Lib.hid (HCr.out.new hc2)
        obtain ⟨B2, hB2⟩ : ∃ B, B = wr.heap.size := ⟨_, rfl⟩
        rw [← hB2] at HO HBq
        have HLm := HLs
        clear hO b0 b1 b2 hc2 hB2 HMs HLs HCr
        go_wp2_with fail
        go_loopw [8] (fun v wr => ∃ k2 : Nat, k2 ≤ m ∧ k2 ≤ 9 ∧ v = .int .i64 (k2 : Int) ∧ Hid (∃ (hC hD : Nat) (Lo : List UInt8) (Xo : List Value) (Vo : List Bool) (Yo : List Value), Mm wr q hC hD Lo Xo Vo Yo 8 ∧ B2 ≤ hC ∧ B2 ≤ hD) ∧ Hid (Mm wr p gC gD L X V Y 8) ∧ Hid (Chg [] w wr)) (fun v _ => 9 - (intOf v).toNat)
        case atStart => exact ⟨0, by omega, by omega, rfl, HO, HMm, HC2⟩
        case round =>
          obtain ⟨k2, hk2m, hk29, rfl, HOr, HMr, HCs⟩ := hrel
          clear HO HMm HC2
          obtain ⟨hC, hD, Lo, Xo, Vo, Yo, hO, b1, b2⟩ := HOr.out
          have HOs := Lib.hid hO
          have HBo := Lib.hid (And.intro b1 b2)
          have HMm := HMr
          clear hO b1 b2 HOr HMr
          by_cases hlt2 : k2 < m ∧ k2 < 9
          · obtain ⟨hm1, hm2⟩ := hlt2
            have hk1' : (k2 : Int) < (m : Int) := by omega
            have hk2' : (k2 : Int) < 9 := by omega
            have hk0' : (0 : Int) ≤ (k2 : Int) := by omega
            obtain ⟨⟨bC, oC, sC⟩, rfl, hbC, hxC⟩ := HS.out (by rw [nms_len, HL.out]; omega)
            obtain rfl : sC = none := hsp (by omega) _ rfl
            obtain ⟨x, hx⟩ : ∃ x, lt[k2]? = some x := ⟨_, List.getElem?_eq_getElem (by rw [HL.out]; exact hm1)⟩
            have hcx : w.cell? ⟨bC, oC + k2, none⟩ = some (.int .i64 x) := by
              have := hxC k2 (.int .i64 x) (by unfold nms; rw [List.getElem?_map, hx]; rfl)
              rwa [add_plain] at this
            have HCX := Lib.hid hcx
            have ck2 := cell_keep hcx HCs.out
            clear hxC hx hcx hm1 hm2
            have HO1 := Lib.hid (HOs.out.keep ((Chg.refl [] wr).drew))
            by_cases h7 : bits .and .i64 x 7 = 7
            · go_wp2_with fail
              go_still_tail 10, (by kernel_rfl)
              change wpList _ _ _ _ _ wr.drew
              go_wp2_with (go_at_call 25
                           refine (store_any HO1.out _ _ false).mono ?_
                           rintro e w3 ⟨b3, L3, V3, rfl, hM3, hL3, hV3, hc3⟩
                           have hq := HBq.out
                           have hbo := HBo.out
                           have HC3 := Lib.hid ((HCs.out.drew).then_ hc3 fun i hi hlt => by
                             rcases (by simpa using hi : i = hC ∨ i = hD) with e | e <;> omega)
                           have ck3 := cell_keep HCX.out HC3.out)
              have HO3 := Lib.hid hM3
              have HM3 := Lib.hid ((HMm.out.keep ((Chg.refl [] wr).drew)).away hc3 (not2' (by omega) (by omega)) (not2' (by omega) (by omega)) (not2' (by omega) (by omega)))
              have hs3 : B2 ≤ w3.heap.size := by have := HM3.out.rec_.lt; have := hc3.size; have := HOs.out.cel.lt; have : wr.drew.heap.size = wr.heap.size := rfl; omega
              clear hM3 hL3 hV3 hc3 hq hbo ck2
              refine (grow_any HO3.out).mono ?_
              rintro e w4 ⟨hC', hD', L', X', V', Y', r4, rfl, hM4, hc4, hcc, hdd⟩
              have hq := HBq.out
              have hbo := HBo.out
              have HO4 := Lib.hid (show ∃ (hC hD : Nat) (Lo : List UInt8) (Xo : List Value) (Vo : List Bool) (Yo : List Value), Mm w4 q hC hD Lo Xo Vo Yo 8 ∧ B2 ≤ hC ∧ B2 ≤ hD from ⟨_, _, _, _, _, _, hM4, by omega, by omega⟩)
              have HM4 := Lib.hid (HM3.out.away hc4 (not3 (by omega) (by omega) (by omega)) (not3 (by omega) (by omega) (by omega)) (not3 (by omega) (by omega) (by omega)))
              have HC4 := Lib.hid (HC3.out.then_ hc4 fun i hi hlt => by
                rcases (by simpa using hi : i = q ∨ i = hC ∨ i = hD) with e | e | e <;> omega)
              clear hM4 hc4 hcc hdd hq hbo ck3 h7
              go_wp2_with fail
              go_roundw
              case rel => exact ⟨k2 + 1, by omega, by omega, by go_num, HO4, HM4, HC4⟩
              case measure => simp [intOf]; omega
            · go_wp2_with fail
              go_still_tail 10, (by kernel_rfl)
              change wpList _ _ _ _ _ wr.drew
              go_wp2_with (go_at_call 25
                           refine (store_any HO1.out _ _ false).mono ?_
                           rintro e w3 ⟨b3, L3, V3, rfl, hM3, hL3, hV3, hc3⟩
                           have hq := HBq.out
                           have hbo := HBo.out
                           have HC3 := Lib.hid ((HCs.out.drew).then_ hc3 fun i hi hlt => by
                             rcases (by simpa using hi : i = hC ∨ i = hD) with e | e <;> omega)
                           have ck3 := cell_keep HCX.out HC3.out)
              have HM3 := Lib.hid ((HMm.out.keep ((Chg.refl [] wr).drew)).away hc3 (not2' (by omega) (by omega)) (not2' (by omega) (by omega)) (not2' (by omega) (by omega)))
              have HO4 := Lib.hid (show ∃ (hC hD : Nat) (Lo : List UInt8) (Xo : List Value) (Vo : List Bool) (Yo : List Value), Mm w3 q hC hD Lo Xo Vo Yo 8 ∧ B2 ≤ hC ∧ B2 ≤ hD from ⟨_, _, _, _, _, _, hM3, HBo.out.1, HBo.out.2⟩)
              go_roundw
              case rel => exact ⟨k2 + 1, by omega, by omega, by go_num, HO4, HM3, HC3⟩
              case measure => simp [intOf]; omega
          · have hend2 : m ≤ k2 ∨ (k2 < m ∧ 9 ≤ k2) := by omega
            clear hlt2 hk2m hk29
            rcases hend2 with h1 | ⟨h1, h2⟩
            · have hk1' : ¬ (k2 : Int) < (m : Int) := by omega
              clear h1
              go_wp2_with fail
              have hw9 := HCs.out.size
              have ho0 : (wr.alloc (.cells #[] 5)).ownsRow wr.heap.size 5 1 (.slice (some ⟨wr.heap.size, 0, none⟩) 0 0) 0 [] :=
                own_of_whole (B := wr.heap.size) (n := 0) (c := 0) (Whole.new wr 5 []) (Nat.le_refl _) rfl (by omega) (by unfold maxLen; omega)
              have hal : Chg [] wr (wr.alloc (.cells #[] 5)) := (Chg.refl [] wr).alloc _
              refine (mbytes_any (HMm.out.keep hal)).mono ?_
              rintro e w5 ⟨v5, rfl, ho5, hc5⟩
              rw [HLm.out] at ho5
              obtain ⟨A5, c5, rfl, _, _, hs5, _⟩ := own_slice ho5
              have HO0 := Lib.hid (own_keep ho0 hc5)
              have HS5 := Lib.hid hs5
              have HC5 := Lib.hid (hal.new hc5)
              have hln := Lib.hid (show (bts L).length = 256 by rw [bts_len, HLm.out])
              have HX5 := Lib.hid (show wr.heap.size ≤ w5.heap.size from (hal.new hc5).size)
              obtain ⟨g0, hg0⟩ : ∃ g0, g0 = wr.heap.size := ⟨_, rfl⟩
              rw [← hg0] at HO0 ⊢
              have HG0 := Lib.hid hg0
              clear hg0 ho0 hal ho5 hs5 hc5 hw9
              have hx63 := Lib.hid (show 0 + 256 ≤ maxLen by unfold maxLen; omega)
              have hx1 := Lib.hid (show (0 + 256) * 1 ≤ 140737488355328 by omega)
              have hxb := Lib.hid (show g0 ≤ w5.heap.size by rw [HG0.out]; exact HX5.out)
              go_wp2_with (first
                | (at_builtin
                   refine wpList_append_src rfl (.tmp 72) (.tmp 74) 22 rfl g0 5 iu _ 1 Try.underlying22 hui huz hus hub cells_u8 (.slice (some ⟨g0, 0, none⟩) 0 0) 0 [] rfl HO0.out A5 256 c5 (bts L) rfl hln.out HS5.out (bts_one L) hx63.out hx1.out hxb.out ?_
                   intro v6 w6 ho6 hg6 _
                   have HC6 := Lib.hid (HC5.out.own HO0.out (by rw [HG0.out]; exact Nat.le_refl _) hg6)
                   simp only [Nat.zero_add, List.nil_append] at ho6
                   obtain ⟨g6, r6, rfl, hbg6, _, _⟩ := own_whole ho6 (by omega)
                   obtain ⟨g7, cap7, w7, hr7, ho7, hg7, _⟩ := run_append_zeros (P := Try.prog) w6 g0 22 3 22 5 iu _ 1 .i64 Try.underlying22 Try.underlying3 hui huz hus hub rfl rfl g6 256 (256 + r6.length) (bts L) ho6 256 (by unfold maxLen; omega) (by omega) (by rw [HG0.out]; exact HC6.out.size)
                   have HC7 := Lib.hid (HC6.out.own ho6 (by rw [HG0.out]; exact Nat.le_refl _) hg7)
                   have HR7 := Lib.hid hr7
                   have HO7 := Lib.hid ho7
                   clear ho6 hg6 hr7 ho7 hg7)
                | (at_builtin
                   refine Lib.wpList_append_run w6 rfl (.tmp 75) (.const (.int .i64 256)) 22 3 rfl _ _ rfl rfl _ _ HR7.out ?_))
              have hbz : bts L ++ List.replicate 256 (.int .u8 0) = bts (L ++ zeros 256) := by rw [bts_app, bts_zeros]
              have ho7 : w7.ownsRow g0 5 1 (.slice (some ⟨g7, 0, none⟩) (256 + 256) cap7) 512 (bts (L ++ zeros 256)) := by rw [← hbz]; exact HO7.out
              obtain ⟨gb, rb, hbe, hbg, hWb, hbm⟩ := own_whole ho7 (by omega)
              injection hbe with hb1 hb2 hb3
              injection hb1 with hb1
              injection hb1 with hb1 _ _
              subst hb1
              obtain ⟨cb, hcb⟩ : ∃ cb, cb = cap7 := ⟨_, rfl⟩
              have hcb2 : 512 ≤ cap7 := by omega
              unfold maxLen at hbm
              have hcm : cap7 ≤ 9223372036854775807 := by omega
              have HWb := Lib.hid hWb
              have HC8 := Lib.hid (HCs.out.new HC7.out)
              have HM8 := Lib.hid (HMm.out.keep HC7.out)
              have HO8 := Lib.hid (HOs.out.keep HC7.out)
              have HBL := Lib.hid (show (L ++ zeros 256).length = 512 by rw [List.length_append, zeros_len, HLm.out])
              have hn512 : ((256 : Nat) + 256 : Nat) = 512 := rfl
              clear hbz ho7 hWb hb2 hb3 hbm hcb HO7 HR7 HO0 HS5 hln
              go_wp2_with fail
              go_loopw [9, 11] (fun v i wx => ∃ j : Nat, j ≤ 8 ∧ i = .int .i64 ((j * 64 : Nat) : Int) ∧ wx.ownsRow w7.heap.size 22 1 v j (vsJ g7 cap7 j) ∧ Hid (Chg [] w7 wx)) (fun _ i _ => 512 - (intOf i).toNat)
              case atStart => exact ⟨0, by omega, rfl, own_nil _ _ _, Lib.hid (Chg.refl _ _)⟩
              case round =>
                obtain ⟨j, hj, rfl, hown, HCj⟩ := hrel
                obtain ⟨Av, cv, rfl, hvl, hvc, hsv, hAv⟩ := own_slice hown
                by_cases hlj : j < 8
                · obtain ⟨J, hJ, hJ8⟩ : ∃ J : Nat, J = j * 64 ∧ J + 64 ≤ 512 := ⟨_, rfl, by omega⟩
                  rw [← hJ]
                  have hJl : (J : Int) < 512 := by omega
                  have hJc : ¬ cap7 = J := by omega
                  have hJc2 : ¬ cap7 < J + 64 := by omega
                  have hx1 := Lib.hid (show j + 1 ≤ maxLen by unfold maxLen; omega)
                  have hx2 := Lib.hid (show (j + 1) * 24 ≤ 140737488355328 by omega)
                  have hx3 := Lib.hid (show w7.heap.size ≤ wr.heap.size from HCj.out.size)
                  have HJ := Lib.hid hJ
                  have hjj := Lib.hid hlj
                  clear hJ hlj
                  go_wp2_with (at_builtin
                               refine wpList_append_src rfl (.tmp 83) (.tmp 89) 30 rfl w7.heap.size 22 i0 _ 24 Try.underlying30 hi hz hs1 hb cells_slice (.slice Av j cv) j (vsJ g7 cap7 j) rfl (own_keep hown ((Chg.refl _ _).alloc _)) (some ⟨wr.heap.size, 0, none⟩) 1 1 [.slice (some ⟨g7, J, none⟩) 64 (cap7 - J)] rfl rfl (Src.of_all (Whole.new wr 22 [.slice (some ⟨g7, J, none⟩) 64 (cap7 - J)])) (fun u hu => by simp at hu; rw [hu]; rfl) hx1.out hx2.out (by simp; have := hx3.out; omega) ?_
                               intro v4 w4 ho4 hg4 _)
                  have hch : Chg [] w7 w4 := ((HCj.out).alloc _).own (own_keep hown ((Chg.refl _ _).alloc _)) (Nat.le_refl _) hg4
                  go_roundw
                  case rel =>
                    refine ⟨j + 1, by have := hjj.out; omega, by have := HJ.out; go_num, ?_, Lib.hid hch⟩
                    rw [vsJ_next, ← HJ.out]
                    exact ho4
                  case measure => have := hjj.out; have := HJ.out; simp [intOf]; omega
                · have hj8 : j = 8 := by omega
                  have hge : ¬ (((j * 64 : Nat) : Int)) < 512 := by omega
                  have hown8 := hown
                  rw [hj8] at hsv hvl
                  have hlist : Lists wr (vsJ g7 cap7 8) (mix (L ++ zeros 256) [] 8 0) := vsJ_lists (HWb.out.keep HCj.out) HBL.out hcb2 hcm
                  have HLI := Lib.hid hlist
                  have HSV := Lib.hid hsv
                  have HVL := Lib.hid hvl
                  have HAV := Lib.hid hAv
                  have HC9 := Lib.hid (HC8.out.new HCj.out)
                  have HM9 := Lib.hid (HM8.out.keep HCj.out)
                  have HO9 := Lib.hid (HO8.out.keep HCj.out)
                  have hJJ := Lib.hid hj8
                  obtain ⟨Jn, hJn⟩ : ∃ Jn : Int, Jn = ((j * 64 : Nat) : Int) := ⟨_, rfl⟩
                  rw [← hJn] at hge ⊢
                  clear hown hown8 hsv hvl hAv hlist hj hlj hj8 hJn
                  go_wp2_with fail
                  refine (shchanges_any HM9.out HO9.out 0 (by omega)).mono ?_
                  rintro e wa ⟨va, la, rfl, hoa, hma, hcs, hca⟩
                  obtain ⟨Aa, ca, rfl, hla, hchs, hna, hnc, hspa⟩ := chs_own hoa hma
                  have hl64 : la.length ≤ 64 := by rw [hcs.len]; exact Nat.le_trans (chsS_len _ _ _ _) HO9.out.smallV
                  have hapl : applyL (mix (L ++ zeros 256) [] 8 0) la = mix (L ++ zeros 256) Lo 8 Vo.length := (applyL_P la _ _ hcs).trans (by
                    rw [mix0 (L ++ zeros 256) [] Lo 8]
                    exact apply_mix (M := Lo) (b := L ++ zeros 256) (n := 8) (fun i hi => by rw [HLm.out] at hi; exact pg_front (by rw [HLm.out]; omega)) Vo.length (by have := HO9.out.le; omega))
                  have HPL := Lib.hid hapl
                  have HCHS := Lib.hid hchs
                  have HB64 := Lib.hid (show ∀ a ∈ la, a.B.length ≤ 1000000 from fun a ha => by rw [(hma a ha).bl]; omega)
                  have HCa := Lib.hid (HC9.out.new hca)
                  have HOa := Lib.hid (HO9.out.keep hca)
                  have HLIa := Lib.hid (HLI.out.keep hca)
                  have HSVa := Lib.hid (HSV.out.keep hca)
                  have hV8 := HO9.out.le
                  have HLV := Lib.hid HO9.out.len
                  obtain ⟨N, hN⟩ : ∃ N, N = la.length := ⟨_, rfl⟩
                  rw [← hN] at hla hna hnc hl64 ⊢
                  have HN := Lib.hid hN.symm
                  have hjn := Lib.hid hJJ.out
                  clear hoa hma hcs hchs hapl hca hla hN hspa
                  go_wp2_with fail
                  rw [hjn.out]
                  refine (apply_any HSVa.out (fun _ ad e => (HAV.out ad e).1) HVL.out (by omega) HLIa.out (mix_small _ _ _) HCHS.out HN.out (by omega) HB64.out).mono ?_
                  rintro e wb ⟨g9, us, rfl, hF, hgw, hcb9⟩
                  rw [HPL.out] at hF ⊢
                  obtain ⟨M8, hM8⟩ : ∃ M8, M8 = (mix (L ++ zeros 256) Lo 8 Vo.length).length := ⟨_, rfl⟩
                  rw [← hM8] at hF ⊢
                  have hM8a : M8 ≤ 8 := by rw [hM8, mix_len]; exact Nat.le_refl _
                  have HM8' := Lib.hid (show M8 = 8 by rw [hM8, mix_len])
                  have HF := Lib.hid hF
                  clear hM8
                  have HCb := Lib.hid (HCa.out.new hcb9)
                  have HOb := Lib.hid (HOa.out.keep hcb9)
                  clear hF hgw hcb9
                  go_wp2_with fail
                  have hmf := Lib.hid (mix_flat (b := L ++ zeros 256) HLV.out HBL.out hV8)
                  have HRl := Lib.hid (mix_len (L ++ zeros 256) Lo 8 Vo.length)
                  generalize mix (L ++ zeros 256) Lo 8 Vo.length = R at HF hmf HRl
                  go_loopw [12, 97] (fun t i wx => ∃ q : Nat, q ≤ M8 ∧ i = .int .i64 (q : Int) ∧ t = .string (strOf ((R.take q).flatten)) ∧ Hid (Chg [] wb wx)) (fun _ i _ => M8 - (intOf i).toNat)
                  case atStart => exact ⟨0, by omega, rfl, rfl, Lib.hid (Chg.refl _ _)⟩
                  case round =>
                    obtain ⟨q, hq, rfl, rfl, HCq⟩ := hrel
                    by_cases hlq : q < M8
                    · have hq8 : (q : Int) < (M8 : Int) := by omega
                      have hl8 : q < 8 := by omega
                      have hq0 : (0 : Int) ≤ (q : Int) := by omega
                      obtain ⟨r, hr⟩ : ∃ r, R[q]? = some r := ⟨_, List.getElem?_eq_getElem (by rw [HRl.out]; exact hl8)⟩
                      obtain ⟨x, hux, hWx, -⟩ := (HF.out.keep HCq.out).at_ q hlq r hr
                      have cq := ((HF.out.row.keep HCq.out).cell q).trans hux
                      have hr64 : r.length = 64 := hmf.out.2.2 r (List.mem_of_getElem? hr)
                      rw [hr64] at cq
                      have sq := (bs64 hWx hr64).str (P := Try.prog) 22 5 9 Try.underlying22 Try.underlying5 Try.underlying9
                      have HNX := Lib.hid (show (R.take (q + 1)).flatten = (R.take q).flatten ++ r by
                        rw [List.take_succ_eq_append_getElem (by rw [HRl.out]; exact hl8), List.flatten_append]
                        have := List.getElem?_eq_getElem (l := R) (i := q) (by rw [HRl.out]; exact hl8)
                        rw [this] at hr; injection hr with hr
                        simp [hr])
                      have HAP := Lib.hid (strOf_app ((R.take q).flatten) r)
                      have hcat : ¬ (9223372036854775807 : Int) < (((strOf ((R.take q).flatten)).size : Nat) : Int) + (((strOf r).size : Nat) : Int) := by
                        have h1 : ((R.take q).flatten).length ≤ R.flatten.length := by
                          have : R.flatten = (R.take q).flatten ++ (R.drop q).flatten := by rw [← List.flatten_append, List.take_append_drop]
                          rw [this, List.length_append]; omega
                        have h2 := hmf.out.1
                        rw [strOf_size, strOf_size, hr64]; omega
                      clear hux hWx hr64 hr hl8
                      go_wp2_with fail
                      go_roundw
                      case rel => exact ⟨q + 1, by omega, by go_num, by rw [HNX.out, ← HAP.out], HCq⟩
                      case measure => simp [intOf]; omega
                    · have hq8 : ¬ (q : Int) < (M8 : Int) := by omega
                      have HG := Lib.hid (show (R.take q).flatten = R.flatten by rw [List.take_of_length_le (by rw [HRl.out]; have := HM8'.out; omega)])
                      rw [HG.out]
                      generalize R.flatten = G at hmf HG
                      have HOq := Lib.hid (HOb.out.keep HCq.out)
                      clear hlq hq
                      go_wp2_with fail
                      refine (mbytes_any HOq.out).mono ?_
                      rintro e wc ⟨vc, rfl, hoc, hcc⟩
                      obtain ⟨Ac, cc, rfl, hBc, _⟩ := Bs.of_own hoc
                      have HOc := Lib.hid (HOq.out.keep hcc)
                      have HCc := Lib.hid ((HCb.out.new HCq.out).new hcc)
                      have hLo : Lo.length ≤ 512 := by rw [HLV.out]; omega
                      clear hoc hBc hcc
                      go_wp2_with fail
                      have hGl := hmf.out.1
                      have hszG : (strOf G).size = 512 := by rw [strOf_size, hGl]
                      have HSZ := Lib.hid hszG
                      have HTK := Lib.hid (show (strOf G).extract 0 Lo.length = strOf Lo by rw [strOf_take, hmf.out.2.1])
                      have HLo := Lib.hid hLo
                      have HLoI := Lib.hid (show (Lo.length : Int) ≤ 512 by omega)
                      clear hGl hszG
                      refine wp_flow (by kernel_rfl) plainT plainT_ok (by kernel_rfl) ?_
                      refine flow_move_out plainT_ok rfl rfl rfl ?_
                      refine flow_len_str plainT_ok (.inn rfl) Try.underlying9 rfl ?_
                      rw [HSZ.out]
                      refine flow_eql plainT_ok (.inn rfl) (.const _) (fun ev W he e1 e2 => by go_simp) rfl ?_
                      refine flow_move plainT_ok rfl (keeps_isV _) (.inr (keeps_isV _)) rfl ?_
                      refine flow_move_out plainT_ok rfl rfl rfl ?_
                      refine flow_move_out plainT_ok rfl rfl rfl ?_
                      refine flow_cut_str plainT_ok (.inn rfl) (.inn rfl) Try.underlying9 (by rw [HSZ.out]; exact HLo.out) rfl ?_
                      rw [HTK.out]
                      refine flow_move_out plainT_ok rfl rfl rfl ?_
                      refine flow_calld (ownF wc.drew.heap.size 5 (bts Lo)) (keeps_own _ _ _) (.inr (keeps_own _ _ _)) (by kernel_rfl) rfl (.cons (.inn rfl) .nil) (fun W hW => (mbytes_any (HOc.out.keep (wdrew hW))).mono ?_) ?_
                      · rintro e w' ⟨v, rfl, ho, hc⟩
                        exact ⟨v, rfl, hc, by rw [ownF, bts_len]; exact own_more ho hW.size⟩
                      refine flow_str plainT_ok rfl Try.underlying22 Try.underlying5 Try.underlying9 rfl ?_
                      refine flow_eql plainT_ok (.inn rfl) (.inn rfl) (fun ev W he e1 e2 => by go_simp) rfl ?_
                      refine flow_and plainT_ok rfl rfl rfl ?_
                      refine flow_move plainT_ok rfl (keeps_isV _) (.inr (keeps_isV _)) rfl ?_
                      refine flow_move_out plainT_ok rfl rfl rfl ?_
                      refine flow2 (r := .bool true) plainT_ok rfl (.inn rfl) (.const _) rfl (fun ev W he e1 e2 => by have h2 := HLoI.out; go_simp) ?_
                      refine flow_and plainT_ok rfl rfl rfl ?_
                      refine flow_move plainT_ok rfl (keeps_isV _) (.inr (keeps_isV _)) rfl ?_
                      refine flow_callv (.bool true) (by kernel_rfl) rfl .nil (fun W hW => shknown_any.mono ?_) ?_
                      · rintro e w' ⟨rfl, hc⟩; exact ⟨rfl, hc⟩
                      refine flow_and plainT_ok rfl rfl rfl ?_
                      refine flow_assign plainT_ok rfl (keeps_isV _) (.inr (keeps_isV _)) rfl ?_
                      intro vs W hW hF
                      have e4 : vs 4 = .bool true := hF 4 _ rfl rfl
                      simp only [putAll, Act.put, List.setIfInBounds_toArray, List.set_cons_zero, List.set_cons_succ, e4]
                      have HCW := Lib.hid (HCc.out.new (wdrew hW))
                      clear hW hF
                      go_wp2_with fail
                      go_ret
                      exact ⟨rfl, HCW.out⟩
            · have hk1' : (k2 : Int) < (m : Int) := by omega
              have hk2' : ¬ (k2 : Int) < 9 := by omega
              clear h1 h2
              go_wp2_with fail
              have hw9 := HCs.out.size
              have ho0 : (wr.alloc (.cells #[] 5)).ownsRow wr.heap.size 5 1 (.slice (some ⟨wr.heap.size, 0, none⟩) 0 0) 0 [] :=
                own_of_whole (B := wr.heap.size) (n := 0) (c := 0) (Whole.new wr 5 []) (Nat.le_refl _) rfl (by omega) (by unfold maxLen; omega)
              have hal : Chg [] wr (wr.alloc (.cells #[] 5)) := (Chg.refl [] wr).alloc _
              refine (mbytes_any (HMm.out.keep hal)).mono ?_
              rintro e w5 ⟨v5, rfl, ho5, hc5⟩
              rw [HLm.out] at ho5
              obtain ⟨A5, c5, rfl, _, _, hs5, _⟩ := own_slice ho5
              have HO0 := Lib.hid (own_keep ho0 hc5)
              have HS5 := Lib.hid hs5
              have HC5 := Lib.hid (hal.new hc5)
              have hln := Lib.hid (show (bts L).length = 256 by rw [bts_len, HLm.out])
              have HX5 := Lib.hid (show wr.heap.size ≤ w5.heap.size from (hal.new hc5).size)
              obtain ⟨g0, hg0⟩ : ∃ g0, g0 = wr.heap.size := ⟨_, rfl⟩
              rw [← hg0] at HO0 ⊢
              have HG0 := Lib.hid hg0
              clear hg0 ho0 hal ho5 hs5 hc5 hw9
              have hx63 := Lib.hid (show 0 + 256 ≤ maxLen by unfold maxLen; omega)
              have hx1 := Lib.hid (show (0 + 256) * 1 ≤ 140737488355328 by omega)
              have hxb := Lib.hid (show g0 ≤ w5.heap.size by rw [HG0.out]; exact HX5.out)
              go_wp2_with (first
                | (at_builtin
                   refine wpList_append_src rfl (.tmp 72) (.tmp 74) 22 rfl g0 5 iu _ 1 Try.underlying22 hui huz hus hub cells_u8 (.slice (some ⟨g0, 0, none⟩) 0 0) 0 [] rfl HO0.out A5 256 c5 (bts L) rfl hln.out HS5.out (bts_one L) hx63.out hx1.out hxb.out ?_
                   intro v6 w6 ho6 hg6 _
                   have HC6 := Lib.hid (HC5.out.own HO0.out (by rw [HG0.out]; exact Nat.le_refl _) hg6)
                   simp only [Nat.zero_add, List.nil_append] at ho6
                   obtain ⟨g6, r6, rfl, hbg6, _, _⟩ := own_whole ho6 (by omega)
                   obtain ⟨g7, cap7, w7, hr7, ho7, hg7, _⟩ := run_append_zeros (P := Try.prog) w6 g0 22 3 22 5 iu _ 1 .i64 Try.underlying22 Try.underlying3 hui huz hus hub rfl rfl g6 256 (256 + r6.length) (bts L) ho6 256 (by unfold maxLen; omega) (by omega) (by rw [HG0.out]; exact HC6.out.size)
                   have HC7 := Lib.hid (HC6.out.own ho6 (by rw [HG0.out]; exact Nat.le_refl _) hg7)
                   have HR7 := Lib.hid hr7
                   have HO7 := Lib.hid ho7
                   clear ho6 hg6 hr7 ho7 hg7)
                | (at_builtin
                   refine Lib.wpList_append_run w6 rfl (.tmp 75) (.const (.int .i64 256)) 22 3 rfl _ _ rfl rfl _ _ HR7.out ?_))
              have hbz : bts L ++ List.replicate 256 (.int .u8 0) = bts (L ++ zeros 256) := by rw [bts_app, bts_zeros]
              have ho7 : w7.ownsRow g0 5 1 (.slice (some ⟨g7, 0, none⟩) (256 + 256) cap7) 512 (bts (L ++ zeros 256)) := by rw [← hbz]; exact HO7.out
              obtain ⟨gb, rb, hbe, hbg, hWb, hbm⟩ := own_whole ho7 (by omega)
              injection hbe with hb1 hb2 hb3
              injection hb1 with hb1
              injection hb1 with hb1 _ _
              subst hb1
              obtain ⟨cb, hcb⟩ : ∃ cb, cb = cap7 := ⟨_, rfl⟩
              have hcb2 : 512 ≤ cap7 := by omega
              unfold maxLen at hbm
              have hcm : cap7 ≤ 9223372036854775807 := by omega
              have HWb := Lib.hid hWb
              have HC8 := Lib.hid (HCs.out.new HC7.out)
              have HM8 := Lib.hid (HMm.out.keep HC7.out)
              have HO8 := Lib.hid (HOs.out.keep HC7.out)
              have HBL := Lib.hid (show (L ++ zeros 256).length = 512 by rw [List.length_append, zeros_len, HLm.out])
              have hn512 : ((256 : Nat) + 256 : Nat) = 512 := rfl
              clear hbz ho7 hWb hb2 hb3 hbm hcb HO7 HR7 HO0 HS5 hln
              go_wp2_with fail
              go_loopw [9, 11] (fun v i wx => ∃ j : Nat, j ≤ 8 ∧ i = .int .i64 ((j * 64 : Nat) : Int) ∧ wx.ownsRow w7.heap.size 22 1 v j (vsJ g7 cap7 j) ∧ Hid (Chg [] w7 wx)) (fun _ i _ => 512 - (intOf i).toNat)
              case atStart => exact ⟨0, by omega, rfl, own_nil _ _ _, Lib.hid (Chg.refl _ _)⟩
              case round =>
                obtain ⟨j, hj, rfl, hown, HCj⟩ := hrel
                obtain ⟨Av, cv, rfl, hvl, hvc, hsv, hAv⟩ := own_slice hown
                by_cases hlj : j < 8
                · obtain ⟨J, hJ, hJ8⟩ : ∃ J : Nat, J = j * 64 ∧ J + 64 ≤ 512 := ⟨_, rfl, by omega⟩
                  rw [← hJ]
                  have hJl : (J : Int) < 512 := by omega
                  have hJc : ¬ cap7 = J := by omega
                  have hJc2 : ¬ cap7 < J + 64 := by omega
                  have hx1 := Lib.hid (show j + 1 ≤ maxLen by unfold maxLen; omega)
                  have hx2 := Lib.hid (show (j + 1) * 24 ≤ 140737488355328 by omega)
                  have hx3 := Lib.hid (show w7.heap.size ≤ wr.heap.size from HCj.out.size)
                  have HJ := Lib.hid hJ
                  have hjj := Lib.hid hlj
                  clear hJ hlj
                  go_wp2_with (at_builtin
                               refine wpList_append_src rfl (.tmp 83) (.tmp 89) 30 rfl w7.heap.size 22 i0 _ 24 Try.underlying30 hi hz hs1 hb cells_slice (.slice Av j cv) j (vsJ g7 cap7 j) rfl (own_keep hown ((Chg.refl _ _).alloc _)) (some ⟨wr.heap.size, 0, none⟩) 1 1 [.slice (some ⟨g7, J, none⟩) 64 (cap7 - J)] rfl rfl (Src.of_all (Whole.new wr 22 [.slice (some ⟨g7, J, none⟩) 64 (cap7 - J)])) (fun u hu => by simp at hu; rw [hu]; rfl) hx1.out hx2.out (by simp; have := hx3.out; omega) ?_
                               intro v4 w4 ho4 hg4 _)
                  have hch : Chg [] w7 w4 := ((HCj.out).alloc _).own (own_keep hown ((Chg.refl _ _).alloc _)) (Nat.le_refl _) hg4
                  go_roundw
                  case rel =>
                    refine ⟨j + 1, by have := hjj.out; omega, by have := HJ.out; go_num, ?_, Lib.hid hch⟩
                    rw [vsJ_next, ← HJ.out]
                    exact ho4
                  case measure => have := hjj.out; have := HJ.out; simp [intOf]; omega
                · have hj8 : j = 8 := by omega
                  have hge : ¬ (((j * 64 : Nat) : Int)) < 512 := by omega
                  have hown8 := hown
                  rw [hj8] at hsv hvl
                  have hlist : Lists wr (vsJ g7 cap7 8) (mix (L ++ zeros 256) [] 8 0) := vsJ_lists (HWb.out.keep HCj.out) HBL.out hcb2 hcm
                  have HLI := Lib.hid hlist
                  have HSV := Lib.hid hsv
                  have HVL := Lib.hid hvl
                  have HAV := Lib.hid hAv
                  have HC9 := Lib.hid (HC8.out.new HCj.out)
                  have HM9 := Lib.hid (HM8.out.keep HCj.out)
                  have HO9 := Lib.hid (HO8.out.keep HCj.out)
                  have hJJ := Lib.hid hj8
                  obtain ⟨Jn, hJn⟩ : ∃ Jn : Int, Jn = ((j * 64 : Nat) : Int) := ⟨_, rfl⟩
                  rw [← hJn] at hge ⊢
                  clear hown hown8 hsv hvl hAv hlist hj hlj hj8 hJn
                  go_wp2_with fail
                  refine (shchanges_any HM9.out HO9.out 0 (by omega)).mono ?_
                  rintro e wa ⟨va, la, rfl, hoa, hma, hcs, hca⟩
                  obtain ⟨Aa, ca, rfl, hla, hchs, hna, hnc, hspa⟩ := chs_own hoa hma
                  have hl64 : la.length ≤ 64 := by rw [hcs.len]; exact Nat.le_trans (chsS_len _ _ _ _) HO9.out.smallV
                  have hapl : applyL (mix (L ++ zeros 256) [] 8 0) la = mix (L ++ zeros 256) Lo 8 Vo.length := (applyL_P la _ _ hcs).trans (by
                    rw [mix0 (L ++ zeros 256) [] Lo 8]
                    exact apply_mix (M := Lo) (b := L ++ zeros 256) (n := 8) (fun i hi => by rw [HLm.out] at hi; exact pg_front (by rw [HLm.out]; omega)) Vo.length (by have := HO9.out.le; omega))
                  have HPL := Lib.hid hapl
                  have HCHS := Lib.hid hchs
                  have HB64 := Lib.hid (show ∀ a ∈ la, a.B.length ≤ 1000000 from fun a ha => by rw [(hma a ha).bl]; omega)
                  have HCa := Lib.hid (HC9.out.new hca)
                  have HOa := Lib.hid (HO9.out.keep hca)
                  have HLIa := Lib.hid (HLI.out.keep hca)
                  have HSVa := Lib.hid (HSV.out.keep hca)
                  have hV8 := HO9.out.le
                  have HLV := Lib.hid HO9.out.len
                  obtain ⟨N, hN⟩ : ∃ N, N = la.length := ⟨_, rfl⟩
                  rw [← hN] at hla hna hnc hl64 ⊢
                  have HN := Lib.hid hN.symm
                  have hjn := Lib.hid hJJ.out
                  clear hoa hma hcs hchs hapl hca hla hN hspa
                  go_wp2_with fail
                  rw [hjn.out]
                  refine (apply_any HSVa.out (fun _ ad e => (HAV.out ad e).1) HVL.out (by omega) HLIa.out (mix_small _ _ _) HCHS.out HN.out (by omega) HB64.out).mono ?_
                  rintro e wb ⟨g9, us, rfl, hF, hgw, hcb9⟩
                  rw [HPL.out] at hF ⊢
                  obtain ⟨M8, hM8⟩ : ∃ M8, M8 = (mix (L ++ zeros 256) Lo 8 Vo.length).length := ⟨_, rfl⟩
                  rw [← hM8] at hF ⊢
                  have hM8a : M8 ≤ 8 := by rw [hM8, mix_len]; exact Nat.le_refl _
                  have HM8' := Lib.hid (show M8 = 8 by rw [hM8, mix_len])
                  have HF := Lib.hid hF
                  clear hM8
                  have HCb := Lib.hid (HCa.out.new hcb9)
                  have HOb := Lib.hid (HOa.out.keep hcb9)
                  clear hF hgw hcb9
                  go_wp2_with fail
                  have hmf := Lib.hid (mix_flat (b := L ++ zeros 256) HLV.out HBL.out hV8)
                  have HRl := Lib.hid (mix_len (L ++ zeros 256) Lo 8 Vo.length)
                  generalize mix (L ++ zeros 256) Lo 8 Vo.length = R at HF hmf HRl
                  go_loopw [12, 97] (fun t i wx => ∃ q : Nat, q ≤ M8 ∧ i = .int .i64 (q : Int) ∧ t = .string (strOf ((R.take q).flatten)) ∧ Hid (Chg [] wb wx)) (fun _ i _ => M8 - (intOf i).toNat)
                  case atStart => exact ⟨0, by omega, rfl, rfl, Lib.hid (Chg.refl _ _)⟩
                  case round =>
                    obtain ⟨q, hq, rfl, rfl, HCq⟩ := hrel
                    by_cases hlq : q < M8
                    · have hq8 : (q : Int) < (M8 : Int) := by omega
                      have hl8 : q < 8 := by omega
                      have hq0 : (0 : Int) ≤ (q : Int) := by omega
                      obtain ⟨r, hr⟩ : ∃ r, R[q]? = some r := ⟨_, List.getElem?_eq_getElem (by rw [HRl.out]; exact hl8)⟩
                      obtain ⟨x, hux, hWx, -⟩ := (HF.out.keep HCq.out).at_ q hlq r hr
                      have cq := ((HF.out.row.keep HCq.out).cell q).trans hux
                      have hr64 : r.length = 64 := hmf.out.2.2 r (List.mem_of_getElem? hr)
                      rw [hr64] at cq
                      have sq := (bs64 hWx hr64).str (P := Try.prog) 22 5 9 Try.underlying22 Try.underlying5 Try.underlying9
                      have HNX := Lib.hid (show (R.take (q + 1)).flatten = (R.take q).flatten ++ r by
                        rw [List.take_succ_eq_append_getElem (by rw [HRl.out]; exact hl8), List.flatten_append]
                        have := List.getElem?_eq_getElem (l := R) (i := q) (by rw [HRl.out]; exact hl8)
                        rw [this] at hr; injection hr with hr
                        simp [hr])
                      have HAP := Lib.hid (strOf_app ((R.take q).flatten) r)
                      have hcat : ¬ (9223372036854775807 : Int) < (((strOf ((R.take q).flatten)).size : Nat) : Int) + (((strOf r).size : Nat) : Int) := by
                        have h1 : ((R.take q).flatten).length ≤ R.flatten.length := by
                          have : R.flatten = (R.take q).flatten ++ (R.drop q).flatten := by rw [← List.flatten_append, List.take_append_drop]
                          rw [this, List.length_append]; omega
                        have h2 := hmf.out.1
                        rw [strOf_size, strOf_size, hr64]; omega
                      clear hux hWx hr64 hr hl8
                      go_wp2_with fail
                      go_roundw
                      case rel => exact ⟨q + 1, by omega, by go_num, by rw [HNX.out, ← HAP.out], HCq⟩
                      case measure => simp [intOf]; omega
                    · have hq8 : ¬ (q : Int) < (M8 : Int) := by omega
                      have HG := Lib.hid (show (R.take q).flatten = R.flatten by rw [List.take_of_length_le (by rw [HRl.out]; have := HM8'.out; omega)])
                      rw [HG.out]
                      generalize R.flatten = G at hmf HG
                      have HOq := Lib.hid (HOb.out.keep HCq.out)
                      clear hlq hq
                      go_wp2_with fail
                      refine (mbytes_any HOq.out).mono ?_
                      rintro e wc ⟨vc, rfl, hoc, hcc⟩
                      obtain ⟨Ac, cc, rfl, hBc, _⟩ := Bs.of_own hoc
                      have HOc := Lib.hid (HOq.out.keep hcc)
                      have HCc := Lib.hid ((HCb.out.new HCq.out).new hcc)
                      have hLo : Lo.length ≤ 512 := by rw [HLV.out]; omega
                      clear hoc hBc hcc
                      go_wp2_with fail
                      have hGl := hmf.out.1
                      have hszG : (strOf G).size = 512 := by rw [strOf_size, hGl]
                      have HSZ := Lib.hid hszG
                      have HTK := Lib.hid (show (strOf G).extract 0 Lo.length = strOf Lo by rw [strOf_take, hmf.out.2.1])
                      have HLo := Lib.hid hLo
                      have HLoI := Lib.hid (show (Lo.length : Int) ≤ 512 by omega)
                      clear hGl hszG
                      refine wp_flow (by kernel_rfl) plainT plainT_ok (by kernel_rfl) ?_
                      refine flow_move_out plainT_ok rfl rfl rfl ?_
                      refine flow_len_str plainT_ok (.inn rfl) Try.underlying9 rfl ?_
                      rw [HSZ.out]
                      refine flow_eql plainT_ok (.inn rfl) (.const _) (fun ev W he e1 e2 => by go_simp) rfl ?_
                      refine flow_move plainT_ok rfl (keeps_isV _) (.inr (keeps_isV _)) rfl ?_
                      refine flow_move_out plainT_ok rfl rfl rfl ?_
                      refine flow_move_out plainT_ok rfl rfl rfl ?_
                      refine flow_cut_str plainT_ok (.inn rfl) (.inn rfl) Try.underlying9 (by rw [HSZ.out]; exact HLo.out) rfl ?_
                      rw [HTK.out]
                      refine flow_move_out plainT_ok rfl rfl rfl ?_
                      refine flow_calld (ownF wc.drew.heap.size 5 (bts Lo)) (keeps_own _ _ _) (.inr (keeps_own _ _ _)) (by kernel_rfl) rfl (.cons (.inn rfl) .nil) (fun W hW => (mbytes_any (HOc.out.keep (wdrew hW))).mono ?_) ?_
                      · rintro e w' ⟨v, rfl, ho, hc⟩
                        exact ⟨v, rfl, hc, by rw [ownF, bts_len]; exact own_more ho hW.size⟩
                      refine flow_str plainT_ok rfl Try.underlying22 Try.underlying5 Try.underlying9 rfl ?_
                      refine flow_eql plainT_ok (.inn rfl) (.inn rfl) (fun ev W he e1 e2 => by go_simp) rfl ?_
                      refine flow_and plainT_ok rfl rfl rfl ?_
                      refine flow_move plainT_ok rfl (keeps_isV _) (.inr (keeps_isV _)) rfl ?_
                      refine flow_move_out plainT_ok rfl rfl rfl ?_
                      refine flow2 (r := .bool true) plainT_ok rfl (.inn rfl) (.const _) rfl (fun ev W he e1 e2 => by have h2 := HLoI.out; go_simp) ?_
                      refine flow_and plainT_ok rfl rfl rfl ?_
                      refine flow_move plainT_ok rfl (keeps_isV _) (.inr (keeps_isV _)) rfl ?_
                      refine flow_callv (.bool true) (by kernel_rfl) rfl .nil (fun W hW => shknown_any.mono ?_) ?_
                      · rintro e w' ⟨rfl, hc⟩; exact ⟨rfl, hc⟩
                      refine flow_and plainT_ok rfl rfl rfl ?_
                      refine flow_assign plainT_ok rfl (keeps_isV _) (.inr (keeps_isV _)) rfl ?_
                      intro vs W hW hF
                      have e4 : vs 4 = .bool true := hF 4 _ rfl rfl
                      simp only [putAll, Act.put, List.setIfInBounds_toArray, List.set_cons_zero, List.set_cons_succ, e4]
                      have HCW := Lib.hid (HCc.out.new (wdrew hW))
                      clear hW hF
                      go_wp2_with fail
                      go_ret
                      exact ⟨rfl, HCW.out⟩
      · have hk1 : (k : Int) < (n : Int) := by omega
        have hk2 : ¬ (k : Int) < 30 := by omega
        clear h1 h2
        go_wp2_with fail
        refine (mcopy_any HMs.out).mono ?_
        rintro e w2 ⟨q, hC0, hD0, rfl, hO, b0, b1, b2, hc2⟩
        have HMm := Lib.hid (HMs.out.keep hc2)
        have HO : Hid (∃ (hC hD : Nat) (Lo : List UInt8) (Xo : List Value) (Vo : List Bool) (Yo : List Value), Mm w2 q hC hD Lo Xo Vo Yo 8 ∧ wr.heap.size ≤ hC ∧ wr.heap.size ≤ hD) := Lib.hid ⟨_, _, _, _, _, _, hO, b1, b2⟩
        have HBq := Lib.hid (show wr.heap.size ≤ q ∧ p < wr.heap.size ∧ gC < wr.heap.size ∧ gD < wr.heap.size ∧ w.heap.size ≤ wr.heap.size from ⟨b0, HMs.out.rec_.lt, HMs.out.cel.lt, HMs.out.dir.lt, HCr.out.size⟩)
        have HC2 := Lib.hid (HCr.out.new hc2)
        obtain ⟨B2, hB2⟩ : ∃ B, B = wr.heap.size := ⟨_, rfl⟩
        rw [← hB2] at HO HBq
        have HLm := HLs
        clear hO b0 b1 b2 hc2 hB2 HMs HLs HCr
        go_wp2_with fail
        go_loopw [8] (fun v wr => ∃ k2 : Nat, k2 ≤ m ∧ k2 ≤ 9 ∧ v = .int .i64 (k2 : Int) ∧ Hid (∃ (hC hD : Nat) (Lo : List UInt8) (Xo : List Value) (Vo : List Bool) (Yo : List Value), Mm wr q hC hD Lo Xo Vo Yo 8 ∧ B2 ≤ hC ∧ B2 ≤ hD) ∧ Hid (Mm wr p gC gD L X V Y 8) ∧ Hid (Chg [] w wr)) (fun v _ => 9 - (intOf v).toNat)
        case atStart => exact ⟨0, by omega, by omega, rfl, HO, HMm, HC2⟩
        case round =>
          obtain ⟨k2, hk2m, hk29, rfl, HOr, HMr, HCs⟩ := hrel
          clear HO HMm HC2
          obtain ⟨hC, hD, Lo, Xo, Vo, Yo, hO, b1, b2⟩ := HOr.out
          have HOs := Lib.hid hO
          have HBo := Lib.hid (And.intro b1 b2)
          have HMm := HMr
          clear hO b1 b2 HOr HMr
          by_cases hlt2 : k2 < m ∧ k2 < 9
          · obtain ⟨hm1, hm2⟩ := hlt2
            have hk1' : (k2 : Int) < (m : Int) := by omega
            have hk2' : (k2 : Int) < 9 := by omega
            have hk0' : (0 : Int) ≤ (k2 : Int) := by omega
            obtain ⟨⟨bC, oC, sC⟩, rfl, hbC, hxC⟩ := HS.out (by rw [nms_len, HL.out]; omega)
            obtain rfl : sC = none := hsp (by omega) _ rfl
            obtain ⟨x, hx⟩ : ∃ x, lt[k2]? = some x := ⟨_, List.getElem?_eq_getElem (by rw [HL.out]; exact hm1)⟩
            have hcx : w.cell? ⟨bC, oC + k2, none⟩ = some (.int .i64 x) := by
              have := hxC k2 (.int .i64 x) (by unfold nms; rw [List.getElem?_map, hx]; rfl)
              rwa [add_plain] at this
            have HCX := Lib.hid hcx
            have ck2 := cell_keep hcx HCs.out
            clear hxC hx hcx hm1 hm2
            have HO1 := Lib.hid (HOs.out.keep ((Chg.refl [] wr).drew))
            by_cases h7 : bits .and .i64 x 7 = 7
            · go_wp2_with fail
              go_still_tail 10, (by kernel_rfl)
              change wpList _ _ _ _ _ wr.drew
              go_wp2_with (go_at_call 25
                           refine (store_any HO1.out _ _ false).mono ?_
                           rintro e w3 ⟨b3, L3, V3, rfl, hM3, hL3, hV3, hc3⟩
                           have hq := HBq.out
                           have hbo := HBo.out
                           have HC3 := Lib.hid ((HCs.out.drew).then_ hc3 fun i hi hlt => by
                             rcases (by simpa using hi : i = hC ∨ i = hD) with e | e <;> omega)
                           have ck3 := cell_keep HCX.out HC3.out)
              have HO3 := Lib.hid hM3
              have HM3 := Lib.hid ((HMm.out.keep ((Chg.refl [] wr).drew)).away hc3 (not2' (by omega) (by omega)) (not2' (by omega) (by omega)) (not2' (by omega) (by omega)))
              have hs3 : B2 ≤ w3.heap.size := by have := HM3.out.rec_.lt; have := hc3.size; have := HOs.out.cel.lt; have : wr.drew.heap.size = wr.heap.size := rfl; omega
              clear hM3 hL3 hV3 hc3 hq hbo ck2
              refine (grow_any HO3.out).mono ?_
              rintro e w4 ⟨hC', hD', L', X', V', Y', r4, rfl, hM4, hc4, hcc, hdd⟩
              have hq := HBq.out
              have hbo := HBo.out
              have HO4 := Lib.hid (show ∃ (hC hD : Nat) (Lo : List UInt8) (Xo : List Value) (Vo : List Bool) (Yo : List Value), Mm w4 q hC hD Lo Xo Vo Yo 8 ∧ B2 ≤ hC ∧ B2 ≤ hD from ⟨_, _, _, _, _, _, hM4, by omega, by omega⟩)
              have HM4 := Lib.hid (HM3.out.away hc4 (not3 (by omega) (by omega) (by omega)) (not3 (by omega) (by omega) (by omega)) (not3 (by omega) (by omega) (by omega)))
              have HC4 := Lib.hid (HC3.out.then_ hc4 fun i hi hlt => by
                rcases (by simpa using hi : i = q ∨ i = hC ∨ i = hD) with e | e | e <;> omega)
              clear hM4 hc4 hcc hdd hq hbo ck3 h7
              go_wp2_with fail
              go_roundw
              case rel => exact ⟨k2 + 1, by omega, by omega, by go_num, HO4, HM4, HC4⟩
              case measure => simp [intOf]; omega
            · go_wp2_with fail
              go_still_tail 10, (by kernel_rfl)
              change wpList _ _ _ _ _ wr.drew
              go_wp2_with (go_at_call 25
                           refine (store_any HO1.out _ _ false).mono ?_
                           rintro e w3 ⟨b3, L3, V3, rfl, hM3, hL3, hV3, hc3⟩
                           have hq := HBq.out
                           have hbo := HBo.out
                           have HC3 := Lib.hid ((HCs.out.drew).then_ hc3 fun i hi hlt => by
                             rcases (by simpa using hi : i = hC ∨ i = hD) with e | e <;> omega)
                           have ck3 := cell_keep HCX.out HC3.out)
              have HM3 := Lib.hid ((HMm.out.keep ((Chg.refl [] wr).drew)).away hc3 (not2' (by omega) (by omega)) (not2' (by omega) (by omega)) (not2' (by omega) (by omega)))
              have HO4 := Lib.hid (show ∃ (hC hD : Nat) (Lo : List UInt8) (Xo : List Value) (Vo : List Bool) (Yo : List Value), Mm w3 q hC hD Lo Xo Vo Yo 8 ∧ B2 ≤ hC ∧ B2 ≤ hD from ⟨_, _, _, _, _, _, hM3, HBo.out.1, HBo.out.2⟩)
              go_roundw
              case rel => exact ⟨k2 + 1, by omega, by omega, by go_num, HO4, HM3, HC3⟩
              case measure => simp [intOf]; omega
          · have hend2 : m ≤ k2 ∨ (k2 < m ∧ 9 ≤ k2) := by omega
            clear hlt2 hk2m hk29
            rcases hend2 with h1 | ⟨h1, h2⟩
            · have hk1' : ¬ (k2 : Int) < (m : Int) := by omega
              clear h1
              go_wp2_with fail
              have hw9 := HCs.out.size
              have ho0 : (wr.alloc (.cells #[] 5)).ownsRow wr.heap.size 5 1 (.slice (some ⟨wr.heap.size, 0, none⟩) 0 0) 0 [] :=
                own_of_whole (B := wr.heap.size) (n := 0) (c := 0) (Whole.new wr 5 []) (Nat.le_refl _) rfl (by omega) (by unfold maxLen; omega)
              have hal : Chg [] wr (wr.alloc (.cells #[] 5)) := (Chg.refl [] wr).alloc _
              refine (mbytes_any (HMm.out.keep hal)).mono ?_
              rintro e w5 ⟨v5, rfl, ho5, hc5⟩
              rw [HLm.out] at ho5
              obtain ⟨A5, c5, rfl, _, _, hs5, _⟩ := own_slice ho5
              have HO0 := Lib.hid (own_keep ho0 hc5)
              have HS5 := Lib.hid hs5
              have HC5 := Lib.hid (hal.new hc5)
              have hln := Lib.hid (show (bts L).length = 256 by rw [bts_len, HLm.out])
              have HX5 := Lib.hid (show wr.heap.size ≤ w5.heap.size from (hal.new hc5).size)
              obtain ⟨g0, hg0⟩ : ∃ g0, g0 = wr.heap.size := ⟨_, rfl⟩
              rw [← hg0] at HO0 ⊢
              have HG0 := Lib.hid hg0
              clear hg0 ho0 hal ho5 hs5 hc5 hw9
              have hx63 := Lib.hid (show 0 + 256 ≤ maxLen by unfold maxLen; omega)
              have hx1 := Lib.hid (show (0 + 256) * 1 ≤ 140737488355328 by omega)
              have hxb := Lib.hid (show g0 ≤ w5.heap.size by rw [HG0.out]; exact HX5.out)
              go_wp2_with (first
                | (at_builtin
                   refine wpList_append_src rfl (.tmp 72) (.tmp 74) 22 rfl g0 5 iu _ 1 Try.underlying22 hui huz hus hub cells_u8 (.slice (some ⟨g0, 0, none⟩) 0 0) 0 [] rfl HO0.out A5 256 c5 (bts L) rfl hln.out HS5.out (bts_one L) hx63.out hx1.out hxb.out ?_
                   intro v6 w6 ho6 hg6 _
                   have HC6 := Lib.hid (HC5.out.own HO0.out (by rw [HG0.out]; exact Nat.le_refl _) hg6)
                   simp only [Nat.zero_add, List.nil_append] at ho6
                   obtain ⟨g6, r6, rfl, hbg6, _, _⟩ := own_whole ho6 (by omega)
                   obtain ⟨g7, cap7, w7, hr7, ho7, hg7, _⟩ := run_append_zeros (P := Try.prog) w6 g0 22 3 22 5 iu _ 1 .i64 Try.underlying22 Try.underlying3 hui huz hus hub rfl rfl g6 256 (256 + r6.length) (bts L) ho6 256 (by unfold maxLen; omega) (by omega) (by rw [HG0.out]; exact HC6.out.size)
                   have HC7 := Lib.hid (HC6.out.own ho6 (by rw [HG0.out]; exact Nat.le_refl _) hg7)
                   have HR7 := Lib.hid hr7
                   have HO7 := Lib.hid ho7
                   clear ho6 hg6 hr7 ho7 hg7)
                | (at_builtin
                   refine Lib.wpList_append_run w6 rfl (.tmp 75) (.const (.int .i64 256)) 22 3 rfl _ _ rfl rfl _ _ HR7.out ?_))
              have hbz : bts L ++ List.replicate 256 (.int .u8 0) = bts (L ++ zeros 256) := by rw [bts_app, bts_zeros]
              have ho7 : w7.ownsRow g0 5 1 (.slice (some ⟨g7, 0, none⟩) (256 + 256) cap7) 512 (bts (L ++ zeros 256)) := by rw [← hbz]; exact HO7.out
              obtain ⟨gb, rb, hbe, hbg, hWb, hbm⟩ := own_whole ho7 (by omega)
              injection hbe with hb1 hb2 hb3
              injection hb1 with hb1
              injection hb1 with hb1 _ _
              subst hb1
              obtain ⟨cb, hcb⟩ : ∃ cb, cb = cap7 := ⟨_, rfl⟩
              have hcb2 : 512 ≤ cap7 := by omega
              unfold maxLen at hbm
              have hcm : cap7 ≤ 9223372036854775807 := by omega
              have HWb := Lib.hid hWb
              have HC8 := Lib.hid (HCs.out.new HC7.out)
              have HM8 := Lib.hid (HMm.out.keep HC7.out)
              have HO8 := Lib.hid (HOs.out.keep HC7.out)
              have HBL := Lib.hid (show (L ++ zeros 256).length = 512 by rw [List.length_append, zeros_len, HLm.out])
              have hn512 : ((256 : Nat) + 256 : Nat) = 512 := rfl
              clear hbz ho7 hWb hb2 hb3 hbm hcb HO7 HR7 HO0 HS5 hln
              go_wp2_with fail
              go_loopw [9, 11] (fun v i wx => ∃ j : Nat, j ≤ 8 ∧ i = .int .i64 ((j * 64 : Nat) : Int) ∧ wx.ownsRow w7.heap.size 22 1 v j (vsJ g7 cap7 j) ∧ Hid (Chg [] w7 wx)) (fun _ i _ => 512 - (intOf i).toNat)
              case atStart => exact ⟨0, by omega, rfl, own_nil _ _ _, Lib.hid (Chg.refl _ _)⟩
              case round =>
                obtain ⟨j, hj, rfl, hown, HCj⟩ := hrel
                obtain ⟨Av, cv, rfl, hvl, hvc, hsv, hAv⟩ := own_slice hown
                by_cases hlj : j < 8
                · obtain ⟨J, hJ, hJ8⟩ : ∃ J : Nat, J = j * 64 ∧ J + 64 ≤ 512 := ⟨_, rfl, by omega⟩
                  rw [← hJ]
                  have hJl : (J : Int) < 512 := by omega
                  have hJc : ¬ cap7 = J := by omega
                  have hJc2 : ¬ cap7 < J + 64 := by omega
                  have hx1 := Lib.hid (show j + 1 ≤ maxLen by unfold maxLen; omega)
                  have hx2 := Lib.hid (show (j + 1) * 24 ≤ 140737488355328 by omega)
                  have hx3 := Lib.hid (show w7.heap.size ≤ wr.heap.size from HCj.out.size)
                  have HJ := Lib.hid hJ
                  have hjj := Lib.hid hlj
                  clear hJ hlj
                  go_wp2_with (at_builtin
                               refine wpList_append_src rfl (.tmp 83) (.tmp 89) 30 rfl w7.heap.size 22 i0 _ 24 Try.underlying30 hi hz hs1 hb cells_slice (.slice Av j cv) j (vsJ g7 cap7 j) rfl (own_keep hown ((Chg.refl _ _).alloc _)) (some ⟨wr.heap.size, 0, none⟩) 1 1 [.slice (some ⟨g7, J, none⟩) 64 (cap7 - J)] rfl rfl (Src.of_all (Whole.new wr 22 [.slice (some ⟨g7, J, none⟩) 64 (cap7 - J)])) (fun u hu => by simp at hu; rw [hu]; rfl) hx1.out hx2.out (by simp; have := hx3.out; omega) ?_
                               intro v4 w4 ho4 hg4 _)
                  have hch : Chg [] w7 w4 := ((HCj.out).alloc _).own (own_keep hown ((Chg.refl _ _).alloc _)) (Nat.le_refl _) hg4
                  go_roundw
                  case rel =>
                    refine ⟨j + 1, by have := hjj.out; omega, by have := HJ.out; go_num, ?_, Lib.hid hch⟩
                    rw [vsJ_next, ← HJ.out]
                    exact ho4
                  case measure => have := hjj.out; have := HJ.out; simp [intOf]; omega
                · have hj8 : j = 8 := by omega
                  have hge : ¬ (((j * 64 : Nat) : Int)) < 512 := by omega
                  have hown8 := hown
                  rw [hj8] at hsv hvl
                  have hlist : Lists wr (vsJ g7 cap7 8) (mix (L ++ zeros 256) [] 8 0) := vsJ_lists (HWb.out.keep HCj.out) HBL.out hcb2 hcm
                  have HLI := Lib.hid hlist
                  have HSV := Lib.hid hsv
                  have HVL := Lib.hid hvl
                  have HAV := Lib.hid hAv
                  have HC9 := Lib.hid (HC8.out.new HCj.out)
                  have HM9 := Lib.hid (HM8.out.keep HCj.out)
                  have HO9 := Lib.hid (HO8.out.keep HCj.out)
                  have hJJ := Lib.hid hj8
                  obtain ⟨Jn, hJn⟩ : ∃ Jn : Int, Jn = ((j * 64 : Nat) : Int) := ⟨_, rfl⟩
                  rw [← hJn] at hge ⊢
                  clear hown hown8 hsv hvl hAv hlist hj hlj hj8 hJn
                  go_wp2_with fail
                  refine (shchanges_any HM9.out HO9.out 0 (by omega)).mono ?_
                  rintro e wa ⟨va, la, rfl, hoa, hma, hcs, hca⟩
                  obtain ⟨Aa, ca, rfl, hla, hchs, hna, hnc, hspa⟩ := chs_own hoa hma
                  have hl64 : la.length ≤ 64 := by rw [hcs.len]; exact Nat.le_trans (chsS_len _ _ _ _) HO9.out.smallV
                  have hapl : applyL (mix (L ++ zeros 256) [] 8 0) la = mix (L ++ zeros 256) Lo 8 Vo.length := (applyL_P la _ _ hcs).trans (by
                    rw [mix0 (L ++ zeros 256) [] Lo 8]
                    exact apply_mix (M := Lo) (b := L ++ zeros 256) (n := 8) (fun i hi => by rw [HLm.out] at hi; exact pg_front (by rw [HLm.out]; omega)) Vo.length (by have := HO9.out.le; omega))
                  have HPL := Lib.hid hapl
                  have HCHS := Lib.hid hchs
                  have HB64 := Lib.hid (show ∀ a ∈ la, a.B.length ≤ 1000000 from fun a ha => by rw [(hma a ha).bl]; omega)
                  have HCa := Lib.hid (HC9.out.new hca)
                  have HOa := Lib.hid (HO9.out.keep hca)
                  have HLIa := Lib.hid (HLI.out.keep hca)
                  have HSVa := Lib.hid (HSV.out.keep hca)
                  have hV8 := HO9.out.le
                  have HLV := Lib.hid HO9.out.len
                  obtain ⟨N, hN⟩ : ∃ N, N = la.length := ⟨_, rfl⟩
                  rw [← hN] at hla hna hnc hl64 ⊢
                  have HN := Lib.hid hN.symm
                  have hjn := Lib.hid hJJ.out
                  clear hoa hma hcs hchs hapl hca hla hN hspa
                  go_wp2_with fail
                  rw [hjn.out]
                  refine (apply_any HSVa.out (fun _ ad e => (HAV.out ad e).1) HVL.out (by omega) HLIa.out (mix_small _ _ _) HCHS.out HN.out (by omega) HB64.out).mono ?_
                  rintro e wb ⟨g9, us, rfl, hF, hgw, hcb9⟩
                  rw [HPL.out] at hF ⊢
                  obtain ⟨M8, hM8⟩ : ∃ M8, M8 = (mix (L ++ zeros 256) Lo 8 Vo.length).length := ⟨_, rfl⟩
                  rw [← hM8] at hF ⊢
                  have hM8a : M8 ≤ 8 := by rw [hM8, mix_len]; exact Nat.le_refl _
                  have HM8' := Lib.hid (show M8 = 8 by rw [hM8, mix_len])
                  have HF := Lib.hid hF
                  clear hM8
                  have HCb := Lib.hid (HCa.out.new hcb9)
                  have HOb := Lib.hid (HOa.out.keep hcb9)
                  clear hF hgw hcb9
                  go_wp2_with fail
                  have hmf := Lib.hid (mix_flat (b := L ++ zeros 256) HLV.out HBL.out hV8)
                  have HRl := Lib.hid (mix_len (L ++ zeros 256) Lo 8 Vo.length)
                  generalize mix (L ++ zeros 256) Lo 8 Vo.length = R at HF hmf HRl
                  go_loopw [12, 97] (fun t i wx => ∃ q : Nat, q ≤ M8 ∧ i = .int .i64 (q : Int) ∧ t = .string (strOf ((R.take q).flatten)) ∧ Hid (Chg [] wb wx)) (fun _ i _ => M8 - (intOf i).toNat)
                  case atStart => exact ⟨0, by omega, rfl, rfl, Lib.hid (Chg.refl _ _)⟩
                  case round =>
                    obtain ⟨q, hq, rfl, rfl, HCq⟩ := hrel
                    by_cases hlq : q < M8
                    · have hq8 : (q : Int) < (M8 : Int) := by omega
                      have hl8 : q < 8 := by omega
                      have hq0 : (0 : Int) ≤ (q : Int) := by omega
                      obtain ⟨r, hr⟩ : ∃ r, R[q]? = some r := ⟨_, List.getElem?_eq_getElem (by rw [HRl.out]; exact hl8)⟩
                      obtain ⟨x, hux, hWx, -⟩ := (HF.out.keep HCq.out).at_ q hlq r hr
                      have cq := ((HF.out.row.keep HCq.out).cell q).trans hux
                      have hr64 : r.length = 64 := hmf.out.2.2 r (List.mem_of_getElem? hr)
                      rw [hr64] at cq
                      have sq := (bs64 hWx hr64).str (P := Try.prog) 22 5 9 Try.underlying22 Try.underlying5 Try.underlying9
                      have HNX := Lib.hid (show (R.take (q + 1)).flatten = (R.take q).flatten ++ r by
                        rw [List.take_succ_eq_append_getElem (by rw [HRl.out]; exact hl8), List.flatten_append]
                        have := List.getElem?_eq_getElem (l := R) (i := q) (by rw [HRl.out]; exact hl8)
                        rw [this] at hr; injection hr with hr
                        simp [hr])
                      have HAP := Lib.hid (strOf_app ((R.take q).flatten) r)
                      have hcat : ¬ (9223372036854775807 : Int) < (((strOf ((R.take q).flatten)).size : Nat) : Int) + (((strOf r).size : Nat) : Int) := by
                        have h1 : ((R.take q).flatten).length ≤ R.flatten.length := by
                          have : R.flatten = (R.take q).flatten ++ (R.drop q).flatten := by rw [← List.flatten_append, List.take_append_drop]
                          rw [this, List.length_append]; omega
                        have h2 := hmf.out.1
                        rw [strOf_size, strOf_size, hr64]; omega
                      clear hux hWx hr64 hr hl8
                      go_wp2_with fail
                      go_roundw
                      case rel => exact ⟨q + 1, by omega, by go_num, by rw [HNX.out, ← HAP.out], HCq⟩
                      case measure => simp [intOf]; omega
                    · have hq8 : ¬ (q : Int) < (M8 : Int) := by omega
                      have HG := Lib.hid (show (R.take q).flatten = R.flatten by rw [List.take_of_length_le (by rw [HRl.out]; have := HM8'.out; omega)])
                      rw [HG.out]
                      generalize R.flatten = G at hmf HG
                      have HOq := Lib.hid (HOb.out.keep HCq.out)
                      clear hlq hq
                      go_wp2_with fail
                      refine (mbytes_any HOq.out).mono ?_
                      rintro e wc ⟨vc, rfl, hoc, hcc⟩
                      obtain ⟨Ac, cc, rfl, hBc, _⟩ := Bs.of_own hoc
                      have HOc := Lib.hid (HOq.out.keep hcc)
                      have HCc := Lib.hid ((HCb.out.new HCq.out).new hcc)
                      have hLo : Lo.length ≤ 512 := by rw [HLV.out]; omega
                      clear hoc hBc hcc
                      go_wp2_with fail
                      have hGl := hmf.out.1
                      have hszG : (strOf G).size = 512 := by rw [strOf_size, hGl]
                      have HSZ := Lib.hid hszG
                      have HTK := Lib.hid (show (strOf G).extract 0 Lo.length = strOf Lo by rw [strOf_take, hmf.out.2.1])
                      have HLo := Lib.hid hLo
                      have HLoI := Lib.hid (show (Lo.length : Int) ≤ 512 by omega)
                      clear hGl hszG
                      refine wp_flow (by kernel_rfl) plainT plainT_ok (by kernel_rfl) ?_
                      refine flow_move_out plainT_ok rfl rfl rfl ?_
                      refine flow_len_str plainT_ok (.inn rfl) Try.underlying9 rfl ?_
                      rw [HSZ.out]
                      refine flow_eql plainT_ok (.inn rfl) (.const _) (fun ev W he e1 e2 => by go_simp) rfl ?_
                      refine flow_move plainT_ok rfl (keeps_isV _) (.inr (keeps_isV _)) rfl ?_
                      refine flow_move_out plainT_ok rfl rfl rfl ?_
                      refine flow_move_out plainT_ok rfl rfl rfl ?_
                      refine flow_cut_str plainT_ok (.inn rfl) (.inn rfl) Try.underlying9 (by rw [HSZ.out]; exact HLo.out) rfl ?_
                      rw [HTK.out]
                      refine flow_move_out plainT_ok rfl rfl rfl ?_
                      refine flow_calld (ownF wc.drew.heap.size 5 (bts Lo)) (keeps_own _ _ _) (.inr (keeps_own _ _ _)) (by kernel_rfl) rfl (.cons (.inn rfl) .nil) (fun W hW => (mbytes_any (HOc.out.keep (wdrew hW))).mono ?_) ?_
                      · rintro e w' ⟨v, rfl, ho, hc⟩
                        exact ⟨v, rfl, hc, by rw [ownF, bts_len]; exact own_more ho hW.size⟩
                      refine flow_str plainT_ok rfl Try.underlying22 Try.underlying5 Try.underlying9 rfl ?_
                      refine flow_eql plainT_ok (.inn rfl) (.inn rfl) (fun ev W he e1 e2 => by go_simp) rfl ?_
                      refine flow_and plainT_ok rfl rfl rfl ?_
                      refine flow_move plainT_ok rfl (keeps_isV _) (.inr (keeps_isV _)) rfl ?_
                      refine flow_move_out plainT_ok rfl rfl rfl ?_
                      refine flow2 (r := .bool true) plainT_ok rfl (.inn rfl) (.const _) rfl (fun ev W he e1 e2 => by have h2 := HLoI.out; go_simp) ?_
                      refine flow_and plainT_ok rfl rfl rfl ?_
                      refine flow_move plainT_ok rfl (keeps_isV _) (.inr (keeps_isV _)) rfl ?_
                      refine flow_callv (.bool true) (by kernel_rfl) rfl .nil (fun W hW => shknown_any.mono ?_) ?_
                      · rintro e w' ⟨rfl, hc⟩; exact ⟨rfl, hc⟩
                      refine flow_and plainT_ok rfl rfl rfl ?_
                      refine flow_assign plainT_ok rfl (keeps_isV _) (.inr (keeps_isV _)) rfl ?_
                      intro vs W hW hF
                      have e4 : vs 4 = .bool true := hF 4 _ rfl rfl
                      simp only [putAll, Act.put, List.setIfInBounds_toArray, List.set_cons_zero, List.set_cons_succ, e4]
                      have HCW := Lib.hid (HCc.out.new (wdrew hW))
                      clear hW hF
                      go_wp2_with fail
                      go_ret
                      exact ⟨rfl, HCW.out⟩
            · have hk1' : (k2 : Int) < (m : Int) := by omega
              have hk2' : ¬ (k2 : Int) < 9 := by omega
              clear h1 h2
              go_wp2_with fail
              have hw9 := HCs.out.size
              have ho0 : (wr.alloc (.cells #[] 5)).ownsRow wr.heap.size 5 1 (.slice (some ⟨wr.heap.size, 0, none⟩) 0 0) 0 [] :=
                own_of_whole (B := wr.heap.size) (n := 0) (c := 0) (Whole.new wr 5 []) (Nat.le_refl _) rfl (by omega) (by unfold maxLen; omega)
              have hal : Chg [] wr (wr.alloc (.cells #[] 5)) := (Chg.refl [] wr).alloc _
              refine (mbytes_any (HMm.out.keep hal)).mono ?_
              rintro e w5 ⟨v5, rfl, ho5, hc5⟩
              rw [HLm.out] at ho5
              obtain ⟨A5, c5, rfl, _, _, hs5, _⟩ := own_slice ho5
              have HO0 := Lib.hid (own_keep ho0 hc5)
              have HS5 := Lib.hid hs5
              have HC5 := Lib.hid (hal.new hc5)
              have hln := Lib.hid (show (bts L).length = 256 by rw [bts_len, HLm.out])
              have HX5 := Lib.hid (show wr.heap.size ≤ w5.heap.size from (hal.new hc5).size)
              obtain ⟨g0, hg0⟩ : ∃ g0, g0 = wr.heap.size := ⟨_, rfl⟩
              rw [← hg0] at HO0 ⊢
              have HG0 := Lib.hid hg0
              clear hg0 ho0 hal ho5 hs5 hc5 hw9
              have hx63 := Lib.hid (show 0 + 256 ≤ maxLen by unfold maxLen; omega)
              have hx1 := Lib.hid (show (0 + 256) * 1 ≤ 140737488355328 by omega)
              have hxb := Lib.hid (show g0 ≤ w5.heap.size by rw [HG0.out]; exact HX5.out)
              go_wp2_with (first
                | (at_builtin
                   refine wpList_append_src rfl (.tmp 72) (.tmp 74) 22 rfl g0 5 iu _ 1 Try.underlying22 hui huz hus hub cells_u8 (.slice (some ⟨g0, 0, none⟩) 0 0) 0 [] rfl HO0.out A5 256 c5 (bts L) rfl hln.out HS5.out (bts_one L) hx63.out hx1.out hxb.out ?_
                   intro v6 w6 ho6 hg6 _
                   have HC6 := Lib.hid (HC5.out.own HO0.out (by rw [HG0.out]; exact Nat.le_refl _) hg6)
                   simp only [Nat.zero_add, List.nil_append] at ho6
                   obtain ⟨g6, r6, rfl, hbg6, _, _⟩ := own_whole ho6 (by omega)
                   obtain ⟨g7, cap7, w7, hr7, ho7, hg7, _⟩ := run_append_zeros (P := Try.prog) w6 g0 22 3 22 5 iu _ 1 .i64 Try.underlying22 Try.underlying3 hui huz hus hub rfl rfl g6 256 (256 + r6.length) (bts L) ho6 256 (by unfold maxLen; omega) (by omega) (by rw [HG0.out]; exact HC6.out.size)
                   have HC7 := Lib.hid (HC6.out.own ho6 (by rw [HG0.out]; exact Nat.le_refl _) hg7)
                   have HR7 := Lib.hid hr7
                   have HO7 := Lib.hid ho7
                   clear ho6 hg6 hr7 ho7 hg7)
                | (at_builtin
                   refine Lib.wpList_append_run w6 rfl (.tmp 75) (.const (.int .i64 256)) 22 3 rfl _ _ rfl rfl _ _ HR7.out ?_))
              have hbz : bts L ++ List.replicate 256 (.int .u8 0) = bts (L ++ zeros 256) := by rw [bts_app, bts_zeros]
              have ho7 : w7.ownsRow g0 5 1 (.slice (some ⟨g7, 0, none⟩) (256 + 256) cap7) 512 (bts (L ++ zeros 256)) := by rw [← hbz]; exact HO7.out
              obtain ⟨gb, rb, hbe, hbg, hWb, hbm⟩ := own_whole ho7 (by omega)
              injection hbe with hb1 hb2 hb3
              injection hb1 with hb1
              injection hb1 with hb1 _ _
              subst hb1
              obtain ⟨cb, hcb⟩ : ∃ cb, cb = cap7 := ⟨_, rfl⟩
              have hcb2 : 512 ≤ cap7 := by omega
              unfold maxLen at hbm
              have hcm : cap7 ≤ 9223372036854775807 := by omega
              have HWb := Lib.hid hWb
              have HC8 := Lib.hid (HCs.out.new HC7.out)
              have HM8 := Lib.hid (HMm.out.keep HC7.out)
              have HO8 := Lib.hid (HOs.out.keep HC7.out)
              have HBL := Lib.hid (show (L ++ zeros 256).length = 512 by rw [List.length_append, zeros_len, HLm.out])
              have hn512 : ((256 : Nat) + 256 : Nat) = 512 := rfl
              clear hbz ho7 hWb hb2 hb3 hbm hcb HO7 HR7 HO0 HS5 hln
              go_wp2_with fail
              go_loopw [9, 11] (fun v i wx => ∃ j : Nat, j ≤ 8 ∧ i = .int .i64 ((j * 64 : Nat) : Int) ∧ wx.ownsRow w7.heap.size 22 1 v j (vsJ g7 cap7 j) ∧ Hid (Chg [] w7 wx)) (fun _ i _ => 512 - (intOf i).toNat)
              case atStart => exact ⟨0, by omega, rfl, own_nil _ _ _, Lib.hid (Chg.refl _ _)⟩
              case round =>
                obtain ⟨j, hj, rfl, hown, HCj⟩ := hrel
                obtain ⟨Av, cv, rfl, hvl, hvc, hsv, hAv⟩ := own_slice hown
                by_cases hlj : j < 8
                · obtain ⟨J, hJ, hJ8⟩ : ∃ J : Nat, J = j * 64 ∧ J + 64 ≤ 512 := ⟨_, rfl, by omega⟩
                  rw [← hJ]
                  have hJl : (J : Int) < 512 := by omega
                  have hJc : ¬ cap7 = J := by omega
                  have hJc2 : ¬ cap7 < J + 64 := by omega
                  have hx1 := Lib.hid (show j + 1 ≤ maxLen by unfold maxLen; omega)
                  have hx2 := Lib.hid (show (j + 1) * 24 ≤ 140737488355328 by omega)
                  have hx3 := Lib.hid (show w7.heap.size ≤ wr.heap.size from HCj.out.size)
                  have HJ := Lib.hid hJ
                  have hjj := Lib.hid hlj
                  clear hJ hlj
                  go_wp2_with (at_builtin
                               refine wpList_append_src rfl (.tmp 83) (.tmp 89) 30 rfl w7.heap.size 22 i0 _ 24 Try.underlying30 hi hz hs1 hb cells_slice (.slice Av j cv) j (vsJ g7 cap7 j) rfl (own_keep hown ((Chg.refl _ _).alloc _)) (some ⟨wr.heap.size, 0, none⟩) 1 1 [.slice (some ⟨g7, J, none⟩) 64 (cap7 - J)] rfl rfl (Src.of_all (Whole.new wr 22 [.slice (some ⟨g7, J, none⟩) 64 (cap7 - J)])) (fun u hu => by simp at hu; rw [hu]; rfl) hx1.out hx2.out (by simp; have := hx3.out; omega) ?_
                               intro v4 w4 ho4 hg4 _)
                  have hch : Chg [] w7 w4 := ((HCj.out).alloc _).own (own_keep hown ((Chg.refl _ _).alloc _)) (Nat.le_refl _) hg4
                  go_roundw
                  case rel =>
                    refine ⟨j + 1, by have := hjj.out; omega, by have := HJ.out; go_num, ?_, Lib.hid hch⟩
                    rw [vsJ_next, ← HJ.out]
                    exact ho4
                  case measure => have := hjj.out; have := HJ.out; simp [intOf]; omega
                · have hj8 : j = 8 := by omega
                  have hge : ¬ (((j * 64 : Nat) : Int)) < 512 := by omega
                  have hown8 := hown
                  rw [hj8] at hsv hvl
                  have hlist : Lists wr (vsJ g7 cap7 8) (mix (L ++ zeros 256) [] 8 0) := vsJ_lists (HWb.out.keep HCj.out) HBL.out hcb2 hcm
                  have HLI := Lib.hid hlist
                  have HSV := Lib.hid hsv
                  have HVL := Lib.hid hvl
                  have HAV := Lib.hid hAv
                  have HC9 := Lib.hid (HC8.out.new HCj.out)
                  have HM9 := Lib.hid (HM8.out.keep HCj.out)
                  have HO9 := Lib.hid (HO8.out.keep HCj.out)
                  have hJJ := Lib.hid hj8
                  obtain ⟨Jn, hJn⟩ : ∃ Jn : Int, Jn = ((j * 64 : Nat) : Int) := ⟨_, rfl⟩
                  rw [← hJn] at hge ⊢
                  clear hown hown8 hsv hvl hAv hlist hj hlj hj8 hJn
                  go_wp2_with fail
                  refine (shchanges_any HM9.out HO9.out 0 (by omega)).mono ?_
                  rintro e wa ⟨va, la, rfl, hoa, hma, hcs, hca⟩
                  obtain ⟨Aa, ca, rfl, hla, hchs, hna, hnc, hspa⟩ := chs_own hoa hma
                  have hl64 : la.length ≤ 64 := by rw [hcs.len]; exact Nat.le_trans (chsS_len _ _ _ _) HO9.out.smallV
                  have hapl : applyL (mix (L ++ zeros 256) [] 8 0) la = mix (L ++ zeros 256) Lo 8 Vo.length := (applyL_P la _ _ hcs).trans (by
                    rw [mix0 (L ++ zeros 256) [] Lo 8]
                    exact apply_mix (M := Lo) (b := L ++ zeros 256) (n := 8) (fun i hi => by rw [HLm.out] at hi; exact pg_front (by rw [HLm.out]; omega)) Vo.length (by have := HO9.out.le; omega))
                  have HPL := Lib.hid hapl
                  have HCHS := Lib.hid hchs
                  have HB64 := Lib.hid (show ∀ a ∈ la, a.B.length ≤ 1000000 from fun a ha => by rw [(hma a ha).bl]; omega)
                  have HCa := Lib.hid (HC9.out.new hca)
                  have HOa := Lib.hid (HO9.out.keep hca)
                  have HLIa := Lib.hid (HLI.out.keep hca)
                  have HSVa := Lib.hid (HSV.out.keep hca)
                  have hV8 := HO9.out.le
                  have HLV := Lib.hid HO9.out.len
                  obtain ⟨N, hN⟩ : ∃ N, N = la.length := ⟨_, rfl⟩
                  rw [← hN] at hla hna hnc hl64 ⊢
                  have HN := Lib.hid hN.symm
                  have hjn := Lib.hid hJJ.out
                  clear hoa hma hcs hchs hapl hca hla hN hspa
                  go_wp2_with fail
                  rw [hjn.out]
                  refine (apply_any HSVa.out (fun _ ad e => (HAV.out ad e).1) HVL.out (by omega) HLIa.out (mix_small _ _ _) HCHS.out HN.out (by omega) HB64.out).mono ?_
                  rintro e wb ⟨g9, us, rfl, hF, hgw, hcb9⟩
                  rw [HPL.out] at hF ⊢
                  obtain ⟨M8, hM8⟩ : ∃ M8, M8 = (mix (L ++ zeros 256) Lo 8 Vo.length).length := ⟨_, rfl⟩
                  rw [← hM8] at hF ⊢
                  have hM8a : M8 ≤ 8 := by rw [hM8, mix_len]; exact Nat.le_refl _
                  have HM8' := Lib.hid (show M8 = 8 by rw [hM8, mix_len])
                  have HF := Lib.hid hF
                  clear hM8
                  have HCb := Lib.hid (HCa.out.new hcb9)
                  have HOb := Lib.hid (HOa.out.keep hcb9)
                  clear hF hgw hcb9
                  go_wp2_with fail
                  have hmf := Lib.hid (mix_flat (b := L ++ zeros 256) HLV.out HBL.out hV8)
                  have HRl := Lib.hid (mix_len (L ++ zeros 256) Lo 8 Vo.length)
                  generalize mix (L ++ zeros 256) Lo 8 Vo.length = R at HF hmf HRl
                  go_loopw [12, 97] (fun t i wx => ∃ q : Nat, q ≤ M8 ∧ i = .int .i64 (q : Int) ∧ t = .string (strOf ((R.take q).flatten)) ∧ Hid (Chg [] wb wx)) (fun _ i _ => M8 - (intOf i).toNat)
                  case atStart => exact ⟨0, by omega, rfl, rfl, Lib.hid (Chg.refl _ _)⟩
                  case round =>
                    obtain ⟨q, hq, rfl, rfl, HCq⟩ := hrel
                    by_cases hlq : q < M8
                    · have hq8 : (q : Int) < (M8 : Int) := by omega
                      have hl8 : q < 8 := by omega
                      have hq0 : (0 : Int) ≤ (q : Int) := by omega
                      obtain ⟨r, hr⟩ : ∃ r, R[q]? = some r := ⟨_, List.getElem?_eq_getElem (by rw [HRl.out]; exact hl8)⟩
                      obtain ⟨x, hux, hWx, -⟩ := (HF.out.keep HCq.out).at_ q hlq r hr
                      have cq := ((HF.out.row.keep HCq.out).cell q).trans hux
                      have hr64 : r.length = 64 := hmf.out.2.2 r (List.mem_of_getElem? hr)
                      rw [hr64] at cq
                      have sq := (bs64 hWx hr64).str (P := Try.prog) 22 5 9 Try.underlying22 Try.underlying5 Try.underlying9
                      have HNX := Lib.hid (show (R.take (q + 1)).flatten = (R.take q).flatten ++ r by
                        rw [List.take_succ_eq_append_getElem (by rw [HRl.out]; exact hl8), List.flatten_append]
                        have := List.getElem?_eq_getElem (l := R) (i := q) (by rw [HRl.out]; exact hl8)
                        rw [this] at hr; injection hr with hr
                        simp [hr])
                      have HAP := Lib.hid (strOf_app ((R.take q).flatten) r)
                      have hcat : ¬ (9223372036854775807 : Int) < (((strOf ((R.take q).flatten)).size : Nat) : Int) + (((strOf r).size : Nat) : Int) := by
                        have h1 : ((R.take q).flatten).length ≤ R.flatten.length := by
                          have : R.flatten = (R.take q).flatten ++ (R.drop q).flatten := by rw [← List.flatten_append, List.take_append_drop]
                          rw [this, List.length_append]; omega
                        have h2 := hmf.out.1
                        rw [strOf_size, strOf_size, hr64]; omega
                      clear hux hWx hr64 hr hl8
                      go_wp2_with fail
                      go_roundw
                      case rel => exact ⟨q + 1, by omega, by go_num, by rw [HNX.out, ← HAP.out], HCq⟩
                      case measure => simp [intOf]; omega
                    · have hq8 : ¬ (q : Int) < (M8 : Int) := by omega
                      have HG := Lib.hid (show (R.take q).flatten = R.flatten by rw [List.take_of_length_le (by rw [HRl.out]; have := HM8'.out; omega)])
                      rw [HG.out]
                      generalize R.flatten = G at hmf HG
                      have HOq := Lib.hid (HOb.out.keep HCq.out)
                      clear hlq hq
                      go_wp2_with fail
                      refine (mbytes_any HOq.out).mono ?_
                      rintro e wc ⟨vc, rfl, hoc, hcc⟩
                      obtain ⟨Ac, cc, rfl, hBc, _⟩ := Bs.of_own hoc
                      have HOc := Lib.hid (HOq.out.keep hcc)
                      have HCc := Lib.hid ((HCb.out.new HCq.out).new hcc)
                      have hLo : Lo.length ≤ 512 := by rw [HLV.out]; omega
                      clear hoc hBc hcc
                      go_wp2_with fail
                      have hGl := hmf.out.1
                      have hszG : (strOf G).size = 512 := by rw [strOf_size, hGl]
                      have HSZ := Lib.hid hszG
                      have HTK := Lib.hid (show (strOf G).extract 0 Lo.length = strOf Lo by rw [strOf_take, hmf.out.2.1])
                      have HLo := Lib.hid hLo
                      have HLoI := Lib.hid (show (Lo.length : Int) ≤ 512 by omega)
                      clear hGl hszG
                      refine wp_flow (by kernel_rfl) plainT plainT_ok (by kernel_rfl) ?_
                      refine flow_move_out plainT_ok rfl rfl rfl ?_
                      refine flow_len_str plainT_ok (.inn rfl) Try.underlying9 rfl ?_
                      rw [HSZ.out]
                      refine flow_eql plainT_ok (.inn rfl) (.const _) (fun ev W he e1 e2 => by go_simp) rfl ?_
                      refine flow_move plainT_ok rfl (keeps_isV _) (.inr (keeps_isV _)) rfl ?_
                      refine flow_move_out plainT_ok rfl rfl rfl ?_
                      refine flow_move_out plainT_ok rfl rfl rfl ?_
                      refine flow_cut_str plainT_ok (.inn rfl) (.inn rfl) Try.underlying9 (by rw [HSZ.out]; exact HLo.out) rfl ?_
                      rw [HTK.out]
                      refine flow_move_out plainT_ok rfl rfl rfl ?_
                      refine flow_calld (ownF wc.drew.heap.size 5 (bts Lo)) (keeps_own _ _ _) (.inr (keeps_own _ _ _)) (by kernel_rfl) rfl (.cons (.inn rfl) .nil) (fun W hW => (mbytes_any (HOc.out.keep (wdrew hW))).mono ?_) ?_
                      · rintro e w' ⟨v, rfl, ho, hc⟩
                        exact ⟨v, rfl, hc, by rw [ownF, bts_len]; exact own_more ho hW.size⟩
                      refine flow_str plainT_ok rfl Try.underlying22 Try.underlying5 Try.underlying9 rfl ?_
                      refine flow_eql plainT_ok (.inn rfl) (.inn rfl) (fun ev W he e1 e2 => by go_simp) rfl ?_
                      refine flow_and plainT_ok rfl rfl rfl ?_
                      refine flow_move plainT_ok rfl (keeps_isV _) (.inr (keeps_isV _)) rfl ?_
                      refine flow_move_out plainT_ok rfl rfl rfl ?_
                      refine flow2 (r := .bool true) plainT_ok rfl (.inn rfl) (.const _) rfl (fun ev W he e1 e2 => by have h2 := HLoI.out; go_simp) ?_
                      refine flow_and plainT_ok rfl rfl rfl ?_
                      refine flow_move plainT_ok rfl (keeps_isV _) (.inr (keeps_isV _)) rfl ?_
                      refine flow_callv (.bool true) (by kernel_rfl) rfl .nil (fun W hW => shknown_any.mono ?_) ?_
                      · rintro e w' ⟨rfl, hc⟩; exact ⟨rfl, hc⟩
                      refine flow_and plainT_ok rfl rfl rfl ?_
                      refine flow_assign plainT_ok rfl (keeps_isV _) (.inr (keeps_isV _)) rfl ?_
                      intro vs W hW hF
                      have e4 : vs 4 = .bool true := hF 4 _ rfl rfl
                      simp only [putAll, Act.put, List.setIfInBounds_toArray, List.set_cons_zero, List.set_cons_succ, e4]
                      have HCW := Lib.hid (HCc.out.new (wdrew hW))
                      clear hW hF
                      go_wp2_with fail
                      go_ret
                      exact ⟨rfl, HCW.out⟩
end
end Go.Proofs.Ytlhkmbcjgdjegaa
