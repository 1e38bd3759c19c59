/-
  S: DeltaPure, DeltaRef, DeltaRefB, DeltaRefC.
-/
import Derived.Test.YtddjgncdjdjgeaaGreatZS7
import Derived.Test.YtddjgncdjdjgeaaGreatZS15
import Derived.Outline
namespace Go.Proofs.YtddjgncdjdjgeaaGreat
open Go.RowKit
/-- A change that is a page. -/
def Page (a : ChV) : Prop := Small a ∧ a.B.length = 64
theorem be2_len (k : Nat) : (be2 k).length = 2 := rfl
theorem num2_be2 (k : Nat) (h : k < 65536) (x : List UInt8) : num2 (be2 k ++ x) = k := by
  show (UInt8.ofNat (k / 256)).toNat * 256 + (UInt8.ofNat k).toNat = k
  rw [UInt8.toNat_ofNat', UInt8.toNat_ofNat']
  omega
theorem chB_len {a : ChV} (h : Page a) : (chB a).length = 66 := by unfold chB; rw [List.length_append, be2_len, h.2]
theorem chsB_len : ∀ {l : List ChV}, (∀ a ∈ l, Page a) → (chsB l).length = l.length * 66
  | [], _ => rfl
  | a :: l, h => by
    rw [chsB, List.length_append, chB_len (h a (List.mem_cons_self ..)), chsB_len (fun b hb => h b (List.mem_cons_of_mem _ hb)), List.length_cons]
    omega
theorem chsB_drop : ∀ {l : List ChV}, (∀ a ∈ l, Page a) → ∀ k, k ≤ l.length → (chsB l).drop (k * 66) = chsB (l.drop k)
  | l, _, 0, _ => by simp
  | [], _, k + 1, h => by simp at h
  | a :: l, h, k + 1, hk => by
    rw [chsB, show (k + 1) * 66 = (chB a).length + k * 66 by rw [chB_len (h a (List.mem_cons_self ..))]; omega, ← List.drop_drop, List.drop_left, List.drop_succ_cons]
    exact chsB_drop (fun b hb => h b (List.mem_cons_of_mem _ hb)) k (by simpa using hk)
section
variable {l : List ChV}
theorem back_num (hn : l.length < 65536) : num2 (bytesD l) = l.length := num2_be2 _ hn _
theorem back_len (h : ∀ a ∈ l, Page a) : (bytesD l).length = 2 + l.length * 66 := by unfold bytesD; rw [List.length_append, be2_len, chsB_len h]
theorem back_at (h : ∀ a ∈ l, Page a) (k : Nat) (a : ChV) (ha : l[k]? = some a) : keyC (chOf (bytesD l) k) = keyC a := by
  obtain ⟨hk, rfl⟩ := List.getElem?_eq_some_iff.1 ha
  have hp := h _ (List.getElem_mem hk)
  have e0 : (bytesD l).drop (2 + k * 66) = chB l[k] ++ chsB (l.drop (k + 1)) := by
    unfold bytesD
    rw [← List.drop_drop, List.drop_left' (be2_len _), chsB_drop h k (by omega), List.drop_eq_getElem_cons hk]
    rfl
  have e1 : (bytesD l).drop (2 + k * 66 + 2) = l[k].B ++ chsB (l.drop (k + 1)) := by
    rw [← List.drop_drop, e0]
    unfold chB
    rw [List.append_assoc, List.drop_left' (be2_len _)]
  unfold keyC chOf
  rw [e0, e1]
  unfold chB
  rw [List.append_assoc, num2_be2 _ (by have := hp.1; have := this.2.1; have := hp.1.1; omega), List.take_left' hp.2]
  have := hp.1.1
  simp only [Prod.mk.injEq, and_true]
  omega
theorem back_as (h : ∀ a ∈ l, Page a) (hn : l.length < 65536) : asC (chsOf (bytesD l) (num2 (bytesD l))) l := by
  rw [back_num hn]
  refine ⟨?_, fun i a b ha hb => ?_⟩
  · apply List.ext_getElem?
    intro i
    simp only [List.getElem?_map, chsOf]
    rcases Nat.lt_or_ge i l.length with hi | hi
    · rw [List.getElem?_range hi, List.getElem?_eq_getElem hi]
      simp only [Option.map_some]
      rw [back_at h i _ (List.getElem?_eq_getElem hi)]
    · rw [List.getElem?_eq_none (by simpa using hi), List.getElem?_eq_none hi]
      rfl
  · have hi := (List.getElem?_eq_some_iff.1 hb).1
    simp [chsOf, List.getElem?_range hi] at ha
    subst ha
    have := back_at h i b hb
    exact ⟨by injection this, ((h b (List.mem_of_getElem? hb)).1.2.2).symm⟩
end
end Go.Proofs.YtddjgncdjdjgeaaGreat
namespace Go.Proofs.YtddjgncdjdjgeaaGreat
open Go.RowKit
section
variable {w : World} {A : Option Addr} {n c : Nat}
/-- The page ahead of the k-th. -/
def LastIs (l : List ChV) (k : Nat) (last : Int) : Prop := (k = 0 ∧ last = -1) ∨ (∃ a, 0 < k ∧ l[k - 1]? = some a ∧ last = a.page ∧ 0 ≤ last)
set_option maxHeartbeats 8000000 in
set_option maxRecDepth 100000 in
theorem rchanges_any {l : List ChV} (h : Chs w A l) (hl : l.length = n) (hn : n ≤ 9223372036854775807) (pages : Int) :
    Calls Tryz.prog 73 #[.slice A n c, .int .i64 pages] w (BoolPost (rightB pages l) w) := by
  have H := Lib.hid h
  have HL := Lib.hid hl
  clear h hl
  go_enter Tryz.func73, Tryz.ntmps73
  go_wp2_with fail
  go_loopw [8] (fun i wr => ∃ k : Nat, k ≤ n ∧ i = .int .i64 (k : Int) ∧ (∃ last : Int, Hid (LastIs l k last) ∧ Hid (rightS (-1) pages l = rightS last pages (l.drop k))) ∧ Chg [] w wr) (fun i _ => n - (intOf i).toNat)
  case atStart => exact ⟨0, Nat.zero_le _, rfl, ⟨-1, Lib.hid (.inl ⟨rfl, rfl⟩), Lib.hid (by rw [List.drop_zero])⟩, Chg.refl _ _⟩
  case round =>
    obtain ⟨k, hk, rfl, ⟨last, HLA, HK⟩, hcr⟩ := hrel
    by_cases hlt : k < n
    · obtain ⟨a, ha⟩ : ∃ a, l[k]? = some a := ⟨_, List.getElem?_eq_getElem (by have := HL.out; omega)⟩
      obtain ⟨g, o, rfl, hg, hce⟩ := (H.out.keep hcr).cells (by have := HL.out; omega)
      obtain ⟨c0, c1⟩ := hce k a ha
      have hbn := (H.out.ok a (List.mem_of_getElem? ha)).bs.len
      have HD := Lib.hid (show l.drop k = a :: l.drop (k + 1) by rw [List.drop_eq_getElem_cons (by have := HL.out; omega)]; congr 1; have := List.getElem?_eq_getElem (l := l) (i := k) (by have := HL.out; omega); rw [this] at ha; injection ha)
      have HC := Lib.hid hcr
      have hkI : (k : Int) < (n : Int) := by omega
      have HN1 := Lib.hid (show ∀ (hp : last < a.page) (hq : a.page < pages) (hr : a.bn = 64), LastIs l (k + 1) a.page ∧ rightS (-1) pages l = rightS a.page pages (l.drop (k + 1)) from fun hp hq hr => by
        refine ⟨.inr ⟨a, by omega, by simpa using ha, rfl, ?_⟩, ?_⟩
        · rcases HLA.out with ⟨_, h2⟩ | ⟨_, _, _, _, h2⟩ <;> omega
        · rw [HK.out, HD.out]
          simp only [rightS]
          rw [decide_eq_false (by omega), decide_eq_false (by omega), decide_eq_false (by simpa using hr)]
          rfl)
      have HF1 := Lib.hid (show ∀ (hp : a.page ≤ last ∨ pages ≤ a.page ∨ a.bn ≠ 64), rightB pages l = false from fun hp => by
        unfold rightB
        rw [HK.out, HD.out]
        simp only [rightS]
        rcases hp with h | h | h <;> simp [h])
      clear ha hcr hbn
      obtain ⟨page, bA, bn, bc, Bb⟩ := a
      simp only at c0 c1 HN1 HF1
      by_cases h1 : page < 0
      · have hd1 : decide (page < 0) = true := by simpa using h1
        have HF := Lib.hid (HF1.out (.inl (by rcases HLA.out with ⟨_, h2⟩ | ⟨_, _, _, _, h2⟩ <;> omega)))
        clear hce h1
        go_wp2_with fail
        go_quiet (fail)
        go_wp2_with fail
        go_ret
        exact ⟨by rw [HF.out]; rfl, HC.out.drewN _⟩
      · have hd1 : decide (page < 0) = false := by simpa using h1
        by_cases h2 : pages ≤ page
        · have hd2 : decide (pages ≤ page) = true := by simpa using h2
          have HF := Lib.hid (HF1.out (.inr (.inl h2)))
          clear hce h2
          go_wp2_with fail
          go_quiet (fail)
          go_wp2_with fail
          go_ret
          exact ⟨by rw [HF.out]; rfl, HC.out.drewN _⟩
        · have hd2 : decide (pages ≤ page) = false := by simpa using h2
          by_cases hk0 : k = 0
          · have hk1 : decide ((0 : Int) < (k : Int)) = false := by simp; omega
            have hk2 : decide (0 < k) = false := by simp; omega
            have hla : last < page := by rcases HLA.out with ⟨_, h3⟩ | ⟨_, h3, _⟩ <;> omega
            by_cases h3 : bn = 64
            · obtain ⟨hLN, hRN⟩ := HN1.out hla (by omega) h3
              have HLN := Lib.hid hLN
              have HRN := Lib.hid hRN
              have hb3 : ((bn : Int) == 64) = true := by simp; omega
              have hb4 : ((bn : Int) != 64) = false := by simp; omega
              have hb5 : (!((bn : Int) == 64)) = false := by simp; omega
              clear hce hLN hRN h3 hk0 hla h2 h1
              go_wp2_with fail
              go_quiet (fail)
              go_wp2_with fail
              go_roundw
              case rel => exact ⟨k + 1, by omega, by go_num, ⟨page, HLN, HRN⟩, HC.out.drewN _⟩
              case measure => simp [intOf]; omega
            · have HF := Lib.hid (HF1.out (.inr (.inr h3)))
              have hb3 : ((bn : Int) == 64) = false := by simp; omega
              have hb4 : ((bn : Int) != 64) = true := by simp; omega
              have hb5 : (!((bn : Int) == 64)) = true := by simp; omega
              clear hce h3 hk0 hla h2 h1
              go_wp2_with fail
              go_quiet (fail)
              go_wp2_with fail
              go_ret
              exact ⟨by rw [HF.out]; rfl, HC.out.drewN _⟩
          · have hk1 : decide ((0 : Int) < (k : Int)) = true := by simp; omega
            have hk2 : decide (0 < k) = true := by simp; omega
            obtain ⟨pv, hpv, hpl⟩ : ∃ a, l[k - 1]? = some a ∧ last = a.page := by
              rcases HLA.out with ⟨h3, _⟩ | ⟨a, _, h3, h4, _⟩
              · exact absurd h3 hk0
              · exact ⟨a, h3, h4⟩
            obtain ⟨d0, _⟩ := hce (k - 1) pv hpv
            rw [← hpl] at d0
            have m1 : IntKind.i64.wrap ((k : Int) - 1) = (k : Int) - 1 := IntWalk.i64_in _ (by omega)
            have m2 : (0 : Int) ≤ (k : Int) - 1 := by omega
            have m3 : (k : Int) - 1 < (n : Int) := by omega
            have m4 : ((k : Int) - 1).toNat = k - 1 := by omega
            have m5 : (1 : Int) ≤ (k : Int) := by omega
            by_cases h4 : page ≤ last
            · have hd4 : decide (page ≤ last) = true := by simpa using h4
              have HF := Lib.hid (HF1.out (.inl h4))
              clear hce hpv hpl h4 hk0 h2 h1
              go_wp2_with fail
              go_quiet (fail)
              go_wp2_with fail
              go_ret
              exact ⟨by rw [HF.out]; rfl, HC.out.drewN _⟩
            · have hd4 : decide (page ≤ last) = false := by simpa using h4
              by_cases h3 : bn = 64
              · obtain ⟨hLN, hRN⟩ := HN1.out (by omega) (by omega) h3
                have HLN := Lib.hid hLN
                have HRN := Lib.hid hRN
                have hb3 : ((bn : Int) == 64) = true := by simp; omega
                have hb4 : ((bn : Int) != 64) = false := by simp; omega
                have hb5 : (!((bn : Int) == 64)) = false := by simp; omega
                clear hce hLN hRN h3 hk0 h2 h1 h4 hpv hpl
                go_wp2_with fail
                go_quiet (fail)
                go_wp2_with fail
                go_roundw
                case rel => exact ⟨k + 1, by omega, by go_num, ⟨page, HLN, HRN⟩, HC.out.drewN _⟩
                case measure => simp [intOf]; omega
              · have HF := Lib.hid (HF1.out (.inr (.inr h3)))
                have hb3 : ((bn : Int) == 64) = false := by simp; omega
                have hb4 : ((bn : Int) != 64) = true := by simp; omega
                have hb5 : (!((bn : Int) == 64)) = true := by simp; omega
                clear hce h3 hk0 h2 h1 h4 hpv hpl
                go_wp2_with fail
                go_quiet (fail)
                go_wp2_with fail
                go_ret
                exact ⟨by rw [HF.out]; rfl, HC.out.drewN _⟩
    · have HF := Lib.hid (show rightB pages l = decide (pages ≤ 64) by
        unfold rightB
        rw [HK.out, List.drop_eq_nil_of_le (by have := HL.out; omega)]
        simp [rightS])
      have hkI : (n : Int) ≤ (k : Int) := by omega
      go_wp2_with fail
      go_ret
      exact ⟨by rw [HF.out]; rfl, hcr⟩
end
end Go.Proofs.YtddjgncdjdjgeaaGreat
namespace Go.Proofs.YtddjgncdjdjgeaaGreat
open Go.RowKit
section
variable {w : World} {A : Option Addr} {n c : Nat}
set_option maxHeartbeats 8000000 in
set_option maxRecDepth 100000 in
theorem rdelta_any {l : List ChV} (h : Chs w A l) (hs : ∀ a ∈ l, Small a) (hl : l.length = n) (hn : n ≤ 1000) :
    Calls Tryz.prog 76 #[.slice A n c] w (BytesPost w (bytesD l)) := by
  obtain ⟨i0, hi, hz, hs1, hb⟩ := info_parts info_byte
  have H := Lib.hid h
  have HL := Lib.hid hl
  have HS := Lib.hid hs
  have hbe := Lib.hid (bts_be2 n (by omega))
  clear h hl hs
  go_enter Tryz.func76, Tryz.ntmps76
  go_wp2_with fail
  have ho1 : (w.alloc (.cells #[.int .u8 ((n : Int) / 256), .int .u8 ((n : Int) % 256)] 5)).ownsRow w.heap.size 5 1 (.slice (some ⟨w.heap.size, 0, none⟩) 2 2) 2 (bts (be2 n)) := by
    have := own_of_whole (B := w.heap.size) (n := 2) (c := 2) (Whole.new w 5 [.int .u8 ((n : Int) / 256), .int .u8 ((n : Int) % 256)]) (Nat.le_refl _) rfl (by omega) (by unfold maxLen; omega)
    rw [hbe.out]
    exact this
  have hc1 : Chg [] w (w.alloc (.cells #[.int .u8 ((n : Int) / 256), .int .u8 ((n : Int) % 256)] 5)) := (Chg.refl [] w).alloc _
  go_loopw [3, 15] (fun t i wr => ∃ k : Nat, k ≤ n ∧ i = .int .i64 (k : Int) ∧ wr.ownsRow w.heap.size 5 1 t (2 + k * 66) (bts (be2 n ++ chsB (l.take k))) ∧ Chg [] w wr) (fun _ i _ => n - (intOf i).toNat)
  case atStart => exact ⟨0, Nat.zero_le _, rfl, by simpa [chsB] using ho1, hc1⟩
  case round =>
    obtain ⟨k, hk, rfl, hown, hcr⟩ := hrel
    have hwr := hcr.size
    clear ho1 hc1
    by_cases hlt : k < n
    · obtain ⟨a, ha⟩ : ∃ a, l[k]? = some a := ⟨_, List.getElem?_eq_getElem (by have := HL.out; omega)⟩
      have ham := List.mem_of_getElem? ha
      obtain ⟨g, o, rfl, hg, hce⟩ := (H.out.keep hcr).cells (by have := HL.out; omega)
      obtain ⟨c0, c1⟩ := hce k a ha
      have hbs := (H.out.ok a ham).bs
      obtain ⟨hp0, hp1, hbn⟩ := HS.out a ham
      have HT := Lib.hid (chsB_next l k a ha)
      have HC := Lib.hid hcr
      have HA := Lib.hid ha
      clear hce ha ham hcr
      obtain ⟨page, bA, bn, bc, Bb⟩ := a
      simp only at c0 c1 hbs hp0 hp1 hbn
      subst hbn
      obtain ⟨q, rfl⟩ := Int.eq_ofNat_of_zero_le hp0
      have hbq := Lib.hid (bts_be2 q (by omega))
      have HBS := Lib.hid hbs
      clear hbs
      obtain ⟨A3, c3, rfl, _, _, _, _⟩ := own_slice hown
      obtain ⟨X, hX⟩ : ∃ X, X = be2 n ++ chsB (l.take k) := ⟨_, rfl⟩
      rw [← hX] at hown
      have HX := Lib.hid hX
      clear hX
      have hkI : (k : Int) < (n : Int) := by omega
      have HOW := Lib.hid (fun o => own_keep hown ((Chg.refl [] wr).alloc o).drew)
      have hm1 : IntKind.u8.wrap ((q : Int) / 256) = (q : Int) / 256 := by rw [IntKind.wrap_u8]; omega
      have hm2 : IntKind.u8.wrap (q : Int) = (q : Int) % 256 := by rw [IntKind.wrap_u8]
      have hx1 := Lib.hid (show 2 + k * 66 + 2 ≤ maxLen by unfold maxLen; omega)
      have hx2 := Lib.hid (show (2 + k * 66 + 2) * 1 ≤ 140737488355328 by omega)
      have hx3 := Lib.hid (show 2 + k * 66 + 2 + 64 ≤ maxLen by unfold maxLen; omega)
      have hx4 := Lib.hid (show (2 + k * 66 + 2 + 64) * 1 ≤ 140737488355328 by omega)
      have HGW := Lib.hid hg
      have C1 := Lib.hid c1
      go_wp2_with fail
      go_region_law (first
        | (refine step_append_src rfl (.tmp 33) (.tmp 38) 30 rfl w.heap.size 5 i0 _ 1 Tryz.underlying30 hi hz hs1 hb cells_u8 v5 (2 + k * 66 + 2) (bts (X ++ be2 q)) rfl ho5 bA 64 bc (bts Bb) rfl hbl hsB (bts_one _) hx3.out hx4.out hc5.size ?_
           intro v6 w6 ho6 hg6)
        | (refine step_append_src rfl (.tmp 18) (.tmp 32) 30 rfl w.heap.size 5 i0 _ 1 Tryz.underlying30 hi hz hs1 hb cells_u8 (.slice A3 (2 + k * 66) c3) (2 + k * 66) (bts X) rfl (HOW.out _) (some ⟨wr.heap.size, 0, none⟩) 2 2 [.int .u8 ((q : Int) / 256), .int .u8 ((q : Int) % 256)] rfl rfl ((Src.of_all (Whole.new wr 5 [.int .u8 ((q : Int) / 256), .int .u8 ((q : Int) % 256)])).drew) (by simp [Value.oneCell']) hx1.out hx2.out (by simp; omega) ?_
           intro v5 w5 ho5' hg5
           have hc5 : Chg [] w w5 := ((Low.of_chg (B := w.heap.size) (HC.out.alloc _).drew).trans (Low.of_own (HOW.out _) hg5)).chg (Nat.le_refl _)
           have ho5 : w5.ownsRow w.heap.size 5 1 v5 (2 + k * 66 + 2) (bts (X ++ be2 q)) := by
             have e : bts (X ++ be2 q) = bts X ++ [.int .u8 ((q : Int) / 256), .int .u8 ((q : Int) % 256)] := by rw [← hbq.out]; simp [bts]
             rw [e]; exact ho5'
           have hB5 := HBS.out.keep hc5
           have hbl : (bts Bb).length = 64 := by rw [bts_len]; exact hB5.len
           have hsB : Src w5 bA (bts Bb) := hB5.src
           have d1 : w5.cell? ⟨g, o + k * 2 + 1, none⟩ = some (.slice bA 64 bc) := by
             obtain ⟨g2, o2, e2, _, hx2⟩ := (H.out.keep hc5).cells (by have := HL.out; omega)
             injection e2 with e2
             injection e2 with e21 e22
             subst e21 e22
             exact (hx2 k _ HA.out).2
           clear ho5'))
      all_goals
        have hL6 : Low w.heap.size w5 w6 := Low.of_own ho5 hg6
        have hc6 : Chg [] w w6 := ((Low.of_chg hc5).trans hL6).chg (Nat.le_refl _)
        clear hg6 hg5 d1
        go_wp2_with fail
        go_roundw
        case rel =>
          refine ⟨k + 1, by omega, by go_num, ?_, hc6⟩
          have e1 : bts (be2 n ++ chsB (l.take (k + 1))) = bts (X ++ be2 q) ++ bts Bb := by
            rw [HT.out, ← List.append_assoc, ← HX.out]
            simp [chB, bts]
          rw [e1, show 2 + (k + 1) * 66 = 2 + k * 66 + 2 + 64 by omega]
          exact ho6
        case measure => simp [intOf]; omega
    · obtain rfl : n = k := by omega
      have HK := Lib.hid (show l.take n = l by rw [List.take_of_length_le (by rw [HL.out]; exact Nat.le_refl _)])
      rw [HK.out] at hown
      have e1 : be2 n ++ chsB l = bytesD l := by unfold bytesD; rw [HL.out]
      rw [e1] at hown
      have e2 : 2 + n * 66 = (bytesD l).length := by have := hown.1; rw [bts_len] at this; omega
      rw [e2] at hown
      have HO := Lib.hid hown
      clear e1 e2 hown
      go_wp2_with fail
      go_ret
      exact ⟨_, rfl, HO.out, hcr⟩
end
end Go.Proofs.YtddjgncdjdjgeaaGreat
namespace Go.Proofs.YtddjgncdjdjgeaaGreat
open Go.RowKit
/-- What Undelta has made so far. -/
def UndSo (b : List UInt8) (w wr : World) (v : Value) (k : Nat) : Prop :=
  ∃ ls : List ChV, wr.ownsRow w.heap.size 51 2 v k (chCs ls) ∧ (∀ a ∈ ls, RMade wr w.heap.size a) ∧ asC ls (chsOf b k) ∧ Chg [] w wr
theorem num2_at (l : List UInt8) (k : Nat) (h : k + 1 < l.length) : num2 (l.drop k) = (l[k]'(by omega)).toNat * 256 + (l[k + 1]).toNat := by
  unfold num2
  rw [List.drop_eq_getElem_cons (by omega), List.drop_eq_getElem_cons (show k + 1 < l.length from h)]
  rfl
section
variable {w : World} {A : Option Addr} {n c : Nat}
set_option maxHeartbeats 8000000 in
set_option maxRecDepth 100000 in
theorem rundelta_own {b : List UInt8} (h : Bs w A n c b) (P : Int) :
    Calls Tryz.prog 104 #[.slice A n c, .int .i64 P] w (DReadOwn b P w) := by
  obtain ⟨i0, hi, hz0, hz1, hz2⟩ := info_parts info_change
  obtain ⟨iu, hiu, hzu, hsu, hbu⟩ := info_parts info_byte
  have hlen := h.len
  have hcap := h.cap
  have hmax := h.max
  have H := Lib.hid h
  have HLN := Lib.hid hlen
  clear h hlen
  by_cases h2 : n < 2
  · have HNO := Lib.hid (show ¬ (2 ≤ b.length ∧ b.length = 2 + num2 b * 66 ∧ rightB P (chsOf b (num2 b)) = true) from fun h => by have := HLN.out; omega)
    have hd : decide ((n : Int) < 2) = true := by simp; omega
    go_enter Tryz.func104, Tryz.ntmps104
    go_wp2_with fail
    go_ret2
    exact .inr ⟨HNO.out, rfl, Chg.refl _ _⟩
  have hd : decide ((n : Int) < 2) = false := by simp; omega
  by_cases hP : 64 < P
  · have hd2 : decide (64 < P) = true := by simpa using hP
    have HNO := Lib.hid (show ¬ (2 ≤ b.length ∧ b.length = 2 + num2 b * 66 ∧ rightB P (chsOf b (num2 b)) = true) from fun h => by
      have h3 := h.2.2
      unfold rightB at h3
      rw [decide_eq_false (by omega)] at h3
      cases h3)
    go_enter Tryz.func104, Tryz.ntmps104
    go_wp2_with fail
    go_ret2
    exact .inr ⟨HNO.out, rfl, Chg.refl _ _⟩
  have hd2 : decide (64 < P) = false := by simpa using hP
  obtain ⟨N, hN⟩ : ∃ N, N = num2 b := ⟨_, rfl⟩
  have hN6 : N < 65536 := by rw [hN]; exact num2_lt b
  obtain ⟨ad, rfl, hbw, hx⟩ := H.out.src (by rw [bts_len, HLN.out]; omega)
  obtain ⟨b0, o0, s0⟩ := ad
  obtain rfl : s0 = none := H.out.spot (by omega) _ rfl
  have x0 := hx 0 _ (bts_get b 0 (by rw [HLN.out]; omega))
  have x1 := hx 1 _ (bts_get b 1 (by rw [HLN.out]; omega))
  have hor := or_two (b[0]'(by rw [HLN.out]; omega)) (b[1]'(by rw [HLN.out]; omega))
  rw [show (b[0]'(by rw [HLN.out]; omega)).toNat * 256 + (b[1]'(by rw [HLN.out]; omega)).toNat = N by rw [hN, ← num2_at b 0 (by rw [HLN.out]; omega), List.drop_zero]] at hor
  rw [add_plain] at x0 x1
  rw [Nat.add_zero] at x0
  unfold B8 at x0 x1
  have HN := Lib.hid hN
  have HOR := Lib.hid hor
  clear hN hx hor
  have hq0 := (b[0]'(by rw [HLN.out]; omega)).toNat_lt
  have hq1 := (b[1]'(by rw [HLN.out]; omega)).toNat_lt
  generalize b[0]'(by rw [HLN.out]; omega) = q0 at x0 HOR hq0
  generalize b[1]'(by rw [HLN.out]; omega) = q1 at x1 HOR hq1
  have hn0 : (0 : Int) < (n : Int) := by omega
  have hn1 : (1 : Int) < (n : Int) := by omega
  go_enter Tryz.func104, Tryz.ntmps104
  go_wp2_with fail
  go_quiet (fail)
  rw [HOR.out]
  clear x0 x1 hq0 hq1 HOR
  have HC1 := Lib.hid ((Chg.refl [] w).drewN nq)
  by_cases h66 : n = 2 + N * 66
  · have hb1 : ((n : Int) == 2 + (N : Int) * 66) = true := by simp; omega
    have hb2 : (!((n : Int) == 2 + (N : Int) * 66)) = false := by rw [hb1]; rfl
    have hb3 : ((n : Int) != 2 + (N : Int) * 66) = false := by simp; omega
    have H66 := Lib.hid h66
    clear h66
    go_wp2_with fail
    go_loopw [7, 8] (fun v i wr => ∃ k : Nat, k ≤ N ∧ i = .int .i64 (k : Int) ∧ UndSo b w wr v k) (fun _ i _ => N - (intOf i).toNat)
    case atStart => exact ⟨0, Nat.zero_le _, rfl, [], World.ownsRow_nil _ _ _ _, fun a ha => by simp at ha, asC_nil, HC1.out⟩
    case round =>
      obtain ⟨k, hk, rfl, ls, hown, hmade, has, hcr⟩ := hrel
      have hwr := hcr.size
      have HM := Lib.hid hmade
      have HAS := Lib.hid has
      have HC := Lib.hid hcr
      clear hmade has hcr
      by_cases hlt : k < N
      · have ht66 : 2 + k * 66 + 66 ≤ n := by have := H66.out; omega
        have htI : (k : Int) < (N : Int) := by omega
        have htc : ¬ c = 2 + k * 66 := by omega
        obtain ⟨t, ht⟩ : ∃ t, t = 2 + k * 66 := ⟨_, rfl⟩
        have hcut := H.out.cut (lo := t + 2) (hi := t + 2 + 64) (by omega) (by omega)
        rw [if_neg (by omega), Option.map_some, add_plain] at hcut
        obtain ⟨Y, hY⟩ : ∃ Y, Y = (b.drop (t + 2)).take 64 := ⟨_, rfl⟩
        rw [show t + 2 + 64 - (t + 2) = 64 by omega, ← hY] at hcut
        have hYl : Y.length = 64 := hcut.len
        have HSY := Lib.hid hcut.src
        obtain ⟨_, e1, _, hx⟩ := H.out.src (by rw [bts_len, HLN.out]; omega)
        injection e1 with e1
        subst e1
        have x0 := hx t _ (bts_get b t (by rw [HLN.out]; omega))
        have x1 := hx (t + 1) _ (bts_get b (t + 1) (by rw [HLN.out]; omega))
        rw [add_plain] at x0 x1
        unfold B8 at x0 x1
        have hpg := num2_lt (b.drop t)
        have hor := or_two (b[t]'(by rw [HLN.out]; omega)) (b[t + 1]'(by rw [HLN.out]; omega))
        rw [← num2_at b t (by rw [HLN.out]; omega)] at hor
        obtain ⟨pg, hpq⟩ : ∃ pg, pg = num2 (b.drop t) := ⟨_, rfl⟩
        rw [← hpq] at hor hpg
        have hq0 := (b[t]'(by rw [HLN.out]; omega)).toNat_lt
        have hq1 := (b[t + 1]'(by rw [HLN.out]; omega)).toNat_lt
        generalize b[t]'(by rw [HLN.out]; omega) = q0 at x0 hor hq0
        generalize b[t + 1]'(by rw [HLN.out]; omega) = q1 at x1 hor hq1
        have HX0 := Lib.hid x0
        have HX1 := Lib.hid x1
        have HY := Lib.hid hY
        have HYL := Lib.hid hYl
        have HPG := Lib.hid hpq
        have HT := Lib.hid ht
        have HOR := Lib.hid hor
        have y0 : wr.cell? ⟨b0, o0 + (2 + k * 66), none⟩ = some (.int .u8 (q0.toNat : Int)) := by
          rw [← ht, ← x0]; exact World.cell?_of_block (w := w) (HC.out.block b0 hbw (by simp))
        have y1 : wr.cell? ⟨b0, o0 + (2 + k * 66) + 1, none⟩ = some (.int .u8 (q1.toNat : Int)) := by
          rw [← ht, Nat.add_assoc, ← x1]; exact World.cell?_of_block (w := w) (HC.out.block b0 hbw (by simp))
        have hbr : b0 < wr.heap.size := by omega
        have htn : (2 + (k : Int) * 66).toNat = 2 + k * 66 := by omega
        obtain ⟨A3, c3, rfl, _, _, _, _⟩ := chs_own' hown (fun a ha => (HM.out a ha).ok)
        obtain ⟨X, hX⟩ : ∃ X, X = chCs ls := ⟨_, rfl⟩
        rw [← hX] at hown
        have HXX := Lib.hid hX
        have HOW := Lib.hid hown
        have hYb := Lib.hid (show (bts Y).length = 64 by rw [bts_len, hYl])
        have hl1 : (1 : Int) < (n : Int) - (2 + (k : Int) * 66) := by omega
        have hsl : Src wr (some ⟨b0, o0 + t + 2, none⟩) (bts Y) := by
          have := HSY.out.keep HC.out
          rwa [← Nat.add_assoc] at this
        have HSL := Lib.hid hsl
        clear hcut hY hYl x0 x1 hx hpq ht hX hown hsl
        go_wp2_with fail
        rw [← HT.out]
        rw [← HT.out] at y0 y1
        obtain ⟨m, hm⟩ : ∃ m, m = n - t := ⟨_, rfl⟩
        obtain ⟨d, hd5⟩ : ∃ d, d = c - t := ⟨_, rfl⟩
        have hm66 : 66 ≤ m := by have := HT.out; omega
        have hmd : m ≤ d := by omega
        rw [← hm, ← hd5]
        have HMD := Lib.hid (And.intro hm hd5)
        clear hm hd5
        have ho0 : ((wr.alloc (.cells #[] 5)).drew).ownsRow wr.heap.size 5 1 (.slice (some ⟨wr.heap.size, 0, none⟩) 0 0) 0 [] :=
          own_of_whole (B := wr.heap.size) (n := 0) (c := 0) (Whole.new wr 5 []) (Nat.le_refl _) rfl (by omega) (by unfold maxLen; omega)
        have hd2' : ¬ d = 2 := by omega
        have hdI : (66 : Int) ≤ (d : Int) := by omega
        have hmI : (1 : Int) < (m : Int) := by omega
        have hmJ : 0 < m := by omega
        have hmK : 1 < m := by omega
        have hsh : IntKind.i64.wrap ((q0.toNat : Int) * 256) = (q0.toNat : Int) * 256 := IntWalk.i64_in _ (by omega)
        have hsi : IntKind.i64.wrap (q0.toNat : Int) = (q0.toNat : Int) := IntWalk.i64_in _ (by omega)
        have hsj : IntKind.i64.wrap (q1.toNat : Int) = (q1.toNat : Int) := IntWalk.i64_in _ (by omega)
        have hx1 := Lib.hid (show 0 + 64 ≤ maxLen by unfold maxLen; omega)
        have hx3 := Lib.hid (show k + 1 ≤ maxLen by unfold maxLen; omega)
        have hx4 := Lib.hid (show (k + 1) * 32 ≤ 140737488355328 by omega)
        go_region_law (first
          | (refine step_append_src rfl (.tmp 54) (.tmp 56) 30 rfl wr.heap.size 5 iu _ 1 Tryz.underlying30 hiu hzu hsu hbu cells_u8 (.slice (some ⟨wr.heap.size, 0, none⟩) 0 0) 0 [] rfl ho0 (some ⟨b0, o0 + t + 2, none⟩) 64 (d - 2) (bts Y) rfl hYb.out (HSL.out.keep ((Chg.refl [] wr).alloc _).drew) (bts_one _) hx1.out (by omega) (by simp) ?_
             intro v5 w5 ho5 hg5
             have hc5 : Chg [] wr w5 := (((Chg.refl [] wr).alloc _).drew).own ho0 (Nat.le_refl _) hg5
             rw [Nat.zero_add, List.nil_append] at ho5
             obtain ⟨g5, r5, rfl, hb5, hW5, hm5⟩ := own_whole ho5 (by omega)
             have e0 : w5.cell? ⟨b0, o0 + t, none⟩ = some (.int .u8 (q0.toNat : Int)) := (World.cell?_of_block (w := wr) (hc5.block b0 hbr (by simp))).trans y0
             have e1 : w5.cell? ⟨b0, o0 + t + 1, none⟩ = some (.int .u8 (q1.toNat : Int)) := (World.cell?_of_block (w := wr) (hc5.block b0 hbr (by simp))).trans y1
             have HW5 := Lib.hid hW5
             have HM5 := Lib.hid hm5
             clear ho5 hg5 hW5 hm5)
          | (refine step_append_n rfl (.tmp 43) (.tmp 59) 52 rfl w.heap.size 51 i0 _ 2 32 Tryz.underlying52 hi hz0 hz1 hz2 rfl (by decide) (.slice A3 k c3) k X rfl (rown_chg (rown_chg HOW.out hc5 (by simp)) ((Chg.refl [] w5).alloc _) (by simp)) ⟨w5.heap.size, 0, none⟩ 1 1 [.int .i64 (pg : Int), .slice (some ⟨g5, 0, none⟩) 64 (64 + r5.length)] rfl rfl (cells_page w5 _ _) (by simp [Value.oneCell']) hx3.out hx4.out (by have := hc5.size; simp; omega) ?_
             intro v6 w6 ho6 hg6))
        all_goals
          have HAL6 := Lib.hid (rown_chg (rown_chg HOW.out hc5 (by simp)) ((Chg.refl [] w5).alloc (.cells #[.int .i64 (pg : Int), .slice (some ⟨g5, 0, none⟩) 64 (64 + r5.length)] 51)) (by simp))
          have HC5 := Lib.hid hc5
          have HG6 := Lib.hid hg6
          have HO6 := Lib.hid ho6
          clear e0 e1 y0 y1 hg6 hc5 ho6 hor hsh hsi hsj ho0
          go_wp2_with fail
          go_roundw
          case rel =>
            have hsz5 := HC5.out.size
            refine ⟨k + 1, by omega, by go_num, ls ++ [⟨(pg : Int), some ⟨g5, 0, none⟩, 64, 64 + r5.length, Y⟩], ?_, ?_, ?_, ?_⟩
            · rw [chCs_app, chCs_one, ← HXX.out]
              exact HO6.out
            · intro a ha
              rcases List.mem_append.1 ha with h | h
              · exact (((HM.out a h).chg HC5.out (by simp)).chg ((Chg.refl [] w5).alloc _) (by simp)).grown HAL6.out HG6.out
              · simp only [List.mem_cons, List.not_mem_nil, or_false] at h
                subst h
                have hnew : RMade w5 w.heap.size ⟨(pg : Int), some ⟨g5, 0, none⟩, 64, 64 + r5.length, Y⟩ := ⟨⟨g5, r5, rfl, by omega, HW5.out, rfl, by have := HM5.out; unfold maxLen at this; omega⟩, HYL.out, rfl, by simp only; omega⟩
                exact (hnew.chg ((Chg.refl [] w5).alloc _) (by simp)).grown HAL6.out HG6.out
            · rw [chsOf_next]
              refine asC_snoc HAS.out ?_ rfl
              unfold keyC chOf
              rw [HY.out, HT.out, HPG.out, HT.out]
            · exact chg_grown2 ((HC.out.new HC5.out).alloc _) HG6.out fun g hgg => (HAL6.out.lt g hgg).1
          case measure => simp [intOf]; omega
      · obtain rfl : N = k := by omega
        have htI : (N : Int) ≤ (N : Int) := by omega
        have HOWN := Lib.hid hown
        obtain ⟨A5, c5, rfl, hll, hch, hm5, hnc5, _⟩ := chs_own' hown (fun a ha => (HM.out a ha).ok)
        have HLL := Lib.hid hll
        have HCH := Lib.hid hch
        clear hll hch hown
        cases hr : rightB P (chsOf b N) with
        | true =>
          have HR := Lib.hid hr
          have hrr : rightB P ls = true := by rw [asC_rightB HAS.out P, hr]
          clear hr
          go_wp2_with fail
          refine (rchanges_any HCH.out HLL.out hm5 P).mono ?_
          rintro e w7 ⟨rfl, hc7⟩
          rw [hrr]
          clear hrr
          go_wp2_with fail
          go_ret2
          refine .inl ⟨by have := HLN.out; omega, by have := HLN.out; have := H66.out; have := HN.out; omega, ?_, _, ls, rfl, ?_, fun a ha => (HM.out a ha).chg hc7 (by simp), ?_, ?_, HC.out.new hc7⟩
          · rw [← HN.out]; exact HR.out
          · rw [← HN.out]; exact rown_chg HOWN.out hc7 (by simp)
          · rw [← HN.out]; exact HLL.out
          · rw [← HN.out]; exact HAS.out
        | false =>
          have HR := Lib.hid hr
          have hrr : rightB P ls = false := by rw [asC_rightB HAS.out P, hr]
          clear hr
          go_wp2_with fail
          refine (rchanges_any HCH.out HLL.out hm5 P).mono ?_
          rintro e w7 ⟨rfl, hc7⟩
          rw [hrr]
          clear hrr
          go_wp2_with fail
          go_ret2
          refine .inr ⟨fun h => ?_, rfl, HC.out.new hc7⟩
          have := h.2.2
          rw [← HN.out, HR.out] at this
          cases this
  · have HNO := Lib.hid (show ¬ (2 ≤ b.length ∧ b.length = 2 + num2 b * 66 ∧ rightB P (chsOf b (num2 b)) = true) from fun h => by have := HLN.out; have := h.2.1; have := HN.out; omega)
    have hb1 : ((n : Int) == 2 + (N : Int) * 66) = false := by simp; omega
    have hb2 : (!((n : Int) == 2 + (N : Int) * 66)) = true := by rw [hb1]; rfl
    go_wp2_with fail
    go_ret2
    exact .inr ⟨HNO.out, rfl, HC1.out⟩
end
end Go.Proofs.YtddjgncdjdjgeaaGreat
