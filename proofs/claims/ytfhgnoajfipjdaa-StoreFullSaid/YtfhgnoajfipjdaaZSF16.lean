/-
  SF: RedoPure, Sto1.
-/
import Derived.Test.YtfhgnoajfipjdaaZSF5
import Derived.Test.YtfhgnoajfipjdaaZSF9
import Derived.Test.YtfhgnoajfipjdaaZSF11
import Derived.Test.YtfhgnoajfipjdaaZSF14
import Derived.Test.YtfhgnoajfipjdaaZSF15
import Derived.Deep.DeepCutAuto
import Derived.Deep.RegionWith
import Derived.Deep.RegionHeld3
import Derived.BigRegion
import Derived.Deep.QuietTactic
import Derived.BigQuiet
namespace Go.Proofs.Ytfhgnoajfipjdaa
open Go.RowKit
theorem splice_get {α : Type} (L m : List α) (o i : Nat) (h : o + m.length ≤ L.length) : (splice L o m)[i]? = if o ≤ i ∧ i < o + m.length then m[i - o]? else L[i]? := by
  have ht : (L.take o).length = o := by rw [List.length_take]; omega
  unfold splice
  rcases Nat.lt_or_ge i o with h1 | h1
  · rw [if_neg (by omega), List.getElem?_append_left (by omega), List.getElem?_take, if_pos h1]
  · rcases Nat.lt_or_ge i (o + m.length) with h2 | h2
    · rw [if_pos ⟨h1, h2⟩, List.getElem?_append_right (by omega), ht, List.getElem?_append_left (by omega)]
    · rw [if_neg (by omega), List.getElem?_append_right (by omega), ht, List.getElem?_append_right (by omega), List.getElem?_drop]
      congr 1; omega
theorem splice_len {α : Type} (L m : List α) (o : Nat) (h : o + m.length ≤ L.length) : (splice L o m).length = L.length := by
  unfold splice
  simp only [List.length_append, List.length_take, List.length_drop]; omega
/-- Sectors that bytes at a place touch. -/
def tch (a n j : Nat) : Bool := decide (0 < n ∧ j * 64 < a + n ∧ a < (j + 1) * 64)
/-- Bytes written from a on. -/
def apS (s : St) (a : Nat) (b : List UInt8) : St := ⟨s.L, splice s.S a b, (List.range s.V.length).map fun j => s.V.getD j false || tch a b.length j⟩
theorem apS_nil (s : St) (a : Nat) (ha : a ≤ s.S.length) : apS s a [] = s := by
  obtain ⟨L, S, V⟩ := s
  unfold apS
  congr 1
  · apply List.ext_getElem?
    intro i
    rw [splice_get _ _ _ _ (by simpa using ha), if_neg (by simp)]
  · apply List.ext_getElem?
    intro j
    rw [List.getElem?_map]
    rcases Nat.lt_or_ge j V.length with h | h
    · rw [List.getElem?_range h, List.getElem?_eq_getElem h]
      simp [tch, List.getD, h]
    · rw [List.getElem?_eq_none (by simpa using h), List.getElem?_eq_none h]; rfl
theorem apS_V (s : St) (a : Nat) (b : List UInt8) : (apS s a b).V.length = s.V.length := by simp [apS]
/-- One sector more. -/
theorem apS_step {s : St} {a : Nat} {b : List UInt8} {k k' q : Nat} {x : List UInt8} (hl : s.S.length = 64 * s.V.length) (hb : a + b.length ≤ s.S.length) (hk : k < k') (hk' : k' ≤ b.length) (h1 : q * 64 ≤ a + k) (h2 : a + k' ≤ (q + 1) * 64) (h3 : a < (q + 1) * 64)
    (hx : x = ((splice s.S a (b.take k')).drop (q * 64)).take 64) : (apS s a (b.take k)).write q x = apS s a (b.take k') := by
  have lk : (b.take k).length = k := by rw [List.length_take]; omega
  have lk' : (b.take k').length = k' := by rw [List.length_take]; omega
  have hq : q < s.V.length := by omega
  have hsl : (splice s.S a (b.take k')).length = s.S.length := splice_len _ _ _ (by rw [lk']; omega)
  have hsk : (splice s.S a (b.take k)).length = s.S.length := splice_len _ _ _ (by rw [lk]; omega)
  have xl : x.length = 64 := by rw [hx, List.length_take, List.length_drop, hsl]; omega
  unfold St.write apS
  congr 1
  · show splice (splice s.S a (b.take k)) (q * 64) x = splice s.S a (b.take k')
    apply List.ext_getElem?
    intro i
    rw [splice_get _ _ _ _ (by rw [hsk, xl]; omega), xl]
    by_cases hi : q * 64 ≤ i ∧ i < q * 64 + 64
    · rw [if_pos hi, hx, List.getElem?_take, if_pos (by omega), List.getElem?_drop]
      congr 1; omega
    · rw [if_neg hi, splice_get _ _ _ _ (by rw [lk]; omega), splice_get _ _ _ _ (by rw [lk']; omega), lk, lk']
      by_cases h4 : a ≤ i ∧ i < a + k
      · rw [if_pos h4, if_pos (by omega), List.getElem?_take, List.getElem?_take, if_pos (by omega), if_pos (by omega)]
      · rw [if_neg h4]
        by_cases h5 : a ≤ i ∧ i < a + k'
        · omega
        · rw [if_neg h5]
  · apply List.ext_getElem?
    intro j
    rw [List.getElem?_set]
    simp only [List.getElem?_map, List.length_map, List.length_range]
    rcases Nat.lt_or_ge j s.V.length with hj | hj
    · rw [List.getElem?_range hj]
      simp only [Option.map_some]
      by_cases e : q = j
      · subst e
        rw [if_pos rfl, if_pos hj]
        have : tch a (b.take k').length q = true := decide_eq_true (by rw [lk']; omega)
        rw [this, Bool.or_true]
      · rw [if_neg e]
        have : tch a (b.take k).length j = tch a (b.take k').length j := by
          unfold tch
          rw [lk, lk']
          congr 1
          apply propext
          constructor
          · rintro ⟨_, _, _⟩; omega
          · rintro ⟨_, _, _⟩
            have : j ≠ q := fun h => e h.symm
            rcases Nat.lt_or_ge j q with h | h
            · omega
            · omega
        rw [this]
    · rw [List.getElem?_eq_none (by simpa using hj)]
      simp only [Option.map_none]
      by_cases e : q = j
      · omega
      · rw [if_neg e]
/-- What is copied into a sector that was read. -/
theorem sect_app {S b : List UInt8} {a k m q f : Nat} (hb : a + b.length ≤ S.length) (hk : k + m ≤ b.length) (hq : q * 64 + f = a + k) (hf : f + m ≤ 64) (hS : (q + 1) * 64 ≤ S.length) :
    splice (((splice S a (b.take k)).drop (q * 64)).take 64) f ((b.drop k).take m) = ((splice S a (b.take (k + m))).drop (q * 64)).take 64 := by
  have lk : (b.take k).length = k := by rw [List.length_take]; omega
  have lk' : (b.take (k + m)).length = k + m := by rw [List.length_take]; omega
  have lm : ((b.drop k).take m).length = m := by rw [List.length_take, List.length_drop]; omega
  have hsk : (splice S a (b.take k)).length = S.length := splice_len _ _ _ (by rw [lk]; omega)
  have ls : (((splice S a (b.take k)).drop (q * 64)).take 64).length = 64 := by rw [List.length_take, List.length_drop, hsk]; omega
  apply List.ext_getElem?
  intro i
  rw [splice_get _ _ _ _ (by rw [ls, lm]; exact hf), lm]
  rcases Nat.lt_or_ge i 64 with hi | hi
  · have e1 : ∀ Z : List UInt8, (Z.take 64)[i]? = Z[i]? := fun Z => by rw [List.getElem?_take, if_pos hi]
    rw [e1, e1, List.getElem?_drop, List.getElem?_drop, splice_get _ _ _ _ (by rw [lk]; omega), splice_get _ _ _ _ (by rw [lk']; omega), lk, lk']
    by_cases h1 : f ≤ i ∧ i < f + m
    · rw [if_pos h1, if_pos (show a ≤ q * 64 + i ∧ q * 64 + i < a + (k + m) by omega), List.getElem?_take, List.getElem?_take, if_pos (show i - f < m by omega), if_pos (show q * 64 + i - a < k + m by omega), List.getElem?_drop]
      congr 1; omega
    · rw [if_neg h1]
      by_cases h2 : a ≤ q * 64 + i ∧ q * 64 + i < a + k
      · rw [if_pos h2, if_pos (show a ≤ q * 64 + i ∧ q * 64 + i < a + (k + m) by omega), List.getElem?_take, List.getElem?_take, if_pos (by omega), if_pos (by omega)]
      · rw [if_neg h2, if_neg (show ¬ (a ≤ q * 64 + i ∧ q * 64 + i < a + (k + m)) by omega)]
  · have e1 : ∀ Z : List UInt8, (Z.take 64)[i]? = none := fun Z => by rw [List.getElem?_take, if_neg (by omega)]
    rw [if_neg (by omega), e1, e1]
/-- The log's bytes. -/
def logB (s : St) (L : Nat) : List UInt8 := (s.S.drop 128).take (L * 64)
theorem logB_next (s : St) (k : Nat) : logB s (k + 1) = logB s k ++ (s.S.drop ((2 + k) * 64)).take 64 := by
  unfold logB
  rw [show (k + 1) * 64 = k * 64 + 64 by omega, List.take_add, List.drop_drop]
  congr 3; omega
theorem logB_len {s : St} {L : Nat} (h : 128 + L * 64 ≤ s.S.length) : (logB s L).length = L * 64 := by
  unfold logB; rw [List.length_take, List.length_drop]; omega
end Go.Proofs.Ytfhgnoajfipjdaa
namespace Go.Proofs.Ytfhgnoajfipjdaa
open Go.RowKit
/-- All that waits lasts. -/
def flA (s : St) : St := St.flush s s.V.length
theorem flA_len (s : St) : (flA s).V.length = s.V.length := flush_len s _
theorem write_len (s : St) (k : Nat) (x : List UInt8) : (s.write k x).V.length = s.V.length := by simp [St.write]
/-- So many sectors of zeros. -/
def wipeN (s : St) (a : Nat) : Nat → St
  | 0 => s
  | k + 1 => (wipeN s a k).write (a + k) (zeros 64)
theorem wipeN_len (s : St) (a : Nat) : ∀ k, (wipeN s a k).V.length = s.V.length
  | 0 => rfl
  | k + 1 => by rw [wipeN, write_len, wipeN_len s a k]
def putR (s : St) (L P E : Nat) : St := flA (s.write (E % 2) (rootL L P E))
theorem putR_len (s : St) (L P E : Nat) : (putR s L P E).V.length = s.V.length := by rw [putR, flA_len, write_len]
/-- What Format makes of a disk. -/
def fmt (s : St) (L P : Nat) : St := putR (flA (wipeN (flA (wipeN s 0 2)) 2 (L + P))) L P 1
theorem fmt_len (s : St) (L P : Nat) : (fmt s L P).V.length = s.V.length := by rw [fmt, putR_len, flA_len, wipeN_len, flA_len, wipeN_len]
def DiskPost (w : World) (p bL bS bW : Nat) (s : St) (e : Ending) (w' : World) : Prop := e = .returned (.tuple #[]) ∧ DskS w' p bL bS bW s ∧ Chg [bL, bS, bW] w w'
/-- Only these blocks have turned, by what is hard. -/
def dkT (T : List Nat) (hard soft : List Nat) : Turns := ⟨Chg [], Chg T, hard, soft⟩
theorem dkT_ok {T hard soft : List Nat} : (dkT T hard soft).Ok := ⟨Chg.refl [], fun _ _ h => h.sub (fun _ h => by cases h), fun _ _ _ h k => h.trans k⟩
theorem dk_by {T hard soft : List Nat} (k : Nat) {W W' : World} (h : Chg [] W W') : (dkT T hard soft).by_ k W W' := by
  unfold Turns.by_
  split
  · exact h.sub (fun _ h => by cases h)
  · exact h
theorem dk_hard {T hard soft : List Nat} {k : Nat} (hk : hard.contains k = true) {W W' : World} (h : Chg T W W') : (dkT T hard soft).by_ k W W' := by
  unfold Turns.by_
  rw [if_pos (show (dkT T hard soft).hard.contains k = true from hk)]
  exact h
theorem star_chg {W W' : World} (h : Star (Chg []) W W') : Chg [] W W' := h.fold (Chg.refl []) fun _ _ _ h k => h.trans k
def dskF (p bL bS bW : Nat) (s : St) : Fact := fun v W => v = .bool true ∧ DskS W p bL bS bW s
theorem keeps_dsk {p bL bS bW : Nat} {s : St} : Keeps (Chg []) (dskF p bL bS bW s) := fun _ _ _ h hc => ⟨h.1, Dsk.keep h.2 hc⟩
section
variable {w : World} {p bL bS bW : Nat} {s : St}
theorem make_z64 (w : World) : (Instr.makeSlice 46 (.int .i64 64) (.int .i64 64)).run Try.prog w = .ok (.slice (some ⟨w.heap.size, 0, none⟩) 64 64) (w.alloc (.cells (bts (zeros 64)).toArray 5)) := by
  obtain ⟨i, hi, hz, hs, hb⟩ := info_parts info_byte
  have := run_make1 (P := Try.prog) 46 5 i _ rfl Try.underlying46 hi hz hs 64 (by rw [hb]; omega) (by omega) w
  rw [show bts (zeros 64) = List.replicate 64 (.int .u8 0) from by simp [bts, zeros]; rfl]
  exact this
theorem sub_s {T T' : List Nat} {a b : World} (h : Chg T a b) (hs : ∀ i ∈ T, i ∈ T' := by simp) : Chg T' a b := h.sub hs
set_option maxHeartbeats 2000000 in
set_option maxRecDepth 100000 in
theorem wipe_any (h : DskS w p bL bS bW s) (a b : Nat) (hab : a ≤ b) (hb : b ≤ s.V.length) :
    Calls Try.prog 67 #[.pointer (some ⟨p, 0, none⟩), .int .i64 (a : Int), .int .i64 (b : Int)] w (DiskPost w p bL bS bW (flA (wipeN s a (b - a)))) := by
  have hle := Dsk.le h
  go_enter Try.func67, Try.ntmps67
  go_wp2_with fail
  go_loopw [6] (fun i wr => ∃ m : Nat, a ≤ m ∧ m ≤ b ∧ i = .int .i64 (m : Int) ∧ Hid (DskS wr p bL bS bW (wipeN s a (m - a))) ∧ Hid (Chg [bL, bS, bW] w wr)) (fun i _ => b - (intOf i).toNat)
  case atStart => exact ⟨a, Nat.le_refl _, hab, rfl, Lib.hid (by rw [Nat.sub_self]; exact h), Lib.hid (Chg.refl _ _)⟩
  case round =>
    obtain ⟨k, hka, hk, rfl, hdk, hck⟩ := hrel
    by_cases hlt : k < b
    · have hI : (k : Int) < (b : Int) := by omega
      have hmk := make_z64 wr
      go_wp2_with fail
      have hal := (Chg.refl [] wr).alloc (.cells (bts (zeros 64)).toArray 5)
      have hW := Whole.new wr 5 (bts (zeros 64))
      refine (write_yes (hdk.out.keep hal) k (by show k < (wipeN s a (k - a)).V.length; rw [wipeN_len]; omega) (zeros_len 64) (Src.of_all hW)).mono ?_
      rintro e w2 ⟨rfl, hd2, hc2⟩
      have HD2 := Lib.hid (show DskS w2 p bL bS bW (wipeN s a (k + 1 - a)) from by
        rw [show k + 1 - a = (k - a) + 1 by omega, wipeN, show a + (k - a) = k by omega]
        exact hd2)
      have HC2 := Lib.hid (show Chg [bL, bS, bW] w w2 from (hck.out.new hal).trans (sub_s hc2))
      clear hal hW hd2 hc2 hmk
      go_wp2_with fail
      go_roundw
      case rel => exact ⟨k + 1, by omega, by omega, by go_num, HD2, HC2⟩
      case measure => simp [intOf]; omega
    · obtain rfl : b = k := by omega
      have hI : ¬ (b : Int) < (b : Int) := by omega
      go_wp2_with fail
      refine (flush_any hdk.out).mono ?_
      rintro e w2 ⟨rfl, hd2, hc2⟩
      have HP := Lib.hid (show DskS w2 p bL bS bW (flA (wipeN s a (b - a))) ∧ Chg [bL, bS, bW] w w2 from ⟨hd2, hck.out.trans hc2⟩)
      clear hd2 hc2
      go_wp2_with fail
      go_end0
      exact ⟨rfl, HP.out.1, HP.out.2⟩
set_option maxHeartbeats 4000000 in
set_option maxRecDepth 100000 in
theorem putRoot_any (h : DskS w p bL bS bW s) (L P E : Nat) (hL : L ≤ 2147483647) (hP : P ≤ 2147483647) (hE : E < 4294967296) (h2 : 2 ≤ s.V.length) :
    Calls Try.prog 68 #[.pointer (some ⟨p, 0, none⟩), rootV L P E] w (DiskPost w p bL bS bW (putR s L P E)) := by
  have hr0 : rootV L P E = .agg #[.int .i64 (L : Int), .int .i64 (P : Int), .int .u32 (E : Int)] := rfl
  rw [hr0]
  go_enter Try.func68, Try.ntmps68
  go_upto_region 1 with fail
  have hR := Whole.new w 89 [.int .i64 (L : Int), .int .i64 (P : Int), .int .u32 (E : Int)]
  have hal := (Chg.refl [] w).alloc (.cells #[.int .i64 (L : Int), .int .i64 (P : Int), .int .u32 (E : Int)] 89)
  have HD := Lib.hid (h.keep hal)
  have HC := Lib.hid hal
  obtain ⟨gr, hgr⟩ : ∃ g, g = w.heap.size := ⟨_, rfl⟩
  rw [← hgr] at hR ⊢
  generalize w.alloc (.cells #[.int .i64 (L : Int), .int .i64 (P : Int), .int .u32 (E : Int)] 89) = w1 at hR HD HC ⊢
  have hC0 := (Chg.refl [] w1).drew.sub (T' := [bL, bS, bW]) (fun _ h => by cases h)
  have r0 := hR.cell 0
  have r1 := hR.cell 1
  have r2 := hR.cell 2
  have hmod : ((E : Int)).tmod 2 = ((E % 2 : Nat) : Int) := by rw [Int.tmod_eq_emod_of_nonneg (by omega)]; omega
  have hm2 : E % 2 < 2 := Nat.mod_lt _ (by omega)
  generalize hq : E % 2 = q at hmod hm2 ⊢
  have HQ := Lib.hid hq
  clear hq
  have HR := Lib.hid hR
  have HLT := Lib.hid (show w.heap.size ≤ gr ∧ bL < w.heap.size ∧ bS < w.heap.size ∧ bW < w.heap.size from ⟨by omega, (Dsk.last h).lt, (Dsk.seen h).lt, (Dsk.wait h).lt⟩)
  have hwq : IntKind.i64.wrap (q : Int) = (q : Int) := by rw [IntKind.wrap_i64]; omega
  clear r0 r1 r2 hgr
  have hgT : gr ∉ [bL, bS, bW] := fun hm => by have h1 := HLT.out; simp only [List.mem_cons, List.not_mem_nil, or_false] at hm; omega
  have TOK := dkT_ok (T := [bL, bS, bW]) (hard := [7]) (soft := [6, 7])
  refine wp_flow (by kernel_rfl) (dkT [bL, bS, bW] [7] [6, 7]) TOK (by kernel_rfl) ?_
  refine flow_move_out TOK rfl rfl rfl ?_
  refine flow1 (r := .pointer (some ⟨gr, 2, none⟩)) TOK rfl (.out rfl rfl) rfl (fun ev W he e1 => by go_simp) ?_
  refine flow1h (r := .int .u32 (E : Int)) TOK rfl (.inn rfl) rfl (fun ev W he hW e1 => by have r2 := (HR.out.chg (hC0.then_ hW (fun _ h _ => h)) hgT).cell 2; clear hW; go_simp) ?_
  refine flow2 (r := .int .u32 (q : Int)) TOK rfl (.inn rfl) (.const _) rfl (fun ev W he e1 e2 => by go_simp) ?_
  refine flow1 (r := .int .i64 (q : Int)) TOK rfl (.inn rfl) rfl (fun ev W he e1 => by go_simp) ?_
  refine flow1h (r := rootV L P E) TOK rfl (.out rfl rfl) rfl (fun ev W he hW e1 => by have hx := HR.out.chg (hC0.then_ hW (fun _ h _ => h)) hgT; have r0 := hx.cell 0; have r1 := hx.cell 1; have r2 := hx.cell 2; clear hW hx; unfold rootV; go_simp) ?_
  refine flow_calld (ownF 0 5 (bts (rootL L P E))) (keeps_own _ _ _) (.inl rfl) (by kernel_rfl) rfl (.cons (.inn rfl) .nil) (fun W hW => (rootbytes_any L P E (by omega) (by omega) hE).mono ?_) ?_
  · rintro e w' ⟨v, rfl, ho, hc⟩
    exact ⟨v, rfl, dk_by _ hc, by unfold ownF; rw [bts_len]; exact own_more ho (Nat.zero_le _)⟩
  refine flow_early (dskF p bL bS bW (s.write q (rootL L P E))) keeps_dsk (.inl rfl) rfl rfl (fun ev W he hW hfs => ?_) ?_
  · have hc0 : Chg [] w1 W := (Chg.refl [] w1).drew.new (star_chg hW)
    rw [run_call he (by kernel_rfl)]
    obtain ⟨_, f1, f2, f3, _⟩ := hfs
    have e1 : ev (.tmp 4) = .pointer (some ⟨p, 0, none⟩) := f1
    have e2 : ev (.tmp 8) = .int .i64 (q : Int) := f2
    have f3' : ownF 0 5 (bts (rootL L P E)) (ev (.tmp 10)) W := f3
    unfold ownF at f3'
    rw [bts_len, rootL_len] at f3'
    obtain ⟨Av, cv, e3, _, _, hs3, _⟩ := own_slice f3'
    rw [show Array.map ev #[.tmp 4, .tmp 8, .tmp 10] = #[ev (.tmp 4), ev (.tmp 8), ev (.tmp 10)] by simp]
    unfold Leaves
    simp only
    rw [e1, e2, e3]
    refine (write_yes (HD.out.keep hc0) q (by omega) (rootL_len L P E) hs3).mono ?_
    rintro e w3 ⟨rfl, hd3, hc3⟩
    exact ⟨_, rfl, dk_hard rfl (hc3.sub (by simp)), rfl, hd3⟩
  intro vs W hW hF
  have hd : dskF p bL bS bW (s.write q (rootL L P E)) (vs 11) W := hF 11 _ rfl rfl
  have HD3 := Lib.hid hd.2
  have e11 := hd.1
  have HC3 := Lib.hid (show Chg [bL, bS, bW] w W from ((HC.out.sub (T' := [bL, bS, bW]) (fun _ h => by cases h)).trans hC0).trans hW)
  simp only [putAll, Act.put, List.setIfInBounds_toArray, List.set_cons_zero, List.set_cons_succ]
  rw [e11]
  clear hF hW hd e11 TOK hC0
  obtain ⟨w3, hw3⟩ : ∃ w3 : World, w3 = W := ⟨_, rfl⟩
  rw [← hw3] at HD3 HC3 ⊢
  clear hw3
  go_wp2_with fail
  refine (flush_any HD3.out).mono ?_
  rintro e w4 ⟨rfl, hd4, hc4⟩
  have HP := Lib.hid (show DskS w4 p bL bS bW (putR s L P E) ∧ Chg [bL, bS, bW] w w4 from ⟨by unfold putR flA; rw [HQ.out]; exact hd4, HC3.out.trans hc4⟩)
  clear hd4 hc4
  go_wp2_with fail
  go_end0
  exact ⟨rfl, HP.out.1, HP.out.2⟩
end
end Go.Proofs.Ytfhgnoajfipjdaa
