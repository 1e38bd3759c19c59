/-
  S: RootBytes, Sto1, Rfw.
-/
import Derived.Test.YtddjgncdjdjgeaaGreatZS2
import Derived.Test.YtddjgncdjdjgeaaGreatZS3
import Derived.Test.YtddjgncdjdjgeaaGreatZS5
import Derived.Test.YtddjgncdjdjgeaaGreatZS6
import Derived.Test.YtddjgncdjdjgeaaGreatZS8
import Derived.Test.YtddjgncdjdjgeaaGreatZS10
import Derived.Test.YtddjgncdjdjgeaaGreatZS12
import Derived.Lib.SlBytesConst
import Derived.Deep.RegionWith
import Derived.Deep.DeepCutAuto
import Derived.Deep.RegionHeld3
import Derived.BigRegion
import Derived.Deep.QuietTactic
import Derived.BigQuiet
namespace Go.Proofs.YtddjgncdjdjgeaaGreat
open Go.RowKit
def hdr (a b c : Nat) : Nat → List UInt8
  | 0 => markL
  | 1 => markL ++ be4 a
  | 2 => markL ++ be4 a ++ be4 b
  | _ => headR a b c
def numR (a b c : Nat) : Nat → Nat
  | 0 => a
  | 1 => b
  | _ => c
theorem hdr_next (a b c k : Nat) (hk : k < 3) : hdr a b c (k + 1) = hdr a b c k ++ be4 (numR a b c k) := by
  match k, hk with
  | 0, _ => rfl
  | 1, _ => rfl
  | 2, _ => rfl
theorem hdr_len (a b c k : Nat) (hk : k ≤ 3) : (hdr a b c k).length = 4 + k * 4 := by
  match k, hk with
  | 0, _ => rfl
  | 1, _ => rfl
  | 2, _ => rfl
  | 3, _ => rfl
theorem numR_lt (a b c k : Nat) (ha : a < 4294967296) (hb : b < 4294967296) (hc : c < 4294967296) : numR a b c k < 4294967296 := by
  match k with
  | 0 => exact ha
  | 1 => exact hb
  | _ + 2 => exact hc
theorem numR_cell (a b c k : Nat) (hk : k < 3) : ([.int .u32 (a : Int), .int .u32 (b : Int), .int .u32 (c : Int)] : List Value)[k]? = some (.int .u32 (numR a b c k : Int)) := by
  match k, hk with
  | 0, _ => rfl
  | 1, _ => rfl
  | 2, _ => rfl
theorem bts_mark : bts markL = [.int .u8 69, .int .u8 78, .int .u8 71, .int .u8 49] := rfl
theorem tn_int : Tryz.prog.underlying 3 = some (.int .i64) := Tryz.underlying3
section
variable {w : World}
set_option maxHeartbeats 4000000 in
set_option maxRecDepth 100000 in
theorem rootbytes_any (a b c : Nat) (ha : a ≤ 2147483647) (hb : b ≤ 2147483647) (hc : c < 4294967296) :
    Calls Tryz.prog 92 #[rootV a b c] w (BytesPost w (rootL a b c)) := by
  obtain ⟨i0, hi, hz, hs1, hb1⟩ := info_parts info_byte
  have ea : (a : Int) % 4294967296 = (a : Int) := by omega
  have eb : (b : Int) % 4294967296 = (b : Int) := by omega
  unfold rootV
  have hz1 : (w.alloc (.cells #[.int .i64 (a : Int), .int .i64 (b : Int), .int .u32 (c : Int)] 58)).heap.size = w.heap.size + 1 := by simp
  have kc := kc_at (w.alloc (.cells #[.int .i64 (a : Int), .int .i64 (b : Int), .int .u32 (c : Int)] 58)) hz1
  go_enter Tryz.func92, Tryz.ntmps92
  go_wp2_with fail
  clear kc
  clear hz1
  have hc1 : Chg [] w (w.alloc (.cells #[.int .i64 (a : Int), .int .i64 (b : Int), .int .u32 (c : Int)] 58)) := (Chg.refl [] w).alloc _
  have hz1 : (w.alloc (.cells #[.int .i64 (a : Int), .int .i64 (b : Int), .int .u32 (c : Int)] 58)).heap.size = w.heap.size + 1 := by simp
  generalize w.alloc (.cells #[.int .i64 (a : Int), .int .i64 (b : Int), .int .u32 (c : Int)] 58) = w1 at hz1 hc1 ⊢
  have hM := bs_const w1 5 markL (4, 5) (by simp [markL])
  rw [bts_mark, hz1] at hM
  have hc2 : Chg [] w (w1.alloc (.cells #[.int .u8 69, .int .u8 78, .int .u8 71, .int .u8 49] 5 (4, 5))) := hc1.alloc _
  have hz2 : (w1.alloc (.cells #[.int .u8 69, .int .u8 78, .int .u8 71, .int .u8 49] 5 (4, 5))).heap.size = w.heap.size + 1 + 1 := by simp; omega
  generalize w1.alloc (.cells #[.int .u8 69, .int .u8 78, .int .u8 71, .int .u8 49] 5 (4, 5)) = w2 at hz2 hc2 hM ⊢
  have hN := Whole.new w2 56 [.int .u32 (a : Int), .int .u32 (b : Int), .int .u32 (c : Int)]
  rw [hz2] at hN
  have hM3 := hM.keep ((Chg.refl [] w2).alloc (.cells #[.int .u32 (a : Int), .int .u32 (b : Int), .int .u32 (c : Int)] 56))
  have hc3 := hc2.alloc (.cells #[.int .u32 (a : Int), .int .u32 (b : Int), .int .u32 (c : Int)] 56)
  generalize w2.alloc (.cells #[.int .u32 (a : Int), .int .u32 (b : Int), .int .u32 (c : Int)] 56) = w3 at hN hM3 hc3 ⊢
  clear hM hz1 hz2 hc1 hc2 ea eb
  go_loopw [3, 18] (fun t i wr => ∃ k : Nat, k ≤ 3 ∧ i = .int .i64 (k : Int) ∧ (∃ A cc, t = .slice A (4 + k * 4) cc ∧ Bs wr A (4 + k * 4) cc (hdr a b c k)) ∧ Whole wr (w.heap.size + 1 + 1) 56 [.int .u32 (a : Int), .int .u32 (b : Int), .int .u32 (c : Int)] ∧ Chg [] w wr) (fun _ i _ => 3 - (intOf i).toNat)
  case atStart => exact ⟨0, by omega, rfl, ⟨_, _, rfl, hM3⟩, hN, hc3⟩
  case round =>
    obtain ⟨k, hk, rfl, ⟨A, cc, rfl, hB⟩, hW, hcr⟩ := hrel
    have HB := Lib.hid hB
    have HC := Lib.hid hcr
    have HW := Lib.hid hW
    clear hM3 hN hc3
    by_cases hlt : k < 3
    · have c0 := (hW.cell k).trans (numR_cell a b c k hlt)
      have hlti := numR_lt a b c k (by omega) (by omega) hc
      have HNX := Lib.hid (hdr_next a b c k hlt)
      clear hB hcr hW
      generalize numR a b c k = q at c0 hlti HNX
      have hkI : (k : Int) < 3 := by omega
      have hk0 : (0 : Int) ≤ (k : Int) := by omega
      go_wp2_with fail
      refine (put_b HB.out q hlti (by omega)).mono ?_
      rintro e w4 ⟨v4, rfl, ho4, hc4⟩
      have hl4 : (hdr a b c k ++ be4 q).length = 4 + (k + 1) * 4 := by rw [← HNX.out, hdr_len a b c (k + 1) (by omega)]
      rw [hl4] at ho4
      obtain ⟨A4, c4, rfl, hB4, _⟩ := Bs.of_own ho4
      have HB4 := Lib.hid hB4
      have HC4 := Lib.hid (HC.out.new hc4)
      have HW4 := Lib.hid (HW.out.keep hc4)
      clear hl4 ho4 hB4 hc4 c0
      go_wp2_with fail
      go_roundw
      case rel => exact ⟨k + 1, by omega, by go_num, ⟨A4, c4, rfl, by rw [HNX.out]; exact HB4.out⟩, HW4.out, HC4.out⟩
      case measure => simp [intOf]; omega
    · have hk3 : k = 3 := by omega
      subst hk3
      have hB16 : Bs wr A 16 cc (headR a b c) := HB.out
      have HB16 := Lib.hid hB16
      clear hB hcr hW hB16
      go_wp2_with fail
      refine (sumk_b HB16.out).mono ?_
      rintro e w' ⟨rfl, rfl⟩
      go_wp2_with fail
      refine (put_b HB16.out (sumK (headR a b c)) (sumK_lt _) (by omega)).mono ?_
      rintro e w5 ⟨v5, rfl, ho5, hc5⟩
      have hl5 : (headR a b c ++ be4 (sumK (headR a b c))).length = 20 := rfl
      rw [hl5] at ho5
      have HC5 := Lib.hid (HC.out.new hc5)
      have hsz := HC.out.size
      have HRL := Lib.hid (show rootL a b c = (headR a b c ++ be4 (sumK (headR a b c))) ++ zeros 44 from rfl)
      generalize headR a b c ++ be4 (sumK (headR a b c)) = Z at ho5 HRL
      obtain ⟨g, r, rfl, hbg, _, _⟩ := own_whole ho5 (by omega)
      obtain ⟨g', cap', w6, hr, ho6, hg6, hor⟩ := run_append_zeros (P := Tryz.prog) w5 wr.heap.size 30 3 30 5 i0 _ 1 .i64 Tryz.underlying30 tn_int hi hz hs1 hb1 rfl rfl g 20 (20 + r.length) (bts Z) ho5 44 (by unfold maxLen; omega) (by omega) hc5.size
      have hc6 : Chg [] wr w6 := hc5.own ho5 (Nat.le_refl _) hg6
      have HR := Lib.hid hr
      have HO := Lib.hid ho6
      have HC6 := Lib.hid (HC.out.new hc6)
      clear hr ho6 hg6 hor hc6 ho5 hc5 hl5
      go_wp2_with (at_builtin; refine Lib.wpList_append_run w5 rfl (.tmp 30) (.tmp 33) 30 3 rfl _ _ rfl rfl _ _ HR.out ?_)
      go_ret
      refine ⟨_, rfl, ?_, HC6.out⟩
      have e1 : (rootL a b c).length = 20 + 44 := rootL_len a b c
      have e2 : bts (rootL a b c) = bts Z ++ List.replicate 44 (.int .u8 0) := by rw [HRL.out, bts_app, bts_zeros]
      rw [e1, e2]
      exact own_more HO.out hsz
end
end Go.Proofs.YtddjgncdjdjgeaaGreat
namespace Go.Proofs.YtddjgncdjdjgeaaGreat
open Go.RowKit
/-- All that waits lasts. -/
def flA (s : St) : St := St.flush s s.V.length
theorem flA_len (s : St) : (flA s).V.length = s.V.length := flush_len s _
theorem write_len (s : St) (k : Nat) (x : List UInt8) : (s.write k x).V.length = s.V.length := by simp [St.write]
/-- So many sectors of zeros. -/
def wipeN (s : St) (a : Nat) : Nat → St
  | 0 => s
  | k + 1 => (wipeN s a k).write (a + k) (zeros 64)
theorem wipeN_len (s : St) (a : Nat) : ∀ k, (wipeN s a k).V.length = s.V.length
  | 0 => rfl
  | k + 1 => by rw [wipeN, write_len, wipeN_len s a k]
def putR (s : St) (L P E : Nat) : St := flA (s.write (E % 2) (rootL L P E))
theorem putR_len (s : St) (L P E : Nat) : (putR s L P E).V.length = s.V.length := by rw [putR, flA_len, write_len]
/-- What Format makes of a disk. -/
def fmt (s : St) (L P : Nat) : St := putR (flA (wipeN (flA (wipeN s 0 2)) 2 (L + P))) L P 1
theorem fmt_len (s : St) (L P : Nat) : (fmt s L P).V.length = s.V.length := by rw [fmt, putR_len, flA_len, wipeN_len, flA_len, wipeN_len]
def DiskPost (w : World) (p bL bS bW : Nat) (s : St) (e : Ending) (w' : World) : Prop := e = .returned (.tuple #[]) ∧ DskS w' p bL bS bW s ∧ Chg [bL, bS, bW] w w'
/-- Only these blocks have turned, by what is hard. -/
def dkT (T : List Nat) (hard soft : List Nat) : Turns := ⟨Chg [], Chg T, hard, soft⟩
theorem dkT_ok {T hard soft : List Nat} : (dkT T hard soft).Ok := ⟨Chg.refl [], fun _ _ h => h.sub (fun _ h => by cases h), fun _ _ _ h k => h.trans k⟩
theorem dk_by {T hard soft : List Nat} (k : Nat) {W W' : World} (h : Chg [] W W') : (dkT T hard soft).by_ k W W' := by
  unfold Turns.by_
  split
  · exact h.sub (fun _ h => by cases h)
  · exact h
theorem dk_hard {T hard soft : List Nat} {k : Nat} (hk : hard.contains k = true) {W W' : World} (h : Chg T W W') : (dkT T hard soft).by_ k W W' := by
  unfold Turns.by_
  rw [if_pos (show (dkT T hard soft).hard.contains k = true from hk)]
  exact h
theorem star_chg {W W' : World} (h : Star (Chg []) W W') : Chg [] W W' := h.fold (Chg.refl []) fun _ _ _ h k => h.trans k
def dskF (p bL bS bW : Nat) (s : St) : Fact := fun v W => v = .bool true ∧ DskS W p bL bS bW s
theorem keeps_dsk {p bL bS bW : Nat} {s : St} : Keeps (Chg []) (dskF p bL bS bW s) := fun _ _ _ h hc => ⟨h.1, Dsk.keep h.2 hc⟩
section
variable {w : World} {p bL bS bW : Nat} {s : St}
theorem make_z64 (w : World) : (Instr.makeSlice 30 (.int .i64 64) (.int .i64 64)).run Tryz.prog w = .ok (.slice (some ⟨w.heap.size, 0, none⟩) 64 64) (w.alloc (.cells (bts (zeros 64)).toArray 5)) := by
  obtain ⟨i, hi, hz, hs, hb⟩ := info_parts info_byte
  have := run_make1 (P := Tryz.prog) 30 5 i _ rfl Tryz.underlying30 hi hz hs 64 (by rw [hb]; omega) (by omega) w
  rw [show bts (zeros 64) = List.replicate 64 (.int .u8 0) from by simp [bts, zeros]; rfl]
  exact this
theorem sub_s {T T' : List Nat} {a b : World} (h : Chg T a b) (hs : ∀ i ∈ T, i ∈ T' := by simp) : Chg T' a b := h.sub hs
set_option maxHeartbeats 2000000 in
set_option maxRecDepth 100000 in
theorem wipe_any (h : DskS w p bL bS bW s) (a b : Nat) (hab : a ≤ b) (hb : b ≤ s.V.length) :
    Calls Tryz.prog 50 #[.pointer (some ⟨p, 0, none⟩), .int .i64 (a : Int), .int .i64 (b : Int)] w (DiskPost w p bL bS bW (flA (wipeN s a (b - a)))) := by
  have hle := Dsk.le h
  go_enter Tryz.func50, Tryz.ntmps50
  go_wp2_with fail
  go_loopw [6] (fun i wr => ∃ m : Nat, a ≤ m ∧ m ≤ b ∧ i = .int .i64 (m : Int) ∧ Hid (DskS wr p bL bS bW (wipeN s a (m - a))) ∧ Hid (Chg [bL, bS, bW] w wr)) (fun i _ => b - (intOf i).toNat)
  case atStart => exact ⟨a, Nat.le_refl _, hab, rfl, Lib.hid (by rw [Nat.sub_self]; exact h), Lib.hid (Chg.refl _ _)⟩
  case round =>
    obtain ⟨k, hka, hk, rfl, hdk, hck⟩ := hrel
    by_cases hlt : k < b
    · have hI : (k : Int) < (b : Int) := by omega
      have hmk := make_z64 wr
      go_wp2_with fail
      have hal := (Chg.refl [] wr).alloc (.cells (bts (zeros 64)).toArray 5)
      have hW := Whole.new wr 5 (bts (zeros 64))
      refine (write_yes (hdk.out.keep hal) k (by show k < (wipeN s a (k - a)).V.length; rw [wipeN_len]; omega) (zeros_len 64) (Src.of_all hW)).mono ?_
      rintro e w2 ⟨rfl, hd2, hc2⟩
      have HD2 := Lib.hid (show DskS w2 p bL bS bW (wipeN s a (k + 1 - a)) from by
        rw [show k + 1 - a = (k - a) + 1 by omega, wipeN, show a + (k - a) = k by omega]
        exact hd2)
      have HC2 := Lib.hid (show Chg [bL, bS, bW] w w2 from (hck.out.new hal).trans (sub_s hc2))
      clear hal hW hd2 hc2 hmk
      go_wp2_with fail
      go_roundw
      case rel => exact ⟨k + 1, by omega, by omega, by go_num, HD2, HC2⟩
      case measure => simp [intOf]; omega
    · obtain rfl : b = k := by omega
      have hI : ¬ (b : Int) < (b : Int) := by omega
      go_wp2_with fail
      refine (flush_any hdk.out).mono ?_
      rintro e w2 ⟨rfl, hd2, hc2⟩
      have HP := Lib.hid (show DskS w2 p bL bS bW (flA (wipeN s a (b - a))) ∧ Chg [bL, bS, bW] w w2 from ⟨hd2, hck.out.trans hc2⟩)
      clear hd2 hc2
      go_wp2_with fail
      go_end0
      exact ⟨rfl, HP.out.1, HP.out.2⟩
set_option maxHeartbeats 4000000 in
set_option maxRecDepth 100000 in
theorem putRoot_any (h : DskS w p bL bS bW s) (L P E : Nat) (hL : L ≤ 2147483647) (hP : P ≤ 2147483647) (hE : E < 4294967296) (h2 : 2 ≤ s.V.length) :
    Calls Tryz.prog 51 #[.pointer (some ⟨p, 0, none⟩), rootV L P E] w (DiskPost w p bL bS bW (putR s L P E)) := by
  have hr0 : rootV L P E = .agg #[.int .i64 (L : Int), .int .i64 (P : Int), .int .u32 (E : Int)] := rfl
  rw [hr0]
  go_enter Tryz.func51, Tryz.ntmps51
  go_upto_region 1 with fail
  have hR := Whole.new w 58 [.int .i64 (L : Int), .int .i64 (P : Int), .int .u32 (E : Int)]
  have hal := (Chg.refl [] w).alloc (.cells #[.int .i64 (L : Int), .int .i64 (P : Int), .int .u32 (E : Int)] 58)
  have HD := Lib.hid (h.keep hal)
  have HC := Lib.hid hal
  obtain ⟨gr, hgr⟩ : ∃ g, g = w.heap.size := ⟨_, rfl⟩
  rw [← hgr] at hR ⊢
  generalize w.alloc (.cells #[.int .i64 (L : Int), .int .i64 (P : Int), .int .u32 (E : Int)] 58) = w1 at hR HD HC ⊢
  have hC0 := (Chg.refl [] w1).drew.sub (T' := [bL, bS, bW]) (fun _ h => by cases h)
  have r0 := hR.cell 0
  have r1 := hR.cell 1
  have r2 := hR.cell 2
  have hmod : ((E : Int)).tmod 2 = ((E % 2 : Nat) : Int) := by rw [Int.tmod_eq_emod_of_nonneg (by omega)]; omega
  have hm2 : E % 2 < 2 := Nat.mod_lt _ (by omega)
  generalize hq : E % 2 = q at hmod hm2 ⊢
  have HQ := Lib.hid hq
  clear hq
  have HR := Lib.hid hR
  have HLT := Lib.hid (show w.heap.size ≤ gr ∧ bL < w.heap.size ∧ bS < w.heap.size ∧ bW < w.heap.size from ⟨by omega, (Dsk.last h).lt, (Dsk.seen h).lt, (Dsk.wait h).lt⟩)
  have hwq : IntKind.i64.wrap (q : Int) = (q : Int) := by rw [IntKind.wrap_i64]; omega
  clear r0 r1 r2 hgr
  have hgT : gr ∉ [bL, bS, bW] := fun hm => by have h1 := HLT.out; simp only [List.mem_cons, List.not_mem_nil, or_false] at hm; omega
  have TOK := dkT_ok (T := [bL, bS, bW]) (hard := [7]) (soft := [6, 7])
  refine wp_flow (by kernel_rfl) (dkT [bL, bS, bW] [7] [6, 7]) TOK (by kernel_rfl) ?_
  refine flow_move_out TOK rfl rfl rfl ?_
  refine flow1 (r := .pointer (some ⟨gr, 2, none⟩)) TOK rfl (.out rfl rfl) rfl (fun ev W he e1 => by go_simp) ?_
  refine flow1h (r := .int .u32 (E : Int)) TOK rfl (.inn rfl) rfl (fun ev W he hW e1 => by have r2 := (HR.out.chg (hC0.then_ hW (fun _ h _ => h)) hgT).cell 2; clear hW; go_simp) ?_
  refine flow2 (r := .int .u32 (q : Int)) TOK rfl (.inn rfl) (.const _) rfl (fun ev W he e1 e2 => by go_simp) ?_
  refine flow1 (r := .int .i64 (q : Int)) TOK rfl (.inn rfl) rfl (fun ev W he e1 => by go_simp) ?_
  refine flow1h (r := rootV L P E) TOK rfl (.out rfl rfl) rfl (fun ev W he hW e1 => by have hx := HR.out.chg (hC0.then_ hW (fun _ h _ => h)) hgT; have r0 := hx.cell 0; have r1 := hx.cell 1; have r2 := hx.cell 2; clear hW hx; unfold rootV; go_simp) ?_
  refine flow_calld (ownF 0 5 (bts (rootL L P E))) (keeps_own _ _ _) (.inl rfl) (by kernel_rfl) rfl (.cons (.inn rfl) .nil) (fun W hW => (rootbytes_any L P E (by omega) (by omega) hE).mono ?_) ?_
  · rintro e w' ⟨v, rfl, ho, hc⟩
    exact ⟨v, rfl, dk_by _ hc, by unfold ownF; rw [bts_len]; exact own_more ho (Nat.zero_le _)⟩
  refine flow_early (dskF p bL bS bW (s.write q (rootL L P E))) keeps_dsk (.inl rfl) rfl rfl (fun ev W he hW hfs => ?_) ?_
  · have hc0 : Chg [] w1 W := (Chg.refl [] w1).drew.new (star_chg hW)
    rw [run_call he (by kernel_rfl)]
    obtain ⟨_, f1, f2, f3, _⟩ := hfs
    have e1 : ev (.tmp 4) = .pointer (some ⟨p, 0, none⟩) := f1
    have e2 : ev (.tmp 8) = .int .i64 (q : Int) := f2
    have f3' : ownF 0 5 (bts (rootL L P E)) (ev (.tmp 10)) W := f3
    unfold ownF at f3'
    rw [bts_len, rootL_len] at f3'
    obtain ⟨Av, cv, e3, _, _, hs3, _⟩ := own_slice f3'
    rw [show Array.map ev #[.tmp 4, .tmp 8, .tmp 10] = #[ev (.tmp 4), ev (.tmp 8), ev (.tmp 10)] by simp]
    unfold Leaves
    simp only
    rw [e1, e2, e3]
    refine (write_yes (HD.out.keep hc0) q (by omega) (rootL_len L P E) hs3).mono ?_
    rintro e w3 ⟨rfl, hd3, hc3⟩
    exact ⟨_, rfl, dk_hard rfl (hc3.sub (by simp)), rfl, hd3⟩
  intro vs W hW hF
  have hd : dskF p bL bS bW (s.write q (rootL L P E)) (vs 11) W := hF 11 _ rfl rfl
  have HD3 := Lib.hid hd.2
  have e11 := hd.1
  have HC3 := Lib.hid (show Chg [bL, bS, bW] w W from ((HC.out.sub (T' := [bL, bS, bW]) (fun _ h => by cases h)).trans hC0).trans hW)
  simp only [putAll, Act.put, List.setIfInBounds_toArray, List.set_cons_zero, List.set_cons_succ]
  rw [e11]
  clear hF hW hd e11 TOK hC0
  obtain ⟨w3, hw3⟩ : ∃ w3 : World, w3 = W := ⟨_, rfl⟩
  rw [← hw3] at HD3 HC3 ⊢
  clear hw3
  go_wp2_with fail
  refine (flush_any HD3.out).mono ?_
  rintro e w4 ⟨rfl, hd4, hc4⟩
  have HP := Lib.hid (show DskS w4 p bL bS bW (putR s L P E) ∧ Chg [bL, bS, bW] w w4 from ⟨by unfold putR flA; rw [HQ.out]; exact hd4, HC3.out.trans hc4⟩)
  clear hd4 hc4
  go_wp2_with fail
  go_end0
  exact ⟨rfl, HP.out.1, HP.out.2⟩
end
end Go.Proofs.YtddjgncdjdjgeaaGreat
namespace Go.Proofs.YtddjgncdjdjgeaaGreat
open Go.RowKit
/-- A disk, how many deeds may be done (-1: all), how many were done. -/
structure Dg where
  s : St
  lf : Int
  m : Int
abbrev Deed : Type := Option (Nat × List UInt8)
/-- A deed: a Flush, a Write. -/
def dOne (s : St) : Deed → St
  | none => flA s
  | some x => s.write x.1 x.2
def lfD (lf : Int) : Int := if 0 < lf then wrap64 (lf - 1) else lf
def Dg.step (d : Dg) (x : Deed) : Dg := if d.lf = 0 then d else ⟨dOne d.s x, lfD d.lf, wrap64 (d.m + 1)⟩
def Dg.run (d : Dg) (l : List Deed) : Dg := l.foldl Dg.step d
def doD (s : St) (l : List Deed) : St := l.foldl dOne s
theorem Dg.run_app (d : Dg) (a b : List Deed) : d.run (a ++ b) = (d.run a).run b := List.foldl_append
theorem doD_app (s : St) (a b : List Deed) : doD s (a ++ b) = doD (doD s a) b := List.foldl_append
theorem dOne_len (s : St) (x : Deed) : (dOne s x).V.length = s.V.length := by
  cases x with
  | none => exact flA_len s
  | some x => exact write_len s x.1 x.2
theorem Dg.step_len (d : Dg) (x : Deed) : (d.step x).s.V.length = d.s.V.length := by
  unfold Dg.step
  split
  · rfl
  · exact dOne_len _ _
theorem Dg.run_len : ∀ (l : List Deed) (d : Dg), (d.run l).s.V.length = d.s.V.length
  | [], _ => rfl
  | x :: l, d => (Dg.run_len l (d.step x)).trans (d.step_len x)
abbrev Rd (w : World) (p gL gN gW : Nat) (rL rN : List Value) (d : Dg) : Prop := Rfx w p gL gN gW rL rN d.lf d.m d.s
section
variable {w w' : World} {p gL gN gW : Nat} {rL rN : List Value} {lf m : Int} {s : St}
set_option maxHeartbeats 1000000 in
set_option maxRecDepth 100000 in
theorem rxdeed_no (h : Rfx w p gL gN gW rL rN 0 m s) : Calls Tryz.prog 79 #[.pointer (some ⟨p, 0, none⟩)] w fun e w' => e = .returned (.bool false) ∧ w = w' := by
  have c3 := h.rec_.cell 3
  go_enter Tryz.func79, Tryz.ntmps79
  go_wp2_with fail
  go_ret
  exact ⟨rfl, rfl⟩
set_option maxHeartbeats 1000000 in
set_option maxRecDepth 100000 in
theorem rxdeed_yes (h : Rfx w p gL gN gW rL rN lf m s) (h0 : lf ≠ 0) : Calls Tryz.prog 79 #[.pointer (some ⟨p, 0, none⟩)] w fun e w' => e = .returned (.bool true) ∧ Rfx w' p gL gN gW rL rN (lfD lf) (wrap64 (m + 1)) s ∧ Chg [p] w w' := by
  have c3 := h.rec_.cell 3
  have c4 := h.rec_.cell 4
  have f3 := h.rec_.frozen 3
  have f4 := h.rec_.frozen 4
  have e0 : (lf == 0) = false := by simpa using h0
  by_cases hp : 0 < lf
  · have hl : lfD lf = wrap64 (lf - 1) := by unfold lfD; rw [if_pos hp]
    have HL := Lib.hid hl
    clear hl h0
    go_enter Tryz.func79, Tryz.ntmps79
    go_wp2_with fail
    go_ret
    rw [HL.out]
    refine ⟨rfl, ⟨(h.rec_.set_ 3 _).set_ 4 _, (h.last.far (h.last.ne_ h.rec_ (by decide)) _).far (h.last.ne_ h.rec_ (by decide)) _, (h.now.far (h.now.ne_ h.rec_ (by decide)) _).far (h.now.ne_ h.rec_ (by decide)) _, (h.wait.far (h.wait.ne_ h.rec_ (by decide)) _).far (h.wait.ne_ h.rec_ (by decide)) _, h.lenL, h.lenS, h.le, h.ne⟩, ((Chg.refl [p] w).setCell (by simp) _).setCell (by simp) _⟩
  · have hl : lfD lf = lf := by unfold lfD; rw [if_neg hp]
    have HL := Lib.hid hl
    clear hl h0
    go_enter Tryz.func79, Tryz.ntmps79
    go_wp2_with fail
    go_ret
    rw [HL.out]
    refine ⟨rfl, ⟨h.rec_.set_ 4 _, h.last.far (h.last.ne_ h.rec_ (by decide)) _, h.now.far (h.now.ne_ h.rec_ (by decide)) _, h.wait.far (h.wait.ne_ h.rec_ (by decide)) _, h.lenL, h.lenS, h.le, h.ne⟩, (Chg.refl [p] w).setCell (by simp) _⟩
set_option maxHeartbeats 1000000 in
set_option maxRecDepth 100000 in
theorem rxwrite_no (h : Rfx w p gL gN gW rL rN 0 m s) (k : Nat) (hk : k < s.V.length) (A : Option Addr) (c : Nat) :
    Calls Tryz.prog 54 #[.pointer (some ⟨p, 0, none⟩), .int .i64 (k : Int), .slice A 64 c] w fun e w' => e = .returned (.bool true) ∧ w = w' := by
  have hd : decide ((k : Int) < 0) = false := by simp
  have hd1 : decide ((s.V.length : Int) ≤ (k : Int)) = false := by simp; omega
  go_enter Tryz.func54, Tryz.ntmps54
  go_wp2_with (go_at_call 53; refine (rlen_any h).mono ?_; rintro e w' ⟨rfl, rfl⟩)
  refine (rxdeed_no h).mono ?_
  rintro e w' ⟨rfl, rfl⟩
  go_wp2_with fail
  go_ret
  exact ⟨rfl, rfl⟩
set_option maxHeartbeats 1000000 in
set_option maxRecDepth 100000 in
theorem rxflush_no (h : Rfx w p gL gN gW rL rN 0 m s) :
    Calls Tryz.prog 28 #[.pointer (some ⟨p, 0, none⟩)] w fun e w' => e = .returned (.tuple #[]) ∧ w = w' := by
  go_enter Tryz.func28, Tryz.ntmps28
  go_wp2_with fail
  refine (rxdeed_no h).mono ?_
  rintro e w' ⟨rfl, rfl⟩
  go_wp2_with fail
  go_end0
  exact ⟨rfl, rfl⟩
set_option maxHeartbeats 1000000 in
set_option maxRecDepth 100000 in
theorem rxwrite_yes (h : Rfx w p gL gN gW rL rN lf m s) (h0 : lf ≠ 0) (k : Nat) (hk : k < s.V.length) {A : Option Addr} {c : Nat} {x : List UInt8} (hx : x.length = 64) (hs : Src w A (bts x)) (hA : ∀ ad, A = some ad → ad.block ≠ p) :
    Calls Tryz.prog 54 #[.pointer (some ⟨p, 0, none⟩), .int .i64 (k : Int), .slice A 64 c] w fun e w' => e = .returned (.bool true) ∧
      Rfx w' p gL gN gW rL rN (lfD lf) (wrap64 (m + 1)) (s.write k x) ∧ Chg [p, gN, gW] w w' := by
  have hd : decide ((k : Int) < 0) = false := by simp
  have HL0 := Lib.hid h0
  clear h0
  have hd1 : decide ((s.V.length : Int) ≤ (k : Int)) = false := by simp; omega
  have hS := h.lenS
  have hv := h.le
  have s1 : 64 * (k + 1) ≤ s.S.length := by omega
  have s2 : s.S.length ≤ 1000000 := by omega
  have hne : ¬ (s.S.length + rN.length = k * 64) := by omega
  have hle : k * 64 ≤ s.S.length := by omega
  clear hS
  have hfit : k * 64 + (bts x).length ≤ (bts s.S ++ rN).length := by rw [List.length_append, bts_len, bts_len]; omega
  have Hn := Lib.hid (show (bts x).length = Nat.min 64 (s.S.length - k * 64) by rw [bts_len, hx]; exact (Nat.min_eq_left (by omega)).symm)
  have Hx := Lib.hid hx
  have b1 := bts_one x
  have HA := Lib.hid hA
  have n2 := Lib.hid (show p ∉ [gN] by simpa using h.rec_.ne_ h.now (by decide))
  have n3 := Lib.hid (show gW ∉ [gN] by simpa using h.wait.ne_ h.now (by decide))
  have HX := Lib.hid (show splice (bts s.S ++ rN) (k * 64) (bts x) = bts (splice s.S (k * 64) x) ++ rN by rw [splice_app _ _ _ _ (by rw [bts_len, bts_len]; omega), bts_splice])
  obtain ⟨Y, hY⟩ : ∃ Y, Y = bts x := ⟨_, rfl⟩
  rw [← hY] at hfit Hn b1 hs HX
  clear hx hY hA
  go_enter Tryz.func54, Tryz.ntmps54
  go_wp2_with (go_at_call 53; refine (rlen_any h).mono ?_; rintro e w' ⟨rfl, rfl⟩)
  refine (rxdeed_yes h HL0.out).mono ?_
  rintro e w1 ⟨rfl, h1, hc1⟩
  have c1 := h1.rec_.cell 1
  have hs1 : Src w1 A Y := hs.chg hc1 (fun _ ad e => by simpa using HA.out ad e)
  go_wp2_with (with_reducible refine wpList_copy_chg rfl (.tmp 28) (.tmp 29) _ _ rfl 5 Tryz.underlying30 size_u8 (some ⟨gN, k * 64, none⟩) A (s.S.length - k * 64) (s.S.length + rN.length - k * 64) 64 c rfl rfl gN (k * 64) 5 (bts s.S ++ rN) Y h1.now Hn.out (fun _ => rfl) hs1 hfit b1 ?_
               intro w2 HG HC
               have R2 := h1.rec_.chg HC n2.out
               have V2 := h1.wait.chg HC n3.out
               have c2 := R2.cell 2
               have c4 := (V2.cell k).trans (bls_get s.V k hk)
               have c5 := V2.frozen k)
  go_ret
  rw [HX.out] at HG
  have eS : (splice s.S (k * 64) x).length = s.S.length := length_splice _ _ _ (by rw [Hx.out]; omega)
  have d1 := h1.rec_.ne_ h1.wait (by decide)
  have d2 := h1.last.ne_ h1.wait (by decide)
  have d3 := h1.now.ne_ h1.wait (by decide)
  have hw : Whole (w2.setCell ⟨gW, k, none⟩ (.bool true)) gW 4 (bls (s.V.set k true)) := by
    have := V2.set_ k (.bool true)
    rwa [bls_set] at this
  refine ⟨rfl, ⟨?_, (h1.last.chg HC (by simpa using h1.ne)).far d2 _, HG.far d3 _, hw, by simp only [St.write, List.length_set]; exact h.lenL, by simp only [St.write, List.length_set]; rw [eS]; exact h.lenS, by simp only [St.write, List.length_set]; exact h.le, h.ne⟩, ?_⟩
  · simp only [St.write, List.length_set]
    rw [eS]
    exact R2.far d1 _
  · exact (((hc1.sub (by simp)).trans (HC.sub (T' := [p, gN, gW]) (by simp)))).setCell (by simp) _
set_option maxHeartbeats 2000000 in
set_option maxRecDepth 100000 in
theorem rxflush_yes (h : Rfx w p gL gN gW rL rN lf m s) (h0 : lf ≠ 0) :
    Calls Tryz.prog 28 #[.pointer (some ⟨p, 0, none⟩)] w fun e w' => ∃ gW', e = .returned (.tuple #[]) ∧
      Rfx w' p gL gN gW' rL rN (lfD lf) (wrap64 (m + 1)) ⟨s.S, s.S, falses s.V.length⟩ ∧ w.heap.size ≤ gW' ∧ Chg [p, gL] w w' := by
  have hmk := make_bool s.V.length (by have := h.le; omega)
  have HL0 := Lib.hid h0
  clear h0
  have hLS : s.L.length = s.S.length := by rw [h.lenL, h.lenS]
  have Hn := Lib.hid (show (bts s.S).length = Nat.min s.S.length s.L.length by rw [bts_len, hLS]; exact (Nat.min_self _).symm)
  have hfit : 0 + (bts s.S).length ≤ (bts s.L ++ rL).length := by rw [List.length_append, bts_len, bts_len]; omega
  have HX := Lib.hid (show splice (bts s.L ++ rL) 0 (bts s.S) = bts s.S ++ rL by rw [splice_app _ _ _ _ (by rw [bts_len, bts_len]; omega), bts_splice, splice_all _ _ (by omega)])
  have HLS := Lib.hid hLS
  have b1 := bts_one s.S
  clear hLS
  go_enter Tryz.func28, Tryz.ntmps28
  go_wp2_with fail
  refine (rxdeed_yes h HL0.out).mono ?_
  rintro e w1 ⟨rfl, h1, hc1⟩
  have c0 := h1.rec_.cell 0
  have c1 := h1.rec_.cell 1
  have hs1 : Src w1 (some ⟨gN, 0, none⟩) (bts s.S) := by
    have := Src.of_whole h1.now 0 s.S.length
    rwa [List.drop_zero, List.take_append_of_le_length (by rw [bts_len]; omega), List.take_of_length_le (by rw [bts_len]; omega)] at this
  have n2 := Lib.hid (show p ∉ [gL] by simpa using h.rec_.ne_ h.last (by decide))
  have n4 := Lib.hid (show gN ∉ [gL] by simpa using fun e => h.ne e.symm)
  obtain ⟨Y, hY⟩ : ∃ Y, Y = bts s.S := ⟨_, rfl⟩
  have HY := Lib.hid hY
  rw [← hY] at Hn hfit HX b1 hs1
  clear hY
  go_wp2_with fail
  go_region_law (with_reducible refine step_copy_chg rfl (.tmp 7) (.tmp 11) _ _ rfl 5 Tryz.underlying30 size_u8 (some ⟨gL, 0, none⟩) (some ⟨gN, 0, none⟩) s.L.length (s.L.length + rL.length) s.S.length (s.S.length + rN.length) rfl rfl gL 0 5 (bts s.L ++ rL) Y h1.last.drew Hn.out (fun _ => rfl) hs1.drew hfit b1 ?_; intro w2 HG HC)
  all_goals
    have R2 := h1.rec_.drew.chg HC n2.out
    have N2 := h1.now.drew.chg HC n4.out
    clear c0 c1
    have c2 : w2.cell? ⟨p, 2, none⟩ = some (.slice (some ⟨gW, 0, none⟩) s.V.length s.V.length) := R2.cell 2
    have c2' : ∀ o, (w2.alloc o).cell? ⟨p, 2, none⟩ = some (.slice (some ⟨gW, 0, none⟩) s.V.length s.V.length) := fun o => (R2.keep ((Chg.refl [] w2).alloc o)).cell 2
    have f2' := fun o => (R2.keep ((Chg.refl [] w2).alloc o)).frozen 2
    rw [HX.out, HY.out] at HG
    go_wp2_with fail
    go_end0
    have hal : ∀ o, Chg [] w2 (w2.alloc o) := fun o => (Chg.refl [] w2).alloc o
    have z1 := hc1.size
    have z2 := HC.size
    have z3 : w1.drew.heap.size = w1.heap.size := rfl
    have lp := R2.lt
    have lL := HG.lt
    have lN := N2.lt
    refine ⟨w2.heap.size, rfl, ⟨?_, (HG.keep (hal _)).far (by simpa using HG.ne_ R2 (by decide)) _, (N2.keep (hal _)).far (by simpa using N2.ne_ R2 (by decide)) _, (Whole.new w2 _ _).far (by simp; omega) _, by simp only [falses_len]; exact h.lenS, by simp only [falses_len]; exact h.lenS, by simp only [falses_len]; exact h.le, h.ne⟩, by omega, ?_⟩
    · have := (R2.keep (hal (.cells (bls (falses s.V.length)).toArray 4))).set_ 2 (.slice (some ⟨w2.heap.size, 0, none⟩) s.V.length s.V.length)
      simp only [falses_len]
      rw [HLS.out] at this
      exact this
    · have a1 : Chg [p, gL] w w1 := hc1.sub (by simp)
      have a2 : Chg [p, gL] w w2 := a1.drew.trans (HC.sub (by simp))
      exact (a2.alloc _).setCell (by simp) _
variable {d : Dg}
theorem rdwrite_any (h : Rd w p gL gN gW rL rN d) (k : Nat) (hk : k < d.s.V.length) {A : Option Addr} {c : Nat} {x : List UInt8} (hx : x.length = 64) (hs : Src w A (bts x)) (hA : ∀ ad, A = some ad → ad.block ≠ p) :
    Calls Tryz.prog 54 #[.pointer (some ⟨p, 0, none⟩), .int .i64 (k : Int), .slice A 64 c] w fun e w' => e = .returned (.bool true) ∧ Rd w' p gL gN gW rL rN (d.step (some (k, x))) ∧ Chg [p, gN, gW] w w' := by
  obtain ⟨s, lf, m⟩ := d
  by_cases h0 : lf = 0
  · subst h0
    refine (rxwrite_no h k hk A c).mono ?_
    rintro e w' ⟨rfl, rfl⟩
    exact ⟨rfl, by unfold Dg.step; rw [if_pos rfl]; exact h, Chg.refl _ _⟩
  · refine (rxwrite_yes h h0 k hk hx hs hA).mono ?_
    rintro e w' ⟨rfl, h', hc⟩
    exact ⟨rfl, by unfold Dg.step; rw [if_neg h0]; exact h', hc⟩
theorem rdflush_any (h : Rd w p gL gN gW rL rN d) :
    Calls Tryz.prog 28 #[.pointer (some ⟨p, 0, none⟩)] w fun e w' => ∃ gW', e = .returned (.tuple #[]) ∧ Rd w' p gL gN gW' rL rN (d.step none) ∧ (gW' = gW ∨ w.heap.size ≤ gW') ∧ Chg [p, gL] w w' := by
  obtain ⟨s, lf, m⟩ := d
  by_cases h0 : lf = 0
  · subst h0
    refine (rxflush_no h).mono ?_
    rintro e w' ⟨rfl, rfl⟩
    exact ⟨gW, rfl, by unfold Dg.step; rw [if_pos rfl]; exact h, .inl rfl, Chg.refl _ _⟩
  · refine (rxflush_yes h h0).mono ?_
    rintro e w' ⟨gW', rfl, h', hg, hc⟩
    refine ⟨gW', rfl, ?_, .inr hg, hc⟩
    unfold Dg.step
    rw [if_neg h0]
    show Rfx w' p gL gN gW' rL rN (lfD lf) (wrap64 (m + 1)) (flA s)
    unfold flA
    rw [flush_all rfl h.lenL h.lenS]
    exact h'
end
end Go.Proofs.YtddjgncdjdjgeaaGreat
