/-
  N: RootBytes, Sto1, RootRef.
-/
import Derived.Test.YtddjgncdjdjgeaaGreatZN1
import Derived.Test.YtddjgncdjdjgeaaGreatZN2
import Derived.Test.YtddjgncdjdjgeaaGreatZN3
import Derived.Test.YtddjgncdjdjgeaaGreatZN5
import Derived.Test.YtddjgncdjdjgeaaGreatZN8
import Derived.Test.YtddjgncdjdjgeaaGreatZN11
import Derived.Lib.SlBytesConst
import Derived.Deep.RegionWith
import Derived.Deep.DeepCutAuto
import Derived.Deep.RegionHeld3
import Derived.BigRegion
import Derived.Deep.QuietTactic
import Derived.BigQuiet
namespace Go.Proofs.YtddjgncdjdjgeaaGreat
open Go.RowKit
def hdr (a b c : Nat) : Nat → List UInt8
  | 0 => markL
  | 1 => markL ++ be4 a
  | 2 => markL ++ be4 a ++ be4 b
  | _ => headR a b c
def numR (a b c : Nat) : Nat → Nat
  | 0 => a
  | 1 => b
  | _ => c
theorem hdr_next (a b c k : Nat) (hk : k < 3) : hdr a b c (k + 1) = hdr a b c k ++ be4 (numR a b c k) := by
  match k, hk with
  | 0, _ => rfl
  | 1, _ => rfl
  | 2, _ => rfl
theorem hdr_len (a b c k : Nat) (hk : k ≤ 3) : (hdr a b c k).length = 4 + k * 4 := by
  match k, hk with
  | 0, _ => rfl
  | 1, _ => rfl
  | 2, _ => rfl
  | 3, _ => rfl
theorem numR_lt (a b c k : Nat) (ha : a < 4294967296) (hb : b < 4294967296) (hc : c < 4294967296) : numR a b c k < 4294967296 := by
  match k with
  | 0 => exact ha
  | 1 => exact hb
  | _ + 2 => exact hc
theorem numR_cell (a b c k : Nat) (hk : k < 3) : ([.int .u32 (a : Int), .int .u32 (b : Int), .int .u32 (c : Int)] : List Value)[k]? = some (.int .u32 (numR a b c k : Int)) := by
  match k, hk with
  | 0, _ => rfl
  | 1, _ => rfl
  | 2, _ => rfl
theorem bts_mark : bts markL = [.int .u8 69, .int .u8 78, .int .u8 71, .int .u8 49] := rfl
theorem tn_int : Tryz.prog.underlying 3 = some (.int .i64) := Tryz.underlying3
section
variable {w : World}
set_option maxHeartbeats 4000000 in
set_option maxRecDepth 100000 in
theorem rootbytes_any (a b c : Nat) (ha : a ≤ 2147483647) (hb : b ≤ 2147483647) (hc : c < 4294967296) :
    Calls Tryz.prog 92 #[rootV a b c] w (BytesPost w (rootL a b c)) := by
  obtain ⟨i0, hi, hz, hs1, hb1⟩ := info_parts info_byte
  have ea : (a : Int) % 4294967296 = (a : Int) := by omega
  have eb : (b : Int) % 4294967296 = (b : Int) := by omega
  unfold rootV
  have hz1 : (w.alloc (.cells #[.int .i64 (a : Int), .int .i64 (b : Int), .int .u32 (c : Int)] 58)).heap.size = w.heap.size + 1 := by simp
  have kc := kc_at (w.alloc (.cells #[.int .i64 (a : Int), .int .i64 (b : Int), .int .u32 (c : Int)] 58)) hz1
  go_enter Tryz.func92, Tryz.ntmps92
  go_wp2_with fail
  clear kc
  clear hz1
  have hc1 : Chg [] w (w.alloc (.cells #[.int .i64 (a : Int), .int .i64 (b : Int), .int .u32 (c : Int)] 58)) := (Chg.refl [] w).alloc _
  have hz1 : (w.alloc (.cells #[.int .i64 (a : Int), .int .i64 (b : Int), .int .u32 (c : Int)] 58)).heap.size = w.heap.size + 1 := by simp
  generalize w.alloc (.cells #[.int .i64 (a : Int), .int .i64 (b : Int), .int .u32 (c : Int)] 58) = w1 at hz1 hc1 ⊢
  have hM := bs_const w1 5 markL (4, 5) (by simp [markL])
  rw [bts_mark, hz1] at hM
  have hc2 : Chg [] w (w1.alloc (.cells #[.int .u8 69, .int .u8 78, .int .u8 71, .int .u8 49] 5 (4, 5))) := hc1.alloc _
  have hz2 : (w1.alloc (.cells #[.int .u8 69, .int .u8 78, .int .u8 71, .int .u8 49] 5 (4, 5))).heap.size = w.heap.size + 1 + 1 := by simp; omega
  generalize w1.alloc (.cells #[.int .u8 69, .int .u8 78, .int .u8 71, .int .u8 49] 5 (4, 5)) = w2 at hz2 hc2 hM ⊢
  have hN := Whole.new w2 56 [.int .u32 (a : Int), .int .u32 (b : Int), .int .u32 (c : Int)]
  rw [hz2] at hN
  have hM3 := hM.keep ((Chg.refl [] w2).alloc (.cells #[.int .u32 (a : Int), .int .u32 (b : Int), .int .u32 (c : Int)] 56))
  have hc3 := hc2.alloc (.cells #[.int .u32 (a : Int), .int .u32 (b : Int), .int .u32 (c : Int)] 56)
  generalize w2.alloc (.cells #[.int .u32 (a : Int), .int .u32 (b : Int), .int .u32 (c : Int)] 56) = w3 at hN hM3 hc3 ⊢
  clear hM hz1 hz2 hc1 hc2 ea eb
  go_loopw [3, 18] (fun t i wr => ∃ k : Nat, k ≤ 3 ∧ i = .int .i64 (k : Int) ∧ (∃ A cc, t = .slice A (4 + k * 4) cc ∧ Bs wr A (4 + k * 4) cc (hdr a b c k)) ∧ Whole wr (w.heap.size + 1 + 1) 56 [.int .u32 (a : Int), .int .u32 (b : Int), .int .u32 (c : Int)] ∧ Chg [] w wr) (fun _ i _ => 3 - (intOf i).toNat)
  case atStart => exact ⟨0, by omega, rfl, ⟨_, _, rfl, hM3⟩, hN, hc3⟩
  case round =>
    obtain ⟨k, hk, rfl, ⟨A, cc, rfl, hB⟩, hW, hcr⟩ := hrel
    have HB := Lib.hid hB
    have HC := Lib.hid hcr
    have HW := Lib.hid hW
    clear hM3 hN hc3
    by_cases hlt : k < 3
    · have c0 := (hW.cell k).trans (numR_cell a b c k hlt)
      have hlti := numR_lt a b c k (by omega) (by omega) hc
      have HNX := Lib.hid (hdr_next a b c k hlt)
      clear hB hcr hW
      generalize numR a b c k = q at c0 hlti HNX
      have hkI : (k : Int) < 3 := by omega
      have hk0 : (0 : Int) ≤ (k : Int) := by omega
      go_wp2_with fail
      refine (put_b HB.out q hlti (by omega)).mono ?_
      rintro e w4 ⟨v4, rfl, ho4, hc4⟩
      have hl4 : (hdr a b c k ++ be4 q).length = 4 + (k + 1) * 4 := by rw [← HNX.out, hdr_len a b c (k + 1) (by omega)]
      rw [hl4] at ho4
      obtain ⟨A4, c4, rfl, hB4, _⟩ := Bs.of_own ho4
      have HB4 := Lib.hid hB4
      have HC4 := Lib.hid (HC.out.new hc4)
      have HW4 := Lib.hid (HW.out.keep hc4)
      clear hl4 ho4 hB4 hc4 c0
      go_wp2_with fail
      go_roundw
      case rel => exact ⟨k + 1, by omega, by go_num, ⟨A4, c4, rfl, by rw [HNX.out]; exact HB4.out⟩, HW4.out, HC4.out⟩
      case measure => simp [intOf]; omega
    · have hk3 : k = 3 := by omega
      subst hk3
      have hB16 : Bs wr A 16 cc (headR a b c) := HB.out
      have HB16 := Lib.hid hB16
      clear hB hcr hW hB16
      go_wp2_with fail
      refine (sumk_b HB16.out).mono ?_
      rintro e w' ⟨rfl, rfl⟩
      go_wp2_with fail
      refine (put_b HB16.out (sumK (headR a b c)) (sumK_lt _) (by omega)).mono ?_
      rintro e w5 ⟨v5, rfl, ho5, hc5⟩
      have hl5 : (headR a b c ++ be4 (sumK (headR a b c))).length = 20 := rfl
      rw [hl5] at ho5
      have HC5 := Lib.hid (HC.out.new hc5)
      have hsz := HC.out.size
      have HRL := Lib.hid (show rootL a b c = (headR a b c ++ be4 (sumK (headR a b c))) ++ zeros 44 from rfl)
      generalize headR a b c ++ be4 (sumK (headR a b c)) = Z at ho5 HRL
      obtain ⟨g, r, rfl, hbg, _, _⟩ := own_whole ho5 (by omega)
      obtain ⟨g', cap', w6, hr, ho6, hg6, hor⟩ := run_append_zeros (P := Tryz.prog) w5 wr.heap.size 30 3 30 5 i0 _ 1 .i64 Tryz.underlying30 tn_int hi hz hs1 hb1 rfl rfl g 20 (20 + r.length) (bts Z) ho5 44 (by unfold maxLen; omega) (by omega) hc5.size
      have hc6 : Chg [] wr w6 := hc5.own ho5 (Nat.le_refl _) hg6
      have HR := Lib.hid hr
      have HO := Lib.hid ho6
      have HC6 := Lib.hid (HC.out.new hc6)
      clear hr ho6 hg6 hor hc6 ho5 hc5 hl5
      go_wp2_with (at_builtin; refine Lib.wpList_append_run w5 rfl (.tmp 30) (.tmp 33) 30 3 rfl _ _ rfl rfl _ _ HR.out ?_)
      go_ret
      refine ⟨_, rfl, ?_, HC6.out⟩
      have e1 : (rootL a b c).length = 20 + 44 := rootL_len a b c
      have e2 : bts (rootL a b c) = bts Z ++ List.replicate 44 (.int .u8 0) := by rw [HRL.out, bts_app, bts_zeros]
      rw [e1, e2]
      exact own_more HO.out hsz
end
end Go.Proofs.YtddjgncdjdjgeaaGreat
namespace Go.Proofs.YtddjgncdjdjgeaaGreat
open Go.RowKit
/-- All that waits lasts. -/
def flA (s : St) : St := St.flush s s.V.length
theorem flA_len (s : St) : (flA s).V.length = s.V.length := flush_len s _
theorem write_len (s : St) (k : Nat) (x : List UInt8) : (s.write k x).V.length = s.V.length := by simp [St.write]
/-- So many sectors of zeros. -/
def wipeN (s : St) (a : Nat) : Nat → St
  | 0 => s
  | k + 1 => (wipeN s a k).write (a + k) (zeros 64)
theorem wipeN_len (s : St) (a : Nat) : ∀ k, (wipeN s a k).V.length = s.V.length
  | 0 => rfl
  | k + 1 => by rw [wipeN, write_len, wipeN_len s a k]
def putR (s : St) (L P E : Nat) : St := flA (s.write (E % 2) (rootL L P E))
theorem putR_len (s : St) (L P E : Nat) : (putR s L P E).V.length = s.V.length := by rw [putR, flA_len, write_len]
/-- What Format makes of a disk. -/
def fmt (s : St) (L P : Nat) : St := putR (flA (wipeN (flA (wipeN s 0 2)) 2 (L + P))) L P 1
theorem fmt_len (s : St) (L P : Nat) : (fmt s L P).V.length = s.V.length := by rw [fmt, putR_len, flA_len, wipeN_len, flA_len, wipeN_len]
def DiskPost (w : World) (p bL bS bW : Nat) (s : St) (e : Ending) (w' : World) : Prop := e = .returned (.tuple #[]) ∧ DskS w' p bL bS bW s ∧ Chg [bL, bS, bW] w w'
/-- Only these blocks have turned, by what is hard. -/
def dkT (T : List Nat) (hard soft : List Nat) : Turns := ⟨Chg [], Chg T, hard, soft⟩
theorem dkT_ok {T hard soft : List Nat} : (dkT T hard soft).Ok := ⟨Chg.refl [], fun _ _ h => h.sub (fun _ h => by cases h), fun _ _ _ h k => h.trans k⟩
theorem dk_by {T hard soft : List Nat} (k : Nat) {W W' : World} (h : Chg [] W W') : (dkT T hard soft).by_ k W W' := by
  unfold Turns.by_
  split
  · exact h.sub (fun _ h => by cases h)
  · exact h
theorem dk_hard {T hard soft : List Nat} {k : Nat} (hk : hard.contains k = true) {W W' : World} (h : Chg T W W') : (dkT T hard soft).by_ k W W' := by
  unfold Turns.by_
  rw [if_pos (show (dkT T hard soft).hard.contains k = true from hk)]
  exact h
theorem star_chg {W W' : World} (h : Star (Chg []) W W') : Chg [] W W' := h.fold (Chg.refl []) fun _ _ _ h k => h.trans k
def dskF (p bL bS bW : Nat) (s : St) : Fact := fun v W => v = .bool true ∧ DskS W p bL bS bW s
theorem keeps_dsk {p bL bS bW : Nat} {s : St} : Keeps (Chg []) (dskF p bL bS bW s) := fun _ _ _ h hc => ⟨h.1, Dsk.keep h.2 hc⟩
section
variable {w : World} {p bL bS bW : Nat} {s : St}
theorem make_z64 (w : World) : (Instr.makeSlice 30 (.int .i64 64) (.int .i64 64)).run Tryz.prog w = .ok (.slice (some ⟨w.heap.size, 0, none⟩) 64 64) (w.alloc (.cells (bts (zeros 64)).toArray 5)) := by
  obtain ⟨i, hi, hz, hs, hb⟩ := info_parts info_byte
  have := run_make1 (P := Tryz.prog) 30 5 i _ rfl Tryz.underlying30 hi hz hs 64 (by rw [hb]; omega) (by omega) w
  rw [show bts (zeros 64) = List.replicate 64 (.int .u8 0) from by simp [bts, zeros]; rfl]
  exact this
theorem sub_s {T T' : List Nat} {a b : World} (h : Chg T a b) (hs : ∀ i ∈ T, i ∈ T' := by simp) : Chg T' a b := h.sub hs
set_option maxHeartbeats 2000000 in
set_option maxRecDepth 100000 in
theorem wipe_any (h : DskS w p bL bS bW s) (a b : Nat) (hab : a ≤ b) (hb : b ≤ s.V.length) :
    Calls Tryz.prog 50 #[.pointer (some ⟨p, 0, none⟩), .int .i64 (a : Int), .int .i64 (b : Int)] w (DiskPost w p bL bS bW (flA (wipeN s a (b - a)))) := by
  have hle := Dsk.le h
  go_enter Tryz.func50, Tryz.ntmps50
  go_wp2_with fail
  go_loopw [6] (fun i wr => ∃ m : Nat, a ≤ m ∧ m ≤ b ∧ i = .int .i64 (m : Int) ∧ Hid (DskS wr p bL bS bW (wipeN s a (m - a))) ∧ Hid (Chg [bL, bS, bW] w wr)) (fun i _ => b - (intOf i).toNat)
  case atStart => exact ⟨a, Nat.le_refl _, hab, rfl, Lib.hid (by rw [Nat.sub_self]; exact h), Lib.hid (Chg.refl _ _)⟩
  case round =>
    obtain ⟨k, hka, hk, rfl, hdk, hck⟩ := hrel
    by_cases hlt : k < b
    · have hI : (k : Int) < (b : Int) := by omega
      have hmk := make_z64 wr
      go_wp2_with fail
      have hal := (Chg.refl [] wr).alloc (.cells (bts (zeros 64)).toArray 5)
      have hW := Whole.new wr 5 (bts (zeros 64))
      refine (write_yes (hdk.out.keep hal) k (by show k < (wipeN s a (k - a)).V.length; rw [wipeN_len]; omega) (zeros_len 64) (Src.of_all hW)).mono ?_
      rintro e w2 ⟨rfl, hd2, hc2⟩
      have HD2 := Lib.hid (show DskS w2 p bL bS bW (wipeN s a (k + 1 - a)) from by
        rw [show k + 1 - a = (k - a) + 1 by omega, wipeN, show a + (k - a) = k by omega]
        exact hd2)
      have HC2 := Lib.hid (show Chg [bL, bS, bW] w w2 from (hck.out.new hal).trans (sub_s hc2))
      clear hal hW hd2 hc2 hmk
      go_wp2_with fail
      go_roundw
      case rel => exact ⟨k + 1, by omega, by omega, by go_num, HD2, HC2⟩
      case measure => simp [intOf]; omega
    · obtain rfl : b = k := by omega
      have hI : ¬ (b : Int) < (b : Int) := by omega
      go_wp2_with fail
      refine (flush_any hdk.out).mono ?_
      rintro e w2 ⟨rfl, hd2, hc2⟩
      have HP := Lib.hid (show DskS w2 p bL bS bW (flA (wipeN s a (b - a))) ∧ Chg [bL, bS, bW] w w2 from ⟨hd2, hck.out.trans hc2⟩)
      clear hd2 hc2
      go_wp2_with fail
      go_end0
      exact ⟨rfl, HP.out.1, HP.out.2⟩
set_option maxHeartbeats 4000000 in
set_option maxRecDepth 100000 in
theorem putRoot_any (h : DskS w p bL bS bW s) (L P E : Nat) (hL : L ≤ 2147483647) (hP : P ≤ 2147483647) (hE : E < 4294967296) (h2 : 2 ≤ s.V.length) :
    Calls Tryz.prog 51 #[.pointer (some ⟨p, 0, none⟩), rootV L P E] w (DiskPost w p bL bS bW (putR s L P E)) := by
  have hr0 : rootV L P E = .agg #[.int .i64 (L : Int), .int .i64 (P : Int), .int .u32 (E : Int)] := rfl
  rw [hr0]
  go_enter Tryz.func51, Tryz.ntmps51
  go_upto_region 1 with fail
  have hR := Whole.new w 58 [.int .i64 (L : Int), .int .i64 (P : Int), .int .u32 (E : Int)]
  have hal := (Chg.refl [] w).alloc (.cells #[.int .i64 (L : Int), .int .i64 (P : Int), .int .u32 (E : Int)] 58)
  have HD := Lib.hid (h.keep hal)
  have HC := Lib.hid hal
  obtain ⟨gr, hgr⟩ : ∃ g, g = w.heap.size := ⟨_, rfl⟩
  rw [← hgr] at hR ⊢
  generalize w.alloc (.cells #[.int .i64 (L : Int), .int .i64 (P : Int), .int .u32 (E : Int)] 58) = w1 at hR HD HC ⊢
  have hC0 := (Chg.refl [] w1).drew.sub (T' := [bL, bS, bW]) (fun _ h => by cases h)
  have r0 := hR.cell 0
  have r1 := hR.cell 1
  have r2 := hR.cell 2
  have hmod : ((E : Int)).tmod 2 = ((E % 2 : Nat) : Int) := by rw [Int.tmod_eq_emod_of_nonneg (by omega)]; omega
  have hm2 : E % 2 < 2 := Nat.mod_lt _ (by omega)
  generalize hq : E % 2 = q at hmod hm2 ⊢
  have HQ := Lib.hid hq
  clear hq
  have HR := Lib.hid hR
  have HLT := Lib.hid (show w.heap.size ≤ gr ∧ bL < w.heap.size ∧ bS < w.heap.size ∧ bW < w.heap.size from ⟨by omega, (Dsk.last h).lt, (Dsk.seen h).lt, (Dsk.wait h).lt⟩)
  have hwq : IntKind.i64.wrap (q : Int) = (q : Int) := by rw [IntKind.wrap_i64]; omega
  clear r0 r1 r2 hgr
  have hgT : gr ∉ [bL, bS, bW] := fun hm => by have h1 := HLT.out; simp only [List.mem_cons, List.not_mem_nil, or_false] at hm; omega
  have TOK := dkT_ok (T := [bL, bS, bW]) (hard := [7]) (soft := [6, 7])
  refine wp_flow (by kernel_rfl) (dkT [bL, bS, bW] [7] [6, 7]) TOK (by kernel_rfl) ?_
  refine flow_move_out TOK rfl rfl rfl ?_
  refine flow1 (r := .pointer (some ⟨gr, 2, none⟩)) TOK rfl (.out rfl rfl) rfl (fun ev W he e1 => by go_simp) ?_
  refine flow1h (r := .int .u32 (E : Int)) TOK rfl (.inn rfl) rfl (fun ev W he hW e1 => by have r2 := (HR.out.chg (hC0.then_ hW (fun _ h _ => h)) hgT).cell 2; clear hW; go_simp) ?_
  refine flow2 (r := .int .u32 (q : Int)) TOK rfl (.inn rfl) (.const _) rfl (fun ev W he e1 e2 => by go_simp) ?_
  refine flow1 (r := .int .i64 (q : Int)) TOK rfl (.inn rfl) rfl (fun ev W he e1 => by go_simp) ?_
  refine flow1h (r := rootV L P E) TOK rfl (.out rfl rfl) rfl (fun ev W he hW e1 => by have hx := HR.out.chg (hC0.then_ hW (fun _ h _ => h)) hgT; have r0 := hx.cell 0; have r1 := hx.cell 1; have r2 := hx.cell 2; clear hW hx; unfold rootV; go_simp) ?_
  refine flow_calld (ownF 0 5 (bts (rootL L P E))) (keeps_own _ _ _) (.inl rfl) (by kernel_rfl) rfl (.cons (.inn rfl) .nil) (fun W hW => (rootbytes_any L P E (by omega) (by omega) hE).mono ?_) ?_
  · rintro e w' ⟨v, rfl, ho, hc⟩
    exact ⟨v, rfl, dk_by _ hc, by unfold ownF; rw [bts_len]; exact own_more ho (Nat.zero_le _)⟩
  refine flow_early (dskF p bL bS bW (s.write q (rootL L P E))) keeps_dsk (.inl rfl) rfl rfl (fun ev W he hW hfs => ?_) ?_
  · have hc0 : Chg [] w1 W := (Chg.refl [] w1).drew.new (star_chg hW)
    rw [run_call he (by kernel_rfl)]
    obtain ⟨_, f1, f2, f3, _⟩ := hfs
    have e1 : ev (.tmp 4) = .pointer (some ⟨p, 0, none⟩) := f1
    have e2 : ev (.tmp 8) = .int .i64 (q : Int) := f2
    have f3' : ownF 0 5 (bts (rootL L P E)) (ev (.tmp 10)) W := f3
    unfold ownF at f3'
    rw [bts_len, rootL_len] at f3'
    obtain ⟨Av, cv, e3, _, _, hs3, _⟩ := own_slice f3'
    rw [show Array.map ev #[.tmp 4, .tmp 8, .tmp 10] = #[ev (.tmp 4), ev (.tmp 8), ev (.tmp 10)] by simp]
    unfold Leaves
    simp only
    rw [e1, e2, e3]
    refine (write_yes (HD.out.keep hc0) q (by omega) (rootL_len L P E) hs3).mono ?_
    rintro e w3 ⟨rfl, hd3, hc3⟩
    exact ⟨_, rfl, dk_hard rfl (hc3.sub (by simp)), rfl, hd3⟩
  intro vs W hW hF
  have hd : dskF p bL bS bW (s.write q (rootL L P E)) (vs 11) W := hF 11 _ rfl rfl
  have HD3 := Lib.hid hd.2
  have e11 := hd.1
  have HC3 := Lib.hid (show Chg [bL, bS, bW] w W from ((HC.out.sub (T' := [bL, bS, bW]) (fun _ h => by cases h)).trans hC0).trans hW)
  simp only [putAll, Act.put, List.setIfInBounds_toArray, List.set_cons_zero, List.set_cons_succ]
  rw [e11]
  clear hF hW hd e11 TOK hC0
  obtain ⟨w3, hw3⟩ : ∃ w3 : World, w3 = W := ⟨_, rfl⟩
  rw [← hw3] at HD3 HC3 ⊢
  clear hw3
  go_wp2_with fail
  refine (flush_any HD3.out).mono ?_
  rintro e w4 ⟨rfl, hd4, hc4⟩
  have HP := Lib.hid (show DskS w4 p bL bS bW (putR s L P E) ∧ Chg [bL, bS, bW] w w4 from ⟨by unfold putR flA; rw [HQ.out]; exact hd4, HC3.out.trans hc4⟩)
  clear hd4 hc4
  go_wp2_with fail
  go_end0
  exact ⟨rfl, HP.out.1, HP.out.2⟩
end
end Go.Proofs.YtddjgncdjdjgeaaGreat
namespace Go.Proofs.YtddjgncdjdjgeaaGreat
open Go.RowKit
/-- From w to w' nothing has turned but the marks of rows that hold the mark's four bytes, from block B on. -/
structure Rm (B : Nat) (w w' : World) : Prop where
  os : w'.os = w.os
  tape : w'.tape = w.tape
  output : w'.output = w.output
  size : w.heap.size ≤ w'.heap.size
  block : ∀ k, k < w.heap.size → w'.heap[k]? = w.heap[k]? ∨ (B ≤ k ∧ ∃ t fz fz', w.heap[k]? = some (.cells (bts markL).toArray t fz) ∧ w'.heap[k]? = some (.cells (bts markL).toArray t fz'))
set_option maxRecDepth 100000 in
theorem Rm.of_chg {B : Nat} {w w' : World} (h : Chg [] w w') : Rm B w w' := ⟨h.os, h.tape, h.output, h.size, fun k hk => .inl (h.block k hk (by simp))⟩
set_option maxRecDepth 100000 in
theorem Rm.trans {B : Nat} {a b c : World} (h : Rm B a b) (k : Rm B b c) : Rm B a c := by
  refine ⟨k.os.trans h.os, k.tape.trans h.tape, k.output.trans h.output, Nat.le_trans h.size k.size, fun i hi => ?_⟩
  rcases h.block i hi with h1 | ⟨hB, t, fz, fz', h1, h2⟩
  · rcases k.block i (Nat.lt_of_lt_of_le hi h.size) with k1 | ⟨hB, t, fz, fz', k1, k2⟩
    · exact .inl (k1.trans h1)
    · exact .inr ⟨hB, t, fz, fz', by rw [← h1]; exact k1, k2⟩
  · rcases k.block i (Nat.lt_of_lt_of_le hi h.size) with k1 | ⟨_, t2, fz2, fz3, k1, k2⟩
    · exact .inr ⟨hB, t, fz, fz', h1, k1.trans h2⟩
    · rw [h2] at k1
      injection k1 with k1
      injection k1 with _ k3 _
      subst k3
      exact .inr ⟨hB, t, fz, fz3, h1, k2⟩
set_option maxRecDepth 100000 in
theorem Rm.chg {B : Nat} {w w' : World} (h : Rm B w w') (hB : w.heap.size ≤ B) : Chg [] w w' :=
  ⟨h.os, h.tape, h.output, h.size, fun k hk _ => (h.block k hk).elim id fun ⟨hb, _⟩ => by omega⟩
def markT (B : Nat) : Turns := ⟨Rm B, Rm B, [], []⟩
set_option maxRecDepth 100000 in
theorem markT_ok (B : Nat) : (markT B).Ok := ⟨fun _ => Rm.of_chg (Chg.refl _ _), fun _ _ h => h, fun _ _ _ h k => h.trans k⟩
set_option maxRecDepth 100000 in
theorem mark_by {B : Nat} (k : Nat) {W W' : World} (h : Rm B W W') : (markT B).by_ k W W' := by
  unfold Turns.by_
  split <;> exact h
/-- The mark's row. -/
def markF (B : Nat) : Fact := fun v W => ∃ g fz, v = .slice (some ⟨g, 0, none⟩) 4 4 ∧ B ≤ g ∧ W.heap[g]? = some (.cells (bts markL).toArray 5 fz)
set_option maxRecDepth 100000 in
theorem heap_lt {W : World} {g : Nat} {o : Obj} (h : W.heap[g]? = some o) : g < W.heap.size := by
  rcases Nat.lt_or_ge g W.heap.size with hlt | hge
  · exact hlt
  · rw [Array.getElem?_eq_none hge] at h; cases h
set_option maxRecDepth 100000 in
theorem keeps_mark (B : Nat) : Keeps (Rm B) (markF B) := fun v W W' ⟨g, fz, e, hB, hg⟩ hR => by
  rcases hR.block g (heap_lt hg) with h | ⟨_, t, f1, f2, h1, h2⟩
  · exact ⟨g, fz, e, hB, h.trans hg⟩
  · rw [hg] at h1
    injection h1 with h1
    injection h1 with _ h3 _
    subst h3
    exact ⟨g, f2, e, hB, h2⟩
set_option maxRecDepth 100000 in
theorem bs_mark {W : World} {g : Nat} {fz : Nat × Nat} (hg : W.heap[g]? = some (.cells (bts markL).toArray 5 fz)) : Bs W (some ⟨g, 0, none⟩) 4 4 markL := by
  refine ⟨rfl, fun _ => ⟨_, rfl, heap_lt hg, fun j v hj => ?_⟩, Nat.le_refl _, by omega, fun _ ad e => by injection e with e; subst e; rfl⟩
  rw [add_plain, Nat.zero_add, cell_of_row _ _ _ _ _ _ hg]
  simpa using hj
/-- An own row of eight bytes or more. -/
def ownL (l : List UInt8) : Fact := fun v W => 8 ≤ l.length ∧ W.ownsRow 0 5 1 v l.length (bts l)
set_option maxRecDepth 100000 in
theorem keeps_ownL (B : Nat) (l : List UInt8) : Keeps (Rm B) (ownL l) := fun v W W' ⟨h8, h⟩ hR => by
  refine ⟨h8, h.1, h.2.imp id ?_⟩
  rintro ⟨g, cap, cur, rfl, hb, hg, hn, hc, hs, ht⟩
  refine ⟨g, cap, cur, rfl, hb, ?_, hn, hc, hs, ht⟩
  rcases hR.block g (heap_lt hg) with h | ⟨_, t, f1, f2, h1, h2⟩
  · exact h.trans hg
  · exfalso
    rw [hg] at h1
    injection h1 with h1
    injection h1 with h3 _ _
    rw [h3] at hs
    have : (bts markL).toArray.size = 4 := rfl
    omega
set_option maxRecDepth 100000 in
theorem run_convert_mark {P : Program} (W : World) (t e : TypeId) (C : Array Value) (fz : Nat × Nat) (g n c : Nat) (ht : P.underlying t = some (.slice e)) (he : P.underlying e = some (.int .u8)) (hg : W.heap[g]? = some (.cells C e fz)) :
    ∃ fz', (convert t t (.slice (some ⟨g, 0, none⟩) n c)).run P W = .ok (.slice (some ⟨g, 0, none⟩) n c) { W with heap := W.heap.modify g fun _ => .cells C e fz' } := by
  have hsh : W.shape? g = some (e, C.size) := by
    unfold World.shape?
    rw [hg]
  obtain ⟨lo, hi⟩ := fz
  refine ⟨if lo = hi then (C.size, C.size + 1) else (min lo C.size, max hi (C.size + 1)), ?_⟩
  have hfr : W.freeze ⟨g, C.size, none⟩ 1 = { W with heap := W.heap.modify g fun _ => .cells C e (if lo = hi then (C.size, C.size + 1) else (min lo C.size, max hi (C.size + 1))) } := by
    unfold World.freeze
    rw [if_neg (by decide)]
    congr 1
    apply Array.ext
    · simp
    · intro i h1 h2
      simp only [Array.getElem_modify]
      by_cases h : g = i
      · subst h
        have hgl := heap_lt hg
        rw [Array.getElem?_eq_getElem hgl] at hg
        injection hg with hg
        simp [hg]
      · simp [h]
  simp [convert, run_underlying ht, run_underlying he, markStringish, hsh]
  exact hfr
section
variable {T : Turns} {w0 : World} {a0 : Act} {ops : List Oper} {Q : Exit → Act → World → Prop} {F : Said} {k : Nat} {rest : List Oper}
  {d : Option Tmp} {ty : TypeId} {pos : String} {af : Array Go.Edge} {g : Option (Nat × Bool)} {B : Nat}
set_option maxRecDepth 100000 in
theorem flow_build_mark {t : TypeId} {xs : Array (Nat × Operand)} (hB : B ≤ w0.heap.size) (hrun : ∀ ev W, EvOk ev → (execOp ev ⟨d, .buildSlice t 4 xs, ty, pos, af, g⟩).run Tryz.prog W = .ok (.value (.slice (some ⟨W.heap.size, 0, none⟩) 4 4)) (W.alloc (.cells (bts markL).toArray 5)))
    (hg : guardIs ops F true ⟨d, .buildSlice t 4 xs, ty, pos, af, g⟩) (h : Flow Tryz.prog (markT B) w0 a0 ops Q ((d, markF B) :: F) (k + 1) rest) : Flow Tryz.prog (markT B) w0 a0 ops Q F k (⟨d, .buildSlice t 4 xs, ty, pos, af, g⟩ :: rest) := by
  refine flow_op (markF B) (keeps_mark B) (.inr (keeps_mark B)) hg (fun ev W he hW _ => ?_) h
  rw [hrun ev W he]
  have hs : w0.heap.size ≤ W.heap.size := Rm.size (B := B) hW
  exact ⟨mark_by k (Rm.of_chg ((Chg.refl _ _).alloc _)), _, _, rfl, Nat.le_trans hB hs, heap_alloc_new W _⟩
set_option maxRecDepth 100000 in
theorem flow_convert_mark {st : Tmp} (hs : look F st = some (markF B))
    (hg : guardIs ops F true ⟨d, .convert 30 30 (.tmp st), ty, pos, af, g⟩) (h : Flow Tryz.prog (markT B) w0 a0 ops Q ((d, markF B) :: F) (k + 1) rest) : Flow Tryz.prog (markT B) w0 a0 ops Q F k (⟨d, .convert 30 30 (.tmp st), ty, pos, af, g⟩ :: rest) := by
  refine flow_op (markF B) (keeps_mark B) (.inr (keeps_mark B)) hg (fun ev W he hW hf => ?_) h
  have hf1 : factOf a0 F (.tmp st) (ev (.tmp st)) W := hf.1
  simp only [factOf, hs] at hf1
  obtain ⟨b, fz, e1, hB, hb⟩ := hf1
  obtain ⟨fz', hr⟩ := run_convert_mark (P := Tryz.prog) W 30 5 _ fz b 4 4 Tryz.underlying30 Tryz.underlying5 hb
  have hbl := heap_lt hb
  have hnew : (W.heap.modify b fun _ => Obj.cells (bts markL).toArray 5 fz')[b]? = some (.cells (bts markL).toArray 5 fz') := by
    rw [Array.getElem?_modify, if_pos rfl, hb]; rfl
  simp only [execOp, e1, Sem.run_bind, hr, Result.andThen_ok, Sem.run_pure]
  refine ⟨mark_by k ⟨rfl, rfl, rfl, by simp, fun i hi => ?_⟩, b, fz', rfl, hB, hnew⟩
  by_cases hib : b = i
  · subst hib
    exact .inr ⟨hB, _, fz, fz', hb, hnew⟩
  · refine .inl ?_
    show (W.heap.modify b _)[i]? = _
    rw [Array.getElem?_modify, if_neg hib]
set_option maxRecDepth 100000 in
/-- A call that appends a number to a row that reads as l. -/
theorem flow_put {φ : Fact} {f : FuncId} {st xt : Tmp} {ats : Array TypeId} {l : List UInt8} {q : Nat} (hl : 4 ≤ l.length) (hl2 : l.length ≤ 1000)
    (hbs : ∀ v W, φ v W → ∃ A n c, v = .slice A n c ∧ Bs W A n c l)
    (hput : ∀ (W : World) (A : Option Addr) (n c : Nat), Bs W A n c l → n + 4 ≤ 140737488355328 → Calls Tryz.prog f #[.slice A n c, .int .u32 (q : Int)] W (BytesPost W (l ++ be4 q)))
    (hs : look F st = some φ) (hx : look F xt = some (isV (.int .u32 (q : Int)))) (hf : callsB Tryz.prog f = true)
    (hg : guardIs ops F true ⟨d, .call { callee := .value (.func f), args := #[.tmp st, .tmp xt], argTypes := ats }, ty, pos, af, g⟩) (h : Flow Tryz.prog (markT B) w0 a0 ops Q ((d, ownL (l ++ be4 q)) :: F) (k + 1) rest) :
    Flow Tryz.prog (markT B) w0 a0 ops Q F k (⟨d, .call { callee := .value (.func f), args := #[.tmp st, .tmp xt], argTypes := ats }, ty, pos, af, g⟩ :: rest) := by
  refine flow_call (ownL (l ++ be4 q)) (keeps_ownL _ _) (.inr (keeps_ownL _ _)) hf hg (fun ev W he hW hfs => ?_) h
  have hf1 : factOf a0 F (.tmp st) (ev (.tmp st)) W := hfs.1
  have hf2 : factOf a0 F (.tmp xt) (ev (.tmp xt)) W := hfs.2.1
  simp only [factOf, hs] at hf1
  simp only [factOf, hx, isV] at hf2
  obtain ⟨A, n, c, e1, hB⟩ := hbs _ _ hf1
  show Calls Tryz.prog f #[ev (.tmp st), ev (.tmp xt)] W _
  rw [e1, hf2]
  refine (hput W A n c hB (by have := hB.len; omega)).mono ?_
  rintro e w' ⟨v, rfl, ho, hc⟩
  exact ⟨v, rfl, mark_by k (Rm.of_chg hc), by rw [List.length_append, be4_len]; omega, own_more ho (Nat.zero_le _)⟩
end
set_option maxRecDepth 100000 in
theorem ownL_bs (l : List UInt8) (v : Value) (W : World) (h : ownL l v W) : ∃ A n c, v = .slice A n c ∧ Bs W A n c l := by
  obtain ⟨A, c, e, hB, _⟩ := Bs.of_own h.2
  exact ⟨A, _, c, e, hB⟩
set_option maxRecDepth 100000 in
theorem markF_bs (B : Nat) (v : Value) (W : World) (h : markF B v W) : ∃ A n c, v = .slice A n c ∧ Bs W A n c markL := by
  obtain ⟨g, fz, e, _, hg⟩ := h
  exact ⟨_, _, _, e, bs_mark hg⟩
section
variable {w : World}
set_option maxHeartbeats 4000000 in
set_option maxRecDepth 100000 in
theorem rroot_any (a b c : Nat) (ha : a ≤ 2147483647) (hb : b ≤ 2147483647) (hc : c < 4294967296) :
    Calls Tryz.prog 29 #[rootV a b c] w (BytesPost w (rootL a b c)) := by
  obtain ⟨i0, hi, hz, hs1, hb1⟩ := info_parts info_byte
  have ea : IntKind.u32.wrap (a : Int) = (a : Int) := by rw [IntKind.wrap_u32]; omega
  have eb : IntKind.u32.wrap (b : Int) = (b : Int) := by rw [IntKind.wrap_u32]; omega
  unfold rootV
  go_enter Tryz.func29, Tryz.ntmps29
  go_wp2_with fail
  have hR := Whole.new w 58 [.int .i64 (a : Int), .int .i64 (b : Int), .int .u32 (c : Int)]
  have hc1 : Chg [] w (w.alloc (.cells #[.int .i64 (a : Int), .int .i64 (b : Int), .int .u32 (c : Int)] 58)) := (Chg.refl [] w).alloc _
  generalize w.alloc (.cells #[.int .i64 (a : Int), .int .i64 (b : Int), .int .u32 (c : Int)] 58) = w1 at hc1 hR ⊢
  have hld : ∀ W, Rm w1.drew.heap.size w1.drew W → W.cell? ⟨w.heap.size, 0, none⟩ = some (.int .i64 (a : Int)) ∧ W.cell? ⟨w.heap.size, 1, none⟩ = some (.int .i64 (b : Int)) ∧ W.cell? ⟨w.heap.size, 2, none⟩ = some (.int .u32 (c : Int)) := fun W hW => by
    have h := hR.drew.keep (hW.chg (Nat.le_refl _))
    exact ⟨h.cell 0, h.cell 1, h.cell 2⟩
  have T := markT_ok w1.drew.heap.size
  refine wp_flow (by kernel_rfl) (markT w1.drew.heap.size) T (by kernel_rfl) ?_
  refine flow_build_mark (Nat.le_refl _) (fun ev W he => by have hcst := he.const; go_simp; rfl) rfl ?_
  refine flow_convert_mark rfl rfl ?_
  refine flow1 (r := .pointer (some ⟨w.heap.size, 0, none⟩)) T rfl (.out rfl rfl) rfl (fun ev W he e1 => by go_simp) ?_
  refine flow1h (r := .int .i64 (a : Int)) T rfl (.inn rfl) rfl (fun ev W he hW e1 => by obtain ⟨c0, c1, c2⟩ := hld W hW; go_simp) ?_
  refine flow1 (r := .int .u32 (a : Int)) T rfl (.inn rfl) rfl (fun ev W he e1 => by go_simp) ?_
  refine flow_put (by decide) (by decide) (markF_bs _) (fun W A n c hB hn => rput_b hB a (by omega) hn) rfl rfl (by kernel_rfl) rfl ?_
  refine flow1 (r := .pointer (some ⟨w.heap.size, 1, none⟩)) T rfl (.out rfl rfl) rfl (fun ev W he e1 => by go_simp) ?_
  refine flow1h (r := .int .i64 (b : Int)) T rfl (.inn rfl) rfl (fun ev W he hW e1 => by obtain ⟨c0, c1, c2⟩ := hld W hW; go_simp) ?_
  refine flow1 (r := .int .u32 (b : Int)) T rfl (.inn rfl) rfl (fun ev W he e1 => by go_simp) ?_
  refine flow_put (by simp [markL, be4_len]) (by simp [markL, be4_len]) (ownL_bs _) (fun W A n c hB hn => rput_b hB b (by omega) hn) rfl rfl (by kernel_rfl) rfl ?_
  refine flow1 (r := .pointer (some ⟨w.heap.size, 2, none⟩)) T rfl (.out rfl rfl) rfl (fun ev W he e1 => by go_simp) ?_
  refine flow1h (r := .int .u32 (c : Int)) T rfl (.inn rfl) rfl (fun ev W he hW e1 => by obtain ⟨c0, c1, c2⟩ := hld W hW; go_simp) ?_
  refine flow_put (by simp [markL, be4_len]) (by simp [markL, be4_len]) (ownL_bs _) (fun W A n c2 hB hn => rput_b hB c hc hn) rfl rfl (by kernel_rfl) rfl ?_
  refine flow_assign T rfl (keeps_ownL _ _) (.inr (keeps_ownL _ _)) rfl ?_
  intro vs W hW hF
  obtain ⟨_, ho⟩ : ownL (headR a b c) (vs 3) W := hF 3 _ rfl rfl
  have hcW : Chg [] w W := hc1.drew.new (Rm.chg hW (Nat.le_refl _))
  generalize hv3 : vs 3 = v3 at ho
  simp only [putAll, Act.put, List.setIfInBounds_toArray, List.set_cons_zero, List.set_cons_succ, hv3]
  obtain ⟨A3, c3, rfl, hB3, _⟩ := Bs.of_own ho
  rw [headR_len] at hB3 ⊢
  have HB16 := Lib.hid hB3
  have HC := Lib.hid hcW
  clear hW hF hv3 ho hB3 hcW hld hR
  go_wp2_with fail
  refine (rsumk_b HB16.out).mono ?_
  rintro e w' ⟨rfl, rfl⟩
  go_wp2_with fail
  refine (rput_b HB16.out (sumK (headR a b c)) (sumK_lt _) (by omega)).mono ?_
  rintro e w5 ⟨v5, rfl, ho5, hc5⟩
  have hl5 : (headR a b c ++ be4 (sumK (headR a b c))).length = 20 := rfl
  rw [hl5] at ho5
  have hsz := HC.out.size
  have HRL := Lib.hid (show rootL a b c = (headR a b c ++ be4 (sumK (headR a b c))) ++ zeros 44 from rfl)
  generalize headR a b c ++ be4 (sumK (headR a b c)) = Z at ho5 HRL
  obtain ⟨g, r, rfl, hbg, _, _⟩ := own_whole ho5 (by omega)
  obtain ⟨g', cap', w6, hr, ho6, hg6, hor⟩ := run_append_zeros (P := Tryz.prog) w5 W.heap.size 30 3 30 5 i0 _ 1 .i64 Tryz.underlying30 tn_int hi hz hs1 hb1 rfl rfl g 20 (20 + r.length) (bts Z) ho5 44 (by unfold maxLen; omega) (by omega) hc5.size
  have hc6 : Chg [] W w6 := hc5.own ho5 (Nat.le_refl _) hg6
  have HR := Lib.hid hr
  have HO := Lib.hid ho6
  have HC6 := Lib.hid (HC.out.new hc6)
  clear hr ho6 hg6 hor hc6 ho5 hc5 hl5
  go_wp2_with (at_builtin; refine Lib.wpList_append_run w5 rfl (.tmp 21) (.tmp 24) 30 3 rfl _ _ rfl rfl _ _ HR.out ?_)
  go_ret
  refine ⟨_, rfl, ?_, HC6.out⟩
  have e1 : (rootL a b c).length = 20 + 44 := rootL_len a b c
  have e2 : bts (rootL a b c) = bts Z ++ List.replicate 44 (.int .u8 0) := by rw [HRL.out, bts_app, bts_zeros]
  rw [e1, e2]
  exact own_more HO.out hsz
end
end Go.Proofs.YtddjgncdjdjgeaaGreat
