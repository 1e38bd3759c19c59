/-
  RedoTells, part 5: RedoLog, RedoKnown, KcAt, RedoKnownA, LawRedoT.
-/
import Derived.Test.YtlhkmbcjgdjegaaZRedoTells1
import Derived.Test.YtlhkmbcjgdjegaaZRedoTells2
import Derived.Test.YtlhkmbcjgdjegaaZRedoTells3
import Derived.Test.YtlhkmbcjgdjegaaZRedoTells4
import Derived.Laws.BitsAllLaws
import Derived.Deep.RegionHeld3
import Derived.Lib.SlBytesConst
import Derived.Outline
import Derived.Test.YtlhkmbcjgdjegaaChecked
namespace Go.Proofs.Ytlhkmbcjgdjegaa
open Go.RowKit
/-- Some bytes of the call's own, no more than N. -/
def SomeRow (B N : Nat) (v : Value) (W : World) : Prop := ∃ l : List UInt8, l.length ≤ N ∧ W.ownsRow B 5 1 v l.length (bts l)
theorem SomeRow.chg {B N : Nat} {v : Value} {W W' : World} {T : List Nat} (h : SomeRow B N v W) (hc : Chg T W W') (hT : ∀ i ∈ T, i < B ∨ W.heap.size ≤ i) : SomeRow B N v W' := by
  obtain ⟨l, h1, h2⟩ := h
  exact ⟨l, h1, rown_chg h2 hc hT⟩
theorem SomeRow.more {B N M : Nat} {v : Value} {W : World} (h : SomeRow B N v W) (hm : N ≤ M) : SomeRow B M v W := by
  obtain ⟨l, h1, h2⟩ := h
  exact ⟨l, by omega, h2⟩
theorem bytesD_len {l : List ChV} {w : World} {B0 : Nat} (h : ∀ a ∈ l, MadeCh w B0 a) : (bytesD l).length = 2 + l.length * 66 := back_len fun a ha => ⟨(h a ha).small, (h a ha).bl⟩
theorem Two.lts {w : World} {k : Bk} {rL rN : List Value} {m : Int} {s : St} (h : Two w k rL rN m s) : (k.p < w.heap.size ∧ k.bL < w.heap.size ∧ k.bS < w.heap.size ∧ k.bW < w.heap.size) ∧ k.q < w.heap.size ∧ k.gL < w.heap.size ∧ k.gN < w.heap.size ∧ k.gW < w.heap.size :=
  ⟨⟨h.d.rec_.lt, h.d.last.lt, h.d.seen.lt, h.d.wait.lt⟩, h.r.rec_.lt, h.r.last.lt, h.r.now.lt, h.r.wait.lt⟩
theorem Two.past {w w' : World} {k : Bk} {rL rN : List Value} {m : Int} {s : St} (h : Two w k rL rN m s) {x : Nat} (hc : Chg [x] w w') (hx : (x ≠ k.p ∧ x ≠ k.bL ∧ x ≠ k.bS ∧ x ≠ k.bW) ∧ x ≠ k.q ∧ x ≠ k.gL ∧ x ≠ k.gN ∧ x ≠ k.gW) : Two w' k rL rN m s :=
  ⟨Dsk.away h.d hc (by simp; omega) (by simp; omega) (by simp; omega) (by simp; omega), h.r.away hc (by simp; omega) (by simp; omega) (by simp; omega) (by simp; omega)⟩
section
variable {w : World} {A : Option Addr} {n c : Nat} {xs : List Int}
set_option maxHeartbeats 4000000 in
set_option maxRecDepth 100000 in
theorem logged_any (P : Nat) (hP0 : 0 < P) (hP : P ≤ 64) (ep : Nat) (hep : ep < 4294967296) (at_ : Int) (hat0 : -9223372036854775808 ≤ at_) (hat1 : at_ ≤ 9223372036854775807) (tn : Nat) (htn : tn < 256)
    (hA : Src w A (nms xs)) (hAs : 0 < n → ∀ ad, A = some ad → ad.spot = none) (hn : xs.length = n) (hnm : n ≤ 9223372036854775807) (hxr : ∀ x ∈ xs, -9223372036854775808 ≤ x ∧ x ≤ 9223372036854775807) :
    Calls Try.prog 34 #[.slice A n c, rootV 20 (P : Int) (ep : Int), .int .i64 at_, .int .u8 (tn : Int)] w (LawPost w) := by
  obtain ⟨i0, hi, hz0, hz1, hz2⟩ := info_parts info_byte
  have hr0 : rootV 20 (P : Int) (ep : Int) = .agg #[.int .i64 20, .int .i64 (P : Int), .int .u32 (ep : Int)] := rfl
  have hmk : ∀ W : World, (Instr.makeSlice 22 (.int .i64 1920) (.int .i64 1920)).run Try.prog W = .ok (.slice (some ⟨W.heap.size, 0, none⟩) 1920 1920) (W.alloc (.cells (bts (zeros 1920)).toArray 5)) := fun W => make_u8 1920 (by omega) W
  have HXL := Lib.hid hn
  have HXR := Lib.hid hxr
  have HAs := Lib.hid hAs
  clear hn hxr hAs
  rw [hr0]
  go_enter Try.func34, Try.ntmps34
  go_upto_region 1 with fail
  have hR := Whole.new w 26 [.int .i64 20, .int .i64 (P : Int), .int .u32 (ep : Int)]
  have hc1 : Chg [] w (w.alloc (.cells #[.int .i64 20, .int .i64 (P : Int), .int .u32 (ep : Int)] 26)) := (Chg.refl [] w).alloc _
  obtain ⟨g, hg⟩ : ∃ g, g = w.heap.size := ⟨_, rfl⟩
  rw [← hg] at hR ⊢
  generalize w.alloc (.cells #[.int .i64 20, .int .i64 (P : Int), .int .u32 (ep : Int)] 26) = w1 at hc1 hR ⊢
  have HGg := Lib.hid (show w.heap.size ≤ g by omega)
  clear hg
  have hAB := hA
  go_upto_region 2 with fail
  have hT0 : Whole (w1.alloc (.cells #[.slice A n c, .int .i64 0] 117)) w1.heap.size 117 [.slice A n c, .int .i64 0] := Whole.new w1 117 [.slice A n c, .int .i64 0]
  have hal : Chg [] w1 (w1.alloc (.cells #[.slice A n c, .int .i64 0] 117)) := (Chg.refl [] w1).alloc _
  obtain ⟨pt, hpt⟩ : ∃ g, g = w1.heap.size := ⟨_, rfl⟩
  rw [← hpt] at hT0 ⊢
  generalize w1.alloc (.cells #[.slice A n c, .int .i64 0] 117) = w2 at hal hT0 ⊢
  have hR2 := hR.keep hal
  have hc2 := hc1.new hal
  have hTP : Tp w2 pt A n c xs 0 := ⟨by simpa using hT0, HXL.out, hA.keep hc2, fun h0 ad e => ⟨HAs.out h0 ad e, by
    obtain ⟨ad', e', hb, _⟩ := hA (by rw [nms_len, HXL.out]; exact h0)
    rw [e] at e'; injection e' with e'; subst e'
    have := hc1.size; omega⟩, HXR.out, Nat.zero_le _, hnm⟩
  have HGP := Lib.hid (show g < pt ∧ w.heap.size ≤ pt from by have := hR.lt; have := HGg.out; omega)
  clear hpt hal hT0 hR hc1 hA hAB
  go_wp2_with fail
  have hal : Chg [] w2 (w2.alloc (.cells (bts (zeros 1920)).toArray 5)) := (Chg.refl [] w2).alloc _
  have hZ : Bs (w2.alloc (.cells (bts (zeros 1920)).toArray 5)) (some ⟨w2.heap.size, 0, none⟩) 1920 1920 (zeros 1920) := by
    have := Bs.of_all (Whole.new w2 5 (bts (zeros 1920))) (by rw [zeros_len]; omega)
    rwa [zeros_len] at this
  refine (pairR_any hZ (by omega) (by omega) (by omega)).mono ?_
  rintro e w3 ⟨k, rL, rN, m0, rfl, hT, hAp, hc3⟩
  have HT := Lib.hid hT
  have HAp := Lib.hid hAp
  have HR3 := Lib.hid ((hR2.keep hal).keep hc3)
  have HTP3 := Lib.hid ((hTP.keep hal).keep hc3)
  have HC3 := Lib.hid ((hc2.new hal).new hc3)
  have HBz := Lib.hid (show pt < (w2.alloc (.cells (bts (zeros 1920)).toArray 5)).heap.size ∧ w.heap.size ≤ (w2.alloc (.cells (bts (zeros 1920)).toArray 5)).heap.size from ⟨(hTP.keep hal).lt, (hc2.new hal).size⟩)
  generalize (w2.alloc (.cells (bts (zeros 1920)).toArray 5)).heap.size = B0 at HAp HBz
  have HG := Lib.hid (show (pt ≠ k.p ∧ pt ≠ k.bL ∧ pt ≠ k.bS ∧ pt ≠ k.bW) ∧ pt ≠ k.q ∧ pt ≠ k.gL ∧ pt ≠ k.gN ∧ pt ≠ k.gW by have h1 := HAp.out.low; have h2 := HAp.out.low2; have := HBz.out; omega)
  have HG2 := Lib.hid (show (g ≠ k.bS ∧ g ≠ k.bW) ∧ g ≠ k.q ∧ g ≠ k.gN ∧ g ≠ k.gW by have h1 := HAp.out.low; have h2 := HAp.out.low2; have := HBz.out; have := HGP.out; omega)
  obtain ⟨B3, hB3⟩ : ∃ b, b = w3.heap.size := ⟨_, rfl⟩
  have HB3 := Lib.hid hB3
  have HPB := Lib.hid (show pt < B3 ∧ w.heap.size ≤ B3 by have := HTP3.out.lt; have := HGP.out; omega)
  clear hT hAp hc3 hal hZ hc2 hR2 hmk hTP hB3
  go_wp2_with fail
  go_loopw [12, 13] (fun v s wr => (∃ i : Nat, i ≤ 6 ∧ s = .int .u32 (i : Int) ∧ SomeRow B3 (i * 5000) v wr) ∧ (∃ a', Tp wr pt A n c xs a') ∧ Hid (Chg [pt] w3 wr)) (fun _ s _ => 7 - (intOf s).toNat)
  case atStart => exact ⟨⟨0, by omega, rfl, [], by simp, World.ownsRow_nil _ _ _ _⟩, ⟨_, HTP3.out⟩, Lib.hid (Chg.refl _ _)⟩
  case round =>
    obtain ⟨⟨i, hi6, rfl, hrow⟩, ⟨a0, hTr⟩, HCr⟩ := hrel
    have HRW := Lib.hid hrow
    clear hrow
    go_wp2_with fail
    refine (next_any hTr 6 (by omega) (by omega)).mono ?_
    rintro e w4 ⟨r1, a1, hr1, rfl, hT1, hc1⟩
    have HRW4 := Lib.hid (HRW.out.chg hc1 (fun j hm => by have := HPB.out; simp only [List.mem_cons, List.not_mem_nil, or_false] at hm; omega))
    have HC4 := Lib.hid (HCr.out.trans hc1)
    have HT4 := Lib.hid hT1
    clear hTr hT1 hc1
    by_cases hlt : i < r1
    · have hltI : (i : Int) < (r1 : Int) := by omega
      have HW4 := Lib.hid (show B3 ≤ w4.heap.size by have := HC4.out.size; have := HB3.out; omega)
      obtain ⟨c0, c1, c2, _, _, _⟩ := root_cells (HR3.out.chg HC4.out (by have := HGP.out; simp; omega))
      go_upto_region 9 with fail
      obtain ⟨l, hll, ho⟩ := HRW4.out
      have HO := Lib.hid ho
      clear ho
      have hwr : IntKind.u32.wrap ((i : Int) + 1) = (i : Int) + 1 := by simp [IntKind.wrap, IntKind.signed, IntKind.bits]; omega
      go_region_held3 (fun w' => w'.cell? ⟨g, 1, none⟩ = some (.int .i64 (P : Int)) ∧ w'.cell? ⟨g, 2, none⟩ = some (.int .u32 (ep : Int))) (go_keep) (first
        | (go_at_call 77; refine (changes_any (HT4.out.keep ((Chg.refl [] w4).drew)) P hP).mono ?_
           rintro e w5 ⟨v5, rfl, ls, a5, ho5, hm5, _, hl5, _, hT5, hc5⟩
           obtain ⟨A5, c5, rfl, hn5, hch5, _, _, _⟩ := chs_own ho5 hm5
           have HT5 := Lib.hid hT5
           have HC5 := Lib.hid (show Chg [pt] w4 w5 from ((Chg.refl [pt] w4).drew).trans hc5)
           have HCH5 := Lib.hid hch5
           have HM5 := Lib.hid hm5
           have HL5 := Lib.hid hl5
           obtain ⟨q0, q1, q2, _, _, _⟩ := root_cells ((HR3.out.chg HC4.out (by have := HGP.out; simp; omega)).chg HC5.out (by have := HGP.out; simp; omega))
           clear ho5 hm5 hl5 hT5 hc5 hch5)
        | (go_at_call 76; refine (rdelta_any HCH5.out (fun a ha => (HM5.out a ha).small) rfl (by have := HL5.out; omega)).mono ?_
           rintro e w6 ⟨v6, rfl, ho6, hc6⟩
           obtain ⟨A6, c6, rfl, hB6, _⟩ := Bs.of_own ho6
           have HT6 := Lib.hid (HT5.out.keep hc6)
           have HC6 := Lib.hid (HC5.out.new hc6)
           have HB6 := Lib.hid hB6
           have HL6 := Lib.hid (show (bytesD ls).length ≤ 4226 by rw [bytesD_len HM5.out]; have := HL5.out; omega)
           obtain ⟨q0, q1, q2, _, _, _⟩ := root_cells ((HR3.out.chg HC4.out (by have := HGP.out; simp; omega)).chg HC6.out (by have := HGP.out; simp; omega))
           clear ho6 hc6 hB6)
        | (go_at_call 75; refine (rframe_any HB6.out ep i (by omega) (by omega) (by have := HL6.out; omega)).mono ?_
           rintro e w7 ⟨v7, rfl, ho7, hc7⟩
           obtain ⟨A7, c7, rfl, hB7, _⟩ := Bs.of_own ho7
           have HT7 := Lib.hid (HT6.out.keep hc7)
           have HC7 := Lib.hid (HC6.out.new hc7)
           have HB7 := Lib.hid hB7
           have HL7 := Lib.hid (show (frameL ep i (bytesD ls)).length ≤ 4242 by rw [frameL_len]; have := HL6.out; omega)
           obtain ⟨q0, q1, q2, _, _, _⟩ := root_cells ((HR3.out.chg HC4.out (by have := HGP.out; simp; omega)).chg HC7.out (by have := HGP.out; simp; omega))
           clear ho7 hc7 hB7)
        | (have HO7 := Lib.hid (rown_chg HO.out HC7.out (fun j hm => by have := HPB.out; simp only [List.mem_cons, List.not_mem_nil, or_false] at hm; omega))
           refine step_append_src rfl (.tmp 35) (.tmp 44) 22 rfl B3 5 i0 _ 1 Try.underlying22 hi hz0 hz1 hz2 cells_u8 u12 l.length (bts l) rfl HO7.out A7 _ c7 (bts (frameL ep i (bytesD ls))) rfl (by rw [bts_len]) HB7.out.src (bts_one _) (by unfold maxLen; have := HL7.out; omega) (by have := HL7.out; omega) (by have := HC7.out.size; have := HW4.out; omega) ?_
           intro v8 w8 ho8 hg8
           have HO8 := Lib.hid ho8
           have HT8 := Lib.hid (HT7.out.grown HO7.out hg8 (by decide) HPB.out.1)
           have HC8 := Lib.hid (show Chg [pt] w3 w8 from chg_grown2 (HC4.out.trans HC7.out) hg8 (fun q hq => by have := (HO7.out.lt q hq).1; have := HB3.out; omega))
           obtain ⟨q0, q1, q2, _, _, _⟩ := root_cells (HR3.out.chg HC8.out (by have := HGP.out; simp; omega))))
      have HR8 := Lib.hid (show SomeRow B3 ((i + 1) * 5000) v8 w8 from ⟨l ++ frameL ep i (bytesD ls), by rw [List.length_append]; have := HL7.out; omega, by
        have h := HO8.out
        rw [← bts_app] at h
        rw [List.length_append]; exact h⟩)
      clear q0 q1 q2 c0 c1 c2
      go_wp2_with fail
      go_roundw
      case rel => exact ⟨⟨i + 1, by omega, by go_num, HR8.out⟩, ⟨_, HT8.out⟩, HC8⟩
      case measure => simp [intOf]; omega
    · have hltI : ¬ (i : Int) < (r1 : Int) := by omega
      have HRW5 := Lib.hid (HRW4.out.more (show i * 5000 ≤ 30000 by omega))
      clear HRW HRW4 hlt
      go_wp2_with fail
      refine (next_any HT4.out 3 (by omega) (by omega)).mono ?_
      rintro e w5 ⟨r2, a2, hr2, rfl, hT5, hc5⟩
      have HRW6 := Lib.hid (HRW5.out.chg hc5 (fun j hm => by have := HPB.out; simp only [List.mem_cons, List.not_mem_nil, or_false] at hm; omega))
      have HC5 := Lib.hid (HC4.out.trans hc5)
      have HT5 := Lib.hid hT5
      clear hT5 hc5
      have HW5 := Lib.hid (show B3 ≤ w5.heap.size by have := HC5.out.size; have := HB3.out; omega)
      have h0d : ((r2 : Int) == 0) = decide (r2 = 0) := by rw [Bool.eq_iff_iff]; simp
      go_upto_if 48 with fail
      go_cut [12] (fun s12 wx => SomeRow B3 40000 s12 wx ∧ (∃ a', Tp wx pt A n c xs a') ∧ Chg [pt] w3 wx)
      case first =>
        by_cases h0 : r2 = 0
        · have h0e : decide (r2 = 0) = true := by simp [h0]
          obtain ⟨c0, c1, c2, _, _, _⟩ := root_cells (HR3.out.chg HC5.out (by have := HGP.out; simp; omega))
          obtain ⟨l, hll, ho⟩ := HRW6.out
          have HO := Lib.hid ho
          clear ho
          go_upto_region 11 with fail
          have hcr := (HR3.out.chg HC5.out (by have := HGP.out; simp; omega)).drew
          have hgB : g < B3 := by have := HGP.out; have := HPB.out; omega
          have hgp : g ≠ pt := by have := HGP.out; omega
          have hpB := HPB.out.1
          have h35 := HW5.out
          have hT5 : Tp w5.drew pt A n c xs a2 := HT5.out.keep ((Chg.refl [] w5).drew)
          have hld := fun (W : World) (hW : TapeH pt B3 A n c xs w5.drew W) => root_cells (hW.whole hcr hgB hgp)
          clear c0 c1 c2
          have TOK := tapeT_ok (p := pt) (A := A) (n := n) (c := c) (l := xs) h35 [9] [6, 7, 8, 9, 10]
          refine wp_flow (by kernel_rfl) (tapeT pt w5.heap.size B3 A n c xs [9] [6, 7, 8, 9, 10]) TOK (by kernel_rfl) ?_
          refine flow_move_out TOK rfl rfl rfl ?_
          refine flow1 (r := .pointer (some ⟨g, 2, none⟩)) TOK rfl (.out rfl rfl) rfl (fun ev W he e1 => by go_simp) ?_
          refine flow1h (r := .int .u32 (ep : Int)) TOK rfl (.inn rfl) rfl (fun ev W he hW e1 => by obtain ⟨c0, c1, c2, _, _, _⟩ := hld W hW; go_simp) ?_
          refine flow_move_out TOK rfl rfl rfl ?_
          refine flow_calld (fun v _ => ∃ r : Nat, r < 4 ∧ v = .int .i64 (r : Int)) (fun _ _ _ h _ => h) (.inr (fun _ _ _ h _ => h)) (by kernel_rfl) rfl (.cons (.inn rfl) (.cons (.const _) .nil)) (fun W hW => ?_) ?_
          · obtain ⟨j, hj⟩ := TapeH.tp hW _ hT5
            refine (next_any hj 4 (by omega) (by omega)).mono ?_
            rintro e w' ⟨r, a', hr, rfl, hT', hc'⟩
            exact ⟨_, rfl, tape_by h35 4 (TapeR.next hc' hT'), r, hr, rfl⟩
          refine flow_op (fun v _ => ∃ r : Nat, r < 4 ∧ v = .int .u32 (r : Int)) (fun _ _ _ h _ => h) (.inr (fun _ _ _ h _ => h)) rfl (fun ev W he hW hf => ?_) ?_
          · obtain ⟨r, hr, e1⟩ : ∃ r : Nat, r < 4 ∧ ev (.tmp 53) = .int .i64 (r : Int) := hf.1
            have hw : IntKind.u32.wrap (r : Int) = (r : Int) := by simp [IntKind.wrap, IntKind.signed, IntKind.bits]; omega
            go_simp
            exact ⟨TOK.by_refl _ _, r, hr, rfl⟩
          refine flow_build_no h35 (by omega) (Nat.le_refl _) rfl (fun ev W he => by have hcst := he.const; go_simp; rfl) rfl ?_
          refine flow_convert_no rfl h35 (by omega) rfl rfl ?_
          refine flow_call (fun v W => ∃ X : List UInt8, X.length = 26 ∧ bigF w5.heap.size X v W) (fun v W W' h hR => by obtain ⟨X, h1, h2⟩ := h; exact ⟨X, h1, keeps_bigF (by omega) X v W W' h2 hR⟩) (.inl rfl) (by kernel_rfl) rfl (fun ev W he hW hf => ?_) ?_
          · have e1 : ev (.tmp 51) = .int .u32 (ep : Int) := hf.1
            obtain ⟨r, hr, e2⟩ : ∃ r : Nat, r < 4 ∧ ev (.tmp 54) = .int .u32 (r : Int) := hf.2.1
            obtain ⟨gb, e3, hB⟩ := noF_bs (show noF w5.heap.size (ev (.tmp 56)) W from hf.2.2.1)
            simp only [List.map_cons, List.map_nil]
            rw [e1, e2, e3]
            refine (rframe_any hB ep r (by omega) (by omega) (by omega)).mono ?_
            rintro e w' ⟨v, rfl, ho, hc⟩
            have hl : (frameL ep r nochg).length = 26 := by rw [frameL_len]; rfl
            exact ⟨_, rfl, tape_by h35 8 (.of_chg hc), _, hl, by omega, own_more ho (TapeH.size (a := w5.drew) hW)⟩
          refine flow_early (fun v W => ∃ X : List UInt8, X.length ≤ 40000 ∧ bigF B3 X v W) (fun v W W' h hR => by obtain ⟨X, h1, h2⟩ := h; exact ⟨X, h1, keeps_bigF hpB X v W W' h2 hR⟩) (.inl rfl) rfl (by kernel_rfl) (fun ev W he hW hf => ?_) ?_
          · have e1 : ev (.tmp 49) = u12 := hf.1
            obtain ⟨X, hX, hX2, hX3⟩ : ∃ X : List UInt8, X.length = 26 ∧ bigF w5.heap.size X (ev (.tmp 57)) W := hf.2.1
            have hR := tape_star hW
            obtain ⟨A2, c2, e2, hB2, _⟩ := Bs.of_own hX3
            have hO : W.ownsRow B3 5 1 u12 l.length (bts l) := by
              have ho := HO.out
              refine ⟨ho.1, ho.2.imp id ?_⟩
              rintro ⟨g2, cap, cur, e, hb, hg, r⟩
              refine ⟨g2, cap, cur, e, hb, ?_, r⟩
              have hlt := tf_lt hg
              rcases hR.block g2 hlt (by omega) with h | ⟨h, _⟩
              · exact h.trans hg
              · omega
            obtain ⟨v', w', hrun, ho', hgr, _⟩ := exec_append_src (P := Try.prog) (ev := ev) (s := .tmp 49) (x := .tmp 57) B3 5 i0 _ 1 Try.underlying22 hi hz0 hz1 hz2 cells_u8 e1 hO e2 (by rw [bts_len]) hB2.src (bts_one _) (by unfold maxLen; omega) (by omega) (Nat.le_trans h35 hR.size)
            rw [hrun]
            have hl2 : (l ++ X).length = l.length + X.length := List.length_append
            refine ⟨tape_hard rfl ⟨hgr.os, hgr.tape, hgr.output, hgr.size, fun k h3 hk _ => hgr.block k hk fun hc => ?_, fun i hi => ⟨i, hi.grown hO hgr (by decide) hpB⟩⟩, l ++ X, by omega, by omega, ?_⟩
            · have := (hO.lt k hc.symm).1; omega
            · rw [hl2, bts_app]; exact ho'
          refine flow_assign TOK rfl (fun v W W' h hR => by obtain ⟨X, h1, h2⟩ := h; exact ⟨X, h1, keeps_bigF hpB X v W W' h2 hR⟩) (.inl rfl) rfl ?_
          intro ws W hW hF
          obtain ⟨X, hX, _, hO⟩ := hF 12 _ rfl (by kernel_rfl)
          have hWH : TapeH pt B3 A n c xs w5.drew W := hW
          have HR8 := Lib.hid (show SomeRow B3 40000 (ws 12) W from ⟨X, hX, hO⟩)
          have HT8 := Lib.hid (hWH.tp _ hT5)
          have HC8 := Lib.hid (show Chg [pt] w3 W from TapeH.after HC5.out.drew hWH (by have := HB3.out; omega))
          simp only [putAll, Act.put, List.setIfInBounds_toArray, List.set_cons_zero, List.set_cons_succ]
          clear hF hW hWH hO hX
          go_wp2_with fail
          go_meet
          exact ⟨HR8.out, HT8.out, HC8.out⟩
        · have h0e : decide (r2 = 0) = false := by simp [h0]
          go_wp2_with fail
          go_meet
          exact ⟨HRW6.out.more (by omega), ⟨_, HT5.out⟩, HC5.out⟩
      case rest =>
        obtain ⟨⟨l, hll, ho⟩, ⟨a5, _⟩, hC6⟩ := hcut
        obtain ⟨A5, c5, rfl, hB5, hA5⟩ := Bs.of_own ho
        obtain ⟨w6, rfl⟩ : ∃ w6 : World, w6 = wc := ⟨_, rfl⟩
        have HA5 := Lib.hid hA5
        have HB5 := Lib.hid hB5
        have HO := Lib.hid ho
        have HLT := Lib.hid HT.out.lts
        have HT6 := Lib.hid (HT.out.past hC6 HG.out)
        have HR6 := Lib.hid (HR3.out.chg hC6 (by have := HGP.out; simp; omega))
        have HC6 := Lib.hid (show Chg [] w w6 from HC3.out.then_ hC6 fun i hi hlt => by have := HGP.out; simp only [List.mem_cons, List.not_mem_nil, or_false] at hi; omega)
        have HW6 := Lib.hid (show B3 ≤ w6.heap.size by have := hC6.size; have := HB3.out; omega)
        clear ho hA5 hB5 hC6 HC5 HT5 HRW6 HC4 HT4
        obtain ⟨N, hN⟩ : ∃ N, N = l.length := ⟨_, rfl⟩
        rw [← hN] at hll ⊢
        have HN := Lib.hid hN
        clear hN
        go_upto_if 61 with fail
        go_cut [] (fun wx => ∃ l' q, Bs wx A5 N c5 l' ∧ B3 ≤ q ∧ Chg [q] w6 wx)
        case first =>
          by_cases h0 : 0 < N
          · have h0I : (0 : Int) < (N : Int) := by omega
            obtain ⟨g5, cap5, cur, e5, hg5, hh5, hn5, hcm5, hcs5, ht5⟩ : ∃ g cap cur, (Value.slice A5 N c5) = .slice (some ⟨g, 0, none⟩) N cap ∧ B3 ≤ g ∧ w6.heap[g]? = some (.cells cur 5 (0, 0)) ∧ N ≤ cap ∧ cap ≤ maxLen ∧ cur.size = cap * 1 ∧ cur.toList.take (N * 1) = bts l := by
              have h := HO.out
              rw [← HN.out] at h
              rcases h.2 with ⟨_, h⟩ | h
              · omega
              · exact h
            injection e5 with e5 _ e6
            subst e5
            subst e6
            have hWh : Whole w6 g5 5 cur.toList := by simpa [Whole] using hh5
            obtain ⟨q, hq, hqN⟩ : ∃ q : Nat, withinI at_ 0 ((N : Int) - 1) = (q : Int) ∧ q < N := by
              have hin := into_within at_ 0 ((N : Int) - 1) (by omega)
              exact ⟨(withinI at_ 0 ((N : Int) - 1)).toNat, by have := hin.1; omega, by have h1 := hin.1; have h2 := hin.2.1; omega⟩
            have HWI := Lib.hid (show ∀ W, Calls Try.prog 18 #[.int .i64 at_, .int .i64 0, .int .i64 ((N : Int) - 1)] W fun e w' => e = .returned (.int .i64 (q : Int)) ∧ W = w' from fun W => by rw [← hq]; exact within_big at_ 0 ((N : Int) - 1) (by omega) (by omega) (by omega) hat0 hat1)
            have hql : q < l.length := by rw [← HN.out]; exact hqN
            have hcq : cur.toList[q]? = some (B8 l[q]) := by
              have h := congrArg (fun z => z[q]?) ht5
              simp only [Nat.mul_one] at h
              rw [List.getElem?_take_of_lt hqN, bts_get l q hql] at h
              exact h
            have ck := hWh.cell q
            rw [hcq] at ck
            have fk := hWh.frozen q
            have hx8 := u8_xor_nat l[q].toNat tn (UInt8.toNat_lt _) htn
            have hz8 : l[q].toNat ^^^ tn < 256 := Nat.xor_lt_two_pow (n := 8) (UInt8.toNat_lt _) (by omega)
            have hB8 : B8 (UInt8.ofNat (l[q].toNat ^^^ tn)) = .int .u8 ((l[q].toNat ^^^ tn : Nat) : Int) := by
              unfold B8; rw [UInt8.toNat_ofNat', Nat.mod_eq_of_lt (by simpa using hz8)]
            have hW7 := hWh.set_ q (.int .u8 ((l[q].toNat ^^^ tn : Nat) : Int))
            have hb7 : (cur.toList.set q (.int .u8 ((l[q].toNat ^^^ tn : Nat) : Int))).take N = bts (l.set q (UInt8.ofNat (l[q].toNat ^^^ tn))) := by
              rw [List.take_set, ← Nat.mul_one N, ht5, ← hB8, bts_set]
            have HBZ := Lib.hid (Bs.of_whole (l := l.set q (UInt8.ofNat (l[q].toNat ^^^ tn))) hW7 (by rw [List.length_set]; exact HN.out.symm) hb7 hn5 (by simpa [maxLen] using hcm5))
            have HCZ := Lib.hid (show Chg [g5] w6 (w6.setCell ⟨g5, q, none⟩ (.int .u8 ((l[q].toNat ^^^ tn : Nat) : Int))) from (Chg.refl [g5] w6).setCell (by simp) _)
            unfold B8 at ck
            generalize hz : l[q].toNat ^^^ tn = z at *
            generalize l[q].toNat = y at *
            have hqI : (q : Int) < (N : Int) := by omega
            have hq0 : (0 : Int) ≤ (q : Int) := by omega
            clear hz hB8 hb7 hW7 hcq hq hWh hh5 ht5 hn5 hcm5 hcs5 hql hz8
            go_wp2_with (go_at_call 18; refine (HWI.out _).mono ?_; rintro e w' ⟨rfl, rfl⟩)
            go_meet
            exact ⟨_, g5, HBZ.out, hg5, HCZ.out⟩
          · have h0I : ¬ (0 : Int) < (N : Int) := by omega
            go_wp2_with fail
            go_meet
            exact ⟨l, B3, by have h := HB5.out; rw [← HN.out] at h; exact h, Nat.le_refl _, (Chg.refl [] w6).sub (by simp)⟩
        case rest =>
          obtain ⟨l', x, hBx, hx, hCx⟩ := hcut
          obtain ⟨w7, rfl⟩ : ∃ w7 : World, w7 = wc := ⟨_, rfl⟩
          have hap := HAp.out
          have HTr := Lib.hid (HT6.out.past hCx (by have := HLT.out; have := HB3.out; omega))
          have HRR := (HR6.out.chg hCx (by have := HGP.out; have := HPB.out; simp; omega))
          have HCr := Lib.hid (show Chg [] w w7 from HC6.out.then_ hCx fun i hi hlt => by have := HPB.out; simp only [List.mem_cons, List.not_mem_nil, or_false] at hi; omega)
          have HnS := Lib.hid (show 0 < N → ∀ ad, A5 = some ad → ad.block ≠ k.bS ∧ ad.block ≠ k.bW from fun h0 ad e => by have h1 := (HA5.out ad e).2.1; have := HLT.out; have := HB3.out; omega)
          have HnB := Lib.hid (show 0 < N → ∀ ad, A5 = some ad → ad.block ∉ [k.bS, k.bW, k.q, k.gN, k.gW] from fun h0 ad e => by have h1 := (HA5.out ad e).2.1; have := HLT.out; have := HB3.out; simp; omega)
          have HLr := hBx
          obtain ⟨d0, d1, d2, _, _, _⟩ := root_cells HRR
          have hd := HTr.out.d
          have hr := HTr.out.r
          generalize St.img (zeros 1920) = s at *
          obtain ⟨s', hs'⟩ : ∃ s', s' = appS s 20 P ep 0 l' := ⟨_, rfl⟩
          obtain ⟨bb, hbb⟩ : ∃ bb, bb = canB s 20 P ep 0 l'.length := ⟨_, rfl⟩
          have hd0 : DoneD k s w7 := hd
          have hr0 : DoneR k rL rN s w7 := ⟨_, hr⟩
          have HW := Lib.hid (show ∀ W, Both k rL rN s (appS s 20 P ep 0 l') w7.drew W → Both k rL rN s (appS s 20 P ep 0 l') w7 W ∧ Bs W A5 N c5 l' ∧ Whole W g 26 [.int .i64 20, .int .i64 (P : Int), .int .u32 (ep : Int)] from fun W hW => by
            have h1 : Both k rL rN s (appS s 20 P ep 0 l') w7 W := (Both.of_chg (Chg.refl [] w7).drew).trans hW
            have hg := HG2.out
            refine ⟨h1, ⟨HLr.len, HLr.src.chg h1.chg (fun h ad e => ?_), HLr.cap, HLr.max, HLr.spot⟩, HRR.chg h1.chg (by simp; omega)⟩
            exact HnB.out (by rw [bts_len, HLr.len] at h; exact h) ad e)
          have HA1 := Lib.hid (fun (W : World) (hW : Both k rL rN s (appS s 20 P ep 0 l') w7.drew W) => append_both (a := 0) hap hd0 (HW.out W hW).1 (by omega) (by omega) (HW.out W hW).2.1 HnS.out)
          have HA2 := Lib.hid (fun (W : World) (hW : Both k rL rN s (appS s 20 P ep 0 l') w7.drew W) => rappend_both (a := 0) hap hr0 (HW.out W hW).1 (by omega) (by omega) (HW.out W hW).2.1)
          have hld := fun (W : World) (hW : Both k rL rN s (appS s 20 P ep 0 l') w7.drew W) => root_cells (HW.out W hW).2.2
          generalize appS s 20 P ep 0 l' = s1 at HW HA1 HA2 hld
          generalize canB s 20 P ep 0 l'.length = bb at HA1 HA2
          clear hd hr HLr hs' hbb d0 d1 d2
          go_upto_region 14 with fail
          have TOK : (bothT k rL rN s s1 [3, 7]).Ok := bothT_ok [3, 7]
          refine wp_flow (by kernel_rfl) (bothT k rL rN s s1 [3, 7]) TOK (by kernel_rfl) ?_
          refine flow_move_out TOK rfl rfl rfl ?_
          refine flow1h (r := rootV 20 P ep) TOK rfl (.out rfl rfl) rfl (fun ev W he hW e1 => by obtain ⟨c0, c1, c2, _, _, _⟩ := hld W hW; go_simp) ?_
          refine flow_move_out TOK rfl rfl rfl ?_
          refine flow_calld (doneFD k s1 (.bool bb)) (keeps_doneD _) (.inr (keeps_doneDH _)) (by kernel_rfl) rfl (.cons (.inn rfl) (.cons (.inn rfl) (.cons (.const _) (.cons (.inn rfl) .nil)))) (fun W hW => (HA1.out W hW).mono ?_) ?_
          · rintro e w' ⟨rfl, h1, h2⟩; exact ⟨_, rfl, h2, rfl, h1⟩
          refine flow_move_out TOK rfl rfl rfl ?_
          refine flow1h (r := rootV 20 P ep) TOK rfl (.out rfl rfl) rfl (fun ev W he hW e1 => by obtain ⟨c0, c1, c2, _, _, _⟩ := hld W hW; go_simp) ?_
          refine flow_move_out TOK rfl rfl rfl ?_
          refine flow_calld (doneFR k rL rN s1 (.bool bb)) (keeps_doneR _) (.inr (keeps_doneRH _)) (by kernel_rfl) rfl (.cons (.inn rfl) (.cons (.inn rfl) (.cons (.const _) (.cons (.inn rfl) .nil)))) (fun W hW => (HA2.out W hW).mono ?_) ?_
          · rintro e w' ⟨rfl, h1, h2⟩; exact ⟨_, rfl, h2, rfl, h1⟩
          refine flow_op (doneF k rL rN s1 (.bool true)) (keeps_done _) (.inr (keeps_doneH _)) rfl (fun ev W he hW hf => ?_) ?_
          · have f1 : doneFD k s1 (.bool bb) (ev (.tmp 76)) W := hf.1
            have f2 : doneFR k rL rN s1 (.bool bb) (ev (.tmp 80)) W := hf.2.1
            have e1 := f1.1
            have e2 := f2.1
            go_simp
            exact ⟨Chg.refl _ _, by simp, f1.2, f2.2⟩
          refine flow_move TOK rfl (keeps_done _) (.inr (keeps_doneH _)) rfl ?_
          refine flow_opg (doneF k rL rN s1 (.pointer (some ⟨k.p, 0, none⟩))) (doneF k rL rN s1 (.bool true)) (keeps_done _) (.inr (keeps_doneH _)) ⟨rfl, fun _ _ h => h.1⟩ (fun ev W gv he hW hg hf => ?_) ?_
          · have f1 : ev (.tmp 10) = .pointer (some ⟨k.p, 0, none⟩) := hf.1
            go_simp
            exact ⟨Chg.refl _ _, rfl, hg.2⟩
          refine flow_opg (doneF k rL rN s1 (.pointer (some ⟨k.q, 0, none⟩))) (doneF k rL rN s1 (.bool true)) (keeps_done _) (.inr (keeps_doneH _)) ⟨rfl, fun _ _ h => h.1⟩ (fun ev W gv he hW hg hf => ?_) ?_
          · have f1 : ev (.tmp 11) = .pointer (some ⟨k.q, 0, none⟩) := hf.1
            go_simp
            exact ⟨Chg.refl _ _, rfl, hg.2⟩
          refine flow_opg (doneF k rL rN s1 (.bool true)) (doneF k rL rN s1 (.bool true)) (keeps_done _) (.inr (keeps_doneH _)) ⟨rfl, fun _ _ h => h.1⟩ (fun ev W gv he hW hg hf => ?_) ?_
          · rw [run_call he (f := 72) (show callsB Try.prog 72 = true by kernel_rfl)]
            have f1 : doneF k rL rN s1 (.pointer (some ⟨k.p, 0, none⟩)) (ev (.tmp 83)) W := hf.2.1
            have f2 : doneF k rL rN s1 (.pointer (some ⟨k.q, 0, none⟩)) (ev (.tmp 84)) W := hf.2.2.1
            have e1 := f1.1
            have e2 := f2.1
            obtain ⟨m9, hr9⟩ := f1.2.2
            simp only [List.map_toArray, List.map_cons, List.map_nil, Leaves]
            rw [e1, e2]
            refine (alikeR_yes f1.2.1 hr9).mono ?_
            rintro e w' ⟨rfl, hc⟩
            exact ⟨_, rfl, hc, rfl, f1.2.1.keep hc, f1.2.2.keep hc⟩
          refine flow_op (doneF k rL rN s1 (.bool true)) (keeps_done _) (.inr (keeps_doneH _)) rfl (fun ev W he hW hf => ?_) ?_
          · have f1 : doneF k rL rN s1 (.bool true) (ev (.tmp 82)) W := hf.1
            have f2 : doneF k rL rN s1 (.bool true) (ev (.tmp 85)) W := hf.2.1
            have e1 := f1.1
            have e2 := f2.1
            go_simp
            exact ⟨Chg.refl _ _, rfl, f1.2⟩
          refine flow_move TOK rfl (keeps_done _) (.inr (keeps_doneH _)) rfl ?_
          refine flow_opg (doneF k rL rN s1 (.pointer (some ⟨k.p, 0, none⟩))) (doneF k rL rN s1 (.bool true)) (keeps_done _) (.inr (keeps_doneH _)) ⟨rfl, fun _ _ h => h.1⟩ (fun ev W gv he hW hg hf => ?_) ?_
          · have f1 : ev (.tmp 10) = .pointer (some ⟨k.p, 0, none⟩) := hf.1
            go_simp
            exact ⟨Chg.refl _ _, rfl, hg.2⟩
          refine flow_opg (doneF k rL rN s1 (.pointer (some ⟨k.q, 0, none⟩))) (doneF k rL rN s1 (.bool true)) (keeps_done _) (.inr (keeps_doneH _)) ⟨rfl, fun _ _ h => h.1⟩ (fun ev W gv he hW hg hf => ?_) ?_
          · have f1 : ev (.tmp 11) = .pointer (some ⟨k.q, 0, none⟩) := hf.1
            go_simp
            exact ⟨Chg.refl _ _, rfl, hg.2⟩
          refine flow_opg (isV (rootV 20 P ep)) (doneF k rL rN s1 (.bool true)) (keeps_isV _) (.inr (keeps_isV _)) ⟨rfl, fun _ _ h => h.1⟩ (fun ev W gv he hW hg hf => ?_) ?_
          · have f1 : ev (.tmp 5) = .pointer (some ⟨g, 0, none⟩) := hf.1
            obtain ⟨c0, c1, c2, _, _, _⟩ := hld W hW
            go_simp
            exact ⟨Chg.refl _ _, rfl⟩
          refine flow_opg (doneF k rL rN s1 (.bool true)) (doneF k rL rN s1 (.bool true)) (keeps_done _) (.inr (keeps_doneH _)) ⟨rfl, fun _ _ h => h.1⟩ (fun ev W gv he hW hg hf => ?_) ?_
          · rw [run_call he (f := 73) (show callsB Try.prog 73 = true by kernel_rfl)]
            have f1 : doneF k rL rN s1 (.pointer (some ⟨k.p, 0, none⟩)) (ev (.tmp 88)) W := hf.2.1
            have f2 : doneF k rL rN s1 (.pointer (some ⟨k.q, 0, none⟩)) (ev (.tmp 89)) W := hf.2.2.1
            have e3 : ev (.tmp 90) = rootV 20 P ep := hf.2.2.2.1
            have e1 := f1.1
            have e2 := f2.1
            obtain ⟨m9, hr9⟩ := f1.2.2
            simp only [List.map_toArray, List.map_cons, List.map_nil, Leaves]
            rw [e1, e2, e3]
            refine (lrecords_yes f1.2.1 hr9 20 P ep).mono ?_
            rintro e w' ⟨rfl, hc⟩
            exact ⟨_, rfl, hc, rfl, f1.2.1.keep hc, f1.2.2.keep hc⟩
          refine flow_op (doneF k rL rN s1 (.bool true)) (keeps_done _) (.inr (keeps_doneH _)) rfl (fun ev W he hW hf => ?_) ?_
          · have f1 : doneF k rL rN s1 (.bool true) (ev (.tmp 87)) W := hf.1
            have f2 : doneF k rL rN s1 (.bool true) (ev (.tmp 91)) W := hf.2.1
            have e1 := f1.1
            have e2 := f2.1
            go_simp
            exact ⟨Chg.refl _ _, rfl, f1.2⟩
          refine flow_assign TOK rfl (keeps_done _) (.inr (keeps_doneH _)) rfl ?_
          intro ws W hW hF
          have f8 : doneF k rL rN s1 (.bool true) (ws 8) W := hF 8 _ rfl rfl
          have e8 := f8.1
          simp only [putAll, Act.put, List.setIfInBounds_toArray, List.set_cons_zero, List.set_cons_succ, e8]
          have HCz := Lib.hid (show Chg [] w W from HCr.out.then_ (HW.out W hW).1.chg fun j hj hlt => by
            have n1 := hap.low
            have n2 := hap.low2
            have n3 := HBz.out
            simp only [List.mem_cons, List.not_mem_nil, or_false] at hj
            omega)
          clear hW hF f8 e8 hld hap HA1 HA2 HW hd0 hr0 TOK
          go_wp2_with fail
          go_ret
          exact ⟨rfl, HCz.out⟩
end
end Go.Proofs.Ytlhkmbcjgdjegaa
namespace Go.Proofs.Ytlhkmbcjgdjegaa
open Go.RowKit
def rk0 : St := ⟨zeros 512, zeros 512, falses 8⟩
def acr : List UInt8 := [97, 99, 114, 111, 115, 115]
def rk1 : St := apS rk0 188 acr
theorem rk0_len : rk0.V.length = 8 := by simp [rk0, falses_len]
theorem rk1_len : rk1.V.length = 8 := by rw [rk1, apS_V, rk0_len]
theorem rk1_log : logL rk1 2 3 4 = zeros 60 ++ acr ++ zeros 62 := by unfold logL; rw [rk1_len, if_pos (by decide +kernel)]; decide +kernel
theorem rk1_wl : wl rk1.V rk1.V.length = [2, 3] := by rw [rk1_len]; decide +kernel
theorem rk0_log : logL rk0 2 3 4 = zeros 128 := by unfold logL; rw [rk0_len, if_pos (by decide +kernel)]; decide +kernel
theorem rk0_rec : recsS rk0 2 3 4 = ([], 0) := by
  have hl := rk0_log
  have h : ¬ readOk ((zeros 128).drop (itS (zeros 128) 4 0).2) 4 (itS (zeros 128) 4 0).1.length := fun h => by
    have h2 := h.2.1
    rw [show getI ((zeros 128).drop (itS (zeros 128) 4 0).2) 0 = 0 by decide +kernel] at h2
    omega
  have hs : scanS (zeros 128) 4 = ([], 0) := by rw [scanS_is h (by omega)]; rfl
  unfold recsS
  show recF 3 (scanS (logL rk0 2 3 ((4 : Nat) : Int)) 4).1 = _
  rw [show (((4 : Nat) : Int)) = 4 from rfl, hl, hs]
  rfl
theorem acr_cells : (bts acr).toArray = #[.int .u8 97, .int .u8 99, .int .u8 114, .int .u8 111, .int .u8 115, .int .u8 115] := by kernel_rfl
theorem x_cells : (bts [120]).toArray = #[.int .u8 120] := by kernel_rfl
theorem two_cells : (nmsN [2, 3]).toArray = #[.int .i64 2, .int .i64 3] := by kernel_rfl
theorem rk_can1 : canA rk0 2 3 4 60 6 := by unfold canA; rw [rk0_len]; exact ⟨by decide +kernel, by omega, by omega, by omega⟩
theorem rk_can2 : ¬ canA rk1 2 3 4 128 1 := fun h => by have := h.2.2.2; omega
theorem rk_can3 : canA rk1 2 3 4 128 0 := by unfold canA; rw [rk1_len]; exact ⟨by decide +kernel, by omega, by omega, by omega⟩
theorem rk1_none : apS rk1 256 [] = rk1 := apS_nil _ _ (by decide +kernel)
theorem rk1_zero : logL rk1 0 0 0 = [] := by unfold logL; rw [if_neg (by rw [rk1_len]; decide +kernel)]
section
variable {w : World} {p bL bS bW : Nat}
theorem rec_k (h : DskS w p bL bS bW rk0) : Calls Try.prog 78 #[.pointer (some ⟨p, 0, none⟩), rootV 2 3 4] w fun e w' => ∃ A c, e = .returned (.tuple #[.slice A 0 c, .int .i64 0]) ∧ Chg [] w w' := by
  have := rec_any h 2 3 4
  rw [rk0_rec] at this
  refine Calls.mono this ?_
  rintro e w' ⟨v, vs, rfl, ho, _, hc⟩
  obtain ⟨A, c, rfl, _⟩ := own_slice ho
  exact ⟨A, c, rfl, hc⟩
theorem app_k1 (h : DskS w p bL bS bW rk0) {g : Nat} (hx : Bs w (some ⟨g, 0, none⟩) 6 6 acr) (h1 : g ≠ bS ∧ g ≠ bW) : Calls Try.prog 37 #[.pointer (some ⟨p, 0, none⟩), rootV 2 3 4, .int .i64 60, .slice (some ⟨g, 0, none⟩) 6 6] w fun e w' => e = .returned (.bool true) ∧ DskS w' p bL bS bW rk1 ∧ Chg [bS, bW] w w' := by
  refine (append_any h 2 3 4 60 (by omega) (by omega) hx (fun _ ad e => by injection e with e; subst e; exact h1)).mono ?_
  rintro e w' (⟨_, rfl, hd, hc⟩ | ⟨hn, _⟩)
  · exact ⟨rfl, hd, hc⟩
  · exact absurd rk_can1 hn
theorem app_k2 (h : DskS w p bL bS bW rk1) {g : Nat} (hx : Bs w (some ⟨g, 0, none⟩) 1 1 [120]) (h1 : g ≠ bS ∧ g ≠ bW) : Calls Try.prog 37 #[.pointer (some ⟨p, 0, none⟩), rootV 2 3 4, .int .i64 128, .slice (some ⟨g, 0, none⟩) 1 1] w fun e w' => e = .returned (.bool false) ∧ Chg [] w w' := by
  refine (append_any h 2 3 4 128 (by omega) (by omega) hx (fun _ ad e => by injection e with e; subst e; exact h1)).mono ?_
  rintro e w' (⟨hy, _⟩ | ⟨_, rfl, hc⟩)
  · exact absurd hy rk_can2
  · exact ⟨rfl, hc⟩
theorem app_k3 (h : DskS w p bL bS bW rk1) : Calls Try.prog 37 #[.pointer (some ⟨p, 0, none⟩), rootV 2 3 4, .int .i64 128, .slice none 0 0] w fun e w' => e = .returned (.bool true) ∧ DskS w' p bL bS bW rk1 ∧ Chg [bS, bW] w w' := by
  refine (append_any h 2 3 4 128 (by omega) (by omega) (Bs.nil w) (fun _ ad e => by cases e)).mono ?_
  rintro e w' (⟨_, rfl, hd, hc⟩ | ⟨hn, _⟩)
  · rw [show (128 + Int.toNat 128) = 256 from rfl, rk1_none] at hd
    exact ⟨rfl, hd, hc⟩
  · exact absurd rk_can3 hn
set_option maxHeartbeats 1000000 in
theorem app_nil (L P E at_ : Int) (A : Option Addr) (n c : Nat) : Calls Try.prog 37 #[.pointer none, rootV L P E, .int .i64 at_, .slice A n c] w fun e w' => e = .returned (.bool false) ∧ Chg [] w w' := by
  have hr0 : rootV L P E = .agg #[.int .i64 L, .int .i64 P, .int .u32 E] := rfl
  rw [hr0]
  go_enter Try.func37, Try.ntmps37
  go_wp2_with fail
  have hR := Whole.new w 26 [.int .i64 L, .int .i64 P, .int .u32 E]
  have hc1 : Chg [] w (w.alloc (.cells #[.int .i64 L, .int .i64 P, .int .u32 E] 26)) := (Chg.refl [] w).alloc _
  obtain ⟨g, hg⟩ : ∃ g, g = w.heap.size := ⟨_, rfl⟩
  rw [← hg] at hR ⊢
  generalize w.alloc (.cells #[.int .i64 L, .int .i64 P, .int .u32 E] 26) = w1 at hc1 hR ⊢
  clear hg
  obtain ⟨c0, c1, c2, _, _, _⟩ := root_cells hR
  go_wp2_with fail
  refine (parts_nil L P E).mono ?_
  rintro e w2 ⟨rfl, hc2⟩
  have HC2 := Lib.hid (hc1.new hc2)
  clear hc1 hc2 hR c0 c1 c2
  go_wp2_with fail
  go_ret
  exact ⟨rfl, HC2.out⟩
end
end Go.Proofs.Ytlhkmbcjgdjegaa
namespace Go.Proofs.Ytlhkmbcjgdjegaa
open Go.RowKit
/-- '[]byte("..")' of a constant, in a world whose size has a name. -/
theorem kc_at (W : World) {s : Nat} (h : W.heap.size = s) (C : Array Value) (n c : Nat) : (convert 22 22 (.slice (some ⟨s, 0, none⟩) n c)).run Try.prog (W.alloc (.cells C 5)) = .ok (.slice (some ⟨s, 0, none⟩) n c) (W.alloc (.cells C 5 (C.size, C.size + 1))) := by
  subst h
  exact Lib.run_convert_bytes_const (P := Try.prog) W 22 5 C n c Try.underlying22 Try.underlying5
/-- A constant's row. -/
theorem bs_const (w : World) (t : TypeId) (l : List UInt8) (fz : Nat × Nat) (hm : l.length ≤ 9223372036854775807) : Bs (w.alloc (.cells (bts l).toArray t fz)) (some ⟨w.heap.size, 0, none⟩) l.length l.length l := by
  refine ⟨rfl, fun _ => ⟨_, rfl, by simp, fun j v hj => ?_⟩, Nat.le_refl _, hm, fun _ ad e => by injection e with e; subst e; rfl⟩
  rw [add_plain, Nat.zero_add, cell_of_row _ _ _ _ _ _ (heap_alloc_new w _)]
  simpa using hj
end Go.Proofs.Ytlhkmbcjgdjegaa
namespace Go.Proofs.Ytlhkmbcjgdjegaa
open Go.RowKit
section
variable {w : World}
set_option maxHeartbeats 2000000 in
set_option maxRecDepth 100000 in
theorem rdknown_any : Calls Try.prog 35 #[] w (LawPost w) := by
  go_enter Try.func35, Try.ntmps35
  go_wp2_with fail
  refine (new_yes 8 (by omega) (by omega)).mono ?_
  rintro e w1 ⟨p, bL, bS, bW, rfl, hD, b1, b2, b3, b4, hc1⟩
  have hD0 : DskS w1 p bL bS bW rk0 := hD
  have HB := Lib.hid (show bS < w1.heap.size ∧ bW < w1.heap.size from ⟨hD.seen.lt, hD.wait.lt⟩)
  have HB0 := Lib.hid (show w.heap.size ≤ bS ∧ w.heap.size ≤ bW from ⟨b3, b4⟩)
  have HD1 := Lib.hid hD0
  have HC1 := Lib.hid hc1
  clear hD hD0 b1 b2 b3 b4 hc1
  go_upto_region 5 with fail
  have hR := Whole.new w1 26 [.int .i64 2, .int .i64 3, .int .u32 4]
  have hc2 : Chg [] w1 (w1.alloc (.cells #[.int .i64 2, .int .i64 3, .int .u32 4] 26)) := (Chg.refl [] w1).alloc _
  obtain ⟨g, hg⟩ : ∃ g, g = w1.heap.size := ⟨_, rfl⟩
  rw [← hg] at hR ⊢
  generalize w1.alloc (.cells #[.int .i64 2, .int .i64 3, .int .u32 4] 26) = w2 at hc2 hR ⊢
  have HG := Lib.hid (show g ≠ bS ∧ g ≠ bW by have := HB.out; omega)
  have HB2 := Lib.hid (show bS < w2.heap.size ∧ bW < w2.heap.size by have := HB.out; have := hc2.size; omega)
  have HR2 := Lib.hid hR
  have HD2 := Lib.hid (Dsk.keep HD1.out hc2)
  have HC2 := Lib.hid (HC1.out.new hc2)
  clear hg hc2 HB
  obtain ⟨c0, c1, c2, _, _, _⟩ := root_cells hR
  clear hR
  go_wp2_with fail
  refine (rec_k HD2.out).mono ?_
  rintro e w3 ⟨A3, q3, rfl, hc3⟩
  have HD3 := Lib.hid (Dsk.keep HD2.out hc3)
  have HR3 := Lib.hid (HR2.out.keep hc3)
  have HC3 := Lib.hid (HC2.out.new hc3)
  have HB3 := Lib.hid (show bS < w3.heap.size ∧ bW < w3.heap.size by have := HB2.out; have := hc3.size; omega)
  clear hc3 c0 c1 c2
  obtain ⟨c0, c1, c2, _, _, _⟩ := root_cells HR3.out
  have hcv3 := fun C n c => kc_at w3 rfl C n c
  go_wp2_with fail
  have hX3 : Bs (w3.alloc (.cells #[.int .u8 97, .int .u8 99, .int .u8 114, .int .u8 111, .int .u8 115, .int .u8 115] 5 (6, 7))) (some ⟨w3.heap.size, 0, none⟩) 6 6 acr := by
    rw [← acr_cells]; exact bs_const w3 5 acr (6, 7) (by decide)
  have hal3 : Chg [] w3 (w3.alloc (.cells #[.int .u8 97, .int .u8 99, .int .u8 114, .int .u8 111, .int .u8 115, .int .u8 115] 5 (6, 7))) := (Chg.refl [] w3).alloc _
  refine (app_k1 (Dsk.keep HD3.out hal3) hX3 (by have := HB3.out; omega)).mono ?_
  rintro e w4 ⟨rfl, hD4, hc4⟩
  have HD4 := Lib.hid hD4
  have HR4 := Lib.hid ((HR3.out.keep hal3).chg hc4 (not2' HG.out.1 HG.out.2))
  have HC4 := Lib.hid ((HC3.out.new hal3).then_ hc4 fun i hi hlt => by
    rcases (by simpa using hi : i = bS ∨ i = bW) with e | e
    · have := HB0.out.1; omega
    · have := HB0.out.2; omega)
  have HB4 := Lib.hid (show bS < w4.heap.size ∧ bW < w4.heap.size by have := HB3.out; have := hal3.size; have := hc4.size; omega)
  clear hX3 hal3 hD4 hc4 c0 c1 c2
  obtain ⟨c0, c1, c2, _, _, _⟩ := root_cells HR4.out
  go_wp2_with fail
  refine (rbytes_any HD4.out 2 3 4).mono ?_
  rintro e w5 ⟨v5, rfl, ho5, hc5⟩
  rw [rk1_log] at ho5
  obtain ⟨gb, rb, rfl, -, hWb, hcap⟩ := own_whole ho5 (by decide)
  have hl128 : (zeros 60 ++ acr ++ zeros 62).length = 128 := by decide
  rw [hl128] at hcap ⊢
  unfold maxLen at hcap
  obtain ⟨cb, hcb⟩ : ∃ c, c = 128 + rb.length := ⟨_, rfl⟩
  rw [← hcb] at hcap ⊢
  have hcb1 : 128 ≤ cb := by omega
  have HP := Lib.hid (Bs.of_whole (n := 128) (cap := cb) hWb hl128 (by rw [List.take_left' (by rw [bts_len, hl128])]) hcb1 hcap)
  have hcb2 : ¬ cb = 60 := by omega
  have hcut := HP.out.cut (lo := 60) (hi := 66) (by omega) (by omega)
  rw [if_neg hcb2, Option.map_some, add_plain, show ((zeros 60 ++ acr ++ zeros 62).drop 60).take (66 - 60) = acr by decide +kernel] at hcut
  have hs := hcut.str (P := Try.prog) 22 5 9 Try.underlying22 Try.underlying5 Try.underlying9
  have HD5 := Lib.hid (Dsk.keep HD4.out hc5)
  have HR5 := Lib.hid (HR4.out.keep hc5)
  have HC5 := Lib.hid (HC4.out.new hc5)
  have HB5 := Lib.hid (show bS < w5.heap.size ∧ bW < w5.heap.size by have := HB4.out; have := hc5.size; omega)
  clear hWb hcb ho5 hcut hc5 c0 c1 c2 hl128
  obtain ⟨c0, c1, c2, _, _, _⟩ := root_cells HR5.out
  have hcb3 : ¬ cb < 66 := by omega
  have hse : (strOf acr).toList = [97, 99, 114, 111, 115, 115] := by decide +kernel
  clear hcv3
  go_wp2_with fail
  refine (waits_any HD5.out).mono ?_
  rintro e w6 ⟨v6, rfl, ho6, hc6⟩
  rw [rk1_wl] at ho6
  obtain ⟨A6, c6, rfl, _, _, hs6, hp6⟩ := own_slice ho6
  have HS6 := Lib.hid hs6
  have HP6 := Lib.hid hp6
  have HD6 := Lib.hid (Dsk.keep HD5.out hc6)
  have HR6 := Lib.hid (HR5.out.keep hc6)
  have HC6 := Lib.hid (HC5.out.new hc6)
  have HB6 := Lib.hid (show bS < w6.heap.size ∧ bW < w6.heap.size by have := HB5.out; have := hc6.size; omega)
  clear hs6 hp6 ho6 hc6 c0 c1 c2 hse hs
  go_wp2_with fail
  have hX6 := Whole.new w6 3 (nmsN [2, 3])
  rw [two_cells] at hX6
  have hal6 : Chg [] w6 (w6.alloc (.cells #[.int .i64 2, .int .i64 3] 3)) := (Chg.refl [] w6).alloc _
  refine (same_yes (l := [2, 3]) rfl (by decide) (HS6.out.keep hal6) (Src.of_all hX6) (fun ad e => (HP6.out ad e).1) (fun ad e => by injection e with e; subst e; rfl)).mono ?_
  rintro e w7 ⟨rfl, hc7⟩
  have HD7 := Lib.hid (Dsk.keep (Dsk.keep HD6.out hal6) hc7)
  have HR7 := Lib.hid ((HR6.out.keep hal6).keep hc7)
  have HC7 := Lib.hid ((HC6.out.new hal6).new hc7)
  have HB7 := Lib.hid (show bS < w7.heap.size ∧ bW < w7.heap.size by have := HB6.out; have := hal6.size; have := hc7.size; omega)
  clear hX6 hal6 hc7
  obtain ⟨c0, c1, c2, _, _, _⟩ := root_cells HR7.out
  have hcv7 := fun C n c => kc_at w7 rfl C n c
  go_wp2_with fail
  have hX7 : Bs (w7.alloc (.cells #[.int .u8 120] 5 (1, 2))) (some ⟨w7.heap.size, 0, none⟩) 1 1 [120] := by
    rw [← x_cells]; exact bs_const w7 5 [120] (1, 2) (by decide)
  have hal7 : Chg [] w7 (w7.alloc (.cells #[.int .u8 120] 5 (1, 2))) := (Chg.refl [] w7).alloc _
  refine (app_k2 (Dsk.keep HD7.out hal7) hX7 (by have := HB7.out; omega)).mono ?_
  rintro e w8 ⟨rfl, hc8⟩
  have HD8 := Lib.hid (Dsk.keep (Dsk.keep HD7.out hal7) hc8)
  have HR8 := Lib.hid ((HR7.out.keep hal7).keep hc8)
  have HC8 := Lib.hid ((HC7.out.new hal7).new hc8)
  clear hX7 hal7 hc8 c0 c1 c2 hcv7
  obtain ⟨c0, c1, c2, _, _, _⟩ := root_cells HR8.out
  go_wp2_with fail
  refine (app_k3 HD8.out).mono ?_
  rintro e w9 ⟨rfl, hD9, hc9⟩
  have HD9 := Lib.hid hD9
  have HR9 := Lib.hid (HR8.out.chg hc9 (not2' HG.out.1 HG.out.2))
  have HC9 := Lib.hid (HC8.out.then_ hc9 fun i hi hlt => by
    rcases (by simpa using hi : i = bS ∨ i = bW) with e | e
    · have := HB0.out.1; omega
    · have := HB0.out.2; omega)
  clear hD9 hc9 c0 c1 c2
  go_wp2_with fail
  refine (rbytes_any HD9.out 0 0 0).mono ?_
  rintro e wa ⟨va, rfl, hoa, hca⟩
  rw [rk1_zero] at hoa
  obtain ⟨Aa, ca, rfl, _⟩ := own_slice hoa
  have HRa := Lib.hid (HR9.out.keep hca)
  have HCa := Lib.hid (HC9.out.new hca)
  clear hoa hca
  obtain ⟨c0, c1, c2, _, _, _⟩ := root_cells HRa.out
  go_wp2_with fail
  refine (app_nil 2 3 4 0 none 0 0).mono ?_
  rintro e wb ⟨rfl, hcb⟩
  have HCb := Lib.hid (HCa.out.new hcb)
  clear hcb c0 c1 c2
  go_wp2_with fail
  go_ret
  exact ⟨rfl, HCb.out⟩
end
end Go.Proofs.Ytlhkmbcjgdjegaa
namespace Go.Proofs.Ytlhkmbcjgdjegaa
open Go.RowKit
/-- A root that was made. -/
def TRoot (a b c : Int) (w2 : World) (s : Value) (wx : World) : Prop := ∃ g, s = .pointer (some ⟨g, 0, none⟩) ∧ Whole wx g 26 [.int .i64 a, .int .i64 b, .int .u32 c] ∧ Chg [] w2 wx
section
variable {w : World} {A B C : Option Addr} {n c m d p q : Nat} {xs zs : List Int} {vs : List Value} {ls : List (List UInt8)}
set_option maxHeartbeats 4000000 in
set_option maxRecDepth 100000 in
theorem redoTells_any (L P : Int) (ep : Nat) (hep : ep < 4294967296) (at_ : Int) (tn : Nat) (htn : tn < 256) (hat0 : -9223372036854775808 ≤ at_) (hat1 : at_ ≤ 9223372036854775807)
    (hL0 : -9223372036854775808 ≤ L) (hL1 : L ≤ 9223372036854775807) (hP0 : -9223372036854775808 ≤ P) (hP1 : P ≤ 9223372036854775807)
    (hA : Src w A (nms xs)) (hAs : 0 < n → ∀ ad, A = some ad → ad.spot = none) (hn : xs.length = n) (hnm : n * 8 ≤ 140737488351232) (hxr : ∀ x ∈ xs, -9223372036854775808 ≤ x ∧ x ≤ 9223372036854775807)
    (hC : Src w C (nms zs)) (hCs : 0 < p → ∀ ad, C = some ad → ad.spot = none) (hp : zs.length = p) (hpm : p ≤ 9223372036854775807) (hzr : ∀ x ∈ zs, -9223372036854775808 ≤ x ∧ x ≤ 9223372036854775807)
    (hB : Src w B vs) (hBs : 0 < m → ∀ ad, B = some ad → ad.spot = none) (hm : vs.length = m) (hmm : m ≤ 9223372036854775807) (hL : Lists w vs ls) :
    Calls Try.prog 9 #[.slice A n c, .slice B m d, rootV L P (ep : Int), .slice C p q, .int .i64 at_, .int .u8 (tn : Int)] w (LawPost w) := by
  have hr0 : rootV L P (ep : Int) = .agg #[.int .i64 L, .int .i64 P, .int .u32 (ep : Int)] := rfl
  obtain ⟨ka, hka⟩ : ∃ r, r = withinI L 1 6 := ⟨_, rfl⟩
  obtain ⟨kb, hkb⟩ : ∃ r, r = withinI P 1 4 := ⟨_, rfl⟩
  have HW1 := Lib.hid (show ∀ W, Calls Try.prog 18 #[.int .i64 L, .int .i64 1, .int .i64 6] W fun e w' => e = .returned (.int .i64 ka) ∧ W = w' from fun W => by rw [hka]; exact within_is L 1 6 (by omega) (by omega) (by omega) hL0 hL1)
  have HW2 := Lib.hid (show ∀ W, Calls Try.prog 18 #[.int .i64 P, .int .i64 1, .int .i64 4] W fun e w' => e = .returned (.int .i64 kb) ∧ W = w' from fun W => by rw [hkb]; exact within_is P 1 4 (by omega) (by omega) (by omega) hP0 hP1)
  obtain ⟨e7, he7, hlt7⟩ : ∃ e : Nat, bits .and .u32 (ep : Int) 3 = (e : Int) ∧ e ≤ 3 := ⟨ep &&& 3, u32_and_nat ep 3 hep (by omega), Nat.and_le_right⟩
  have hsum : IntKind.u32.wrap (1 + (e7 : Int)) = 1 + (e7 : Int) := by simp [IntKind.wrap, IntKind.signed, IntKind.bits]; omega
  obtain ⟨i0, hi, hz0, hz1, hz2⟩ := info_parts info_int
  have HA := Lib.hid hA
  have HAS := Lib.hid hAs
  have HN := Lib.hid hn
  have HXR := Lib.hid hxr
  have HCC := Lib.hid hC
  have HCS := Lib.hid hCs
  have HP := Lib.hid hp
  have HZR := Lib.hid hzr
  have HB := Lib.hid hB
  have HBS := Lib.hid hBs
  have HM := Lib.hid hm
  have HL := Lib.hid hL
  clear hA hAs hn hxr hC hCs hp hzr hB hBs hm hL hka hkb hL0 hL1 hP0 hP1
  rw [hr0]
  go_enter Try.func9, Try.ntmps9
  go_upto_region 1 with fail
  have hR := Whole.new w 26 [.int .i64 L, .int .i64 P, .int .u32 (ep : Int)]
  have hc1 : Chg [] w (w.alloc (.cells #[.int .i64 L, .int .i64 P, .int .u32 (ep : Int)] 26)) := (Chg.refl [] w).alloc _
  obtain ⟨g, hg⟩ : ∃ g, g = w.heap.size := ⟨_, rfl⟩
  rw [← hg] at hR ⊢
  generalize w.alloc (.cells #[.int .i64 L, .int .i64 P, .int .u32 (ep : Int)] 26) = w1 at hc1 hR ⊢
  have HR := Lib.hid hR
  have HC1 := Lib.hid hc1
  clear hg hc1
  obtain ⟨c0, c1, c2, _, _, _⟩ := root_cells hR
  have hgl := hR.lt
  clear hR
  go_cut [13] (fun s13 wx => TRoot ka kb ((1 + e7 : Nat) : Int) w1 s13 wx)
  case first =>
    go_region_held3 (fun w' => w'.cell? ⟨g, 0, none⟩ = some (.int .i64 L) ∧ w'.cell? ⟨g, 1, none⟩ = some (.int .i64 P) ∧ w'.cell? ⟨g, 2, none⟩ = some (.int .u32 (ep : Int))) (go_keep) (first
      | (go_at_call 18; have _t := R1; refine (HW2.out _).mono ?_; rintro e w' ⟨rfl, rfl⟩)
      | (go_at_call 18; have R1 : True := trivial; refine (HW1.out _).mono ?_; rintro e w' ⟨rfl, rfl⟩))
    all_goals go_wp2_with fail
    all_goals go_meet
    all_goals exact ⟨_, rfl, (Whole.new w1 26 [.int .i64 ka, .int .i64 kb, .int .u32 (1 + (e7 : Int))]).drew, ((Chg.refl [] w1).alloc _).drew⟩
  case rest =>
    obtain ⟨gk, rfl, hK, hcK⟩ := hcut
    obtain ⟨w2, rfl⟩ : ∃ w2 : World, w2 = wc := ⟨_, rfl⟩
    have HK := Lib.hid hK
    have HC2 := Lib.hid (HC1.out.new hcK)
    have HR2 := Lib.hid (HR.out.keep hcK)
    obtain ⟨B2, hB2⟩ : ∃ b, b = w2.heap.size := ⟨_, rfl⟩
    have HB2 := Lib.hid hB2
    clear hK hcK c0 c1 c2 hgl hB2
    go_wp2_with fail
    go_loopw [14, 15, 29] (fun v _ s wr => ∃ i : Nat, i ≤ n ∧ s = .int .i64 (i : Int) ∧ (∃ ys : List Int, ys.length = i ∧ wr.ownsRow B2 3 1 v i (nms ys) ∧ (∀ y ∈ ys, -1 ≤ y ∧ y ≤ 400)) ∧ Hid (Chg [] w2 wr)) (fun _ _ s _ => n - (intOf s).toNat)
    case atStart => exact ⟨0, by omega, rfl, ⟨[], rfl, World.ownsRow_nil _ _ _ _, fun y hy => by simp at hy⟩, Lib.hid (Chg.refl _ _)⟩
    case round =>
      obtain ⟨i, hin, rfl, ⟨ys, hyl, ho, hyr⟩, HCr⟩ := hrel
      have HO := Lib.hid ho
      have HYL := Lib.hid hyl
      have HYR := Lib.hid hyr
      clear ho hyl hyr
      by_cases hlt : i < n
      · have hltI : (i : Int) < (n : Int) := by omega
        have hnn : (n : Int) ≤ 9223372036854775807 := by omega
        obtain ⟨⟨bA, oA, sA⟩, rfl, _, hxA⟩ := (HA.out.keep (HC2.out.new HCr.out)) (by rw [nms_len, HN.out]; omega)
        obtain rfl : sA = none := HAS.out (by omega) _ rfl
        have ckA := hxA i _ (nms_get xs i (by rw [HN.out]; exact hlt))
        have hxi := HXR.out _ (List.getElem_mem (show i < xs.length by rw [HN.out]; exact hlt))
        generalize xs[i]'(by rw [HN.out]; exact hlt) = x at ckA hxi
        rw [add_plain] at ckA
        obtain ⟨y, hy⟩ : ∃ y, y = withinI x (-1) 400 := ⟨_, rfl⟩
        have HY := Lib.hid (show -1 ≤ y ∧ y ≤ 400 by have h := into_within x (-1) 400 (by omega); rw [hy]; exact ⟨h.1, h.2.1⟩)
        have HWX := Lib.hid (show ∀ W, Calls Try.prog 18 #[.int .i64 x, .int .i64 (-1), .int .i64 400] W fun e w' => e = .returned (.int .i64 y) ∧ W = w' from fun W => by rw [hy]; exact within_is x (-1) 400 (by omega) (by omega) (by omega) hxi.1 hxi.2)
        clear hxA hy hxi
        have HW2' := Lib.hid (show B2 ≤ wr.heap.size by have := HCr.out.size; have := HB2.out; omega)
        go_wp2_with (first
          | (go_at_call 18; refine (HWX.out _).mono ?_; rintro e w' ⟨rfl, rfl⟩)
          | (at_builtin
             refine wpList_append_own _ rfl (.tmp 32) (.tmp 38) _ rfl B2 3 i0 _ 1 8 Try.underlying56 hi hz0 hz1 hz2 rfl (by decide) _ i (nms ys) rfl (own_keep HO.out ((Chg.refl [] wr).alloc _)) ⟨wr.heap.size, 0, none⟩ 1 1 [.int .i64 y] rfl rfl ?c1 ?c2 ?c3 ?c4 ?c5 ?_
             case c1 => exact cells_page _ _ _
             case c2 => simp [Value.oneCell']
             case c3 => simp only [maxLen]; omega
             case c4 => omega
             case c5 => have := HW2'.out; simp; omega
             intro v' w6 hown' hg' _))
        have HO6 := Lib.hid hown'
        have HC6 := Lib.hid (show Chg [] w2 w6 from (HCr.out.alloc _).own (own_keep HO.out ((Chg.refl [] wr).alloc (.cells #[.int .i64 y] 3))) (by have := HB2.out; omega) hg')
        clear hown' hg'
        go_wp2_with fail
        go_roundw
        case rel => exact ⟨i + 1, by omega, by go_num, ⟨ys ++ [y], by rw [List.length_append, HYL.out]; rfl, by rw [nms_app]; exact HO6.out, fun z hz => by
          rcases List.mem_append.1 hz with h | h
          · exact HYR.out z h
          · simp only [List.mem_cons, List.not_mem_nil, or_false] at h; subst h; exact HY.out⟩, HC6⟩
        case measure => simp [intOf]; omega
      · obtain rfl : n = i := by omega
        have HCz := Lib.hid (HC2.out.new HCr.out)
        have HRz := Lib.hid (HR2.out.keep HCr.out)
        have HKz := Lib.hid (HK.out.keep HCr.out)
        obtain ⟨A9, c9, rfl, hl9, _, hs9, hp9⟩ := own_slice HO.out
        have HS9 := Lib.hid hs9
        have HP9 := Lib.hid hp9
        clear hl9 hs9 hp9
        have HQ1 := Lib.hid (show ∀ W, Chg [] wr W → Calls Try.prog 33 #[rootV ka kb ((1 + e7 : Nat) : Int), .slice A9 n c9, .slice B m d] W (LawPost W) from fun W hW =>
          plays_any ka kb (1 + e7) (HS9.out.keep hW) (fun _ ad e => (HP9.out ad e).1) HYL.out (by omega) (fun x hx => by have := HYR.out x hx; omega) (HB.out.keep (HCz.out.new hW)) HBS.out HM.out hmm (HL.out.keep (HCz.out.new hW)))
        have HQ2 := Lib.hid (show ∀ W, Chg [] wr W → Calls Try.prog 33 #[rootV L P (ep : Int), .slice A n c, .slice B m d] W (LawPost W) from fun W hW =>
          plays_any L P ep (HA.out.keep (HCz.out.new hW)) HAS.out HN.out (by omega) HXR.out (HB.out.keep (HCz.out.new hW)) HBS.out HM.out hmm (HL.out.keep (HCz.out.new hW)))
        have HQ3 := Lib.hid (show ∀ W, Chg [] wr W → Calls Try.prog 33 #[rootV ka kb ((1 + e7 : Nat) : Int), .slice A n c, .slice B m d] W (LawPost W) from fun W hW =>
          plays_any ka kb (1 + e7) (HA.out.keep (HCz.out.new hW)) HAS.out HN.out (by omega) HXR.out (HB.out.keep (HCz.out.new hW)) HBS.out HM.out hmm (HL.out.keep (HCz.out.new hW)))
        have HQ4 := Lib.hid (show ∀ (tn : Nat), tn < 256 → ∀ W, Chg [] wr W → Calls Try.prog 34 #[.slice C p q, rootV 20 5 ((1 + e7 : Nat) : Int), .int .i64 at_, .int .u8 (tn : Int)] W (LawPost W) from fun tn htn W hW =>
          logged_any 5 (by omega) (by omega) (1 + e7) (by omega) at_ hat0 hat1 tn htn (HCC.out.keep (HCz.out.new hW)) HCS.out HP.out hpm HZR.out)
        obtain ⟨c0, c1, c2, _, _, _⟩ := root_cells HKz.out
        go_wp2_with fail
        refine (HQ1.out _ (Chg.refl _ _)).mono ?_
        rintro e w3 ⟨rfl, hc3⟩
        have HC3 := Lib.hid hc3
        clear hc3 c0 c1 c2
        obtain ⟨c0, c1, c2, _, _, _⟩ := root_cells (HRz.out.keep HC3.out)
        go_wp2_with fail
        refine (HQ2.out _ HC3.out).mono ?_
        rintro e w4 ⟨rfl, hc4⟩
        have HC4 := Lib.hid (HC3.out.new hc4)
        clear hc4 c0 c1 c2
        obtain ⟨c0, c1, c2, _, _, _⟩ := root_cells (HKz.out.keep HC4.out)
        go_wp2_with fail
        refine (HQ3.out _ HC4.out).mono ?_
        rintro e w5 ⟨rfl, hc5⟩
        have HC5 := Lib.hid (HC4.out.new hc5)
        clear hc5 c0 c1 c2
        obtain ⟨c0, c1, c2, _, _, _⟩ := root_cells (HKz.out.keep HC5.out)
        go_wp2_with fail
        refine (HQ4.out 0 (by omega) _ HC5.out).mono ?_
        rintro e w6 ⟨rfl, hc6⟩
        have HC6 := Lib.hid (HC5.out.new hc6)
        clear hc6 c0 c1 c2
        obtain ⟨c0, c1, c2, _, _, _⟩ := root_cells (HKz.out.keep HC6.out)
        go_wp2_with fail
        refine (HQ4.out tn htn _ HC6.out).mono ?_
        rintro e w7 ⟨rfl, hc7⟩
        have HC7 := Lib.hid (HC6.out.new hc7)
        clear hc7 c0 c1 c2
        go_wp2_with fail
        refine rdknown_any.mono ?_
        rintro e w8 ⟨rfl, hc8⟩
        have HC8 := Lib.hid (HCz.out.new (HC7.out.new hc8))
        clear hc8
        go_wp2_with fail
        go_ret
        exact ⟨rfl, HC8.out⟩
end
end Go.Proofs.Ytlhkmbcjgdjegaa
