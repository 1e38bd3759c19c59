/-
  T: Sto12, Sto14, Sto15, Known, StoKnown, LawStoreOpens, OpenX.
-/
import Derived.Test.YtddjgncdjdjgeaaZT3
import Derived.Test.YtddjgncdjdjgeaaZT7
import Derived.Test.YtddjgncdjdjgeaaZT9
import Derived.Test.YtddjgncdjdjgeaaZT10
import Derived.Test.YtddjgncdjdjgeaaZT11
import Derived.Test.YtddjgncdjdjgeaaZT30
import Derived.Laws.Entries
namespace Go.Proofs.Ytddjgncdjdjgeaa
open Go.RowKit
theorem secV_apS {s : St} {a : Nat} {b : List UInt8} (h : a + b.length ≤ s.S.length) (q : Nat) (hq : (q + 1) * 64 ≤ a ∨ a + b.length ≤ q * 64) : secV (apS s a b) q = secV s q := by
  unfold secV
  rw [apS_V]
  show sectL (splice s.S a b) _ q = _
  have e : splice s.S a b = s.S.take a ++ (b ++ s.S.drop (a + b.length)) := by unfold splice; simp
  have l1 : (s.S.take a).length = a := by rw [List.length_take]; omega
  unfold sectL
  split
  · rw [e]
    rcases hq with hq | hq
    · rw [List.drop_append_of_le_length (by omega), List.take_append_of_le_length (by rw [List.length_drop]; omega), List.drop_take, List.take_take, Nat.min_eq_left (by omega)]
    · rw [List.drop_append, List.drop_of_length_le (by omega), List.nil_append, l1, List.drop_append, List.drop_of_length_le (by omega), List.nil_append, List.drop_drop, show a + b.length + (q * 64 - a - b.length) = q * 64 by omega]
  · rfl
theorem Gd.apS {s : St} (h : Gd s) {a : Nat} {b : List UInt8} (hb : a + b.length ≤ s.S.length) : Gd (apS s a b) := by
  unfold Gd
  rw [apS_V]
  show (splice s.S a b).length = _
  rw [splice_len _ _ _ hb]; exact h
/-- .. whose log has no more than its records. -/
structure KeptZ (s : St) (x : SV) (ms : List (List ChV)) : Prop where
  k : Kept s x ms
  z : LogZ s x.L x.P x.E ms x.used
  q : x.seq = ms.length
theorem fold_snoc (ms : List (List ChV)) (m : List ChV) (y : SV) : (ms ++ [m]).foldl turnV y = turnV (ms.foldl turnV y) m := by rw [List.foldl_append]; rfl
theorem KeptZ.com {s : St} {x : SV} {ms : List (List ChV)} {m : List ChV} (h : KeptZ s x ms) (hm : InL x.P m) (hf : x.used + (18 + 66 * m.length) ≤ x.L * 64) : KeptZ (comS s x m) (comV x m) (ms ++ [m]) := by
  have h1 := rightR_true.1 h.k.rt
  have hl : (comL x m).length = 18 + 66 * m.length := by unfold comL; rw [frameL_len, back_len hm.1]; omega
  have hgd := h.k.gd
  have hb : 128 + x.used + (comL x m).length ≤ s.S.length := by unfold Gd at hgd; omega
  have hV : (comS s x m).V.length = s.V.length := apS_V _ _ _
  have hs : ∀ q, q < 2 ∨ 2 + x.L ≤ q → secV (comS s x m) q = secV s q := fun q hq => secV_apS hb q (by rcases hq with hq | hq <;> omega)
  have hz := h.z.com hgd (by omega) h.q hm hf
  have hrt : rightR x.L x.P x.E (comS s x m).V.length = true := by rw [hV]; exact h.k.rt
  have hpg : pagesL (comS s x m) x.L x.P = pagesL s x.L x.P := ext_getD (by rw [pagesL_len, pagesL_len]) (fun i hi => by
    rw [pagesL_len] at hi
    rw [pagesL_at _ _ _ _ hi, pagesL_at _ _ _ _ hi, hs _ (by omega)])
  have hhv : homeV (comS s x m) ⟨x.L, x.P, x.E⟩ = homeV s ⟨x.L, x.P, x.E⟩ := by unfold homeV; simp only; rw [hpg]
  have hins : ∀ y ∈ ms ++ [m], InL x.P y := fun y hy => by
    rcases List.mem_append.1 hy with hy | hy
    · exact h.k.ins y hy
    · simp only [List.mem_cons, List.not_mem_nil, or_false] at hy
      subst hy; exact hm
  refine ⟨{ gd := hgd.apS hb, rt := hrt, ep := h.k.ep, best := ?_, recs := fun y => hz.recT hrt h.k.ep y, ins := hins, pages := ?_, named := ?_ }, hz, by show x.seq + 1 = _; rw [h.q, List.length_append]; rfl⟩
  · rw [bestK_two, hV, hs 0 (by omega), hs 1 (by omega), ← bestK_two]
    exact h.k.best
  · show applyL x.pages m = ((ms ++ [m]).foldl turnV (homeV (comS s x m) ⟨x.L, x.P, x.E⟩)).pages
    rw [fold_snoc, hhv, h.k.pages]; rfl
  · show nameL x.named m = ((ms ++ [m]).foldl turnV (homeV (comS s x m) ⟨x.L, x.P, x.E⟩)).named
    rw [fold_snoc, hhv, h.k.named]; rfl
theorem KeptZ.flA {s : St} {x : SV} {ms : List (List ChV)} (h : KeptZ s x ms) : KeptZ (flA s) x ms := ⟨h.k.flA, h.z.flA, h.q⟩
/-- A disk that was formatted, and opened. -/
theorem kept_fmt {s : St} (h : Gd s) (L P : Nat) (hr : rightR L P 1 s.V.length = true) : Kept (fmt s L P) (homeV (fmt s L P) ⟨L, P, 1⟩) [] ∧ LogZ (fmt s L P) L P 1 [] 0 := by
  have h1 := rightR_true.1 hr
  have hz : LogZ (fmt s L P) L P 1 [] 0 := LogZ.none (by rw [fmt_len]; omega) (fun j hj1 hj2 => by rw [secV_fmt h L P (by omega) j (by omega), if_neg (by omega)])
  have hr' : rightR L P (1 : Nat) (fmt s L P).V.length = true := by rw [fmt_len]; exact hr
  refine ⟨{ gd := h.fmt L P (by omega), rt := hr', ep := by show 1 < _; omega, best := best_fmt h L P hr, recs := fun y => hz.recT hr' (by omega) y, ins := fun m hm => (by cases hm), pages := rfl, named := rfl }, hz⟩
theorem kept_new {s : St} (h : Gd s) (L P : Nat) (hr : rightR L P 1 s.V.length = true) : KeptZ (ckS (fmt s L P) (openV (fmt s L P) ⟨L, P, 1⟩)) (ckV (openV (fmt s L P) ⟨L, P, 1⟩)) [] := by
  have h1 := rightR_true.1 hr
  obtain ⟨hk, hz⟩ := kept_fmt h L P hr
  have ho := hk.open_
  have hlog := hz.log
  have hc := hk.ck _ ho (by show 1 + 1 < _; omega) (by show ¬ readOk (logB (fmt s L P) L) 2 0; rw [hlog]; exact zeros_noF (by omega))
  obtain ⟨o1, o2, o3, o4, o5⟩ := ho
  obtain ⟨l1, l2, l3⟩ := hk.lens
  have o3' : (openV (fmt s L P) ⟨L, P, 1⟩).L = L := o3
  have o4' : (openV (fmt s L P) ⟨L, P, 1⟩).P = P := o4
  have o5' : (openV (fmt s L P) ⟨L, P, 1⟩).E = 1 := o5
  refine ⟨hc, ?_, rfl⟩
  refine LogZ.none (by rw [ckS_len, fmt_len]; show 2 + (openV (fmt s L P) ⟨L, P, 1⟩).L ≤ _; rw [o3']; omega) (fun j hj1 hj2 => ?_)
  have hj2' : j < 2 + L := by rw [← o3']; exact hj2
  have hgf := hk.gd
  rw [secV_ckS hgf (by rw [o3', o4', o5', fmt_len]; exact hr) (by rw [o4']; exact (congrArg List.length o1).trans l1) (fun l hl => l3 l (by rw [← o1]; exact hl)), if_neg (by omega), if_neg (by rw [o3']; omega), secV_fmt h L P (by omega) j (by omega), if_neg (by omega)]
/-- Behind a Flush nothing waits. -/
theorem flush_false (s : St) : ∀ i j, j < i → (s.flush i).V.getD j false = false
  | i + 1, j, hj => by
    show ((s.flush i).V.set i false).getD j false = false
    by_cases e : i = j
    · subst e
      rcases Nat.lt_or_ge i (s.flush i).V.length with hb | hb
      · exact getD_set_eq _ _ _ _ hb
      · rw [List.getD_eq_getElem?_getD, List.getElem?_eq_none (by rw [List.length_set]; omega)]; rfl
    · rw [getD_set_ne _ _ _ _ _ e]
      exact flush_false s i j (by omega)
end Go.Proofs.Ytddjgncdjdjgeaa
namespace Go.Proofs.Ytddjgncdjdjgeaa
open Go.RowKit
theorem chso_in {w wr : World} {p P : Nat} {At : Option Addr} {nt ct : Nat} {lt : List Int} {v : Value} {D : List Nat} (h : ChSo w p At nt ct lt wr v P) (hP : P ≤ 64) (hD : ∀ i ∈ D, i < w.heap.size) :
    ∃ A c ls a', v = .slice A ls.length c ∧ ChsD D wr A ls ∧ InL P ls ∧ Tp wr p At nt ct lt a' ∧ Chg [p] w wr ∧ ls.length ≤ 64 := by
  obtain ⟨ls, a', ho, hm, hpg, hl, hr, hT, hc⟩ := h
  obtain ⟨A, c, rfl, hl2, hch, _, _, _⟩ := chs_own' ho (fun a ha => (hm a ha).ok)
  have hb := own_blk ho rfl
  refine ⟨A, c, ls, a', rfl, ⟨hch, fun ad e hd => ?_, fun a ha ad e hd => ?_⟩, ⟨fun a ha => ⟨(hm a ha).small, (hm a ha).bl⟩, ?_, by omega⟩, hT, hc, by omega⟩
  · have h1 := hD _ hd
    have h2 := hb ad e
    omega
  · obtain ⟨g, hg, hB, _⟩ := (hm a ha).b
    rw [hg] at e
    injection e with e
    subst e
    have h1 : g < w.heap.size := hD _ hd
    omega
  · unfold rightB
    rw [hr (P : Int) (Int.le_refl _), Bool.and_true, decide_eq_true_iff]; omega
theorem fits_le {L u m : Nat} (h : fitsB (L : Int) (u : Int) (m : Int) = true) (hm : m ≤ 64) : u + (18 + 66 * m) ≤ L * 64 := by
  unfold fitsB at h
  rw [Bool.and_eq_true, decide_eq_true_iff, decide_eq_true_iff] at h
  have h2 := h.2
  unfold leftI sizeI needI at h2
  rw [if_neg (by omega), if_neg (by omega)] at h2
  omega
end Go.Proofs.Ytddjgncdjdjgeaa
namespace Go.Proofs.Ytddjgncdjdjgeaa
open Go.RowKit
theorem Sto.more {w w' : World} {p bL bS bW g gN : Nat} {ex : List Nat} {s : St} {x : SV} {vP : Value} (h : Sto w ⟨p, bL, bS, bW, g, gN, ex⟩ s x vP) (hc : Chg [] w w') {q : Nat} (hq : w.heap.size ≤ q) (hq2 : q < w'.heap.size) : Sto w' ⟨p, bL, bS, bW, g, gN, q :: ex⟩ s x vP := by
  have h1 := rightR_true.1 h.rt
  have hpl := h.pl
  have h64 := h.p64
  have hk := h.keep hc
  obtain ⟨A, c, us, e, hc1, hs, hu, hA, hR⟩ := h.pgs
  have hin : ∀ i, i ∈ SK.D ⟨p, bL, bS, bW, g, gN, q :: ex⟩ → i = q ∨ i ∈ SK.D ⟨p, bL, bS, bW, g, gN, ex⟩ := fun i hi => by
    simp only [SK.D, List.mem_cons] at hi ⊢
    rcases hi with h | h | h | h | h | h | h | h <;> simp [h]
  refine { dsk := hk.dsk, rec_ := hk.rec_, pgs := ?_, nm := hk.nm, ng := hk.ng, rt := hk.rt, ep := hk.ep, pl := hk.pl, nl := hk.nl, p64 := hk.p64, us := hk.us, sq := hk.sq, exl := fun i hi => ?_ }
  · refine ⟨A, c, us, e, hc1, hs.keep hc, hu, fun ad ha => ⟨(hA ad ha).1, fun hm => ?_⟩, fun i u l hu' hl => ?_⟩
    · rcases hin _ hm with hm | hm
      · obtain ⟨ad', ea, hb, _⟩ := hs (by omega)
        rw [ha] at ea
        injection ea with ea
        subst ea
        omega
      · exact (hA ad ha).2 hm
    · obtain ⟨A', n', c', eu, hB, hD⟩ := hR i u l hu' hl
      refine ⟨A', n', c', eu, hB.keep hc, fun ad ha hm => ?_⟩
      rcases hin _ hm with hm | hm
      · obtain ⟨ad', ea, hb, _⟩ := hB.src (by rw [bts_len, h64 l (List.mem_of_getElem? hl)]; omega)
        rw [ha] at ea
        injection ea with ea
        subst ea
        omega
      · exact hD ad ha hm
  · simp only [List.mem_cons] at hi
    rcases hi with rfl | hi
    · exact hq2
    · exact hk.exl i hi
theorem Sto.past {w w' : World} {k : SK} {s : St} {x : SV} {vP : Value} (h : Sto w k s x vP) {q : Nat} (hc : Chg [q] w w') (hq : q ∈ k.ex) (hn : ∀ i ∈ [k.p, k.bL, k.bS, k.bW, k.g, k.gN], i ≠ q) : Sto w' k s x vP := by
  have hne : ∀ i ∈ [k.p, k.bL, k.bS, k.bW, k.g, k.gN], i ∉ [q] := fun i hi hm => hn i hi (by simpa using hm)
  exact { h with dsk := Dsk.away h.dsk hc (hne _ (by simp)) (hne _ (by simp)) (hne _ (by simp)) (hne _ (by simp)), rec_ := h.rec_.chg hc (hne _ (by simp)), pgs := h.pgs.chg hc (fun i hi => by simp only [List.mem_singleton] at hi; subst hi; simp [SK.D, hq]), nm := h.nm.chg hc (hne _ (by simp)), exl := fun i hi => Nat.lt_of_lt_of_le (h.exl i hi) hc.size }
end Go.Proofs.Ytddjgncdjdjgeaa
namespace Go.Proofs.Ytddjgncdjdjgeaa
open Go.RowKit

def St.new (n : Nat) : St := ⟨zeros (n * 64), zeros (n * 64), falses n⟩
def St.of (l : List UInt8) : St := ⟨l, l, falses (l.length / 64)⟩

section
variable {w : World} {p bL bS bW : Nat} {s : St}
theorem new_int (n : Int) (h1 : 1 ≤ n) (h2 : n ≤ 160) :
    Calls Try.prog 6 #[.int .i64 n] w fun e w' => ∃ p bL bS bW, e = .returned (.pointer (some ⟨p, 0, none⟩)) ∧ DskS w' p bL bS bW (St.new n.toNat) ∧
      w.heap.size ≤ p ∧ w.heap.size ≤ bL ∧ w.heap.size ≤ bS ∧ w.heap.size ≤ bW ∧ Chg [] w w' := by
  obtain ⟨k, rfl⟩ := Int.eq_ofNat_of_zero_le (show 0 ≤ n by omega)
  rw [Int.toNat_natCast]
  exact new_yes k (by omega) (by omega)
end


end Go.Proofs.Ytddjgncdjdjgeaa
namespace Go.Proofs.Ytddjgncdjdjgeaa
open Go.RowKit
theorem gd_new (n : Nat) : Gd (St.new n) := by
  unfold Gd St.new
  simp only
  rw [zeros_len, show (falses n).length = n by simp [falses]]; omega
theorem newV (n : Nat) : (St.new n).V.length = n := by simp [St.new, falses]
theorem secV_new (n j : Nat) (hj : j < n) : secV (St.new n) j = zeros 64 := by
  unfold secV
  rw [newV]
  show sectL (zeros (n * 64)) n j = _
  rw [sect_zeros n (n * 64) j (by omega), if_pos hj]
theorem best_new (n : Nat) (h : 2 ≤ n) : bestK (St.new n).V.length (St.new n).S 2 = RV.zero := by
  rw [bestK_two, secV_new n 0 (by omega), secV_new n 1 (by omega), bestStep_no zeros_noroot, bestStep_no zeros_noroot]
end Go.Proofs.Ytddjgncdjdjgeaa
namespace Go.Proofs.Ytddjgncdjdjgeaa
open Go.RowKit
theorem Fr.lists {B : Nat} {w : World} {g n : Nat} {us : List Value} {ps : List (List UInt8)} (h : Fr B w g n us ps n) (h64 : ∀ l ∈ ps, l.length ≤ 1000) : Lists w us ps := by
  refine ⟨by rw [h.len, h.lenP], fun i v l hv hl => ?_⟩
  have hi : i < n := by rw [← h.lenP]; exact (List.getElem?_eq_some_iff.1 hl).1
  obtain ⟨x, h1, h2, _⟩ := h.at_ i hi l hl
  rw [hv] at h1
  injection h1 with h1
  exact ⟨_, _, _, h1, Bs.of_all h2 (by have := h64 l (List.mem_of_getElem? hl); omega)⟩
end Go.Proofs.Ytddjgncdjdjgeaa
namespace Go.Proofs.Ytddjgncdjdjgeaa
open Go.RowKit
def OpenPostX (w : World) (p bL bS bW : Nat) (ex : List Nat) (s : St) (e : Ending) (w' : World) : Prop :=
  ((bestK s.V.length s.S 2).epoch = 0 ∧ e = .returned (.tuple #[.pointer none, .int .i64 22]) ∧ Chg [] w w') ∨
  ((bestK s.V.length s.S 2).epoch = 4294967295 ∧ e = .returned (.tuple #[.pointer none, .int .i64 24]) ∧ Chg [] w w') ∨
  (0 < (bestK s.V.length s.S 2).epoch ∧ (bestK s.V.length s.S 2).epoch < 4294967295 ∧ ∃ g gN v, e = .returned (.tuple #[.pointer (some ⟨g, 0, none⟩), .int .i64 0]) ∧ w.heap.size ≤ g ∧ w.heap.size ≤ gN ∧
    Sto w' ⟨p, bL, bS, bW, g, gN, ex⟩ (ckS s (openV s (bestK s.V.length s.S 2))) (ckV (openV s (bestK s.V.length s.S 2))) v ∧ Chg [bL, bS, bW] w w')
section
variable {w : World} {p bL bS bW : Nat} {ex : List Nat} {s : St}
set_option maxHeartbeats 16000000 in
set_option maxRecDepth 100000 in
theorem open_ex (h : DskS w p bL bS bW s) (hx : ∀ i ∈ ex, i < w.heap.size) : Calls Try.prog 8 #[.pointer (some ⟨p, 0, none⟩)] w (OpenPostX w p bL bS bW ex s) := by
  have H := Lib.hid h
  have HEX := Lib.hid hx
  have hlt := bestK_lt s.V.length s.S 2
  have hrt := bestK_right s.V.length s.S 2
  have hbe := best_any h
  clear h hx
  obtain ⟨o, ho⟩ : ∃ o, o = bestK s.V.length s.S 2 := ⟨_, rfl⟩
  have HO := Lib.hid ho
  rw [← ho] at hlt hrt hbe
  have HLT := Lib.hid hlt
  have HRT := Lib.hid hrt
  have HBE := Lib.hid hbe
  clear ho hrt hbe
  go_enter Try.func8, Try.ntmps8
  go_wp2_with fail
  refine HBE.out.mono ?_
  rintro e w1 ⟨rfl, hc1⟩
  have HC1 := Lib.hid hc1
  unfold rootV
  clear hc1
  go_upto_region 4 with fail
  have hR := Whole.new w1 61 [.int .i64 (o.log : Int), .int .i64 (o.pages : Int), .int .u32 (o.epoch : Int)]
  have hal := (Chg.refl [] w1).alloc (.cells #[.int .i64 (o.log : Int), .int .i64 (o.pages : Int), .int .u32 (o.epoch : Int)] 61)
  have HC2 := Lib.hid (HC1.out.new hal)
  obtain ⟨gr, hgr⟩ : ∃ g, g = w1.heap.size := ⟨_, rfl⟩
  rw [← hgr] at hR ⊢
  generalize w1.alloc (.cells #[.int .i64 (o.log : Int), .int .i64 (o.pages : Int), .int .u32 (o.epoch : Int)] 61) = w2 at hR HC2 ⊢
  have HR2 := Lib.hid hR
  have r2 := hR.cell 2
  clear hR hal hgr
  by_cases h0 : o.epoch = 0
  · have q0 : decide (0 < o.epoch) = false := by simp [h0]
    have HP := Lib.hid (show OpenPostX w p bL bS bW ex s (.returned (.tuple #[.pointer none, .int .i64 22])) w2 from .inl ⟨by rw [← HO.out]; exact h0, rfl, HC2.out⟩)
    clear h0 hlt
    go_wp2_with fail
    go_ret2
    exact HP.out
  have q0 : decide (0 < o.epoch) = true := by simp; omega
  by_cases hF : o.epoch = 4294967295
  · have q1 : ((o.epoch : Int) == 4294967295) = true := by simp [hF]
    have HP := Lib.hid (show OpenPostX w p bL bS bW ex s (.returned (.tuple #[.pointer none, .int .i64 24])) w2 from .inr (.inl ⟨by rw [← HO.out]; exact hF, rfl, HC2.out⟩))
    clear h0 hlt hF
    go_wp2_with fail
    go_ret2
    exact HP.out
  have q1 : ((o.epoch : Int) == 4294967295) = false := by simp; omega
  have HE := Lib.hid (show 0 < o.epoch ∧ o.epoch < 4294967295 by omega)
  have hright : rightR (o.log : Int) (o.pages : Int) (o.epoch : Int) s.V.length = true := HRT.out.resolve_left h0
  have HRI := Lib.hid hright
  have hlp := rightR_true.1 hright
  have HLP := Lib.hid (show 1 ≤ o.log ∧ o.log ≤ 64 ∧ 1 ≤ o.pages ∧ o.pages ≤ 64 ∧ 2 + o.log + o.pages ≤ s.V.length by omega)
  clear h0 hF hlt hright hlp
  go_upto_region 8 with fail
  have HW2 := Lib.hid (Dsk.keep H.out HC2.out)
  have HAL := Lib.hid (show allL s o.log o.pages o.epoch = pagesL s o.log o.pages by unfold allL; rw [if_pos HRI.out, Int.toNat_natCast])
  clear r2 q0 q1
  have hC0 := (Chg.refl [] w2).drew
  refine wp_flow (by kernel_rfl) plainT plainT_ok (by kernel_rfl) ?_
  refine flow_move_out plainT_ok rfl rfl rfl ?_
  refine flow1h (r := rootV o.log o.pages o.epoch) plainT_ok rfl (.out rfl rfl) rfl (fun ev W he hW e1 => by have hx := HR2.out.keep (hC0.new hW); have r0 := hx.cell 0; have r1 := hx.cell 1; have r2 := hx.cell 2; clear hW hx; unfold rootV; go_simp) ?_
  refine flow_move_out plainT_ok rfl rfl rfl ?_
  refine flow1h (r := rootV o.log o.pages o.epoch) plainT_ok rfl (.out rfl rfl) rfl (fun ev W he hW e1 => by have hx := HR2.out.keep (hC0.new hW); have r0 := hx.cell 0; have r1 := hx.cell 1; have r2 := hx.cell 2; clear hW hx; unfold rootV; go_simp) ?_
  refine flow_calld (frmF w2.heap.size (pagesL s o.log o.pages)) (keeps_frm _ _) (.inr (keeps_frm _ _)) (by kernel_rfl) rfl (.cons (.inn rfl) (.cons (.inn rfl) .nil)) (fun W hW => (hall_any (Dsk.keep HW2.out (hC0.new hW)) o.log o.pages o.epoch).mono ?_) ?_
  · rintro e w' ⟨v, vs, rfl, ho, hrw, hc⟩
    rw [HAL.out] at ho hrw
    exact ⟨v, rfl, hc, vs, own_more ho (hC0.new hW).size, rows_more hrw (hC0.new hW).size⟩
  refine flow1 (r := .pointer (some ⟨gr, 1, none⟩)) plainT_ok rfl (.out rfl rfl) rfl (fun ev W he e1 => by go_simp) ?_
  refine flow1h (r := .int .i64 (o.pages : Int)) plainT_ok rfl (.inn rfl) rfl (fun ev W he hW e1 => by have r1 := (HR2.out.keep (hC0.new hW)).cell 1; clear hW; go_simp) ?_
  refine flow_op (namF w2.heap.size o.pages) (keeps_nam _ _) (.inr (keeps_nam _ _)) rfl (fun ev W he hW hfs => ?_) ?_
  · obtain ⟨f1, f2, _⟩ := hfs
    have e1 : ev (.tmp 29) = .int .i64 (o.pages : Int) := f1
    have hmk := make_bool o.pages (by have := HLP.out; omega) W
    have hr : (execOp ev ⟨some 30, .makeSlice 68 (.tmp 29) (.tmp 29), 68, "store.go:76", #[{ on := 6, ground := Ground.data }, { on := 6, ground := Ground.data }], none⟩).run Try.prog W = .ok (.value (.slice (some ⟨W.heap.size, 0, none⟩) o.pages o.pages)) (W.alloc (.cells (bls (falses o.pages)).toArray 4)) := by
      simp only [execOp, e1, Sem.run_bind, hmk]; rfl
    refine Eq.mpr (congrArg _ hr) ?_
    exact ⟨(Chg.refl [] W).alloc _, W.heap.size, rfl, Whole.new W _ _, (hC0.new hW).size⟩
  refine flow_op (bldF w2.heap.size p o (pagesL s o.log o.pages)) (keeps_bld _ _ _ _) (.inr (keeps_bld _ _ _ _)) rfl (fun ev W he hW hfs => ?_) ?_
  · obtain ⟨f1, f2, f3, f4, _⟩ := hfs
    have e1 : ev (.tmp 23) = .pointer (some ⟨p, 0, none⟩) := f1
    have e2 : ev (.tmp 24) = rootV o.log o.pages o.epoch := f2
    have f3' : frmF w2.heap.size (pagesL s o.log o.pages) (ev (.tmp 27)) W := f3
    have f4' : namF w2.heap.size o.pages (ev (.tmp 30)) W := f4
    obtain ⟨vs, ho, hrw⟩ := f3'
    obtain ⟨gN, e4, hN, hB⟩ := f4'
    have hr : (execOp ev ⟨some 31, .build 70 #[(0, .tmp 23), (1, .tmp 24), (2, .tmp 27), (3, .tmp 30)], 70, "store.go:76", #[{ on := 0, ground := Ground.data }, { on := 1, ground := Ground.data }, { on := 4, ground := Ground.data }, { on := 7, ground := Ground.data }], none⟩).run Try.prog W = .ok (.value (.agg (stoV p o (ev (.tmp 27)) gN).toArray)) W := by
      obtain ⟨A27, c27, e27, _⟩ := own_slice ho
      unfold rootV at e2
      unfold stoV
      go_simp
    refine Eq.mpr (congrArg _ hr) ?_
    exact ⟨Chg.refl [] W, ev (.tmp 27), vs, gN, rfl, ho, hrw, hN, hB⟩
  refine flow_op (boxF w2.heap.size p o (pagesL s o.log o.pages)) (keeps_box _ _ _ _) (.inr (keeps_box _ _ _ _)) rfl (fun ev W he hW hfs => ?_) ?_
  · obtain ⟨f1, _⟩ := hfs
    have f1' : bldF w2.heap.size p o (pagesL s o.log o.pages) (ev (.tmp 31)) W := f1
    obtain ⟨vP, vs, gN, e1, ho, hrw, hN, hB⟩ := f1'
    have hr : (execOp ev ⟨some 32, .box 70 (.tmp 31), 27, "store.go:76", #[{ on := 8, ground := Ground.data }], none⟩).run Try.prog W = .ok (.value (.pointer (some ⟨W.heap.size, 0, none⟩))) (W.alloc (.cells (stoV p o vP gN).toArray 70)) := by
      simp only [execOp, e1, Sem.run_bind, Instr.box, newVar, newRow, run_newObj_alloc, Sem.run_pure, Result.andThen_ok]
      rfl
    refine Eq.mpr (congrArg _ hr) ?_
    have hal := (Chg.refl [] W).alloc (.cells (stoV p o vP gN).toArray 70)
    exact ⟨hal, W.heap.size, vP, vs, gN, rfl, Whole.new W _ _, (hC0.new hW).size, own_keep ho hal, hrw.keep hal, hN.keep hal, hB⟩
  refine flow_assign plainT_ok rfl (keeps_box _ _ _ _) (.inr (keeps_box _ _ _ _)) rfl ?_
  intro vs8 W hW hF
  have h6 : boxF w2.heap.size p o (pagesL s o.log o.pages) (vs8 6) W := hF 6 _ rfl rfl
  have hcw := hC0.new hW
  obtain ⟨g, vP, us, gN, e6, hG, hgB, hO, hRW, hNM, hNB⟩ := h6
  simp only [putAll, Act.put, List.setIfInBounds_toArray, List.set_cons_zero, List.set_cons_succ]
  rw [e6]
  have HB2 := Lib.hid (show w.heap.size ≤ w2.heap.size from HC2.out.size)
  have HR3 := Lib.hid (HR2.out.keep hcw)
  have HC3 := Lib.hid (HC2.out.new hcw)
  have HW3 := Lib.hid (Dsk.keep HW2.out hcw)
  have HG3 := Lib.hid hG
  have HX3 := Lib.hid (And.intro hO (And.intro hRW hNM))
  have HGB := Lib.hid (And.intro hgB hNB)
  clear hF hW hcw hC0 e6 hG hgB hO hRW hNM hNB HR2 HC2 HW2
  obtain ⟨w3, hw3⟩ : ∃ w3 : World, w3 = W := ⟨_, rfl⟩
  rw [← hw3] at HR3 HC3 HW3 HG3 HX3 ⊢
  clear hw3
  have r0 := HR3.out.cell 0
  have r1 := HR3.out.cell 1
  have r2 := HR3.out.cell 2
  go_wp2_with fail
  refine (rec_any HW3.out o.log o.pages o.epoch).mono ?_
  rintro e w4 ⟨v4, vs4, rfl, ho4, hrc4, hc4⟩
  have HC4 := Lib.hid (HC3.out.new hc4)
  have HLT4 := Lib.hid (show g < w3.heap.size ∧ gN < w3.heap.size from ⟨HG3.out.lt, HX3.out.2.2.lt⟩)
  have HO4 := Lib.hid ho4
  have HRC := Lib.hid hrc4
  have hsto : Sto w4 ⟨p, bL, bS, bW, g, gN, ex⟩ s (homeV s o) vP := by
    have hD4 := Dsk.keep HW3.out hc4
    have hG4 := HG3.out.keep hc4
    have hN4 := HX3.out.2.2.keep hc4
    have h64 : ∀ l ∈ pagesL s o.log o.pages, l.length = 64 := fun l hl => by
      obtain ⟨i, hi, rfl⟩ := List.mem_map.1 hl
      have := List.mem_range.1 hi
      have := HLP.out
      exact sectL_len (Dsk.lenS H.out) (by rw [Int.toNat_natCast]; omega)
    have hlt : ∀ b, b < w.heap.size → b < w2.heap.size := fun b hb => Nat.lt_of_lt_of_le hb HB2.out
    have hT : ∀ i ∈ (SK.D ⟨p, bL, bS, bW, g, gN, ex⟩), i < w2.heap.size ∨ (∃ t cs, Whole w4 i t cs ∧ t ≠ 44 ∧ t ≠ 5) := fun i hi => by
      simp only [SK.D, List.mem_cons] at hi
      rcases hi with rfl | rfl | rfl | rfl | rfl | rfl | hi
      · exact .inl (hlt _ (Dsk.rec_ H.out).lt)
      · exact .inl (hlt _ (Dsk.last H.out).lt)
      · exact .inl (hlt _ (Dsk.seen H.out).lt)
      · exact .inl (hlt _ (Dsk.wait H.out).lt)
      · exact .inr ⟨_, _, hG4, by decide, by decide⟩
      · exact .inr ⟨_, _, hN4, by decide, by decide⟩
      · exact .inl (hlt _ (HEX.out _ hi))
    have hpg := Pgs.of_rows (T := SK.D ⟨p, bL, bS, bW, g, gN, ex⟩) (own_keep HX3.out.1 hc4) rfl (HX3.out.2.1.keep hc4) hT
    exact { dsk := hD4, rec_ := hG4, pgs := hpg, nm := hN4, ng := by have := hlt _ (Dsk.wait H.out).lt; have := HGB.out.2; show gN ≠ bW; omega, rt := HRI.out, ep := by have := HE.out; show o.epoch < _; omega, pl := pagesL_len s o.log o.pages, nl := by show (List.replicate o.pages false).length = o.pages; simp, p64 := h64, us := Nat.zero_le _, sq := by show 0 * 18 ≤ 0; omega, exl := fun i hi => Nat.lt_of_lt_of_le (HEX.out i hi) HC4.out.size }
  have HST := Lib.hid hsto
  obtain ⟨X, hX⟩ : ∃ X, X = recsS s o.log o.pages o.epoch := ⟨_, rfl⟩
  have HXE := Lib.hid hX
  rw [← hX] at HO4 HRC ⊢
  rw [← hX] at ho4
  obtain ⟨A4, c4, rfl, hl4, hcp4, hs4, hA4⟩ := own_slice ho4
  have HL4 := Lib.hid (And.intro hl4 hcp4)
  have hmx := own_max ho4
  obtain ⟨n, hn⟩ : ∃ n, n = X.1.length := ⟨_, rfl⟩
  have HN := Lib.hid hn
  rw [← hn] at HO4 hmx ⊢
  have HA4 := Lib.hid hA4
  clear hsto ho4 hrc4 hc4 hX hl4 hcp4 hs4 hA4 hn r0 r1 r2
  have HRR := Lib.hid (show ∀ m ∈ X.1, rightB (o.pages : Int) m = true by rw [HXE.out]; exact recF_right _ _)
  go_wp2_with fail
  go_loopw [41] (fun i wr => ∃ j : Nat, i = .int .i64 (j : Int) ∧ j ≤ n ∧ Hid (∃ v, Sto wr ⟨p, bL, bS, bW, g, gN, ex⟩ s ((X.1.take j).foldl turnV (homeV s o)) v) ∧ Hid (Chg [g, gN] w4 wr)) (fun i _ => n - (intOf i).toNat)
  case atStart => exact ⟨0, rfl, Nat.zero_le _, Lib.hid ⟨vP, HST.out⟩, Lib.hid (Chg.refl _ _)⟩
  case round =>
    obtain ⟨j, rfl, hj, HSr, HCr⟩ := hrel
    by_cases hlt : j < n
    · have hjI : (j : Int) < (n : Int) := by omega
      have hj0 : (0 : Int) ≤ (j : Int) := by omega
      have hjX : j < X.1.length := by rw [← HN.out]; exact hlt
      have hjv : j < vs4.length := by rw [HL4.out.1]; exact hjX
      have hT3 : ∀ i ∈ [g, gN], i < w3.heap.size ∨ w4.heap.size ≤ i := fun i hi => by
        simp only [List.mem_cons, List.not_mem_nil, or_false] at hi
        have := HLT4.out
        rcases hi with rfl | rfl <;> omega
      obtain ⟨A', c', e', _, _, hsr, _⟩ := own_slice (rown_chg HO4.out HCr.out hT3)
      injection e' with e' _ e2
      subst e' e2
      obtain ⟨ad, rfl, _, hcell⟩ := hsr (by rw [HL4.out.1]; omega)
      obtain ⟨b7, o7, s7⟩ := ad
      obtain rfl : s7 = none := (HA4.out _ rfl).1
      have hc := hcell j vs4[j] (List.getElem?_eq_getElem hjv)
      obtain ⟨ls, g1, g2, g3, g4⟩ := HRC.out.2 j vs4[j] X.1[j] (List.getElem?_eq_getElem hjv) (List.getElem?_eq_getElem hjX)
      have HRB := Lib.hid (HRR.out X.1[j] (List.getElem_mem hjX))
      have HNX := Lib.hid (fold_next turnV (homeV s o) X.1 j X.1[j] (List.getElem?_eq_getElem hjX))
      have g1' := rown_chg g1 HCr.out hT3
      have g2' : ∀ a ∈ ls, RMade wr w3.heap.size a := fun a ha => (g2 a ha).chg HCr.out hT3
      generalize vs4[j] = vv at hc g1'
      generalize X.1[j] = mj at g1' g3 g4 HRB HNX
      obtain ⟨A5, c5, e5, hl5, hch5, _, _, _⟩ := chs_own' g1' (fun a ha => (g2' a ha).ok)
      have hb5 := own_blk g1' e5
      subst e5
      obtain ⟨d, hd⟩ : ∃ d, d = mj.length := ⟨_, rfl⟩
      have hrb : rightB (o.pages : Int) ls = true := by rw [asC_rightB g4]; exact HRB.out
      have hrs : rightS (-1) (o.pages : Int) ls = true := by unfold rightB at hrb; rw [Bool.and_eq_true] at hrb; exact hrb.2
      obtain ⟨hr1, hr2⟩ := rs_len hrs (by have := HLP.out; omega)
      have hd64 : d ≤ 64 := by have := HLP.out; omega
      obtain ⟨vr, hst⟩ := HSr.out
      have hxP : ((X.1.take j).foldl turnV (homeV s o)).P = o.pages := (turn_same _ _).2.1
      have hin : InP ((X.1.take j).foldl turnV (homeV s o)).P ls := fun a ha => by
        rw [hxP]
        exact ⟨by have := (hr2 a ha).1; omega, (hr2 a ha).2.1, (g2' a ha).bl⟩
      have HTU := Lib.hid (turn_any (d := c5) hst hch5 (hl5.trans hd.symm) (by omega) hin (fun ad e hm => by
        have h1 := hb5 ad e
        have h2 := HLT4.out
        simp only [List.mem_cons, List.not_mem_nil, or_false] at hm
        rcases hm with h | h <;> (rw [h] at h1; have h1' : w3.heap.size ≤ _ := h1; omega)))
      rw [← hd] at hc
      have HKV := Lib.hid (turnV_key ((X.1.take j).foldl turnV (homeV s o)) g4.1)
      rw [add_plain] at hc
      clear hcell hsr g1 g2 g3 g4 g1' g2' hb5 hl5 hch5 hd hrb hrs hr1 hr2 hd64 hst hxP hin hjX hjv hT3
      go_wp2_with fail
      refine HTU.out.mono ?_
      rintro e w5 ⟨rfl, ⟨v5, hs5⟩, hc5⟩
      have HS5 := Lib.hid (show ∃ v, Sto w5 ⟨p, bL, bS, bW, g, gN, ex⟩ s ((X.1.take (j + 1)).foldl turnV (homeV s o)) v from ⟨v5, by rw [HNX.out, ← HKV.out]; exact hs5⟩)
      have HC5 := Lib.hid (HCr.out.trans hc5)
      clear hs5 hc5
      go_wp2_with fail
      go_roundw
      case rel => exact ⟨j + 1, by go_num, by omega, HS5, HC5⟩
      case measure => simp [intOf]; omega
    · obtain rfl : n = j := by omega
      have hjI : ¬ (n : Int) < (n : Int) := by omega
      obtain ⟨vr, hst⟩ := HSr.out
      have ht : (X.1.take n).foldl turnV (homeV s o) = openV s o := by rw [HN.out, List.take_length, HXE.out]; rfl
      rw [ht] at hst
      have hxE : (openV s o).E = o.epoch := (turn_same _ _).2.2.1
      have HCK := Lib.hid (checkpoint_any hst (by rw [hxE]; exact HE.out.2))
      clear hst ht hxE
      go_wp2_with fail
      refine HCK.out.mono ?_
      rintro e w5 ⟨rfl, ⟨v5, hs5⟩, hc5⟩
      have HP := Lib.hid (show OpenPostX w p bL bS bW ex s (.returned (.tuple #[.pointer (some ⟨g, 0, none⟩), .int .i64 0])) w5 from .inr (.inr (by
        rw [← HO.out]
        have hg1 := HGB.out
        have hg2 := HB2.out
        refine ⟨HE.out.1, HE.out.2, g, gN, v5, rfl, by omega, by omega, hs5, ?_⟩
        have h1 : Chg [bL, bS, bW] w w4 := HC4.out.sub (fun _ h => by cases h)
        have h2 := h1.then_ HCr.out (fun i hi hw => by
          simp only [List.mem_cons, List.not_mem_nil, or_false] at hi
          rcases hi with rfl | rfl <;> omega)
        exact h2.then_ hc5 (fun i hi hw => by
          simp only [SK.W, List.mem_cons, List.not_mem_nil, or_false] at hi ⊢
          rcases hi with h | h | h | rfl | rfl
          · exact .inl h
          · exact .inr (.inl h)
          · exact .inr (.inr h)
          · omega
          · omega))))
      clear hs5 hc5
      go_wp2_with fail
      go_ret2
      exact HP.out
end
/-- Blocks of others are written. -/
theorem Sto.pasts {w w' : World} {k : SK} {s : St} {x : SV} {vP : Value} (h : Sto w k s x vP) {T : List Nat} (hc : Chg T w w') (hq : ∀ i ∈ T, i ∈ k.ex) (hn : ∀ i ∈ [k.p, k.bL, k.bS, k.bW, k.g, k.gN], i ∉ T) : Sto w' k s x vP := by
  exact { h with dsk := Dsk.away h.dsk hc (hn _ (by simp)) (hn _ (by simp)) (hn _ (by simp)) (hn _ (by simp)), rec_ := h.rec_.chg hc (hn _ (by simp)), nm := h.nm.chg hc (hn _ (by simp)), exl := fun i hi => Nat.lt_of_lt_of_le (h.exl i hi) hc.size, pgs := h.pgs.chg hc (fun i hi => by simp only [SK.D, List.mem_cons]; exact .inr (.inr (.inr (.inr (.inr (.inr (hq _ hi))))))) }
end Go.Proofs.Ytddjgncdjdjgeaa
