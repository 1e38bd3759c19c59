/-
  K: Sto12, Sto13.
-/
import Derived.Test.YtddjgncdjdjgeaaZK6
import Derived.Test.YtddjgncdjdjgeaaZK31
namespace Go.Proofs.Ytddjgncdjdjgeaa
open Go.RowKit
theorem secV_apS {s : St} {a : Nat} {b : List UInt8} (h : a + b.length ≤ s.S.length) (q : Nat) (hq : (q + 1) * 64 ≤ a ∨ a + b.length ≤ q * 64) : secV (apS s a b) q = secV s q := by
  unfold secV
  rw [apS_V]
  show sectL (splice s.S a b) _ q = _
  have e : splice s.S a b = s.S.take a ++ (b ++ s.S.drop (a + b.length)) := by unfold splice; simp
  have l1 : (s.S.take a).length = a := by rw [List.length_take]; omega
  unfold sectL
  split
  · rw [e]
    rcases hq with hq | hq
    · rw [List.drop_append_of_le_length (by omega), List.take_append_of_le_length (by rw [List.length_drop]; omega), List.drop_take, List.take_take, Nat.min_eq_left (by omega)]
    · rw [List.drop_append, List.drop_of_length_le (by omega), List.nil_append, l1, List.drop_append, List.drop_of_length_le (by omega), List.nil_append, List.drop_drop, show a + b.length + (q * 64 - a - b.length) = q * 64 by omega]
  · rfl
theorem Gd.apS {s : St} (h : Gd s) {a : Nat} {b : List UInt8} (hb : a + b.length ≤ s.S.length) : Gd (apS s a b) := by
  unfold Gd
  rw [apS_V]
  show (splice s.S a b).length = _
  rw [splice_len _ _ _ hb]; exact h
/-- .. whose log has no more than its records. -/
structure KeptZ (s : St) (x : SV) (ms : List (List ChV)) : Prop where
  k : Kept s x ms
  z : LogZ s x.L x.P x.E ms x.used
  q : x.seq = ms.length
theorem fold_snoc (ms : List (List ChV)) (m : List ChV) (y : SV) : (ms ++ [m]).foldl turnV y = turnV (ms.foldl turnV y) m := by rw [List.foldl_append]; rfl
theorem KeptZ.com {s : St} {x : SV} {ms : List (List ChV)} {m : List ChV} (h : KeptZ s x ms) (hm : InL x.P m) (hf : x.used + (18 + 66 * m.length) ≤ x.L * 64) : KeptZ (comS s x m) (comV x m) (ms ++ [m]) := by
  have h1 := rightR_true.1 h.k.rt
  have hl : (comL x m).length = 18 + 66 * m.length := by unfold comL; rw [frameL_len, back_len hm.1]; omega
  have hgd := h.k.gd
  have hb : 128 + x.used + (comL x m).length ≤ s.S.length := by unfold Gd at hgd; omega
  have hV : (comS s x m).V.length = s.V.length := apS_V _ _ _
  have hs : ∀ q, q < 2 ∨ 2 + x.L ≤ q → secV (comS s x m) q = secV s q := fun q hq => secV_apS hb q (by rcases hq with hq | hq <;> omega)
  have hz := h.z.com hgd (by omega) h.q hm hf
  have hrt : rightR x.L x.P x.E (comS s x m).V.length = true := by rw [hV]; exact h.k.rt
  have hpg : pagesL (comS s x m) x.L x.P = pagesL s x.L x.P := ext_getD (by rw [pagesL_len, pagesL_len]) (fun i hi => by
    rw [pagesL_len] at hi
    rw [pagesL_at _ _ _ _ hi, pagesL_at _ _ _ _ hi, hs _ (by omega)])
  have hhv : homeV (comS s x m) ⟨x.L, x.P, x.E⟩ = homeV s ⟨x.L, x.P, x.E⟩ := by unfold homeV; simp only; rw [hpg]
  have hins : ∀ y ∈ ms ++ [m], InL x.P y := fun y hy => by
    rcases List.mem_append.1 hy with hy | hy
    · exact h.k.ins y hy
    · simp only [List.mem_cons, List.not_mem_nil, or_false] at hy
      subst hy; exact hm
  refine ⟨{ gd := hgd.apS hb, rt := hrt, ep := h.k.ep, best := ?_, recs := fun y => hz.recT hrt h.k.ep y, ins := hins, pages := ?_, named := ?_ }, hz, by show x.seq + 1 = _; rw [h.q, List.length_append]; rfl⟩
  · rw [bestK_two, hV, hs 0 (by omega), hs 1 (by omega), ← bestK_two]
    exact h.k.best
  · show applyL x.pages m = ((ms ++ [m]).foldl turnV (homeV (comS s x m) ⟨x.L, x.P, x.E⟩)).pages
    rw [fold_snoc, hhv, h.k.pages]; rfl
  · show nameL x.named m = ((ms ++ [m]).foldl turnV (homeV (comS s x m) ⟨x.L, x.P, x.E⟩)).named
    rw [fold_snoc, hhv, h.k.named]; rfl
theorem KeptZ.flA {s : St} {x : SV} {ms : List (List ChV)} (h : KeptZ s x ms) : KeptZ (flA s) x ms := ⟨h.k.flA, h.z.flA, h.q⟩
/-- A disk that was formatted, and opened. -/
theorem kept_fmt {s : St} (h : Gd s) (L P : Nat) (hr : rightR L P 1 s.V.length = true) : Kept (fmt s L P) (homeV (fmt s L P) ⟨L, P, 1⟩) [] ∧ LogZ (fmt s L P) L P 1 [] 0 := by
  have h1 := rightR_true.1 hr
  have hz : LogZ (fmt s L P) L P 1 [] 0 := LogZ.none (by rw [fmt_len]; omega) (fun j hj1 hj2 => by rw [secV_fmt h L P (by omega) j (by omega), if_neg (by omega)])
  have hr' : rightR L P (1 : Nat) (fmt s L P).V.length = true := by rw [fmt_len]; exact hr
  refine ⟨{ gd := h.fmt L P (by omega), rt := hr', ep := by show 1 < _; omega, best := best_fmt h L P hr, recs := fun y => hz.recT hr' (by omega) y, ins := fun m hm => (by cases hm), pages := rfl, named := rfl }, hz⟩
theorem kept_new {s : St} (h : Gd s) (L P : Nat) (hr : rightR L P 1 s.V.length = true) : KeptZ (ckS (fmt s L P) (openV (fmt s L P) ⟨L, P, 1⟩)) (ckV (openV (fmt s L P) ⟨L, P, 1⟩)) [] := by
  have h1 := rightR_true.1 hr
  obtain ⟨hk, hz⟩ := kept_fmt h L P hr
  have ho := hk.open_
  have hlog := hz.log
  have hc := hk.ck _ ho (by show 1 + 1 < _; omega) (by show ¬ readOk (logB (fmt s L P) L) 2 0; rw [hlog]; exact zeros_noF (by omega))
  obtain ⟨o1, o2, o3, o4, o5⟩ := ho
  obtain ⟨l1, l2, l3⟩ := hk.lens
  have o3' : (openV (fmt s L P) ⟨L, P, 1⟩).L = L := o3
  have o4' : (openV (fmt s L P) ⟨L, P, 1⟩).P = P := o4
  have o5' : (openV (fmt s L P) ⟨L, P, 1⟩).E = 1 := o5
  refine ⟨hc, ?_, rfl⟩
  refine LogZ.none (by rw [ckS_len, fmt_len]; show 2 + (openV (fmt s L P) ⟨L, P, 1⟩).L ≤ _; rw [o3']; omega) (fun j hj1 hj2 => ?_)
  have hj2' : j < 2 + L := by rw [← o3']; exact hj2
  have hgf := hk.gd
  rw [secV_ckS hgf (by rw [o3', o4', o5', fmt_len]; exact hr) (by rw [o4']; exact (congrArg List.length o1).trans l1) (fun l hl => l3 l (by rw [← o1]; exact hl)), if_neg (by omega), if_neg (by rw [o3']; omega), secV_fmt h L P (by omega) j (by omega), if_neg (by omega)]
/-- Behind a Flush nothing waits. -/
theorem flush_false (s : St) : ∀ i j, j < i → (s.flush i).V.getD j false = false
  | i + 1, j, hj => by
    show ((s.flush i).V.set i false).getD j false = false
    by_cases e : i = j
    · subst e
      rcases Nat.lt_or_ge i (s.flush i).V.length with hb | hb
      · exact getD_set_eq _ _ _ _ hb
      · rw [List.getD_eq_getElem?_getD, List.getElem?_eq_none (by rw [List.length_set]; omega)]; rfl
    · rw [getD_set_ne _ _ _ _ _ e]
      exact flush_false s i j (by omega)
theorem wl_flA (s : St) : wl (flA s).V (flA s).V.length = [] := by
  unfold wl
  rw [List.filter_eq_nil_iff]
  intro j hj
  have := List.mem_range.1 hj
  rw [flA_len] at this
  have h := flush_false s s.V.length j this
  unfold flA
  rw [h]; decide
section
variable {w : World} {p bL bS bW : Nat} {s : St}
theorem crash_flA (h : DskS w p bL bS bW (flA s)) : Calls Try.prog 19 #[.pointer (some ⟨p, 0, none⟩), .slice none 0 0] w fun e w' => e = .returned (.int .i64 0) ∧ DskS w' p bL bS bW (flA s) ∧ Chg [bL, bS, bW] w w' := by
  refine (crash_any h (A := none) (n := 0) (c := 0) (cuts := []) rfl (fun h => absurd h (by simp [nms])) (fun h => absurd h (by simp)) (fun h => absurd h (by simp)) (by omega)).mono ?_
  rintro e w' ⟨rfl, hd, hc⟩
  refine ⟨by rw [wl_flA]; rfl, ?_, hc⟩
  rw [wl_flA] at hd
  exact hd
end
end Go.Proofs.Ytddjgncdjdjgeaa
namespace Go.Proofs.Ytddjgncdjdjgeaa
open Go.RowKit
theorem flat_le : ∀ (ps : List (List UInt8)), (∀ l ∈ ps, l.length ≤ 1000) → ps.flatten.length ≤ ps.length * 1000
  | [], _ => by simp
  | a :: ps, h => by
    have h1 := flat_le ps fun l hl => h l (List.mem_cons_of_mem _ hl)
    have h2 := h a List.mem_cons_self
    rw [List.flatten_cons, List.length_append, List.length_cons]; omega
theorem strOf_sz (l : List UInt8) : (strOf l).size = l.length := by simp [strOf, ByteArray.size]
section
variable {w : World} {A : Option Addr} {n c : Nat} {us : List Value} {ps : List (List UInt8)}
theorem strOf_add (a b : List UInt8) : strOf a ++ strOf b = strOf (a ++ b) := by
  apply ByteArray.ext
  simp [strOf, ByteArray.data_append]
set_option maxHeartbeats 2000000 in
set_option maxRecDepth 100000 in
theorem join_any (hA : Src w A us) (hsp : ∀ ad, A = some ad → ad.spot = none) (hl : us.length = n) (hp : ps.length = n) (hn : n ≤ 1000) (hli : Lists w us ps) (h64 : ∀ l ∈ ps, l.length ≤ 1000) :
    Calls Try.prog 11 #[.slice A n c] w (fun e w' => e = .returned (.string (strOf ps.flatten)) ∧ Chg [] w w') := by
  have HA := Lib.hid hA
  have HSP := Lib.hid hsp
  have HLI := Lib.hid hli
  have H64 := Lib.hid h64
  have HL := Lib.hid hl
  have HP := Lib.hid hp
  clear hA hsp hli h64 hl hp
  go_enter Try.func11, Try.ntmps11
  go_wp2_with fail
  go_loopw [3, 7] (fun t i wr => ∃ j : Nat, i = .int .i64 (j : Int) ∧ j ≤ n ∧ t = .string (strOf (ps.take j).flatten) ∧ Hid (Chg [] w wr)) (fun _ i _ => n - (intOf i).toNat)
  case atStart => exact ⟨0, rfl, Nat.zero_le _, rfl, Lib.hid (Chg.refl _ _)⟩
  case round =>
    obtain ⟨j, rfl, hj, rfl, HCr⟩ := hrel
    by_cases hlt : j < n
    · have hjI : (j : Int) < (n : Int) := by omega
      have hj0 : (0 : Int) ≤ (j : Int) := by omega
      have hju : j < us.length := by rw [HL.out]; exact hlt
      have hjp : j < ps.length := by rw [HP.out]; exact hlt
      obtain ⟨ad, rfl, _, hcell⟩ := (HA.out.keep HCr.out) (by omega)
      obtain ⟨b7, o7, s7⟩ := ad
      obtain rfl : s7 = none := HSP.out _ rfl
      have hc := hcell j us[j] (List.getElem?_eq_getElem hju)
      obtain ⟨A', n', c', e5, hB⟩ := (HLI.out.keep HCr.out).2 j us[j] ps[j] (List.getElem?_eq_getElem hju) (List.getElem?_eq_getElem hjp)
      rw [e5, add_plain] at hc
      have HT := Lib.hid (show (ps.take (j + 1)).flatten = (ps.take j).flatten ++ ps[j] by rw [List.take_succ_eq_append_getElem hjp, List.flatten_append]; simp)
      have hf1 : (ps.take j).flatten.length ≤ 1000000 := by
        have h1 := flat_le (ps.take j) (fun l hl => H64.out l (List.mem_of_mem_take hl))
        rw [List.length_take] at h1; omega
      have hf2 := H64.out ps[j] (List.getElem_mem hjp)
      generalize (ps.take j).flatten = l1 at *
      generalize ps[j] = l2 at *
      have HCE := Lib.hid hc
      have HB := Lib.hid hB
      clear hcell e5 hB hc hju hjp
      have hcv := HB.out.str (P := Try.prog) 44 5 9 Try.underlying44 Try.underlying5 Try.underlying9
      have q0 := HCE.out
      have hadd := strOf_add l1 l2
      have hz1 := strOf_sz l1
      have hz2 := strOf_sz l2
      have hz3 : ¬ maxLen < (strOf l1).size + (strOf l2).size := by unfold maxLen; omega
      have hz4 : (strOf l1).size + (strOf l2).size ≤ maxLen := by omega
      go_wp2_with fail
      go_roundw
      case rel => exact ⟨j + 1, by go_num, by omega, by rw [HT.out], HCr⟩
      case measure => simp [intOf]; omega
    · obtain rfl : n = j := by omega
      have hjI : ¬ (n : Int) < (n : Int) := by omega
      have HE := Lib.hid (show (ps.take n).flatten = ps.flatten by rw [← HP.out, List.take_length])
      rw [HE.out]
      go_wp2_with fail
      go_ret
      exact ⟨rfl, HCr.out⟩
end
section
set_option maxHeartbeats 2000000 in
set_option maxRecDepth 100000 in
theorem sector18_any {w : World} (x : UInt8) : Calls Try.prog 43 #[.int .u8 (x.toNat : Int)] w (fun e w' => e = .returned (.slice (some ⟨w.heap.size, 0, none⟩) 64 64) ∧ Whole w' w.heap.size 5 (bts ((zeros 64).set 0 x)) ∧ Chg [] w w') := by
  have hmk := make_z64 w
  go_enter Try.func43, Try.ntmps43
  have hX := x.toNat_lt
  go_wp2_with fail
  have hal := (Chg.refl [] w).alloc (.cells (bts (zeros 64)).toArray 5)
  have hW := Whole.new w 5 (bts (zeros 64))
  go_ret
  have e : (bts (zeros 64)).set 0 (.int .u8 (x.toNat : Int)) = bts ((zeros 64).set 0 x) := bts_set (zeros 64) 0 x
  rw [e]
  exact ⟨rfl, Whole.new w _ _, (Chg.refl [] w).alloc _⟩
end
end Go.Proofs.Ytddjgncdjdjgeaa
