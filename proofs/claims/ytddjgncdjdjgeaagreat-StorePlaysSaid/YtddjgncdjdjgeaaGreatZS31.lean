/-
  S: Sto8, Sto9, Sto10.
-/
import Derived.Test.YtddjgncdjdjgeaaGreatZS16
import Derived.Test.YtddjgncdjdjgeaaGreatZS25
namespace Go.Proofs.YtddjgncdjdjgeaaGreat
open Go.RowKit
section
variable {w : World} {k : SK} {s : St} {x : SV} {vP : Value}
set_option maxHeartbeats 1000000 in
set_option maxRecDepth 100000 in
theorem used_any (h : Sto w k s x vP) : Calls Tryz.prog 64 #[.pointer (some ⟨k.g, 0, none⟩)] w fun e w' => e = .returned (.int .i64 (x.used : Int)) ∧ Chg [] w w' := by
  have c := h.rec_.cell 6
  go_enter Tryz.func64, Tryz.ntmps64
  go_wp2_with fail
  go_ret
  exact ⟨rfl, Chg.refl _ _⟩
set_option maxHeartbeats 1000000 in
set_option maxRecDepth 100000 in
theorem seq_any (h : Sto w k s x vP) : Calls Tryz.prog 65 #[.pointer (some ⟨k.g, 0, none⟩)] w fun e w' => e = .returned (.int .u32 (x.seq : Int)) ∧ Chg [] w w' := by
  have c := h.rec_.cell 7
  go_enter Tryz.func65, Tryz.ntmps65
  go_wp2_with fail
  go_ret
  exact ⟨rfl, Chg.refl _ _⟩
set_option maxHeartbeats 1000000 in
set_option maxRecDepth 100000 in
theorem sroot_any (h : Sto w k s x vP) : Calls Tryz.prog 63 #[.pointer (some ⟨k.g, 0, none⟩)] w fun e w' => e = .returned (rootV x.L x.P x.E) ∧ Chg [] w w' := by
  go_enter Tryz.func63, Tryz.ntmps63
  go_upto_region 1 with fail
  have hal := (Chg.refl [] w).alloc (.cells #[.int .i64 0, .int .i64 0, .int .u32 0] 58)
  have hr := h.rec_.keep hal
  have c1 := hr.cell 1
  have c2 := hr.cell 2
  have c3 := hr.cell 3
  have hR := Whole.new w 58 [.int .i64 0, .int .i64 0, .int .u32 0]
  have d0 := hR.cell 0
  have d1 := hR.cell 1
  have d2 := hR.cell 2
  have f0 := hR.frozen 0
  have f1 := hR.frozen 1
  have f2 := hR.frozen 2
  have hn : w.heap.size ≤ w.heap.size := Nat.le_refl _
  generalize w.alloc (.cells #[.int .i64 0, .int .i64 0, .int .u32 0] 58) = w1 at *
  obtain ⟨gr, hgr⟩ : ∃ g, g = w.heap.size := ⟨_, rfl⟩
  rw [← hgr] at hR d0 d1 d2 f0 f1 f2 ⊢
  have HS := Lib.hid ((hR.set_ 0 (.int .i64 (x.L : Int))).set_ 1 (.int .i64 (x.P : Int)) |>.set_ 2 (.int .u32 (x.E : Int)))
  have hnl : ¬ gr < w.heap.size := by omega
  have HC := Lib.hid (((hal.setCell (p := ⟨gr, 0, none⟩) (fun h => absurd h hnl) (.int .i64 (x.L : Int))).setCell (p := ⟨gr, 1, none⟩) (fun h => absurd h hnl) (.int .i64 (x.P : Int))).setCell (p := ⟨gr, 2, none⟩) (fun h => absurd h hnl) (.int .u32 (x.E : Int)))
  clear hal hr hR hgr hnl hn h
  go_wp2_with fail
  refine bodyPost_ret_by (results_cell_row rfl _ _ gr 58 #[.int .i64 x.L, .int .i64 x.P, .int .u32 x.E] (0, 0) _ rfl HS.out Tryz.underlying58 rfl (by kernel_rfl)) rfl ⟨rfl, HC.out⟩
def SyncPost (w : World) (k : SK) (s : St) (x : SV) (vP : Value) (e : Ending) (w' : World) : Prop := e = .returned (.tuple #[]) ∧ Sto w' k (flA s) x vP ∧ Chg [k.bL, k.bS, k.bW] w w'
set_option maxHeartbeats 1000000 in
set_option maxRecDepth 100000 in
theorem sync_any (h : Sto w k s x vP) : Calls Tryz.prog 27 #[.pointer (some ⟨k.g, 0, none⟩)] w (SyncPost w k s x vP) := by
  have c := h.rec_.cell 0
  have H := Lib.hid h
  clear h
  go_enter Tryz.func27, Tryz.ntmps27
  go_wp2_with fail
  refine (flush_any H.out.dsk).mono ?_
  rintro e w2 ⟨rfl, hd2, hc2⟩
  have HP := Lib.hid (show SyncPost w k s x vP (.returned (.tuple #[])) w2 from ⟨rfl, H.out.disk_ hd2 hc2 (flA_len s), hc2⟩)
  clear c
  go_wp2_with fail
  go_end0
  exact HP.out
end
section
variable {w : World} {k : SK} {s : St} {x : SV} {vP : Value}
def AllPost (w : World) (x : SV) (e : Ending) (w' : World) : Prop := ∃ g us, e = .returned (.slice (some ⟨g, 0, none⟩) x.P x.P) ∧ Fr w.heap.size w' g x.P us x.pages x.P ∧ w.heap.size ≤ g ∧ Chg [] w w'
set_option maxHeartbeats 1000000 in
set_option maxRecDepth 100000 in
theorem sall_any (h : Sto w k s x vP) : Calls Tryz.prog 66 #[.pointer (some ⟨k.g, 0, none⟩)] w (AllPost w x) := by
  obtain ⟨A, c, us, rfl, hcp, hsrc, hul, hsp, hli⟩ := h.pgs.lists
  have hP64 : x.P ≤ 64 := by have := rightR_true.1 h.rt; omega
  have hap := apply_any (d := 0) (c := c) (C := none) (m := 0) (ls := []) hsrc (fun _ ad e => hsp ad e) hul (by rw [h.pl]; omega) hli (fun l hl => by have := h.p64 l hl; omega) ⟨fun h => absurd h (by simp), fun a ha => by simp at ha⟩ rfl (by omega) (fun a ha => by simp at ha)
  have HAP := Lib.hid hap
  have H := Lib.hid h
  have e4 := h.rec_.cell 4
  clear hap h hsrc hul hsp hli hcp
  go_enter Tryz.func66, Tryz.ntmps66
  go_wp2_with fail
  refine HAP.out.mono ?_
  rintro e w2 ⟨gp, us2, rfl, hfr, hgp, hc2⟩
  rw [show applyL x.pages [] = x.pages from rfl, H.out.pl] at hfr
  rw [show applyL x.pages [] = x.pages from rfl, H.out.pl]
  have HP := Lib.hid (show AllPost w x (.returned (.slice (some ⟨gp, 0, none⟩) x.P x.P)) w2 from ⟨gp, us2, rfl, hfr, hgp, hc2⟩)
  clear e4 hfr hgp hc2
  go_wp2_with fail
  go_ret
  exact HP.out
end
section
variable {w : World} {k : SK} {s : St} {x : SV} {vP : Value}
set_option maxHeartbeats 1000000 in
set_option maxRecDepth 100000 in
theorem spage_any (h : Sto w k s x vP) (i : Nat) (hi : i < x.P) : Calls Tryz.prog 67 #[.pointer (some ⟨k.g, 0, none⟩), .int .i64 (i : Int)] w (BytesPost w (x.pages.getD i [])) := by
  obtain ⟨A, c, us, rfl, hcp, hpg⟩ := h.pgs
  have hpl := h.pl
  obtain ⟨pb, po, A', n', c', rfl, hrow, hbs⟩ := PgR.row (show PgR k.D w A us x.pages from hpg) (i := i) (by rw [h.pl]; exact hi)
  have hgd : x.pages.getD i [] = x.pages[i]'(by rw [h.pl]; exact hi) := by rw [List.getD_eq_getElem?_getD, List.getElem?_eq_getElem (by rw [h.pl]; exact hi)]; rfl
  have h64 := h.p64 _ (List.getElem_mem (l := x.pages) (n := i) (by rw [h.pl]; exact hi))
  rw [hgd]
  have hP64 : x.P ≤ 64 := by have := rightR_true.1 h.rt; omega
  have hr := h.rec_
  rw [hpl] at hr hcp
  have e4 := hr.cell 4
  generalize x.pages[i]'(by rw [h.pl]; exact hi) = l at hbs h64 ⊢
  obtain ⟨i0, hi0, hz, hs1, hb⟩ := info_parts info_u8
  have hl := Lib.hid (bts_len l)
  have h1 := bts_one l
  have hn' : n' = l.length := hbs.len.symm
  subst hn'
  have x1 := Lib.hid (show 0 + l.length ≤ maxLen by unfold maxLen; omega)
  have x2 := Lib.hid (show (0 + l.length) * 1 ≤ 140737488355328 by omega)
  have hsr := hbs.src
  have hiI : (i : Int) < (x.P : Int) := by omega
  have hiI0 : (0 : Int) ≤ (i : Int) := by omega
  have hiN : ¬ x.P ≤ i := by omega
  clear h hpg hr hgd h64 hbs hpl
  go_enter Tryz.func67, Tryz.ntmps67
  go_wp2_with (at_builtin
               refine wpList_append_src rfl (.const (.slice none 0 0)) (.tmp 22) 30 rfl w.heap.size 5 i0 _ 1 Tryz.underlying30 hi0 hz hs1 hb cells_u8 (.slice none 0 0) 0 [] rfl (own_nil _ _ _) A' l.length c' (bts l) rfl hl.out hsr h1 x1.out x2.out (Nat.le_refl _) ?_
               intro v4 w4 ho4 hg4 _)
  go_ret
  rw [Nat.zero_add, List.nil_append] at ho4
  exact ⟨v4, rfl, ho4, Chg.of_grown hg4 (fun g hg => by simp [Value.ownBlock] at hg)⟩
end
end Go.Proofs.YtddjgncdjdjgeaaGreat
namespace Go.Proofs.YtddjgncdjdjgeaaGreat
open Go.RowKit
def Gd (s : St) : Prop := s.S.length = 64 * s.V.length
def secV (s : St) (j : Nat) : List UInt8 := sectL s.S s.V.length j
theorem setS_64 (L S : List UInt8) (k : Nat) : setS L S k 64 = S := by
  unfold setS
  rw [show 64 - 64 = 0 from rfl, List.take_zero]
  unfold splice
  simp
theorem flush_S (s : St) : ∀ i, (s.flush i).S = s.S
  | 0 => rfl
  | i + 1 => by
    show setS (s.flush i).L (s.flush i).S i 64 = s.S
    rw [setS_64, flush_S s i]
theorem flA_S (s : St) : (flA s).S = s.S := flush_S s _
theorem Gd.flA {s : St} (h : Gd s) : Gd (flA s) := by unfold Gd; rw [flA_S, flA_len]; exact h
theorem Gd.write {s : St} (h : Gd s) {q : Nat} {x : List UInt8} (hq : q < s.V.length) (hx : x.length = 64) : Gd (s.write q x) := by
  unfold Gd at *
  rw [write_len]
  show (splice s.S (q * 64) x).length = _
  unfold splice
  simp only [List.length_append, List.length_take, List.length_drop, hx]
  omega
theorem secV_write {s : St} (h : Gd s) {q : Nat} {x : List UInt8} (hq : q < s.V.length) (hx : x.length = 64) (j : Nat) : secV (s.write q x) j = if j = q then x else secV s j := by
  unfold secV
  rw [write_len]
  show sectL (splice s.S (q * 64) x) _ j = _
  by_cases e : j = q
  · subst e; rw [if_pos rfl]; exact sect_same h hq hx
  · rw [if_neg e]; exact sect_other h hq hx e
theorem secV_flA (s : St) (j : Nat) : secV (flA s) j = secV s j := by unfold secV; rw [flA_S, flA_len]
theorem zeros64_len : (zeros 64).length = 64 := zeros_len 64
theorem Gd.wipeN {s : St} (h : Gd s) (a : Nat) : ∀ k, a + k ≤ s.V.length → Gd (wipeN s a k)
  | 0, _ => h
  | k + 1, hk => (Gd.wipeN h a k (by omega)).write (by rw [wipeN_len]; omega) zeros64_len
theorem secV_wipeN {s : St} (h : Gd s) (a : Nat) : ∀ k, a + k ≤ s.V.length → ∀ j, secV (wipeN s a k) j = if a ≤ j ∧ j < a + k then zeros 64 else secV s j
  | 0, _, j => by rw [if_neg (by omega)]; rfl
  | k + 1, hk, j => by
    show secV ((wipeN s a k).write (a + k) (zeros 64)) j = _
    rw [secV_write (Gd.wipeN h a k (by omega)) (by rw [wipeN_len]; omega) zeros64_len, secV_wipeN h a k (by omega)]
    by_cases e : j = a + k
    · rw [if_pos e, if_pos (by omega)]
    · rw [if_neg e]
      by_cases e2 : a ≤ j ∧ j < a + k
      · rw [if_pos e2, if_pos (by omega)]
      · rw [if_neg e2, if_neg (by omega)]
theorem Gd.putR {s : St} (h : Gd s) (L P E : Nat) (h2 : 2 ≤ s.V.length) : Gd (putR s L P E) := (h.write (by omega) (rootL_len _ _ _)).flA
theorem secV_putR {s : St} (h : Gd s) (L P E : Nat) (h2 : 2 ≤ s.V.length) (j : Nat) : secV (putR s L P E) j = if j = E % 2 then rootL L P E else secV s j := by
  unfold putR
  rw [secV_flA, secV_write h (by omega) (rootL_len _ _ _)]
/-- A formatted disk. -/
theorem Gd.fmt {s : St} (h : Gd s) (L P : Nat) (h2 : 2 + L + P ≤ s.V.length) : Gd (fmt s L P) := by
  unfold Go.Proofs.YtddjgncdjdjgeaaGreat.fmt
  exact Gd.putR (((h.wipeN 0 2 (by omega)).flA.wipeN 2 (L + P) (by rw [flA_len, wipeN_len]; omega)).flA) L P 1 (by rw [flA_len, wipeN_len, flA_len, wipeN_len]; omega)
theorem secV_fmt {s : St} (h : Gd s) (L P : Nat) (h2 : 2 + L + P ≤ s.V.length) (j : Nat) (hj : j < 2 + L + P) : secV (fmt s L P) j = if j = 1 then rootL L P 1 else zeros 64 := by
  unfold fmt
  rw [secV_putR (((h.wipeN 0 2 (by omega)).flA.wipeN 2 (L + P) (by rw [flA_len, wipeN_len]; omega)).flA) L P 1 (by rw [flA_len, wipeN_len, flA_len, wipeN_len]; omega)]
  show (if j = 1 then _ else _) = _
  by_cases e : j = 1
  · rw [if_pos e, if_pos e]
  · rw [if_neg e, if_neg e, secV_flA, secV_wipeN ((h.wipeN 0 2 (by omega)).flA) 2 (L + P) (by rw [flA_len, wipeN_len]; omega)]
    by_cases e2 : 2 ≤ j ∧ j < 2 + (L + P)
    · rw [if_pos e2]
    · rw [if_neg e2, secV_flA, secV_wipeN h 0 2 (by omega), if_pos (by omega)]
theorem zeros_noroot : ¬ isRoot (zeros 64) := by decide +kernel
theorem bestK_two (s : St) : bestK s.V.length s.S 2 = bestStep s.V.length (bestStep s.V.length RV.zero (secV s 0)) (secV s 1) := rfl
theorem bestStep_root {n : Int} {o : RV} {L P E : Nat} (hr : rightR L P E n = true) (hE : E < 4294967296) (ho : o.epoch < E) : bestStep n o (rootL L P E) = ⟨L, P, E⟩ := by
  have h1 := rightR_true.1 hr
  obtain ⟨a, b, c, d⟩ := root_is L P E (by omega) (by omega) hE
  unfold bestStep
  rw [if_pos ⟨a, by rw [b, c, d]; exact hr, by rw [d]; exact ho⟩, b, c, d]
theorem bestStep_no {n : Int} {o : RV} {l : List UInt8} (h : ¬ isRoot l) : bestStep n o l = o := by
  unfold bestStep
  rw [if_neg (fun k => h k.1)]
theorem best_fmt {s : St} (h : Gd s) (L P : Nat) (hr : rightR L P 1 s.V.length = true) : bestK (fmt s L P).V.length (fmt s L P).S 2 = ⟨L, P, 1⟩ := by
  have h1 := rightR_true.1 hr
  rw [bestK_two, secV_fmt h L P (by omega) 0 (by omega), secV_fmt h L P (by omega) 1 (by omega), if_neg (by omega), if_pos rfl, bestStep_no zeros_noroot, fmt_len]
  exact bestStep_root hr (by omega) (by show 0 < 1; omega)
/-- Behind a Checkpoint. -/
theorem Gd.homeN {s : St} (h : Gd s) {x : SV} (hr : rightR x.L x.P x.E s.V.length = true) (hp : x.pages.length = x.P) (h64 : ∀ l ∈ x.pages, l.length = 64) : ∀ k, k ≤ x.P → Gd (homeN s x k)
  | 0, _ => h
  | k + 1, hk => by
    have h1 := rightR_true.1 hr
    have ih := Gd.homeN h hr hp h64 k (by omega)
    show Gd (if _ then _ else _)
    split
    · refine ih.write (by rw [homeN_len]; omega) ?_
      rw [List.getD_eq_getElem?_getD, List.getElem?_eq_getElem (by omega)]
      exact h64 _ (List.getElem_mem _)
    · exact ih
theorem secV_homeN {s : St} (h : Gd s) {x : SV} (hr : rightR x.L x.P x.E s.V.length = true) (hp : x.pages.length = x.P) (h64 : ∀ l ∈ x.pages, l.length = 64) : ∀ k, k ≤ x.P → ∀ j, secV (homeN s x k) j = if 2 + x.L ≤ j ∧ j < 2 + x.L + k ∧ x.named.getD (j - (2 + x.L)) false = true then x.pages.getD (j - (2 + x.L)) [] else secV s j
  | 0, _, j => by rw [if_neg (by omega)]; rfl
  | k + 1, hk, j => by
    have h1 := rightR_true.1 hr
    have ih := secV_homeN h hr hp h64 k (by omega) j
    have hg := Gd.homeN h hr hp h64 k (by omega)
    show secV (if _ then _ else _) j = _
    by_cases hn : x.named.getD k false = true
    · rw [if_pos hn, secV_write hg (by rw [homeN_len]; omega) (by rw [List.getD_eq_getElem?_getD, List.getElem?_eq_getElem (by omega)]; exact h64 _ (List.getElem_mem _)), ih]
      by_cases e : j = 2 + x.L + k
      · subst e
        rw [if_pos rfl, if_pos ⟨by omega, by omega, by rw [show 2 + x.L + k - (2 + x.L) = k by omega]; exact hn⟩, show 2 + x.L + k - (2 + x.L) = k by omega]
      · rw [if_neg e]
        by_cases e2 : 2 + x.L ≤ j ∧ j < 2 + x.L + k ∧ x.named.getD (j - (2 + x.L)) false = true
        · rw [if_pos e2, if_pos ⟨e2.1, by omega, e2.2.2⟩]
        · rw [if_neg e2, if_neg (fun h3 => e2 ⟨h3.1, by omega, h3.2.2⟩)]
    · rw [if_neg hn, ih]
      by_cases e2 : 2 + x.L ≤ j ∧ j < 2 + x.L + k ∧ x.named.getD (j - (2 + x.L)) false = true
      · rw [if_pos e2, if_pos ⟨e2.1, by omega, e2.2.2⟩]
      · rw [if_neg e2, if_neg (fun h3 => ?_)]
        by_cases e : j = 2 + x.L + k
        · subst e
          apply hn
          have := h3.2.2
          rwa [show 2 + x.L + k - (2 + x.L) = k by omega] at this
        · exact e2 ⟨h3.1, by omega, h3.2.2⟩
theorem ckS_good {s : St} (h : Gd s) {x : SV} (hr : rightR x.L x.P x.E s.V.length = true) (hp : x.pages.length = x.P) (h64 : ∀ l ∈ x.pages, l.length = 64) : Gd (ckS s x) := by
  have h1 := rightR_true.1 hr
  unfold ckS
  exact Gd.putR (Gd.flA (Gd.homeN h.flA (by rw [flA_len]; exact hr) hp h64 x.P (Nat.le_refl _))) _ _ _ (by rw [flA_len, homeN_len, flA_len]; omega)
theorem secV_ckS {s : St} (h : Gd s) {x : SV} (hr : rightR x.L x.P x.E s.V.length = true) (hp : x.pages.length = x.P) (h64 : ∀ l ∈ x.pages, l.length = 64) (j : Nat) :
    secV (ckS s x) j = if j = (x.E + 1) % 2 then rootL x.L x.P (x.E + 1) else if 2 + x.L ≤ j ∧ j < 2 + x.L + x.P ∧ x.named.getD (j - (2 + x.L)) false = true then x.pages.getD (j - (2 + x.L)) [] else secV s j := by
  have h1 := rightR_true.1 hr
  unfold ckS
  rw [secV_putR (Gd.flA (Gd.homeN h.flA (by rw [flA_len]; exact hr) hp h64 x.P (Nat.le_refl _))) _ _ _ (by rw [flA_len, homeN_len, flA_len]; omega), secV_flA, secV_homeN h.flA (by rw [flA_len]; exact hr) hp h64 x.P (Nat.le_refl _), secV_flA]
theorem bestStep_ge {n : Int} {o : RV} {l : List UInt8} : o.epoch ≤ (bestStep n o l).epoch ∧ (isRoot l → rightR (getI l 4) (getI l 8) (getI l 12) n = true → getI l 12 ≤ (bestStep n o l).epoch) := by
  unfold bestStep
  split
  · rename_i h; exact ⟨by show _ ≤ getI l 12; omega, fun _ _ => Nat.le_refl _⟩
  · rename_i h; exact ⟨Nat.le_refl _, fun h1 h2 => by
      rcases Nat.lt_or_ge o.epoch (getI l 12) with h3 | h3
      · exact absurd ⟨h1, h2, h3⟩ h
      · exact h3⟩
theorem bestStep_two {n : Int} {o : RV} {l : List UInt8} : bestStep n o l = o ∨ (bestStep n o l = ⟨getI l 4, getI l 8, getI l 12⟩ ∧ isRoot l ∧ rightR (getI l 4) (getI l 8) (getI l 12) n = true) := by
  unfold bestStep
  split
  · rename_i h; exact .inr ⟨rfl, h.1, h.2.1⟩
  · exact .inl rfl
/-- The root that a Checkpoint put is found again. -/
theorem best_put {s s' : St} {L P E : Nat} (hv : s'.V.length = s.V.length) (hb : (bestK s.V.length s.S 2).epoch ≤ E) (hr : rightR L P (E + 1) s.V.length = true) (hE : E + 1 < 4294967296) (hq : secV s' ((E + 1) % 2) = rootL L P (E + 1)) (ho : secV s' (E % 2) = secV s (E % 2)) : bestK s'.V.length s'.S 2 = ⟨L, P, E + 1⟩ := by
  rw [bestK_two, hv]
  rw [bestK_two] at hb
  have hr' : rightR L P ((E + 1 : Nat) : Int) s.V.length = true := by rw [Int.natCast_add]; exact hr
  rcases Nat.mod_two_eq_zero_or_one E with h | h
  · rw [show (E + 1) % 2 = 1 by omega] at hq
    rw [h] at ho
    rw [hq, ho]
    refine bestStep_root hr' hE ?_
    have := (bestStep_ge (n := s.V.length) (o := bestStep s.V.length RV.zero (secV s 0)) (l := secV s 1)).1
    omega
  · rw [show (E + 1) % 2 = 0 by omega] at hq
    rw [h] at ho
    rw [hq, ho, bestStep_root hr' hE (by show 0 < E + 1; omega)]
    rcases bestStep_two (n := s.V.length) (o := ⟨L, P, E + 1⟩) (l := secV s 1) with h1 | ⟨h1, h2, h3⟩
    · exact h1
    · have h4 := (bestStep_ge (n := s.V.length) (o := bestStep s.V.length RV.zero (secV s 0)) (l := secV s 1)).2 h2 h3
      unfold bestStep
      rw [if_neg (fun h5 => by have := h5.2.2; simp only at this; omega)]
theorem best_ck {s : St} (h : Gd s) {x : SV} (hr : rightR x.L x.P x.E s.V.length = true) (hp : x.pages.length = x.P) (h64 : ∀ l ∈ x.pages, l.length = 64) (hb : (bestK s.V.length s.S 2).epoch ≤ x.E) (hE : x.E + 1 < 4294967296) : bestK (ckS s x).V.length (ckS s x).S 2 = ⟨x.L, x.P, x.E + 1⟩ := by
  have h1 := rightR_true.1 hr
  refine best_put (ckS_len s x) hb (rightR_true.2 (by omega)) hE ?_ ?_
  · rw [secV_ckS h hr hp h64, if_pos rfl]
  · rw [secV_ckS h hr hp h64, if_neg (by omega), if_neg (by omega)]
end Go.Proofs.YtddjgncdjdjgeaaGreat
namespace Go.Proofs.YtddjgncdjdjgeaaGreat
open Go.RowKit
def frsL (E : Nat) : Nat → List (List ChV) → List UInt8
  | _, [] => []
  | k, m :: ms => frameL E k (bytesD m) ++ frsL E (k + 1) ms
theorem frsL_snoc (E : Nat) : ∀ (ms : List (List ChV)) (k : Nat) (m : List ChV), frsL E k (ms ++ [m]) = frsL E k ms ++ frameL E (k + ms.length) (bytesD m)
  | [], k, m => by simp [frsL]
  | a :: ms, k, m => by
    show frameL E k (bytesD a) ++ frsL E (k + 1) (ms ++ [m]) = (frameL E k (bytesD a) ++ frsL E (k + 1) ms) ++ _
    rw [frsL_snoc E ms, List.append_assoc, List.length_cons, show k + 1 + ms.length = k + (ms.length + 1) by omega]
theorem at_nextF {l : List UInt8} {ep k : Nat} {rs : List (List UInt8)} {a : Nat} (h : At l ep k rs a) (r m : List UInt8) (he : ep < 4294967296) (hk : k < 4294967296) (hr : r.length < 4294967296) (hl : l.drop a = frameL ep k r ++ m) :
    At l ep (k + 1) (rs ++ [r]) (a + (16 + r.length)) := by
  have h2 := h.next (by rw [hl]; exact frame_ok ep k r m he hk hr)
  rwa [hl, frame_rec ep k r m he hk hr, frame_len ep k r m he hk hr] at h2
theorem at_frs {l : List UInt8} {E : Nat} (hE : E < 4294967296) : ∀ (ms : List (List ChV)) (k : Nat) (rs : List (List UInt8)) (a : Nat) (z : List UInt8), At l E k rs a → l.drop a = frsL E k ms ++ z → k + ms.length < 4294967296 → (∀ m ∈ ms, (bytesD m).length < 4294967296) → At l E (k + ms.length) (rs ++ ms.map bytesD) (a + (frsL E k ms).length) ∧ l.drop (a + (frsL E k ms).length) = z
  | [], k, rs, a, z, h, hl, _, _ => ⟨by simpa [frsL] using h, by simpa [frsL] using hl⟩
  | m :: ms, k, rs, a, z, h, hl, hk, hm => by
    have hl' : l.drop a = frameL E k (bytesD m) ++ (frsL E (k + 1) ms ++ z) := by rw [hl]; show (frameL E k (bytesD m) ++ frsL E (k + 1) ms) ++ z = _; rw [List.append_assoc]
    have h1 := at_nextF h (bytesD m) _ hE (by simp at hk; omega) (hm m List.mem_cons_self) hl'
    have hd : l.drop (a + (16 + (bytesD m).length)) = frsL E (k + 1) ms ++ z := by
      rw [← List.drop_drop, hl', List.drop_left' (frameL_len _ _ _)]
    obtain ⟨h2, h3⟩ := at_frs hE ms (k + 1) _ _ z h1 hd (by simp at hk; omega) (fun x hx => hm x (List.mem_cons_of_mem _ hx))
    have e1 : (frsL E k (m :: ms)).length = 16 + (bytesD m).length + (frsL E (k + 1) ms).length := by show (frameL E k (bytesD m) ++ frsL E (k + 1) ms).length = _; rw [List.length_append, frameL_len]
    rw [e1, List.length_cons, show k + (ms.length + 1) = k + 1 + ms.length by omega, ← Nat.add_assoc a]
    refine ⟨?_, h3⟩
    have e2 : rs ++ List.map bytesD (m :: ms) = rs ++ [bytesD m] ++ List.map bytesD ms := by simp
    rw [e2]; exact h2
theorem zeros_noF {k E q : Nat} (hE : 1 ≤ E) : ¬ readOk (zeros k) E q := by
  intro h
  have h1 := h.2.1
  unfold getI at h1
  split at h1
  · rename_i hk
    rw [zeros_len] at hk
    have : ((zeros k).drop (0 : Int).toNat).take 4 = zeros 4 := by
      unfold zeros
      rw [List.drop_replicate, List.take_replicate]
      congr 1
      simp only [Int.toNat_zero]; omega
    rw [this, show numB (zeros 4) = 0 from by decide] at h1
    omega
  · omega
theorem scan_frs {E : Nat} (hE : 1 ≤ E) (hE2 : E < 4294967296) (ms : List (List ChV)) (z : Nat) (hk : ms.length < 4294967296) (hm : ∀ m ∈ ms, (bytesD m).length < 4294967296) :
    scanS (frsL E 0 ms ++ zeros z) E = (ms.map bytesD, (frsL E 0 ms).length) := by
  obtain ⟨h1, h2⟩ := at_frs hE2 ms 0 [] 0 (zeros z) (At.zero (frsL E 0 ms ++ zeros z) E) rfl (by omega) hm
  simp only [Nat.zero_add, List.nil_append] at h1 h2
  exact h1.last (by rw [h2]; exact zeros_noF hE)
/-- Lists that go in, as they are committed. -/
def InL (P : Nat) (m : List ChV) : Prop := (∀ a ∈ m, Page a) ∧ rightB (P : Int) m = true ∧ m.length ≤ 64
theorem InL.okR {P : Nat} {m : List ChV} (h : InL P m) : okR (P : Int) (bytesD m) := by
  have h1 := back_len h.1
  have h2 := back_num (l := m) (by have := h.2.2; omega)
  refine ⟨by omega, by rw [h1, h2], ?_⟩
  rw [asC_rightB (back_as h.1 (by have := h.2.2; omega))]
  exact h.2.1
theorem recF_all (P : Nat) : ∀ (ms : List (List ChV)), (∀ m ∈ ms, InL P m) → (recF (P : Int) (ms.map bytesD)).1 = ms.map fun m => recM (bytesD m)
  | [], _ => rfl
  | m :: ms, h => by
    show (recF (P : Int) (bytesD m :: ms.map bytesD)).1 = _
    unfold recF
    rw [if_pos (h m List.mem_cons_self).okR]
    show recM (bytesD m) :: (recF (P : Int) (ms.map bytesD)).1 = _
    rw [recF_all P ms fun x hx => h x (List.mem_cons_of_mem _ hx)]; rfl
theorem fold_back (P : Nat) : ∀ (ms : List (List ChV)) (x : SV), (∀ m ∈ ms, InL P m) → (ms.map fun m => recM (bytesD m)).foldl turnV x = ms.foldl turnV x
  | [], _, _ => rfl
  | m :: ms, x, h => by
    have h1 := h m List.mem_cons_self
    show (ms.map fun m => recM (bytesD m)).foldl turnV (turnV x (recM (bytesD m))) = ms.foldl turnV (turnV x m)
    have e : turnV x (recM (bytesD m)) = turnV x m := turnV_key x (back_as h1.1 (by have := h1.2.2; omega)).1
    rw [e]
    exact fold_back P ms _ fun y hy => h y (List.mem_cons_of_mem _ hy)
/-- A store whose log has its records, and zeros. -/
structure LogZ (s : St) (L P E : Nat) (ms : List (List ChV)) (u : Nat) : Prop where
  log : logB s L = frsL E 0 ms ++ zeros (L * 64 - u)
  len : (frsL E 0 ms).length = u
  top : u ≤ L * 64
  ins : ∀ m ∈ ms, InL P m
theorem frsL_ge (E : Nat) : ∀ (ms : List (List ChV)) (k : Nat), 16 * ms.length ≤ (frsL E k ms).length
  | [], _ => by simp
  | m :: ms, k => by
    have := frsL_ge E ms (k + 1)
    show _ ≤ (frameL E k (bytesD m) ++ frsL E (k + 1) ms).length
    rw [List.length_append, frameL_len, List.length_cons]; omega
theorem LogZ.recT {s : St} {L P E : Nat} {ms : List (List ChV)} {u : Nat} (h : LogZ s L P E ms u) (hr : rightR L P E s.V.length = true) (hE : E < 4294967296) (x : SV) : (recT s ⟨L, P, E⟩).foldl turnV x = ms.foldl turnV x := by
  have h1 := rightR_true.1 hr
  unfold Go.Proofs.YtddjgncdjdjgeaaGreat.recT recsS
  show (recF (P : Int) (scanS (logL s L P E) E).1).1.foldl turnV x = _
  rw [show logL s L P E = logB s L by unfold logL; rw [if_pos hr, Int.toNat_natCast], h.log, scan_frs (by omega) hE ms _ (by have := frsL_ge E ms 0; have := h.len; have := h.top; omega) (fun m hm => by rw [back_len (h.ins m hm).1]; have := (h.ins m hm).2.2; omega)]
  show (recF (P : Int) (ms.map bytesD)).1.foldl turnV x = _
  rw [recF_all P ms h.ins, fold_back P ms x h.ins]
theorem logB_same {s s' : St} {L : Nat} (hv : s'.V.length = s.V.length) (h2 : 2 + L ≤ s.V.length) (h : ∀ j, 2 ≤ j → j < 2 + L → secV s' j = secV s j) : ∀ k, k ≤ L → logB s' k = logB s k
  | 0, _ => by unfold logB; simp
  | k + 1, hk => by
    rw [logB_next, logB_next, logB_same hv h2 h k (by omega)]
    have h1 := h (2 + k) (by omega) (by omega)
    unfold secV sectL at h1
    rw [hv, if_pos (by omega), if_pos (by omega)] at h1
    rw [h1]
theorem logB_zeros {s : St} {L : Nat} (h2 : 2 + L ≤ s.V.length) (h : ∀ j, 2 ≤ j → j < 2 + L → secV s j = zeros 64) : ∀ k, k ≤ L → logB s k = zeros (k * 64)
  | 0, _ => by unfold logB zeros; simp
  | k + 1, hk => by
    rw [logB_next, logB_zeros h2 h k (by omega)]
    have h1 := h (2 + k) (by omega) (by omega)
    unfold secV sectL at h1
    rw [if_pos (by omega)] at h1
    rw [h1]
    unfold zeros
    rw [List.replicate_append_replicate]; congr 1; omega
theorem splice_mid {S b : List UInt8} {u N : Nat} (hu : u + b.length ≤ N) (hS : 128 + N ≤ S.length) : ((splice S (128 + u) b).drop 128).take N = ((S.drop 128).take N).take u ++ (b ++ ((S.drop 128).take N).drop (u + b.length)) := by
  have e : splice S (128 + u) b = S.take (128 + u) ++ (b ++ S.drop (128 + u + b.length)) := by unfold splice; simp
  have l1 : (S.take (128 + u)).length = 128 + u := by rw [List.length_take]; omega
  have l2 : ((S.drop 128).take u).length = u := by rw [List.length_take, List.length_drop]; omega
  rw [e, List.drop_append_of_le_length (by omega), List.drop_take, show 128 + u - 128 = u by omega, List.take_append, l2, List.take_append, List.take_of_length_le (by omega), List.take_of_length_le (l := b) (by omega), List.take_take, Nat.min_eq_left (by omega), List.drop_take, List.drop_drop, show 128 + (u + b.length) = 128 + u + b.length by omega, show N - u - b.length = N - (u + b.length) by omega]
theorem LogZ.com {s : St} {x : SV} {ms : List (List ChV)} {m : List ChV} (h : LogZ s x.L x.P x.E ms x.used) (hg : Gd s) (h2 : 2 + x.L ≤ s.V.length) (hq : x.seq = ms.length) (hm : InL x.P m) (hf : x.used + (18 + 66 * m.length) ≤ x.L * 64) :
    LogZ (comS s x m) x.L x.P x.E (ms ++ [m]) (x.used + (18 + 66 * m.length)) := by
  have hl : (comL x m).length = 18 + 66 * m.length := by unfold comL; rw [frameL_len, back_len hm.1]; omega
  have hlog := h.log
  have hlen := h.len
  have e : frsL x.E 0 (ms ++ [m]) = frsL x.E 0 ms ++ comL x m := by rw [frsL_snoc, Nat.zero_add, ← hq]; rfl
  refine ⟨?_, by rw [e, List.length_append, hl, hlen], hf, fun y hy => ?_⟩
  · rw [e]
    show ((splice s.S (128 + x.used) (comL x m)).drop 128).take (x.L * 64) = _
    rw [splice_mid (by omega) (by unfold Gd at hg; omega)]
    show (logB s x.L).take x.used ++ (comL x m ++ (logB s x.L).drop (x.used + (comL x m).length)) = _
    rw [hlog, List.take_left' hlen, ← List.drop_drop, List.drop_left' hlen, hl, List.append_assoc]
    congr 2
    unfold zeros
    rw [List.drop_replicate]; congr 1; omega
  · rcases List.mem_append.1 hy with hy | hy
    · exact h.ins y hy
    · simp only [List.mem_cons, List.not_mem_nil, or_false] at hy
      subst hy; exact hm
theorem LogZ.flA {s : St} {L P E : Nat} {ms : List (List ChV)} {u : Nat} (h : LogZ s L P E ms u) : LogZ (flA s) L P E ms u := ⟨by have := h.log; unfold logB at *; rw [flA_S]; exact this, h.len, h.top, h.ins⟩
theorem LogZ.none {s : St} {L P E : Nat} (h2 : 2 + L ≤ s.V.length) (h : ∀ j, 2 ≤ j → j < 2 + L → secV s j = zeros 64) : LogZ s L P E [] 0 := ⟨by rw [logB_zeros h2 h L (Nat.le_refl _)]; simp [frsL], rfl, Nat.zero_le _, fun m hm => by cases hm⟩
end Go.Proofs.YtddjgncdjdjgeaaGreat
