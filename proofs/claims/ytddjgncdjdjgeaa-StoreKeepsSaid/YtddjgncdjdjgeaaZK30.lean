/-
  K: Sto8, Sto9.
-/
import Derived.Test.YtddjgncdjdjgeaaZK29
namespace Go.Proofs.Ytddjgncdjdjgeaa
open Go.RowKit
section
variable {w : World} {k : SK} {s : St} {x : SV} {vP : Value}
set_option maxHeartbeats 1000000 in
set_option maxRecDepth 100000 in
theorem used_any (h : Sto w k s x vP) : Calls Try.prog 16 #[.pointer (some ⟨k.g, 0, none⟩)] w fun e w' => e = .returned (.int .i64 (x.used : Int)) ∧ Chg [] w w' := by
  have c := h.rec_.cell 6
  go_enter Try.func16, Try.ntmps16
  go_wp2_with fail
  go_ret
  exact ⟨rfl, Chg.refl _ _⟩
set_option maxHeartbeats 1000000 in
set_option maxRecDepth 100000 in
theorem seq_any (h : Sto w k s x vP) : Calls Try.prog 45 #[.pointer (some ⟨k.g, 0, none⟩)] w fun e w' => e = .returned (.int .u32 (x.seq : Int)) ∧ Chg [] w w' := by
  have c := h.rec_.cell 7
  go_enter Try.func45, Try.ntmps45
  go_wp2_with fail
  go_ret
  exact ⟨rfl, Chg.refl _ _⟩
set_option maxHeartbeats 1000000 in
set_option maxRecDepth 100000 in
theorem sroot_any (h : Sto w k s x vP) : Calls Try.prog 46 #[.pointer (some ⟨k.g, 0, none⟩)] w fun e w' => e = .returned (rootV x.L x.P x.E) ∧ Chg [] w w' := by
  go_enter Try.func46, Try.ntmps46
  go_upto_region 1 with fail
  have hal := (Chg.refl [] w).alloc (.cells #[.int .i64 0, .int .i64 0, .int .u32 0] 61)
  have hr := h.rec_.keep hal
  have c1 := hr.cell 1
  have c2 := hr.cell 2
  have c3 := hr.cell 3
  have hR := Whole.new w 61 [.int .i64 0, .int .i64 0, .int .u32 0]
  have d0 := hR.cell 0
  have d1 := hR.cell 1
  have d2 := hR.cell 2
  have f0 := hR.frozen 0
  have f1 := hR.frozen 1
  have f2 := hR.frozen 2
  have hn : w.heap.size ≤ w.heap.size := Nat.le_refl _
  generalize w.alloc (.cells #[.int .i64 0, .int .i64 0, .int .u32 0] 61) = w1 at *
  obtain ⟨gr, hgr⟩ : ∃ g, g = w.heap.size := ⟨_, rfl⟩
  rw [← hgr] at hR d0 d1 d2 f0 f1 f2 ⊢
  have HS := Lib.hid ((hR.set_ 0 (.int .i64 (x.L : Int))).set_ 1 (.int .i64 (x.P : Int)) |>.set_ 2 (.int .u32 (x.E : Int)))
  have hnl : ¬ gr < w.heap.size := by omega
  have HC := Lib.hid (((hal.setCell (p := ⟨gr, 0, none⟩) (fun h => absurd h hnl) (.int .i64 (x.L : Int))).setCell (p := ⟨gr, 1, none⟩) (fun h => absurd h hnl) (.int .i64 (x.P : Int))).setCell (p := ⟨gr, 2, none⟩) (fun h => absurd h hnl) (.int .u32 (x.E : Int)))
  clear hal hr hR hgr hnl hn h
  go_wp2_with fail
  refine bodyPost_ret_by (results_cell_row rfl _ _ gr 61 #[.int .i64 x.L, .int .i64 x.P, .int .u32 x.E] (0, 0) _ rfl HS.out Try.underlying61 rfl (by kernel_rfl)) rfl ⟨rfl, HC.out⟩
def SyncPost (w : World) (k : SK) (s : St) (x : SV) (vP : Value) (e : Ending) (w' : World) : Prop := e = .returned (.tuple #[]) ∧ Sto w' k (flA s) x vP ∧ Chg [k.bL, k.bS, k.bW] w w'
set_option maxHeartbeats 1000000 in
set_option maxRecDepth 100000 in
theorem sync_any (h : Sto w k s x vP) : Calls Try.prog 13 #[.pointer (some ⟨k.g, 0, none⟩)] w (SyncPost w k s x vP) := by
  have c := h.rec_.cell 0
  have H := Lib.hid h
  clear h
  go_enter Try.func13, Try.ntmps13
  go_wp2_with fail
  refine (flush_any H.out.dsk).mono ?_
  rintro e w2 ⟨rfl, hd2, hc2⟩
  have HP := Lib.hid (show SyncPost w k s x vP (.returned (.tuple #[])) w2 from ⟨rfl, H.out.disk_ hd2 hc2 (flA_len s), hc2⟩)
  clear c
  go_wp2_with fail
  go_end0
  exact HP.out
end
section
variable {w : World} {k : SK} {s : St} {x : SV} {vP : Value}
def AllPost (w : World) (x : SV) (e : Ending) (w' : World) : Prop := ∃ g us, e = .returned (.slice (some ⟨g, 0, none⟩) x.P x.P) ∧ Fr w.heap.size w' g x.P us x.pages x.P ∧ w.heap.size ≤ g ∧ Chg [] w w'
set_option maxHeartbeats 1000000 in
set_option maxRecDepth 100000 in
theorem sall_any (h : Sto w k s x vP) : Calls Try.prog 12 #[.pointer (some ⟨k.g, 0, none⟩)] w (AllPost w x) := by
  obtain ⟨A, c, us, rfl, hcp, hsrc, hul, hsp, hli⟩ := h.pgs.lists
  have hP64 : x.P ≤ 64 := by have := rightR_true.1 h.rt; omega
  have hap := apply_any (d := 0) (c := c) (C := none) (m := 0) (ls := []) hsrc (fun _ ad e => hsp ad e) hul (by rw [h.pl]; omega) hli (fun l hl => by have := h.p64 l hl; omega) ⟨fun h => absurd h (by simp), fun a ha => by simp at ha⟩ rfl (by omega) (fun a ha => by simp at ha)
  have HAP := Lib.hid hap
  have H := Lib.hid h
  have e4 := h.rec_.cell 4
  clear hap h hsrc hul hsp hli hcp
  go_enter Try.func12, Try.ntmps12
  go_wp2_with fail
  refine HAP.out.mono ?_
  rintro e w2 ⟨gp, us2, rfl, hfr, hgp, hc2⟩
  rw [show applyL x.pages [] = x.pages from rfl, H.out.pl] at hfr
  rw [show applyL x.pages [] = x.pages from rfl, H.out.pl]
  have HP := Lib.hid (show AllPost w x (.returned (.slice (some ⟨gp, 0, none⟩) x.P x.P)) w2 from ⟨gp, us2, rfl, hfr, hgp, hc2⟩)
  clear e4 hfr hgp hc2
  go_wp2_with fail
  go_ret
  exact HP.out
end
section
variable {w : World} {k : SK} {s : St} {x : SV} {vP : Value}
set_option maxHeartbeats 1000000 in
set_option maxRecDepth 100000 in
theorem spage_any (h : Sto w k s x vP) (i : Nat) (hi : i < x.P) : Calls Try.prog 44 #[.pointer (some ⟨k.g, 0, none⟩), .int .i64 (i : Int)] w (BytesPost w (x.pages.getD i [])) := by
  obtain ⟨A, c, us, rfl, hcp, hpg⟩ := h.pgs
  have hpl := h.pl
  obtain ⟨pb, po, A', n', c', rfl, hrow, hbs⟩ := PgR.row (show PgR k.D w A us x.pages from hpg) (i := i) (by rw [h.pl]; exact hi)
  have hgd : x.pages.getD i [] = x.pages[i]'(by rw [h.pl]; exact hi) := by rw [List.getD_eq_getElem?_getD, List.getElem?_eq_getElem (by rw [h.pl]; exact hi)]; rfl
  have h64 := h.p64 _ (List.getElem_mem (l := x.pages) (n := i) (by rw [h.pl]; exact hi))
  rw [hgd]
  have hP64 : x.P ≤ 64 := by have := rightR_true.1 h.rt; omega
  have hr := h.rec_
  rw [hpl] at hr hcp
  have e4 := hr.cell 4
  generalize x.pages[i]'(by rw [h.pl]; exact hi) = l at hbs h64 ⊢
  obtain ⟨i0, hi0, hz, hs1, hb⟩ := info_parts info_u8
  have hl := Lib.hid (bts_len l)
  have h1 := bts_one l
  have hn' : n' = l.length := hbs.len.symm
  subst hn'
  have x1 := Lib.hid (show 0 + l.length ≤ maxLen by unfold maxLen; omega)
  have x2 := Lib.hid (show (0 + l.length) * 1 ≤ 140737488355328 by omega)
  have hsr := hbs.src
  have hiI : (i : Int) < (x.P : Int) := by omega
  have hiI0 : (0 : Int) ≤ (i : Int) := by omega
  have hiN : ¬ x.P ≤ i := by omega
  clear h hpg hr hgd h64 hbs hpl
  go_enter Try.func44, Try.ntmps44
  go_wp2_with (at_builtin
               refine wpList_append_src rfl (.const (.slice none 0 0)) (.tmp 22) 44 rfl w.heap.size 5 i0 _ 1 Try.underlying44 hi0 hz hs1 hb cells_u8 (.slice none 0 0) 0 [] rfl (own_nil _ _ _) A' l.length c' (bts l) rfl hl.out hsr h1 x1.out x2.out (Nat.le_refl _) ?_
               intro v4 w4 ho4 hg4 _)
  go_ret
  rw [Nat.zero_add, List.nil_append] at ho4
  exact ⟨v4, rfl, ho4, Chg.of_grown hg4 (fun g hg => by simp [Value.ownBlock] at hg)⟩
end
end Go.Proofs.Ytddjgncdjdjgeaa
namespace Go.Proofs.Ytddjgncdjdjgeaa
open Go.RowKit
def Gd (s : St) : Prop := s.S.length = 64 * s.V.length
def secV (s : St) (j : Nat) : List UInt8 := sectL s.S s.V.length j
theorem setS_64 (L S : List UInt8) (k : Nat) : setS L S k 64 = S := by
  unfold setS
  rw [show 64 - 64 = 0 from rfl, List.take_zero]
  unfold splice
  simp
theorem flush_S (s : St) : ∀ i, (s.flush i).S = s.S
  | 0 => rfl
  | i + 1 => by
    show setS (s.flush i).L (s.flush i).S i 64 = s.S
    rw [setS_64, flush_S s i]
theorem flA_S (s : St) : (flA s).S = s.S := flush_S s _
theorem Gd.flA {s : St} (h : Gd s) : Gd (flA s) := by unfold Gd; rw [flA_S, flA_len]; exact h
theorem Gd.write {s : St} (h : Gd s) {q : Nat} {x : List UInt8} (hq : q < s.V.length) (hx : x.length = 64) : Gd (s.write q x) := by
  unfold Gd at *
  rw [write_len]
  show (splice s.S (q * 64) x).length = _
  unfold splice
  simp only [List.length_append, List.length_take, List.length_drop, hx]
  omega
theorem secV_write {s : St} (h : Gd s) {q : Nat} {x : List UInt8} (hq : q < s.V.length) (hx : x.length = 64) (j : Nat) : secV (s.write q x) j = if j = q then x else secV s j := by
  unfold secV
  rw [write_len]
  show sectL (splice s.S (q * 64) x) _ j = _
  by_cases e : j = q
  · subst e; rw [if_pos rfl]; exact sect_same h hq hx
  · rw [if_neg e]; exact sect_other h hq hx e
theorem secV_flA (s : St) (j : Nat) : secV (flA s) j = secV s j := by unfold secV; rw [flA_S, flA_len]
theorem zeros64_len : (zeros 64).length = 64 := zeros_len 64
theorem Gd.wipeN {s : St} (h : Gd s) (a : Nat) : ∀ k, a + k ≤ s.V.length → Gd (wipeN s a k)
  | 0, _ => h
  | k + 1, hk => (Gd.wipeN h a k (by omega)).write (by rw [wipeN_len]; omega) zeros64_len
theorem secV_wipeN {s : St} (h : Gd s) (a : Nat) : ∀ k, a + k ≤ s.V.length → ∀ j, secV (wipeN s a k) j = if a ≤ j ∧ j < a + k then zeros 64 else secV s j
  | 0, _, j => by rw [if_neg (by omega)]; rfl
  | k + 1, hk, j => by
    show secV ((wipeN s a k).write (a + k) (zeros 64)) j = _
    rw [secV_write (Gd.wipeN h a k (by omega)) (by rw [wipeN_len]; omega) zeros64_len, secV_wipeN h a k (by omega)]
    by_cases e : j = a + k
    · rw [if_pos e, if_pos (by omega)]
    · rw [if_neg e]
      by_cases e2 : a ≤ j ∧ j < a + k
      · rw [if_pos e2, if_pos (by omega)]
      · rw [if_neg e2, if_neg (by omega)]
theorem Gd.putR {s : St} (h : Gd s) (L P E : Nat) (h2 : 2 ≤ s.V.length) : Gd (putR s L P E) := (h.write (by omega) (rootL_len _ _ _)).flA
theorem secV_putR {s : St} (h : Gd s) (L P E : Nat) (h2 : 2 ≤ s.V.length) (j : Nat) : secV (putR s L P E) j = if j = E % 2 then rootL L P E else secV s j := by
  unfold putR
  rw [secV_flA, secV_write h (by omega) (rootL_len _ _ _)]
/-- A formatted disk. -/
theorem Gd.fmt {s : St} (h : Gd s) (L P : Nat) (h2 : 2 + L + P ≤ s.V.length) : Gd (fmt s L P) := by
  unfold Go.Proofs.Ytddjgncdjdjgeaa.fmt
  exact Gd.putR (((h.wipeN 0 2 (by omega)).flA.wipeN 2 (L + P) (by rw [flA_len, wipeN_len]; omega)).flA) L P 1 (by rw [flA_len, wipeN_len, flA_len, wipeN_len]; omega)
theorem secV_fmt {s : St} (h : Gd s) (L P : Nat) (h2 : 2 + L + P ≤ s.V.length) (j : Nat) (hj : j < 2 + L + P) : secV (fmt s L P) j = if j = 1 then rootL L P 1 else zeros 64 := by
  unfold fmt
  rw [secV_putR (((h.wipeN 0 2 (by omega)).flA.wipeN 2 (L + P) (by rw [flA_len, wipeN_len]; omega)).flA) L P 1 (by rw [flA_len, wipeN_len, flA_len, wipeN_len]; omega)]
  show (if j = 1 then _ else _) = _
  by_cases e : j = 1
  · rw [if_pos e, if_pos e]
  · rw [if_neg e, if_neg e, secV_flA, secV_wipeN ((h.wipeN 0 2 (by omega)).flA) 2 (L + P) (by rw [flA_len, wipeN_len]; omega)]
    by_cases e2 : 2 ≤ j ∧ j < 2 + (L + P)
    · rw [if_pos e2]
    · rw [if_neg e2, secV_flA, secV_wipeN h 0 2 (by omega), if_pos (by omega)]
theorem zeros_noroot : ¬ isRoot (zeros 64) := by decide +kernel
theorem bestK_two (s : St) : bestK s.V.length s.S 2 = bestStep s.V.length (bestStep s.V.length RV.zero (secV s 0)) (secV s 1) := rfl
theorem bestStep_root {n : Int} {o : RV} {L P E : Nat} (hr : rightR L P E n = true) (hE : E < 4294967296) (ho : o.epoch < E) : bestStep n o (rootL L P E) = ⟨L, P, E⟩ := by
  have h1 := rightR_true.1 hr
  obtain ⟨a, b, c, d⟩ := root_is L P E (by omega) (by omega) hE
  unfold bestStep
  rw [if_pos ⟨a, by rw [b, c, d]; exact hr, by rw [d]; exact ho⟩, b, c, d]
theorem bestStep_no {n : Int} {o : RV} {l : List UInt8} (h : ¬ isRoot l) : bestStep n o l = o := by
  unfold bestStep
  rw [if_neg (fun k => h k.1)]
theorem best_fmt {s : St} (h : Gd s) (L P : Nat) (hr : rightR L P 1 s.V.length = true) : bestK (fmt s L P).V.length (fmt s L P).S 2 = ⟨L, P, 1⟩ := by
  have h1 := rightR_true.1 hr
  rw [bestK_two, secV_fmt h L P (by omega) 0 (by omega), secV_fmt h L P (by omega) 1 (by omega), if_neg (by omega), if_pos rfl, bestStep_no zeros_noroot, fmt_len]
  exact bestStep_root hr (by omega) (by show 0 < 1; omega)
/-- Behind a Checkpoint. -/
theorem Gd.homeN {s : St} (h : Gd s) {x : SV} (hr : rightR x.L x.P x.E s.V.length = true) (hp : x.pages.length = x.P) (h64 : ∀ l ∈ x.pages, l.length = 64) : ∀ k, k ≤ x.P → Gd (homeN s x k)
  | 0, _ => h
  | k + 1, hk => by
    have h1 := rightR_true.1 hr
    have ih := Gd.homeN h hr hp h64 k (by omega)
    show Gd (if _ then _ else _)
    split
    · refine ih.write (by rw [homeN_len]; omega) ?_
      rw [List.getD_eq_getElem?_getD, List.getElem?_eq_getElem (by omega)]
      exact h64 _ (List.getElem_mem _)
    · exact ih
theorem secV_homeN {s : St} (h : Gd s) {x : SV} (hr : rightR x.L x.P x.E s.V.length = true) (hp : x.pages.length = x.P) (h64 : ∀ l ∈ x.pages, l.length = 64) : ∀ k, k ≤ x.P → ∀ j, secV (homeN s x k) j = if 2 + x.L ≤ j ∧ j < 2 + x.L + k ∧ x.named.getD (j - (2 + x.L)) false = true then x.pages.getD (j - (2 + x.L)) [] else secV s j
  | 0, _, j => by rw [if_neg (by omega)]; rfl
  | k + 1, hk, j => by
    have h1 := rightR_true.1 hr
    have ih := secV_homeN h hr hp h64 k (by omega) j
    have hg := Gd.homeN h hr hp h64 k (by omega)
    show secV (if _ then _ else _) j = _
    by_cases hn : x.named.getD k false = true
    · rw [if_pos hn, secV_write hg (by rw [homeN_len]; omega) (by rw [List.getD_eq_getElem?_getD, List.getElem?_eq_getElem (by omega)]; exact h64 _ (List.getElem_mem _)), ih]
      by_cases e : j = 2 + x.L + k
      · subst e
        rw [if_pos rfl, if_pos ⟨by omega, by omega, by rw [show 2 + x.L + k - (2 + x.L) = k by omega]; exact hn⟩, show 2 + x.L + k - (2 + x.L) = k by omega]
      · rw [if_neg e]
        by_cases e2 : 2 + x.L ≤ j ∧ j < 2 + x.L + k ∧ x.named.getD (j - (2 + x.L)) false = true
        · rw [if_pos e2, if_pos ⟨e2.1, by omega, e2.2.2⟩]
        · rw [if_neg e2, if_neg (fun h3 => e2 ⟨h3.1, by omega, h3.2.2⟩)]
    · rw [if_neg hn, ih]
      by_cases e2 : 2 + x.L ≤ j ∧ j < 2 + x.L + k ∧ x.named.getD (j - (2 + x.L)) false = true
      · rw [if_pos e2, if_pos ⟨e2.1, by omega, e2.2.2⟩]
      · rw [if_neg e2, if_neg (fun h3 => ?_)]
        by_cases e : j = 2 + x.L + k
        · subst e
          apply hn
          have := h3.2.2
          rwa [show 2 + x.L + k - (2 + x.L) = k by omega] at this
        · exact e2 ⟨h3.1, by omega, h3.2.2⟩
theorem ckS_good {s : St} (h : Gd s) {x : SV} (hr : rightR x.L x.P x.E s.V.length = true) (hp : x.pages.length = x.P) (h64 : ∀ l ∈ x.pages, l.length = 64) : Gd (ckS s x) := by
  have h1 := rightR_true.1 hr
  unfold ckS
  exact Gd.putR (Gd.flA (Gd.homeN h.flA (by rw [flA_len]; exact hr) hp h64 x.P (Nat.le_refl _))) _ _ _ (by rw [flA_len, homeN_len, flA_len]; omega)
theorem secV_ckS {s : St} (h : Gd s) {x : SV} (hr : rightR x.L x.P x.E s.V.length = true) (hp : x.pages.length = x.P) (h64 : ∀ l ∈ x.pages, l.length = 64) (j : Nat) :
    secV (ckS s x) j = if j = (x.E + 1) % 2 then rootL x.L x.P (x.E + 1) else if 2 + x.L ≤ j ∧ j < 2 + x.L + x.P ∧ x.named.getD (j - (2 + x.L)) false = true then x.pages.getD (j - (2 + x.L)) [] else secV s j := by
  have h1 := rightR_true.1 hr
  unfold ckS
  rw [secV_putR (Gd.flA (Gd.homeN h.flA (by rw [flA_len]; exact hr) hp h64 x.P (Nat.le_refl _))) _ _ _ (by rw [flA_len, homeN_len, flA_len]; omega), secV_flA, secV_homeN h.flA (by rw [flA_len]; exact hr) hp h64 x.P (Nat.le_refl _), secV_flA]
theorem bestStep_ge {n : Int} {o : RV} {l : List UInt8} : o.epoch ≤ (bestStep n o l).epoch ∧ (isRoot l → rightR (getI l 4) (getI l 8) (getI l 12) n = true → getI l 12 ≤ (bestStep n o l).epoch) := by
  unfold bestStep
  split
  · rename_i h; exact ⟨by show _ ≤ getI l 12; omega, fun _ _ => Nat.le_refl _⟩
  · rename_i h; exact ⟨Nat.le_refl _, fun h1 h2 => by
      rcases Nat.lt_or_ge o.epoch (getI l 12) with h3 | h3
      · exact absurd ⟨h1, h2, h3⟩ h
      · exact h3⟩
theorem bestStep_two {n : Int} {o : RV} {l : List UInt8} : bestStep n o l = o ∨ (bestStep n o l = ⟨getI l 4, getI l 8, getI l 12⟩ ∧ isRoot l ∧ rightR (getI l 4) (getI l 8) (getI l 12) n = true) := by
  unfold bestStep
  split
  · rename_i h; exact .inr ⟨rfl, h.1, h.2.1⟩
  · exact .inl rfl
/-- The root that a Checkpoint put is found again. -/
theorem best_put {s s' : St} {L P E : Nat} (hv : s'.V.length = s.V.length) (hb : (bestK s.V.length s.S 2).epoch ≤ E) (hr : rightR L P (E + 1) s.V.length = true) (hE : E + 1 < 4294967296) (hq : secV s' ((E + 1) % 2) = rootL L P (E + 1)) (ho : secV s' (E % 2) = secV s (E % 2)) : bestK s'.V.length s'.S 2 = ⟨L, P, E + 1⟩ := by
  rw [bestK_two, hv]
  rw [bestK_two] at hb
  have hr' : rightR L P ((E + 1 : Nat) : Int) s.V.length = true := by rw [Int.natCast_add]; exact hr
  rcases Nat.mod_two_eq_zero_or_one E with h | h
  · rw [show (E + 1) % 2 = 1 by omega] at hq
    rw [h] at ho
    rw [hq, ho]
    refine bestStep_root hr' hE ?_
    have := (bestStep_ge (n := s.V.length) (o := bestStep s.V.length RV.zero (secV s 0)) (l := secV s 1)).1
    omega
  · rw [show (E + 1) % 2 = 0 by omega] at hq
    rw [h] at ho
    rw [hq, ho, bestStep_root hr' hE (by show 0 < E + 1; omega)]
    rcases bestStep_two (n := s.V.length) (o := ⟨L, P, E + 1⟩) (l := secV s 1) with h1 | ⟨h1, h2, h3⟩
    · exact h1
    · have h4 := (bestStep_ge (n := s.V.length) (o := bestStep s.V.length RV.zero (secV s 0)) (l := secV s 1)).2 h2 h3
      unfold bestStep
      rw [if_neg (fun h5 => by have := h5.2.2; simp only at this; omega)]
theorem best_ck {s : St} (h : Gd s) {x : SV} (hr : rightR x.L x.P x.E s.V.length = true) (hp : x.pages.length = x.P) (h64 : ∀ l ∈ x.pages, l.length = 64) (hb : (bestK s.V.length s.S 2).epoch ≤ x.E) (hE : x.E + 1 < 4294967296) : bestK (ckS s x).V.length (ckS s x).S 2 = ⟨x.L, x.P, x.E + 1⟩ := by
  have h1 := rightR_true.1 hr
  refine best_put (ckS_len s x) hb (rightR_true.2 (by omega)) hE ?_ ?_
  · rw [secV_ckS h hr hp h64, if_pos rfl]
  · rw [secV_ckS h hr hp h64, if_neg (by omega), if_neg (by omega)]
end Go.Proofs.Ytddjgncdjdjgeaa
