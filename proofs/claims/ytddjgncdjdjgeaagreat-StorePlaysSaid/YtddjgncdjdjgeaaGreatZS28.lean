/-
  S: Rst2.
-/
import Derived.Test.YtddjgncdjdjgeaaGreatZS27
namespace Go.Proofs.YtddjgncdjdjgeaaGreat
open Go.RowKit
def rootD (x : SV) : Deed := some ((x.E + 1) % 2, rootL x.L x.P (x.E + 1))
/-- Named pages brought home, the first k of them, as deeds. -/
def homeDs (x : SV) : Nat → List Deed
  | 0 => []
  | k + 1 => homeDs x k ++ (if x.named.getD k false = true then [some (2 + x.L + k, x.pages.getD k [])] else [])
/-- A checkpoint's deeds. -/
def ckDs (x : SV) : List Deed := none :: (homeDs x x.P ++ [none, rootD x, none])
theorem doD_home (s : St) (x : SV) : ∀ k, doD s (homeDs x k) = homeN s x k
  | 0 => rfl
  | k + 1 => by
    rw [homeDs, doD_app, doD_home s x k, homeN]
    split
    · rfl
    · rfl
theorem doD_ck (s : St) (x : SV) : doD s (ckDs x) = ckS s x := by
  show doD (dOne s none) (homeDs x x.P ++ [none, rootD x, none]) = _
  rw [doD_app, doD_home]
  rfl
def RK.W (k : RK) (gW : Nat) : List Nat := [k.q, k.gL, k.gN, gW, k.g, k.gM]
/-- Pages stay away from a block that is new. -/
theorem Els.swap {k : RK} {gW gW' : Nat} {w : World} {us : List Value} {ps : List (List UInt8)} (h : Els (k.D gW) w us ps) {B : Nat} (hB : ∀ (i : Nat) u l, us[i]? = some u → ps[i]? = some l → ∀ A' n' c', u = .slice A' n' c' → ∀ ad, A' = some ad → ad.block < B) (hg : gW' = gW ∨ B ≤ gW') : Els (k.D gW') w us ps := by
  refine ⟨h.1, fun i u l hu hl => ?_⟩
  obtain ⟨A', n', c', e', hb, hD⟩ := h.2 i u l hu hl
  refine ⟨A', n', c', e', hb, fun ad e hm => ?_⟩
  have h1 := hD ad e
  have h2 := hB i u l hu hl A' n' c' e' ad e
  simp only [RK.D, List.mem_cons, not_or] at h1 hm
  rcases hm with h' | h' | h' | h' | h' | h' | h' | h'
  · exact h1.1 h'
  · exact h1.2.1 h'
  · exact h1.2.2.1 h'
  · rcases hg with hg | hg
    · exact h1.2.2.2.1 (h'.trans hg)
    · omega
  · exact h1.2.2.2.2.1 h'
  · exact h1.2.2.2.2.2.1 h'
  · exact h1.2.2.2.2.2.2.1 h'
  · exact h1.2.2.2.2.2.2.2 h'
theorem Els.lt {T : List Nat} {w : World} {us : List Value} {ps : List (List UInt8)} (h : Els T w us ps) (hp : ∀ l ∈ ps, l.length = 64) : ∀ (i : Nat) u l, us[i]? = some u → ps[i]? = some l → ∀ A' n' c', u = .slice A' n' c' → ∀ ad, A' = some ad → ad.block < w.heap.size := by
  intro i u l hu hl A' n' c' e ad ea
  obtain ⟨A, n, c, e', hb, _⟩ := h.2 i u l hu hl
  rw [e'] at e
  injection e with e _ _
  subst e
  obtain ⟨ad', ea', hlt, _⟩ := hb.src (by rw [bts_len, hp l (List.mem_of_getElem? hl)]; omega)
  rw [ea] at ea'
  injection ea' with ea'
  subst ea'
  exact hlt
def rdF (q gL gN gW : Nat) (rL rN : List Value) (d : Dg) : Fact := fun _ W => Rd W q gL gN gW rL rN d
theorem keeps_rd {q gL gN gW : Nat} {rL rN : List Value} {d : Dg} : Keeps (Chg []) (rdF q gL gN gW rL rN d) := fun _ _ _ h hc => Rfx.keep h hc
def RCkPost (w : World) (k : RK) (gW : Nat) (rL rN : List Value) (d : Dg) (x : SV) (us rP : List Value) (e : Ending) (w' : World) : Prop :=
  e = .returned (.int .i64 0) ∧ (∃ gW', RSto w' k gW' rL rN (d.run (ckDs x)) (ckV x) us rP ∧ (gW' = gW ∨ w.heap.size ≤ gW')) ∧ Chg (k.W gW) w w'
section
variable {w : World} {k : RK} {gW : Nat} {rL rN : List Value} {d : Dg} {x : SV} {us rP : List Value}
set_option maxHeartbeats 2000000 in
set_option maxRecDepth 100000 in
theorem rck_full (h : RSto w k gW rL rN d x us rP) (hE : x.E = 4294967295) :
    Calls Tryz.prog 47 #[.pointer (some ⟨k.g, 0, none⟩)] w (fun e w' => e = .returned (.int .i64 24) ∧ Chg [] w w') := by
  have e3 := h.rec_.cell 3
  have hq : ((x.E : Int) == 4294967295) = true := by simp [hE]
  clear h hE
  go_enter Tryz.func47, Tryz.ntmps47
  go_wp2_with fail
  go_ret
  exact ⟨rfl, Chg.refl _ _⟩
set_option maxHeartbeats 16000000 in
set_option maxRecDepth 100000 in
theorem rck_any (h : RSto w k gW rL rN d x us rP) (hE : x.E < 4294967295) :
    Calls Tryz.prog 47 #[.pointer (some ⟨k.g, 0, none⟩)] w (RCkPost w k gW rL rN d x us rP) := by
  have hrt := rightR_true.1 h.rt
  have HRT := Lib.hid hrt
  have H := Lib.hid h
  have hP64 : x.P ≤ 64 := by omega
  have hne : ((x.E : Int) == 4294967295) = false := by simp; omega
  have HGP := Lib.hid (show k.gP ∉ [k.q, k.gL, k.gN, gW, k.gM] ∧ k.g ∉ [k.q, k.gL, k.gN, gW, k.gM] ∧ k.g ≠ k.gP ∧ k.gM ∉ [k.q, k.gL, k.gN, gW] from by
    have e1 : k.gP ≠ k.q := fun e => (h.pg.ne_ (Rfx.rec_ h.dsk) (by decide)) e
    have e3 : k.gP ≠ k.gL := fun e => (h.pg.ne_ (Rfx.last h.dsk) (by decide)) e
    have e5 : k.gP ≠ k.gN := fun e => (h.pg.ne_ (Rfx.now h.dsk) (by decide)) e
    have e7 : k.gP ≠ gW := fun e => (h.pg.ne_ (Rfx.wait h.dsk) (by decide)) e
    have e8 : k.gP ≠ k.gM := fun e => (h.pg.ne_ h.nm (by decide)) e
    have f1 : k.g ≠ k.q := fun e => (h.rec_.ne_ (Rfx.rec_ h.dsk) (by decide)) e
    have f3 : k.g ≠ k.gL := fun e => (h.rec_.ne_ (Rfx.last h.dsk) (by decide)) e
    have f5 : k.g ≠ k.gN := fun e => (h.rec_.ne_ (Rfx.now h.dsk) (by decide)) e
    have f7 : k.g ≠ gW := fun e => (h.rec_.ne_ (Rfx.wait h.dsk) (by decide)) e
    have f8 : k.g ≠ k.gM := fun e => (h.rec_.ne_ h.nm (by decide)) e
    have f9 : k.g ≠ k.gP := fun e => (h.rec_.ne_ h.pg (by decide)) e
    have g1 : k.gM ≠ k.q := fun e => (h.nm.ne_ (Rfx.rec_ h.dsk) (by decide)) e
    have g3 : k.gM ≠ k.gL := fun e => (h.nm.ne_ (Rfx.last h.dsk) (by decide)) e
    have g5 : k.gM ≠ k.gN := fun e => (h.nm.ne_ (Rfx.now h.dsk) (by decide)) e
    have g7 := h.ng
    simp only [List.mem_cons, List.not_mem_nil, or_false, not_or]
    exact ⟨⟨e1, e3, e5, e7, e8⟩, ⟨f1, f3, f5, f7, f8⟩, f9, ⟨g1, g3, g5, g7⟩⟩)
  have HUL := Lib.hid h.ul
  have HLTQ := Lib.hid (show k.q < w.heap.size ∧ k.gL < w.heap.size ∧ k.gN < w.heap.size ∧ gW < w.heap.size ∧ k.gM < w.heap.size ∧ k.g < w.heap.size from ⟨(Rfx.rec_ h.dsk).lt, (Rfx.last h.dsk).lt, (Rfx.now h.dsk).lt, (Rfx.wait h.dsk).lt, h.nm.lt, h.rec_.lt⟩)
  have e0 := h.rec_.cell 0
  have e3 := h.rec_.cell 3
  have HP64 := Lib.hid hP64
  clear h hrt
  go_enter Tryz.func47, Tryz.ntmps47
  go_wp2_with fail
  refine (rdflush_any H.out.dsk).mono ?_
  rintro e w2 ⟨gV, rfl, hd2, hgv, hc2⟩
  have HGV := Lib.hid hgv
  have HD2 := Lib.hid (show Rd w2 k.q k.gL k.gN gV rL rN (d.run (none :: homeDs x 0)) from hd2)
  have HC2 := Lib.hid (show Chg [k.q, k.gL, k.gN, gW, k.gM] w w2 from hc2.sub (by simp))
  have hR2 := H.out.rec_.chg HC2.out HGP.out.2.1
  have e5 := hR2.cell 5
  have HN2 := Lib.hid (H.out.nm.chg hc2 (fun hm => HGP.out.2.2.2 (by simp only [List.mem_cons, List.not_mem_nil, or_false] at hm ⊢; rcases hm with h | h <;> simp [h])))
  clear e0 e3 hd2 hc2 hgv
  go_wp2_with fail
  go_loopw [20] (fun i wr => ∃ j : Nat, i = .int .i64 (j : Int) ∧ j ≤ x.P ∧ Hid (Rd wr k.q k.gL k.gN gV rL rN (d.run (none :: homeDs x j))) ∧ Hid (Whole wr k.gM 4 (bls (List.replicate j false ++ x.named.drop j))) ∧ Hid (Chg [k.q, k.gL, k.gN, gW, k.gM] w wr)) (fun i _ => x.P - (intOf i).toNat)
  case atStart => exact ⟨0, rfl, Nat.zero_le _, HD2, Lib.hid (by simpa using HN2.out), HC2⟩
  case round =>
    obtain ⟨j, rfl, hj, HDr, HNr, HCr⟩ := hrel
    clear e5 hR2 HD2 HN2 HC2
    have HRr := Lib.hid (H.out.rec_.chg HCr.out HGP.out.2.1)
    have HPr := Lib.hid (H.out.pg.chg HCr.out HGP.out.1)
    have HEr := Lib.hid (H.out.els.chg HCr.out (by simp [RK.D]))
    by_cases hlt : j < x.P
    · have hjI : (j : Int) < (x.P : Int) := by omega
      have hj0 : (0 : Int) ≤ (j : Int) := by omega
      have hnl := H.out.nl
      have hnc := HNr.out.cell j
      rw [bls_get _ j (by rw [List.length_append, List.length_replicate, List.length_drop]; omega)] at hnc
      have hgd : x.named.getD j false = x.named[j]'(by omega) := by rw [List.getD_eq_getElem?_getD, List.getElem?_eq_getElem (by omega)]; rfl
      have hge : (List.replicate j false ++ x.named.drop j)[j]'(by rw [List.length_append, List.length_replicate, List.length_drop]; omega) = x.named[j]'(by omega) := by
        rw [List.getElem_append_right (by simp)]
        simp
      rw [hge] at hnc
      have HNN := Lib.hid (show (List.replicate j false ++ x.named.drop j).set j false = List.replicate (j + 1) false ++ x.named.drop (j + 1) from by
        rw [List.set_append_right _ _ (by simp), List.length_replicate, Nat.sub_self, List.drop_eq_getElem_cons (by omega), List.set_cons_zero, List.replicate_succ', List.append_assoc]; rfl)
      have HNK := Lib.hid (show x.named[j]'(by omega) = false → List.replicate j false ++ x.named.drop j = List.replicate (j + 1) false ++ x.named.drop (j + 1) from fun hb => by
        rw [List.drop_eq_getElem_cons (by omega), hb, List.replicate_succ', List.append_assoc]; rfl)
      have HH := Lib.hid (show homeDs x (j + 1) = homeDs x j ++ (if x.named.getD j false = true then [some (2 + x.L + j, x.pages.getD j [])] else []) from rfl)
      rw [hgd] at HH
      generalize x.named[j]'(by omega) = b at hnc HH HNK
      clear hgd hge hnl
      have r5 := HRr.out.cell 5
      cases b with
      | false =>
        go_wp2_with fail
        go_roundw
        case rel => exact ⟨j + 1, by go_num, by omega, Lib.hid (by rw [HH.out, if_neg (by simp), List.append_nil]; exact HDr.out), Lib.hid (by rw [← HNK.out rfl]; exact HNr.out), HCr⟩
        case measure => simp [intOf]; omega
      | true =>
        have hju : j < us.length := by rw [HUL.out]; exact hlt
        have hjp : j < x.pages.length := by rw [H.out.pl]; exact hlt
        obtain ⟨A', n', c', eu, hbs, hA⟩ := HEr.out.2 j _ _ (List.getElem?_eq_getElem hju) (List.getElem?_eq_getElem hjp)
        have hrow := HPr.out.cell j
        rw [List.getElem?_append_left hju, List.getElem?_eq_getElem hju, eu] at hrow
        have hpgd : x.pages.getD j [] = x.pages[j]'hjp := by rw [List.getD_eq_getElem?_getD, List.getElem?_eq_getElem hjp]; rfl
        rw [hpgd] at HH
        have h64 := H.out.p64 _ (List.getElem_mem hjp)
        generalize x.pages[j]'hjp = row at HH hbs h64
        obtain rfl : n' = 64 := by rw [← hbs.len]; exact h64
        have HROW := Lib.hid hrow
        have HBS := Lib.hid hbs
        have H64 := Lib.hid h64
        have HA := Lib.hid hA
        have HJ := Lib.hid (show j < x.P from hlt)
        have HPB := Lib.hid (show k.gP ∉ [k.q, k.gN, gV] from fun hm => by
          have h1 := HGP.out.1
          have h2 := HPr.out.lt
          have h3 := HGV.out
          have h4 := H.out.pg.lt
          simp only [List.mem_cons, List.not_mem_nil, or_false, not_or] at hm h1
          rcases hm with h | h | h
          · exact h1.1 h
          · exact h1.2.2.1 h
          · rcases h3 with h3 | h3
            · exact h1.2.2.2.1 (h.trans h3)
            · omega)
        have HGB := Lib.hid (show k.g ∉ [k.q, k.gN, gV] from fun hm => by
          have h1 := HGP.out.2.1
          have h3 := HGV.out
          have h4 := HLTQ.out
          simp only [List.mem_cons, List.not_mem_nil, or_false, not_or] at hm h1
          rcases hm with h | h | h
          · exact h1.1 h
          · exact h1.2.2.1 h
          · rcases h3 with h3 | h3
            · exact h1.2.2.2.1 (h.trans h3)
            · omega)
        have HMB := Lib.hid (show k.gM ∉ [k.q, k.gN, gV] from fun hm => by
          have h1 := HGP.out.2.2.2
          have h3 := HGV.out
          have h4 := HLTQ.out
          simp only [List.mem_cons, List.not_mem_nil, or_false, not_or] at hm h1
          rcases hm with h | h | h
          · exact h1.1 h
          · exact h1.2.2.1 h
          · rcases h3 with h3 | h3
            · exact h1.2.2.2 (h.trans h3)
            · omega)
        clear hrow hbs hpgd eu h64 hA hju hjp
        go_upto_region 8 with fail
        clear r5
        have hC0 := (Chg.refl [] wr).drew.sub (T' := [k.q, k.gN, gV]) (fun _ h => by cases h)
        have TOK := dkT_ok (T := [k.q, k.gN, gV]) (hard := [17]) (soft := [17])
        refine wp_flow (by kernel_rfl) (dkT [k.q, k.gN, gV] [17] [17]) TOK (by kernel_rfl) ?_
        refine flow_move_out TOK rfl rfl rfl ?_
        refine flow1 (r := .pointer (some ⟨k.g, 0, none⟩)) TOK rfl (.inn rfl) rfl (fun ev W he e1 => by go_simp) ?_
        refine flow1 (r := .pointer (some ⟨k.g, 0, none⟩)) TOK rfl (.inn rfl) rfl (fun ev W he e1 => by go_simp) ?_
        refine flow1h (r := .pointer (some ⟨k.q, 0, none⟩)) TOK rfl (.inn rfl) rfl (fun ev W he hW e1 => by have r0 := (HRr.out.chg (hC0.trans hW) HGB.out).cell 0; clear hW; go_simp) ?_
        refine flow_move_out TOK rfl rfl rfl ?_
        refine flow1 (r := .pointer (some ⟨k.g, 0, none⟩)) TOK rfl (.inn rfl) rfl (fun ev W he e1 => by go_simp) ?_
        refine flow1 (r := .pointer (some ⟨k.g, 1, none⟩)) TOK rfl (.inn rfl) rfl (fun ev W he e1 => by go_simp) ?_
        refine flow1h (r := rootV x.L x.P x.E) TOK rfl (.inn rfl) rfl (fun ev W he hW e1 => by have hx := HRr.out.chg (hC0.trans hW) HGB.out; have r1 := hx.cell 1; have r2 := hx.cell 2; have r3 := hx.cell 3; clear hW hx; unfold rootV; go_simp) ?_
        refine flow_move_out TOK rfl rfl rfl ?_
        refine flow_calld (isV (.int .i64 (homeI x.L x.P j))) (keeps_isV _) (.inr (keeps_isV _)) (by kernel_rfl) rfl (.cons (.inn rfl) (.cons (.inn rfl) .nil)) (fun W hW => (rhome_any x.L x.P x.E j).mono ?_) ?_
        · rintro e w' ⟨rfl, hc⟩
          exact ⟨_, rfl, dk_by _ hc, rfl⟩
        refine flow_move_out TOK rfl rfl rfl ?_
        refine flow1 (r := .pointer (some ⟨k.g, 0, none⟩)) TOK rfl (.inn rfl) rfl (fun ev W he e1 => by go_simp) ?_
        refine flow1 (r := .pointer (some ⟨k.g, 4, none⟩)) TOK rfl (.inn rfl) rfl (fun ev W he e1 => by go_simp) ?_
        refine flow1h (r := .slice (some ⟨k.gP, 0, none⟩) x.P (x.P + rP.length)) TOK rfl (.inn rfl) rfl (fun ev W he hW e1 => by have r4 := (HRr.out.chg (hC0.trans hW) HGB.out).cell 4; clear hW; go_simp) ?_
        refine flow_move_out TOK rfl rfl rfl ?_
        refine flow2 (r := .pointer (some ⟨k.gP, j, none⟩)) TOK rfl (.inn rfl) (.inn rfl) rfl (fun ev W he e1 e2 => by go_simp) ?_
        refine flow1h (r := .slice A' 64 c') TOK rfl (.inn rfl) rfl (fun ev W he hW e1 => by
          have hc0 : W.cell? ⟨k.gP, j, none⟩ = some (.slice A' 64 c') := by
            rw [← HROW.out]
            exact World.cell?_of_block ((hC0.trans hW).block k.gP HPr.out.lt HPB.out)
          clear hW
          go_simp) ?_
        refine flow_early (rdF k.q k.gL k.gN gV rL rN (d.run (none :: homeDs x (j + 1)))) keeps_rd (.inl rfl) rfl rfl (fun ev W he hW hfs => ?_) ?_
        · have hc0 : Chg [] wr W := (Chg.refl [] wr).drew.new (star_chg hW)
          rw [run_call he (by kernel_rfl)]
          obtain ⟨_, f1, f2, f3, _⟩ := hfs
          have hhm := homeI_in (L := (x.L : Int)) (P := (x.P : Int)) (i := (j : Int)) (by have := HRT.out; omega) (by have := HRT.out; omega) (by have := HRT.out; omega) (by omega) (by have := HJ.out; omega)
          have e1 : ev (.tmp 33) = .pointer (some ⟨k.q, 0, none⟩) := f1
          have e2 : ev (.tmp 39) = .int .i64 ((2 + x.L + j : Nat) : Int) := by
            have h2 : ev (.tmp 39) = .int .i64 (homeI x.L x.P j) := f2
            rw [h2, hhm]
            congr 1
          have e3 : ev (.tmp 46) = .slice A' 64 c' := f3
          rw [show Array.map ev #[.tmp 33, .tmp 39, .tmp 46] = #[ev (.tmp 33), ev (.tmp 39), ev (.tmp 46)] by simp]
          unfold Leaves
          simp only
          rw [e1, e2, e3]
          have hq : k.q ∈ k.D gW := by simp [RK.D]
          refine (rdwrite_any (Rfx.keep HDr.out hc0) (2 + x.L + j) (by rw [Dg.run_len]; have := HRT.out; have := HJ.out; omega) H64.out (HBS.out.keep hc0).src (fun ad e hm => HA.out ad e (by rw [hm]; exact hq))).mono ?_
          rintro e w3 ⟨rfl, hd3, hc3⟩
          refine ⟨_, rfl, dk_hard rfl hc3, ?_⟩
          show Rd w3 k.q k.gL k.gN gV rL rN (d.run (none :: homeDs x (j + 1)))
          rw [HH.out, if_pos rfl, ← List.cons_append, Dg.run_app]
          exact hd3
        intro vs W hW hF
        have hd : rdF k.q k.gL k.gN gV rL rN (d.run (none :: homeDs x (j + 1))) (vs 47) W := hF 47 _ rfl rfl
        have HD3 := Lib.hid (show Rd W k.q k.gL k.gN gV rL rN (d.run (none :: homeDs x (j + 1))) from hd)
        have hcw := hC0.trans hW
        have HC3 := Lib.hid (show Chg [k.q, k.gL, k.gN, gW, k.gM] w W from HCr.out.then_ hcw (fun i hi hw => by
          have h3 := HGV.out
          simp only [List.mem_cons, List.not_mem_nil, or_false] at hi ⊢
          rcases hi with h | h | h
          · simp [h]
          · simp [h]
          · rcases h3 with h3 | h3
            · simp [h, h3]
            · omega))
        have HN3 := Lib.hid (HNr.out.chg hcw HMB.out)
        have HR3 := Lib.hid (HRr.out.chg hcw HGB.out)
        simp only [putAll, Act.put, List.setIfInBounds_toArray, List.set_cons_zero, List.set_cons_succ]
        clear hF hW hd TOK hC0 hcw HRr HNr HCr HDr
        obtain ⟨w3, hw3⟩ : ∃ w3 : World, w3 = W := ⟨_, rfl⟩
        rw [← hw3] at HD3 HC3 HN3 HR3 ⊢
        clear hw3 hnc
        have r5 := HR3.out.cell 5
        have hold := HN3.out.cell j
        have hof := HN3.out.frozen j
        rw [bls_get _ j (by rw [List.length_append, List.length_replicate, List.length_drop, H.out.nl]; omega)] at hold
        generalize (List.replicate j false ++ x.named.drop j)[j]'(by rw [List.length_append, List.length_replicate, List.length_drop, H.out.nl]; omega) = ob at hold
        go_wp2_with fail
        have hNs := HN3.out.set_ j (.bool false)
        rw [bls_set, HNN.out] at hNs
        have hc6 : Chg [k.gM] w3 (w3.setCell ⟨k.gM, j, none⟩ (.bool false)) := (Chg.refl [k.gM] w3).setCell (p := ⟨k.gM, j, none⟩) (fun _ => by simp) _
        have HN6 := Lib.hid hNs
        have HC6 := Lib.hid (show Chg [k.q, k.gL, k.gN, gW, k.gM] w (w3.setCell ⟨k.gM, j, none⟩ (.bool false)) from HC3.out.trans (hc6.sub (by simp)))
        have HD6 := Lib.hid (show Rd (w3.setCell ⟨k.gM, j, none⟩ (.bool false)) k.q k.gL k.gN gV rL rN (d.run (none :: homeDs x (j + 1))) from Rfx.away HD3.out hc6 (by simp only [List.mem_singleton]; exact fun e => ((Rfx.rec_ HD3.out).ne_ HN3.out (by decide)) e) (by simp only [List.mem_singleton]; exact fun e => ((Rfx.last HD3.out).ne_ HN3.out (by decide)) e) (by simp only [List.mem_singleton]; exact fun e => ((Rfx.now HD3.out).ne_ HN3.out (by decide)) e) (by simp only [List.mem_singleton]; exact fun e => HMB.out (by rw [← e]; simp)))
        clear hNs hc6
        go_roundw
        case rel => exact ⟨j + 1, by go_num, by omega, HD6, HN6, HC6⟩
        case measure => simp [intOf]; omega
    · obtain rfl : x.P = j := by omega
      have hjI : ¬ (x.P : Int) < (x.P : Int) := by omega
      have r0 := HRr.out.cell 0
      go_wp2_with fail
      refine (rdflush_any HDr.out).mono ?_
      rintro e w3 ⟨gV2, rfl, hd3, hgv2, hc3⟩
      have hnl := H.out.nl
      have HGV2 := Lib.hid (show gV2 = gW ∨ w.heap.size ≤ gV2 from by
        have h1 := HGV.out
        have h2 := HCr.out.size
        rcases hgv2 with h | h
        · rw [h]; exact h1
        · exact .inr (by omega))
      have HD3 := Lib.hid (show Rd w3 k.q k.gL k.gN gV2 rL rN ((d.run (none :: homeDs x x.P)).step none) from hd3)
      have HC3 := Lib.hid (HCr.out.trans (hc3.sub (T' := [k.q, k.gL, k.gN, gW, k.gM]) (by simp)))
      have hN3 := HNr.out.chg hc3 (fun hm => HGP.out.2.2.2 (by simp only [List.mem_cons, List.not_mem_nil, or_false] at hm ⊢; rcases hm with h | h <;> simp [h]))
      rw [show List.replicate x.P false ++ x.named.drop x.P = List.replicate x.P false by rw [List.drop_of_length_le (by omega), List.append_nil]] at hN3
      have HN3 := Lib.hid hN3
      have hR3 := H.out.rec_.chg HC3.out HGP.out.2.1
      have HR3 := Lib.hid hR3
      have r3 := hR3.cell 3
      have f3 := hR3.frozen 3
      have hwe : IntKind.u32.wrap ((x.E : Int) + 1) = ((x.E + 1 : Nat) : Int) := by rw [IntKind.wrap_u32]; omega
      obtain ⟨E1, hE1⟩ : ∃ E1, E1 = x.E + 1 := ⟨_, rfl⟩
      rw [← hE1] at hwe
      have HE1 := Lib.hid hE1
      have hE2 : E1 < 4294967296 := by omega
      clear r0 hd3 hgv2 hc3 hN3 hR3 hE1 hnl HDr HNr HCr HRr HPr HEr
      go_upto_region 13 with fail
      have hR4 := HR3.out.set_ 3 (.int .u32 (E1 : Int))
      have hc4 : Chg [k.g] w3 (w3.setCell ⟨k.g, 3, none⟩ (.int .u32 (E1 : Int))) := (Chg.refl [k.g] w3).setCell (p := ⟨k.g, 3, none⟩) (fun _ => by simp) _
      have HD4 := Lib.hid (show Rd (w3.setCell ⟨k.g, 3, none⟩ (.int .u32 (E1 : Int))) k.q k.gL k.gN gV2 rL rN ((d.run (none :: homeDs x x.P)).step none) from Rfx.away HD3.out hc4 (by simp only [List.mem_singleton]; exact fun e => ((Rfx.rec_ HD3.out).ne_ HR3.out (by decide)) e) (by simp only [List.mem_singleton]; exact fun e => ((Rfx.last HD3.out).ne_ HR3.out (by decide)) e) (by simp only [List.mem_singleton]; exact fun e => ((Rfx.now HD3.out).ne_ HR3.out (by decide)) e) (by simp only [List.mem_singleton]; exact fun e => ((Rfx.wait HD3.out).ne_ HR3.out (by decide)) e))
      have HN4 := Lib.hid (HN3.out.chg hc4 (by simp only [List.mem_singleton]; exact fun e => (HN3.out.ne_ HR3.out (by decide)) e))
      have HC4 := Lib.hid (show Chg (k.W gW) w (w3.setCell ⟨k.g, 3, none⟩ (.int .u32 (E1 : Int))) from (HC3.out.sub (T' := k.W gW) (fun i hi => by simp only [RK.W, List.mem_cons, List.not_mem_nil, or_false] at hi ⊢; rcases hi with h | h | h | h | h <;> simp [h])).trans (hc4.sub (by simp [RK.W])))
      simp only [List.set_cons_succ, List.set_cons_zero] at hR4
      have HR4 := Lib.hid hR4
      clear hR4 hc4 r3 f3 HR3 HD3 HN3 HC3
      generalize w3.setCell ⟨k.g, 3, none⟩ (.int .u32 (E1 : Int)) = w4 at HR4 HD4 HN4 HC4 ⊢
      have HGB := Lib.hid (show k.g ∉ [k.q, k.gN, gV2] from fun hm => by
        have h1 := HGP.out.2.1
        have h3 := HGV2.out
        have h4 := HLTQ.out
        simp only [List.mem_cons, List.not_mem_nil, or_false, not_or] at hm h1
        rcases hm with h | h | h
        · exact h1.1 h
        · exact h1.2.2.1 h
        · rcases h3 with h3 | h3
          · exact h1.2.2.2.1 (h.trans h3)
          · omega)
      have HMB := Lib.hid (show k.gM ∉ [k.q, k.gN, gV2] from fun hm => by
        have h1 := HGP.out.2.2.2
        have h3 := HGV2.out
        have h4 := HLTQ.out
        simp only [List.mem_cons, List.not_mem_nil, or_false, not_or] at hm h1
        rcases hm with h | h | h
        · exact h1.1 h
        · exact h1.2.2.1 h
        · rcases h3 with h3 | h3
          · exact h1.2.2.2 (h.trans h3)
          · omega)
      have hmod : ((E1 : Int)).tmod 2 = ((E1 % 2 : Nat) : Int) := by rw [Int.tmod_eq_emod_of_nonneg (by omega)]; omega
      have hm2 : E1 % 2 < 2 := Nat.mod_lt _ (by omega)
      generalize hq : E1 % 2 = q2 at hmod hm2
      have HQ := Lib.hid hq
      have hwq : IntKind.i64.wrap (q2 : Int) = (q2 : Int) := by rw [IntKind.wrap_i64]; omega
      clear hq hwe
      have hC0 := (Chg.refl [] w4).drew.sub (T' := [k.q, k.gN, gV2]) (fun _ h => by cases h)
      have TOK := dkT_ok (T := [k.q, k.gN, gV2]) (hard := [16]) (soft := [15, 16])
      refine wp_flow (by kernel_rfl) (dkT [k.q, k.gN, gV2] [16] [15, 16]) TOK (by kernel_rfl) ?_
      refine flow_move_out TOK rfl rfl rfl ?_
      refine flow1 (r := .pointer (some ⟨k.g, 0, none⟩)) TOK rfl (.inn rfl) rfl (fun ev W he e1 => by go_simp) ?_
      refine flow1 (r := .pointer (some ⟨k.g, 0, none⟩)) TOK rfl (.inn rfl) rfl (fun ev W he e1 => by go_simp) ?_
      refine flow1h (r := .pointer (some ⟨k.q, 0, none⟩)) TOK rfl (.inn rfl) rfl (fun ev W he hW e1 => by have r0 := (HR4.out.chg (hC0.trans hW) HGB.out).cell 0; clear hW; go_simp) ?_
      refine flow_move_out TOK rfl rfl rfl ?_
      refine flow1 (r := .pointer (some ⟨k.g, 0, none⟩)) TOK rfl (.inn rfl) rfl (fun ev W he e1 => by go_simp) ?_
      refine flow1 (r := .pointer (some ⟨k.g, 1, none⟩)) TOK rfl (.inn rfl) rfl (fun ev W he e1 => by go_simp) ?_
      refine flow1 (r := .pointer (some ⟨k.g, 3, none⟩)) TOK rfl (.inn rfl) rfl (fun ev W he e1 => by go_simp) ?_
      refine flow1h (r := .int .u32 (E1 : Int)) TOK rfl (.inn rfl) rfl (fun ev W he hW e1 => by have r3 := (HR4.out.chg (hC0.trans hW) HGB.out).cell 3; clear hW; go_simp) ?_
      refine flow2 (r := .int .u32 (q2 : Int)) TOK rfl (.inn rfl) (.const _) rfl (fun ev W he e1 e2 => by go_simp) ?_
      refine flow1 (r := .int .i64 (q2 : Int)) TOK rfl (.inn rfl) rfl (fun ev W he e1 => by go_simp) ?_
      refine flow_move_out TOK rfl rfl rfl ?_
      refine flow1 (r := .pointer (some ⟨k.g, 0, none⟩)) TOK rfl (.inn rfl) rfl (fun ev W he e1 => by go_simp) ?_
      refine flow1 (r := .pointer (some ⟨k.g, 1, none⟩)) TOK rfl (.inn rfl) rfl (fun ev W he e1 => by go_simp) ?_
      refine flow1h (r := rootV x.L x.P E1) TOK rfl (.inn rfl) rfl (fun ev W he hW e1 => by have hx := HR4.out.chg (hC0.trans hW) HGB.out; have r1 := hx.cell 1; have r2 := hx.cell 2; have r3 := hx.cell 3; clear hW hx; unfold rootV; go_simp) ?_
      refine flow_calld (ownF 0 5 (bts (rootL x.L x.P E1))) (keeps_own _ _ _) (.inl rfl) (by kernel_rfl) rfl (.cons (.inn rfl) .nil) (fun W hW => (rroot_any x.L x.P E1 (by have := HRT.out; omega) (by have := HRT.out; omega) hE2).mono ?_) ?_
      · rintro e w' ⟨v, rfl, ho, hc⟩
        exact ⟨v, rfl, dk_by _ hc, by unfold ownF; rw [bts_len]; exact own_more ho (Nat.zero_le _)⟩
      refine flow_early (rdF k.q k.gL k.gN gV2 rL rN (((d.run (none :: homeDs x x.P)).step none).step (rootD x))) keeps_rd (.inl rfl) rfl rfl (fun ev W he hW hfs => ?_) ?_
      · have hc0 : Chg [] w4 W := (Chg.refl [] w4).drew.new (star_chg hW)
        rw [run_call he (by kernel_rfl)]
        obtain ⟨_, f1, f2, f3, _⟩ := hfs
        have e1 : ev (.tmp 72) = .pointer (some ⟨k.q, 0, none⟩) := f1
        have e2 : ev (.tmp 79) = .int .i64 (q2 : Int) := f2
        have f3' : ownF 0 5 (bts (rootL x.L x.P E1)) (ev (.tmp 84)) W := f3
        unfold ownF at f3'
        rw [bts_len, rootL_len] at f3'
        obtain ⟨Av, cv, e3, _, _, hs3, hAv⟩ := own_slice f3'
        rw [show Array.map ev #[.tmp 72, .tmp 79, .tmp 84] = #[ev (.tmp 72), ev (.tmp 79), ev (.tmp 84)] by simp]
        unfold Leaves
        simp only
        rw [e1, e2, e3]
        have hdW := Rfx.keep HD4.out hc0
        refine (rdwrite_any hdW q2 (by rw [Dg.step_len, Dg.run_len]; have := HRT.out; omega) (rootL_len _ _ _) hs3 (fun ad e hm => ?_)).mono ?_
        · subst e
          rcases f3'.2 with ⟨hz, _⟩ | ⟨gg, cap, cur, hz, _, hh, _⟩
          · rw [e3] at hz; cases hz
          · rw [e3] at hz
            injection hz with hz _ _
            injection hz with hz
            subst hz
            have hm' : gg = k.q := hm
            subst hm'
            have h1 := hdW.rec_
            unfold Whole at h1
            rw [hh] at h1
            injection h1 with h1
            injection h1 with _ h1 _
            exact absurd h1 (by decide)
        rintro e w5 ⟨rfl, hd5, hc5⟩
        refine ⟨_, rfl, dk_hard rfl hc5, ?_⟩
        show Rd w5 k.q k.gL k.gN gV2 rL rN (((d.run (none :: homeDs x x.P)).step none).step (rootD x))
        unfold rootD
        rw [← HE1.out, HQ.out]
        exact hd5
      intro vs W hW hF
      have hd : rdF k.q k.gL k.gN gV2 rL rN (((d.run (none :: homeDs x x.P)).step none).step (rootD x)) (vs 85) W := hF 85 _ rfl rfl
      have hcw := hC0.trans hW
      have HD5 := Lib.hid (show Rd W k.q k.gL k.gN gV2 rL rN (((d.run (none :: homeDs x x.P)).step none).step (rootD x)) from hd)
      have HR5 := Lib.hid (HR4.out.chg hcw HGB.out)
      have HN5 := Lib.hid (HN4.out.chg hcw HMB.out)
      have HC5 := Lib.hid (show Chg (k.W gW) w W from HC4.out.then_ hcw (fun i hi hw => by
        have h3 := HGV2.out
        simp only [RK.W, List.mem_cons, List.not_mem_nil, or_false] at hi ⊢
        rcases hi with h | h | h
        · simp [h]
        · simp [h]
        · rcases h3 with h3 | h3
          · simp [h, h3]
          · omega))
      simp only [putAll, Act.put, List.setIfInBounds_toArray, List.set_cons_zero, List.set_cons_succ]
      clear hF hW hd TOK hC0 hcw HR4 HN4 HC4 HD4 hmod hm2 hwq
      obtain ⟨w5, hw5⟩ : ∃ w5 : World, w5 = W := ⟨_, rfl⟩
      rw [← hw5] at HD5 HR5 HN5 HC5 ⊢
      clear hw5
      have r0 := HR5.out.cell 0
      go_wp2_with fail
      refine (rdflush_any HD5.out).mono ?_
      rintro e w6 ⟨gV3, rfl, hd6, hgv3, hc6⟩
      have hGV3 : gV3 = gW ∨ w.heap.size ≤ gV3 := by
        have h1 := HGV2.out
        have h2 := HC5.out.size
        rcases hgv3 with h | h
        · rw [h]; exact h1
        · exact .inr (by omega)
      have HGV3 := Lib.hid hGV3
      have HD6 := Lib.hid (show Rd w6 k.q k.gL k.gN gV3 rL rN (d.run (ckDs x)) from by
        have := hd6
        rw [show d.run (ckDs x) = (((d.run (none :: homeDs x x.P)).step none).step (rootD x)).step none from by
          show d.run ((none :: homeDs x x.P) ++ [none, rootD x, none]) = _
          rw [Dg.run_app]; rfl]
        exact this)
      have hR6 := HR5.out.chg hc6 (fun hm => HGP.out.2.1 (by simp only [List.mem_cons, List.not_mem_nil, or_false] at hm ⊢; rcases hm with h | h <;> simp [h]))
      have HR6 := Lib.hid hR6
      have HN6 := Lib.hid (HN5.out.chg hc6 (fun hm => HGP.out.2.2.2 (by simp only [List.mem_cons, List.not_mem_nil, or_false] at hm ⊢; rcases hm with h | h <;> simp [h])))
      have HC6 := Lib.hid (HC5.out.trans (hc6.sub (T' := k.W gW) (fun i hi => by simp only [RK.W, List.mem_cons, List.not_mem_nil, or_false] at hi ⊢; rcases hi with h | h <;> simp [h])))
      have r6 := hR6.cell 6
      have f6 := hR6.frozen 6
      have r7 := hR6.cell 7
      have f7 := hR6.frozen 7
      clear r0 hd6 hgv3 hGV3 hc6 hR6
      go_wp2_with fail
      have hR7 := (HR6.out.set_ 6 (.int .i64 0)).set_ 7 (.int .u32 0)
      have hc7 : Chg [k.g] w6 ((w6.setCell ⟨k.g, 6, none⟩ (.int .i64 0)).setCell ⟨k.g, 7, none⟩ (.int .u32 0)) := ((Chg.refl [k.g] w6).setCell (p := ⟨k.g, 6, none⟩) (fun _ => by simp) _).setCell (p := ⟨k.g, 7, none⟩) (fun _ => by simp) _
      generalize (w6.setCell ⟨k.g, 6, none⟩ (.int .i64 0)).setCell ⟨k.g, 7, none⟩ (.int .u32 0) = w7 at hR7 hc7 ⊢
      simp only [List.set_cons_succ, List.set_cons_zero] at hR7
      have HP := Lib.hid (show RCkPost w k gW rL rN d x us rP (.returned (.int .i64 0)) w7 from by
        have hrt := HRT.out
        have hcw : Chg (k.W gW) w w7 := HC6.out.trans (hc7.sub (by simp [RK.W]))
        have hel := H.out.els.chg hcw (fun i hi => by simp only [RK.W, RK.D, List.mem_cons, List.not_mem_nil, or_false] at hi ⊢; rcases hi with h | h | h | h | h | h <;> simp [h])
        refine ⟨rfl, ⟨gV3, ?_, HGV3.out⟩, hcw⟩
        refine { dsk := ?_, rec_ := ?_, pg := H.out.pg.chg hcw ?_, els := hel.swap (H.out.els.lt H.out.p64) HGV3.out, nm := ?_, ng := ?_, rt := ?_, ep := ?_, pl := H.out.pl, nl := by simp [ckV], p64 := H.out.p64, us_ := Nat.zero_le _, sq := Nat.le_refl _, exl := fun i hi => Nat.lt_of_lt_of_le (H.out.exl i hi) hcw.size }
        · exact Rfx.away HD6.out hc7 (by simp only [List.mem_singleton]; exact fun e => ((Rfx.rec_ HD6.out).ne_ HR6.out (by decide)) e) (by simp only [List.mem_singleton]; exact fun e => ((Rfx.last HD6.out).ne_ HR6.out (by decide)) e) (by simp only [List.mem_singleton]; exact fun e => ((Rfx.now HD6.out).ne_ HR6.out (by decide)) e) (by simp only [List.mem_singleton]; exact fun e => ((Rfx.wait HD6.out).ne_ HR6.out (by decide)) e)
        · have := hR7
          rw [HE1.out] at this
          exact this
        · intro hm
          have h1 := HGP.out.1
          have h2 := HGP.out.2.2.1
          simp only [RK.W, List.mem_cons, List.not_mem_nil, or_false, not_or] at hm h1
          rcases hm with h | h | h | h | h | h
          · exact h1.1 h
          · exact h1.2.1 h
          · exact h1.2.2.1 h
          · exact h1.2.2.2.1 h
          · exact h2 h.symm
          · exact h1.2.2.2.2 h
        · have := HN6.out.chg hc7 (by simp only [List.mem_singleton]; exact fun e => (HN6.out.ne_ HR6.out (by decide)) e)
          exact this
        · have h1 := HGV3.out
          have h2 := H.out.ng
          have h3 := HLTQ.out
          rcases h1 with h1 | h1
          · rw [h1]; exact h2
          · omega
        · rw [Dg.run_len]
          have h1 := H.out.rt
          rw [rightR_true] at h1 ⊢
          obtain ⟨a, b, c, d, e, _⟩ := h1
          exact ⟨a, b, c, d, e, by show (1 : Int) ≤ ((x.E + 1 : Nat) : Int); omega⟩
        · show x.E + 1 < 4294967296
          omega)
      clear hR7 hc7 r6 f6 r7 f7
      go_wp2_with fail
      go_ret
      exact HP.out
end
end Go.Proofs.YtddjgncdjdjgeaaGreat
