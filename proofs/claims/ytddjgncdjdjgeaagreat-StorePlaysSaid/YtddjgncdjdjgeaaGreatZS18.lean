/-
  S: Sto5.
-/
import Derived.Test.YtddjgncdjdjgeaaGreatZS12
import Derived.Test.YtddjgncdjdjgeaaGreatZS17
import Derived.Lib.SliceRun
namespace Go.Proofs.YtddjgncdjdjgeaaGreat
open Go.RowKit
def PgR (T : List Nat) (w : World) (A : Option Addr) (us : List Value) (ps : List (List UInt8)) : Prop :=
  Src w A us ∧ us.length = ps.length ∧ (∀ ad, A = some ad → ad.spot = none ∧ ad.block ∉ T) ∧ ∀ (i : Nat) u l, us[i]? = some u → ps[i]? = some l → ∃ A' n' c', u = .slice A' n' c' ∧ Bs w A' n' c' l ∧ ∀ ad, A' = some ad → ad.block ∉ T
theorem PgR.chg {T T' : List Nat} {w w' : World} {A : Option Addr} {us : List Value} {ps : List (List UInt8)} (h : PgR T w A us ps) (hc : Chg T' w w') (hT : ∀ i ∈ T', i ∈ T) : PgR T w' A us ps := by
  obtain ⟨h2, h3, h4, h5⟩ := h
  refine ⟨src_aw h2 hc (fun ad e hm => (h4 ad e).2 (hT _ hm)), h3, h4, fun i u l hu hl => ?_⟩
  obtain ⟨A', n', c', e', hB, hD⟩ := h5 i u l hu hl
  exact ⟨A', n', c', e', bs_aw hB hc (fun ad e hm => hD ad e (hT _ hm)), hD⟩
/-- Row i. -/
theorem PgR.row {T : List Nat} {w : World} {A : Option Addr} {us : List Value} {ps : List (List UInt8)} (h : PgR T w A us ps) {i : Nat} (hi : i < ps.length) : ∃ b o A' n' c', A = some ⟨b, o, none⟩ ∧ w.cell? ⟨b, o + i, none⟩ = some (.slice A' n' c') ∧ Bs w A' n' c' ps[i] := by
  obtain ⟨h2, h3, h4, h5⟩ := h
  obtain ⟨ad, rfl, _, hx⟩ := h2 (by omega)
  obtain ⟨b, o, sp⟩ := ad
  obtain rfl : sp = none := (h4 _ rfl).1
  obtain ⟨A', n', c', e', hB, _⟩ := h5 i _ _ (List.getElem?_eq_getElem (by omega : i < us.length)) (List.getElem?_eq_getElem hi)
  have := hx i _ (List.getElem?_eq_getElem (by omega : i < us.length))
  rw [add_plain, e'] at this
  exact ⟨b, o, A', n', c', rfl, this, hB⟩
theorem setCells_whole {g t : Nat} : ∀ (vs cs pre : List Value) (w : World), Whole w g t (pre ++ cs) → cs.length = vs.length → Whole (w.setCells g pre.length vs) g t (pre ++ vs) ∧ Chg [g] w (w.setCells g pre.length vs)
  | [], cs, pre, w, h, hl => by
    obtain rfl : cs = [] := List.eq_nil_of_length_eq_zero (by simpa using hl)
    exact ⟨h, Chg.refl _ _⟩
  | v :: vs, [], _, _, _, hl => by simp at hl
  | v :: vs, c :: cs, pre, w, h, hl => by
    have h1 := h.set_ pre.length v
    rw [List.set_append_right _ _ (Nat.le_refl _), Nat.sub_self, List.set_cons_zero, show pre ++ v :: cs = (pre ++ [v]) ++ cs by simp] at h1
    have hc : Chg [g] w (w.setCell ⟨g, pre.length, none⟩ v) := (Chg.refl [g] w).setCell (p := ⟨g, pre.length, none⟩) (fun _ => by simp) _
    obtain ⟨h2, h3⟩ := setCells_whole vs cs (pre ++ [v]) _ h1 (by simpa using hl)
    rw [List.length_append, List.length_singleton] at h2 h3
    refine ⟨?_, hc.trans h3⟩
    have : pre ++ v :: vs = (pre ++ [v]) ++ vs := by simp
    rw [this]
    exact h2
/-- Named pages brought home, the first k of them. -/
def homeN (s : St) (x : SV) : Nat → St
  | 0 => s
  | k + 1 => if x.named.getD k false = true then (homeN s x k).write (2 + x.L + k) (x.pages.getD k []) else homeN s x k
theorem homeN_len (s : St) (x : SV) : ∀ k, (homeN s x k).V.length = s.V.length
  | 0 => rfl
  | k + 1 => by
    rw [homeN]
    split
    · rw [write_len, homeN_len s x k]
    · exact homeN_len s x k
/-- A checkpoint, of the disk, of the store. -/
def ckS (s : St) (x : SV) : St := putR (flA (homeN (flA s) x x.P)) x.L x.P (x.E + 1)
def ckV (x : SV) : SV := ⟨x.L, x.P, x.E + 1, x.pages, List.replicate x.P false, 0, 0⟩
theorem ckS_len (s : St) (x : SV) : (ckS s x).V.length = s.V.length := by rw [ckS, putR_len, flA_len, homeN_len, flA_len]
def SK.W (k : SK) : List Nat := [k.bL, k.bS, k.bW, k.g, k.gN]
def CkPost (w : World) (k : SK) (s : St) (x : SV) (e : Ending) (w' : World) : Prop := e = .returned (.int .i64 0) ∧ (∃ v, Sto w' k (ckS s x) (ckV x) v) ∧ Chg k.W w w'
def hputF (p bL bS bW : Nat) (s : St) : Fact := fun _ W => DskS W p bL bS bW s
theorem keeps_hput {p bL bS bW : Nat} {s : St} : Keeps (Chg []) (hputF p bL bS bW s) := fun _ _ _ h hc => Dsk.keep h hc
section
variable {w : World} {k : SK} {s : St} {x : SV} {vP : Value}
set_option maxHeartbeats 16000000 in
set_option maxRecDepth 100000 in
theorem checkpoint_any (h : Sto w k s x vP) (hE : x.E < 4294967295) :
    Calls Tryz.prog 46 #[.pointer (some ⟨k.g, 0, none⟩)] w (CkPost w k s x) := by
  obtain ⟨A, c, us, rfl, hcp, hpg⟩ := h.pgs
  have hpl := h.pl
  rw [hpl] at hcp
  have hrt := rightR_true.1 h.rt
  have HRT := Lib.hid hrt
  have H := Lib.hid h
  have HPG := Lib.hid (show PgR k.D w A us x.pages from hpg)
  have HCP := Lib.hid hcp
  have hP64 : x.P ≤ 64 := by omega
  have hr := h.rec_
  rw [hpl] at hr
  have HR := Lib.hid hr
  have HNE := Lib.hid (show (k.g ≠ k.bL ∧ k.g ≠ k.bS ∧ k.g ≠ k.bW) ∧ (k.gN ≠ k.bL ∧ k.gN ≠ k.bS ∧ k.gN ≠ k.bW) from ⟨⟨fun e => (h.rec_.ne_ (Dsk.last h.dsk) (by decide)) e, fun e => (h.rec_.ne_ (Dsk.seen h.dsk) (by decide)) e, fun e => (h.rec_.ne_ (Dsk.wait h.dsk) (by decide)) e⟩, fun e => (h.nm.ne_ (Dsk.last h.dsk) (by decide)) e, fun e => (h.nm.ne_ (Dsk.seen h.dsk) (by decide)) e, h.ng⟩)
  have HGG := Lib.hid (show k.g ≠ k.gN from fun e => (h.rec_.ne_ h.nm (by decide)) e)
  have hne : ((x.E : Int) == 4294967295) = false := by simp; omega
  have e0 := hr.cell 0
  have e3 := hr.cell 3
  clear h hpg hcp hrt hpl hr
  go_enter Tryz.func46, Tryz.ntmps46
  go_wp2_with fail
  refine (flush_any H.out.dsk).mono ?_
  rintro e w2 ⟨rfl, hd2, hc2⟩
  have hgT : k.g ∉ [k.bL, k.bS, k.bW] := fun hm => by have h1 := HNE.out.1; simp only [List.mem_cons, List.not_mem_nil, or_false] at hm; rcases hm with h | h | h <;> simp_all
  have hnT : k.gN ∉ [k.bL, k.bS, k.bW] := fun hm => by have h1 := HNE.out.2; simp only [List.mem_cons, List.not_mem_nil, or_false] at hm; rcases hm with h | h | h <;> simp_all
  have HGT := Lib.hid hgT
  have HNT := Lib.hid hnT
  have HD2 := Lib.hid (show DskS w2 k.p k.bL k.bS k.bW (homeN (flA s) x 0) from hd2)
  have HC2 := Lib.hid hc2
  have hR2 := HR.out.chg hc2 hgT
  have e5 := hR2.cell 5
  clear e0 e3 hd2 hc2 hgT hnT
  have HP64 := Lib.hid hP64
  go_wp2_with fail
  go_loopw [21] (fun i wr => ∃ j : Nat, i = .int .i64 (j : Int) ∧ j ≤ x.P ∧ Hid (DskS wr k.p k.bL k.bS k.bW (homeN (flA s) x j)) ∧ Hid (Chg [k.bL, k.bS, k.bW] w wr)) (fun i _ => x.P - (intOf i).toNat)
  case atStart => exact ⟨0, rfl, Nat.zero_le _, HD2, HC2⟩
  case round =>
    obtain ⟨j, rfl, hj, HDr, HCr⟩ := hrel
    clear e5 hR2 HD2 HC2
    have HRr := Lib.hid (HR.out.chg HCr.out HGT.out)
    have HNr := Lib.hid (H.out.nm.chg HCr.out HNT.out)
    have HPr := Lib.hid (HPG.out.chg HCr.out (by simp [SK.D]))
    by_cases hlt : j < x.P
    · have hjI : (j : Int) < (x.P : Int) := by omega
      have hj0 : (0 : Int) ≤ (j : Int) := by omega
      have hnc := HNr.out.cell j
      rw [bls_get x.named j (by rw [H.out.nl]; exact hlt)] at hnc
      have hgd : x.named.getD j false = x.named[j]'(by rw [H.out.nl]; exact hlt) := by rw [List.getD_eq_getElem?_getD, List.getElem?_eq_getElem (by rw [H.out.nl]; exact hlt)]; rfl
      have HH := Lib.hid (show homeN (flA s) x (j + 1) = if x.named.getD j false = true then (homeN (flA s) x j).write (2 + x.L + j) (x.pages.getD j []) else homeN (flA s) x j from rfl)
      rw [hgd] at HH
      generalize x.named[j]'(by rw [H.out.nl]; exact hlt) = b at hnc HH
      clear hgd
      cases b with
      | false =>
        go_wp2_with fail
        go_roundw
        case rel => exact ⟨j + 1, by go_num, by omega, Lib.hid (by rw [HH.out, if_neg (by simp)]; exact HDr.out), HCr⟩
        case measure => simp [intOf]; omega
      | true =>
        obtain ⟨pb, po, A', n', c', rfl, hrow, hbs⟩ := HPr.out.row (i := j) (by rw [H.out.pl]; exact hlt)
        have hpgd : x.pages.getD j [] = x.pages[j]'(by rw [H.out.pl]; exact hlt) := by rw [List.getD_eq_getElem?_getD, List.getElem?_eq_getElem (by rw [H.out.pl]; exact hlt)]; rfl
        rw [hpgd] at HH
        have h64 := H.out.p64 _ (List.getElem_mem (l := x.pages) (n := j) (by rw [H.out.pl]; exact hlt))
        generalize x.pages[j]'(by rw [H.out.pl]; exact hlt) = row at HH hbs h64
        have HROW := Lib.hid hrow
        have HBS := Lib.hid hbs
        have HJ := Lib.hid (show j < x.P from hlt)
        have HPB := Lib.hid (show pb ∉ [k.bL, k.bS, k.bW] from fun hm => (HPr.out.2.2.1 _ rfl).2 (by simp only [List.mem_cons, List.not_mem_nil, or_false] at hm; simp only [SK.D, List.mem_cons]; rcases hm with h | h | h <;> simp [h]))
        clear hrow hbs hpgd
        go_upto_region 8 with fail
        have hC0 := (Chg.refl [] wr).drew.sub (T' := [k.bL, k.bS, k.bW]) (fun _ h => by cases h)
        have TOK := dkT_ok (T := [k.bL, k.bS, k.bW]) (hard := [16]) (soft := [16])
        refine wp_flow (by kernel_rfl) (dkT [k.bL, k.bS, k.bW] [16] [16]) TOK (by kernel_rfl) ?_
        refine flow_move_out TOK rfl rfl rfl ?_
        refine flow1 (r := .pointer (some ⟨k.g, 0, none⟩)) TOK rfl (.inn rfl) rfl (fun ev W he e1 => by go_simp) ?_
        refine flow1 (r := .pointer (some ⟨k.g, 0, none⟩)) TOK rfl (.inn rfl) rfl (fun ev W he e1 => by go_simp) ?_
        refine flow1h (r := .pointer (some ⟨k.p, 0, none⟩)) TOK rfl (.inn rfl) rfl (fun ev W he hW e1 => by have r0 := (HRr.out.chg (hC0.trans hW) HGT.out).cell 0; clear hW; go_simp) ?_
        refine flow_move_out TOK rfl rfl rfl ?_
        refine flow1 (r := .pointer (some ⟨k.g, 0, none⟩)) TOK rfl (.inn rfl) rfl (fun ev W he e1 => by go_simp) ?_
        refine flow1 (r := .pointer (some ⟨k.g, 1, none⟩)) TOK rfl (.inn rfl) rfl (fun ev W he e1 => by go_simp) ?_
        refine flow1h (r := rootV x.L x.P x.E) TOK rfl (.inn rfl) rfl (fun ev W he hW e1 => by have hx := HRr.out.chg (hC0.trans hW) HGT.out; have r1 := hx.cell 1; have r2 := hx.cell 2; have r3 := hx.cell 3; clear hW hx; unfold rootV; go_simp) ?_
        refine flow_move_out TOK rfl rfl rfl ?_
        refine flow_move_out TOK rfl rfl rfl ?_
        refine flow1 (r := .pointer (some ⟨k.g, 0, none⟩)) TOK rfl (.inn rfl) rfl (fun ev W he e1 => by go_simp) ?_
        refine flow1 (r := .pointer (some ⟨k.g, 4, none⟩)) TOK rfl (.inn rfl) rfl (fun ev W he e1 => by go_simp) ?_
        refine flow1h (r := .slice (some ⟨pb, po, none⟩) x.P c) TOK rfl (.inn rfl) rfl (fun ev W he hW e1 => by have r4 := (HRr.out.chg (hC0.trans hW) HGT.out).cell 4; clear hW; go_simp) ?_
        refine flow_move_out TOK rfl rfl rfl ?_
        refine flow2 (r := .pointer (some ⟨pb, po + j, none⟩)) TOK rfl (.inn rfl) (.inn rfl) rfl (fun ev W he e1 e2 => by go_simp) ?_
        refine flow1h (r := .slice A' n' c') TOK rfl (.inn rfl) rfl (fun ev W he hW e1 => by
          have hc0 : W.cell? ⟨pb, po + j, none⟩ = some (.slice A' n' c') := by
            rw [← HROW.out]
            exact World.cell?_of_block ((hC0.trans hW).block pb (block_lt_of_cell HROW.out) HPB.out)
          clear hW
          go_simp) ?_
        refine flow_early (hputF k.p k.bL k.bS k.bW (homeN (flA s) x (j + 1))) keeps_hput (.inl rfl) rfl rfl (fun ev W he hW hfs => ?_) ?_
        · have hc0 : Chg [] wr W := (Chg.refl [] wr).drew.new (star_chg hW)
          rw [run_call he (by kernel_rfl)]
          obtain ⟨_, f1, f2, f3, f4, _⟩ := hfs
          have e1 : ev (.tmp 30) = .pointer (some ⟨k.p, 0, none⟩) := f1
          have e2 : ev (.tmp 34) = rootV x.L x.P x.E := f2
          have e3 : ev (.tmp 35) = .int .i64 (j : Int) := f3
          have e4 : ev (.tmp 42) = .slice A' n' c' := f4
          rw [show Array.map ev #[.tmp 30, .tmp 34, .tmp 35, .tmp 42] = #[ev (.tmp 30), ev (.tmp 34), ev (.tmp 35), ev (.tmp 42)] by simp]
          unfold Leaves
          simp only
          rw [e1, e2, e3, e4]
          refine (hput_any (Dsk.keep HDr.out hc0) x.L x.P x.E j (HBS.out.keep hc0)).mono ?_
          have hrr : rightR (x.L : Int) (x.P : Int) (x.E : Int) (homeN (flA s) x j).V.length = true := by rw [homeN_len, flA_len]; exact H.out.rt
          rintro e w3 (⟨_, _, rfl, hd3, hc3⟩ | ⟨hno, _⟩)
          · refine ⟨_, rfl, dk_hard rfl (hc3.sub (by simp)), ?_⟩
            show DskS w3 k.p k.bL k.bS k.bW (homeN (flA s) x (j + 1))
            rw [HH.out, if_pos rfl]
            have := homeI_in (L := (x.L : Int)) (P := (x.P : Int)) (i := (j : Int)) (by have := HRT.out; omega) (by have := HRT.out; omega) (by have := HRT.out; omega) (by omega) (by have := HJ.out; omega)
            rw [this] at hd3
            rw [show ((2 + (x.L : Int) + (j : Int)).toNat) = 2 + x.L + j from by omega] at hd3
            exact hd3
          · exact absurd ⟨hasR_in hrr (by omega) (by have := HJ.out; omega), h64⟩ hno
        intro vs W hW hF
        have hd : hputF k.p k.bL k.bS k.bW (homeN (flA s) x (j + 1)) (vs 43) W := hF 43 _ rfl rfl
        have HD3 := Lib.hid (show DskS W k.p k.bL k.bS k.bW (homeN (flA s) x (j + 1)) from hd)
        have HC3 := Lib.hid (show Chg [k.bL, k.bS, k.bW] w W from (HCr.out.trans hC0).trans hW)
        simp only [putAll, Act.put, List.setIfInBounds_toArray, List.set_cons_zero, List.set_cons_succ]
        clear hF hW hd TOK hC0
        go_wp2_with fail
        go_roundw
        case rel => exact ⟨j + 1, by go_num, by omega, HD3, HC3⟩
        case measure => simp [intOf]; omega
    · obtain rfl : x.P = j := by omega
      have hjI : ¬ (x.P : Int) < (x.P : Int) := by omega
      have r0 := HRr.out.cell 0
      go_wp2_with fail
      refine (flush_any HDr.out).mono ?_
      rintro e w3 ⟨rfl, hd3, hc3⟩
      have HD3 := Lib.hid (show DskS w3 k.p k.bL k.bS k.bW (flA (homeN (flA s) x x.P)) from hd3)
      have HC3 := Lib.hid (HCr.out.trans hc3)
      have hR3 := HRr.out.chg hc3 HGT.out
      have HR3 := Lib.hid hR3
      have HN3 := Lib.hid (HNr.out.chg hc3 HNT.out)
      have HP3 := Lib.hid (HPr.out.chg hc3 (by simp [SK.D]))
      have r3 := hR3.cell 3
      have f3 := hR3.frozen 3
      have hwe : IntKind.u32.wrap ((x.E : Int) + 1) = ((x.E + 1 : Nat) : Int) := by rw [IntKind.wrap_u32]; omega
      obtain ⟨E1, hE1⟩ : ∃ E1, E1 = x.E + 1 := ⟨_, rfl⟩
      rw [← hE1] at hwe
      have HE1 := Lib.hid hE1
      clear r0 hd3 hc3 hR3 hE1
      go_upto_region 12 with fail
      have hR4 := HR3.out.set_ 3 (.int .u32 (E1 : Int))
      have hc4 : Chg [k.g] w3 (w3.setCell ⟨k.g, 3, none⟩ (.int .u32 (E1 : Int))) := (Chg.refl [k.g] w3).setCell (p := ⟨k.g, 3, none⟩) (fun _ => by simp) _
      generalize w3.setCell ⟨k.g, 3, none⟩ (.int .u32 (E1 : Int)) = w4 at hR4 hc4 ⊢
      simp only [List.set_cons_succ, List.set_cons_zero] at hR4
      have HR4 := Lib.hid hR4
      have HD4 := Lib.hid (show DskS w4 k.p k.bL k.bS k.bW (flA (homeN (flA s) x x.P)) from Dsk.away HD3.out hc4 (by simp only [List.mem_singleton]; exact fun e => (Dsk.rec_ HD3.out).ne_ HR3.out (by decide) e) (by simp only [List.mem_singleton]; exact fun e => HNE.out.1.1 e.symm) (by simp only [List.mem_singleton]; exact fun e => HNE.out.1.2.1 e.symm) (by simp only [List.mem_singleton]; exact fun e => HNE.out.1.2.2 e.symm))
      have HN4 := Lib.hid (HN3.out.chg hc4 (by simp only [List.mem_singleton]; exact fun e => HGG.out e.symm))
      have HP4 := Lib.hid (HP3.out.chg hc4 (by simp [SK.D]))
      have HC4 := Lib.hid (show Chg k.W w w4 from (HC3.out.sub (T' := k.W) (by simp [SK.W])).trans (hc4.sub (by simp [SK.W])))
      clear hR4 hc4 r3 f3
      have hC0 := (Chg.refl [] w4).drew.sub (T' := [k.bL, k.bS, k.bW]) (fun _ h => by cases h)
      have TOK := dkT_ok (T := [k.bL, k.bS, k.bW]) (hard := [8]) (soft := [8])
      refine wp_flow (by kernel_rfl) (dkT [k.bL, k.bS, k.bW] [8] [8]) TOK (by kernel_rfl) ?_
      refine flow_move_out TOK rfl rfl rfl ?_
      refine flow1 (r := .pointer (some ⟨k.g, 0, none⟩)) TOK rfl (.inn rfl) rfl (fun ev W he e1 => by go_simp) ?_
      refine flow1 (r := .pointer (some ⟨k.g, 0, none⟩)) TOK rfl (.inn rfl) rfl (fun ev W he e1 => by go_simp) ?_
      refine flow1h (r := .pointer (some ⟨k.p, 0, none⟩)) TOK rfl (.inn rfl) rfl (fun ev W he hW e1 => by have r0 := (HR4.out.chg (hC0.trans hW) HGT.out).cell 0; clear hW; go_simp) ?_
      refine flow_move_out TOK rfl rfl rfl ?_
      refine flow1 (r := .pointer (some ⟨k.g, 0, none⟩)) TOK rfl (.inn rfl) rfl (fun ev W he e1 => by go_simp) ?_
      refine flow1 (r := .pointer (some ⟨k.g, 1, none⟩)) TOK rfl (.inn rfl) rfl (fun ev W he e1 => by go_simp) ?_
      refine flow1h (r := rootV x.L x.P E1) TOK rfl (.inn rfl) rfl (fun ev W he hW e1 => by have hx := HR4.out.chg (hC0.trans hW) HGT.out; have r1 := hx.cell 1; have r2 := hx.cell 2; have r3 := hx.cell 3; clear hW hx; unfold rootV; go_simp) ?_
      refine flow_early (hputF k.p k.bL k.bS k.bW (ckS s x)) keeps_hput (.inl rfl) rfl rfl (fun ev W he hW hfs => ?_) ?_
      · have hc0 : Chg [] w4 W := (Chg.refl [] w4).drew.new (star_chg hW)
        rw [run_call he (by kernel_rfl)]
        obtain ⟨_, f1, f2, _⟩ := hfs
        have e1 : ev (.tmp 62) = .pointer (some ⟨k.p, 0, none⟩) := f1
        have e2 : ev (.tmp 66) = rootV x.L x.P E1 := f2
        rw [show Array.map ev #[.tmp 62, .tmp 66] = #[ev (.tmp 62), ev (.tmp 66)] by simp]
        unfold Leaves
        simp only
        rw [e1, e2]
        have hrt := HRT.out
        refine (putRoot_any (Dsk.keep HD4.out hc0) x.L x.P E1 (by omega) (by omega) (by rw [HE1.out]; omega) (by rw [flA_len, homeN_len, flA_len]; omega)).mono ?_
        rintro e w5 ⟨rfl, hd5, hc5⟩
        refine ⟨_, rfl, dk_hard rfl hc5, ?_⟩
        show DskS w5 k.p k.bL k.bS k.bW (ckS s x)
        unfold ckS
        rw [← HE1.out]
        exact hd5
      intro vs W hW hF
      have hd : hputF k.p k.bL k.bS k.bW (ckS s x) (vs 67) W := hF 67 _ rfl rfl
      have hcw := hC0.trans hW
      have HD5 := Lib.hid (show DskS W k.p k.bL k.bS k.bW (ckS s x) from hd)
      have HR5 := Lib.hid (HR4.out.chg hcw HGT.out)
      have HN5 := Lib.hid (HN4.out.chg hcw HNT.out)
      have HP5 := Lib.hid (HP4.out.chg hcw (by simp [SK.D]))
      have HC5 := Lib.hid (show Chg k.W w W from HC4.out.trans (hcw.sub (by simp [SK.W])))
      simp only [putAll, Act.put, List.setIfInBounds_toArray, List.set_cons_zero, List.set_cons_succ]
      clear hF hW hd TOK hC0 hcw
      obtain ⟨w5, hw5⟩ : ∃ w5 : World, w5 = W := ⟨_, rfl⟩
      rw [← hw5] at HD5 HR5 HN5 HP5 HC5 ⊢
      clear hw5
      have r5 := HR5.out.cell 5
      have HN5s := Lib.hid (setCells_whole (List.replicate x.P (.bool false)) (bls x.named) [] w5 HN5.out (by rw [bls_len, List.length_replicate, H.out.nl]))
      have hcl : ∀ ty, (Builtin.clear_ #[67] ty #[.slice (some ⟨k.gN, 0, none⟩) x.P x.P]).run Tryz.prog w5 = .ok (.tuple #[]) (w5.setCells k.gN 0 (List.replicate x.P (.bool false))) := fun ty =>
        Lib.run_clear_slice w5 67 4 ty (.bool false) Tryz.underlying67 (fun w => by kernel_rfl) rfl rfl k.gN 0 x.P x.P (by have := HRT.out; omega) (fun j hj => by rw [Nat.zero_add, HN5.out.cell j, bls_get x.named j (by rw [H.out.nl]; exact hj)]; rfl) (fun j hj => by rw [Nat.zero_add]; exact HN5.out.frozen j)
      go_upto_region 14 with fail
      clear hcl r5
      obtain ⟨hN6, hc6⟩ := HN5s.out
      rw [List.length_nil] at hN6 hc6
      rw [List.nil_append] at hN6
      generalize w5.setCells k.gN 0 (List.replicate x.P (.bool false)) = w6 at hN6 hc6 ⊢
      have hg6 : k.g ∉ [k.gN] := by simp only [List.mem_singleton]; exact HGG.out
      have hR6 := HR5.out.chg hc6 hg6
      have HD6 := Lib.hid (show DskS w6 k.p k.bL k.bS k.bW (ckS s x) from Dsk.away HD5.out hc6 (by simp only [List.mem_singleton]; exact fun e => (Dsk.rec_ HD5.out).ne_ HN5.out (by decide) e) (by simp only [List.mem_singleton]; exact fun e => HNE.out.2.1 e.symm) (by simp only [List.mem_singleton]; exact fun e => HNE.out.2.2.1 e.symm) (by simp only [List.mem_singleton]; exact fun e => HNE.out.2.2.2 e.symm))
      have HP6 := Lib.hid (HP5.out.chg hc6 (by simp [SK.D]))
      have HC6 := Lib.hid (show Chg k.W w w6 from HC5.out.trans (hc6.sub (by simp [SK.W])))
      have HN6 := Lib.hid hN6
      have HR6 := Lib.hid hR6
      have r6 := hR6.cell 6
      have f6 := hR6.frozen 6
      have r7 := hR6.cell 7
      have f7 := hR6.frozen 7
      clear hN6 hc6 hg6 hR6
      go_wp2_with fail
      have hR7 := (HR6.out.set_ 6 (.int .i64 0)).set_ 7 (.int .u32 0)
      have hc7 : Chg [k.g] w6 ((w6.setCell ⟨k.g, 6, none⟩ (.int .i64 0)).setCell ⟨k.g, 7, none⟩ (.int .u32 0)) := ((Chg.refl [k.g] w6).setCell (p := ⟨k.g, 6, none⟩) (fun _ => by simp) _).setCell (p := ⟨k.g, 7, none⟩) (fun _ => by simp) _
      generalize (w6.setCell ⟨k.g, 6, none⟩ (.int .i64 0)).setCell ⟨k.g, 7, none⟩ (.int .u32 0) = w7 at hR7 hc7 ⊢
      simp only [List.set_cons_succ, List.set_cons_zero] at hR7
      have hD7 : DskS w7 k.p k.bL k.bS k.bW (ckS s x) := Dsk.away HD6.out hc7 (by simp only [List.mem_singleton]; exact fun e => (Dsk.rec_ HD6.out).ne_ HR6.out (by decide) e) (by simp only [List.mem_singleton]; exact fun e => HNE.out.1.1 e.symm) (by simp only [List.mem_singleton]; exact fun e => HNE.out.1.2.1 e.symm) (by simp only [List.mem_singleton]; exact fun e => HNE.out.1.2.2 e.symm)
      have hN7 := HN6.out.chg hc7 (by simp only [List.mem_singleton]; exact fun e => HGG.out e.symm)
      have hP7 := HP6.out.chg hc7 (T := k.D) (by simp [SK.D])
      have HP := Lib.hid (show CkPost w k s x (.returned (.int .i64 0)) w7 from by
        have hrt := HRT.out
        refine ⟨rfl, ⟨.slice A x.P c, ?_⟩, HC6.out.trans (hc7.sub (by simp [SK.W]))⟩
        refine { dsk := hD7, rec_ := ?_, pgs := ⟨A, c, us, by show Value.slice A x.P c = .slice A x.pages.length c; rw [H.out.pl], by show x.pages.length ≤ c; rw [H.out.pl]; exact HCP.out, hP7⟩, nm := ?_, ng := H.out.ng, rt := ?_, ep := ?_, pl := H.out.pl, nl := by simp [ckV], p64 := H.out.p64, us := Nat.zero_le _, sq := Nat.le_refl _, exl := fun i hi => Nat.lt_of_lt_of_le (H.out.exl i hi) (Nat.le_trans HC6.out.size hc7.size) }
        · have := hR7
          rw [HE1.out] at this
          exact this
        · have := hN7
          rw [show List.replicate x.P (Value.bool false) = bls (List.replicate x.P false) by simp [bls]] at this
          exact this
        · rw [ckS_len]
          have h1 := H.out.rt
          rw [rightR_true] at h1 ⊢
          obtain ⟨a, b, c, d, e, _⟩ := h1
          exact ⟨a, b, c, d, e, by show (1 : Int) ≤ ((x.E + 1 : Nat) : Int); omega⟩
        · show x.E + 1 < 4294967296
          omega)
      clear hR7 hc7 hD7 hN7 hP7 r6 f6 r7 f7
      go_wp2_with fail
      go_ret
      exact HP.out
end
end Go.Proofs.YtddjgncdjdjgeaaGreat
