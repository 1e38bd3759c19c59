/-
  S: Sto6.
-/
import Derived.Test.YtddjgncdjdjgeaaGreatZS7
import Derived.Test.YtddjgncdjdjgeaaGreatZS11
import Derived.Test.YtddjgncdjdjgeaaGreatZS14
import Derived.Test.YtddjgncdjdjgeaaGreatZS16
import Derived.Test.YtddjgncdjdjgeaaGreatZS18
import Derived.Test.YtddjgncdjdjgeaaGreatZS19
namespace Go.Proofs.YtddjgncdjdjgeaaGreat
open Go.RowKit
theorem rs_len : ∀ {l : List ChV} {last P : Int}, rightS last P l = true → last < P → (l.length : Int) ≤ P - last - 1 ∧ ∀ a ∈ l, last < a.page ∧ a.page < P ∧ a.bn = 64
  | [], last, P, _, h => ⟨by simp; omega, fun a ha => by simp at ha⟩
  | a :: l, last, P, h, hp => by
    simp only [rightS, Bool.and_eq_true, Bool.not_eq_true', Bool.or_eq_false_iff, decide_eq_false_iff_not] at h
    obtain ⟨⟨⟨h1, h2⟩, h3⟩, h4⟩ := h
    obtain ⟨k1, k2⟩ := rs_len h4 (by omega)
    refine ⟨by rw [List.length_cons]; omega, fun b hb => ?_⟩
    rcases List.mem_cons.1 hb with rfl | hb
    · exact ⟨by omega, by omega, by omega⟩
    · have := k2 b hb
      omega
/-- Changes that lie away from a store. -/
structure ChsD (T : List Nat) (w : World) (C : Option Addr) (ls : List ChV) : Prop where
  chs : Chs w C ls
  row : 0 < ls.length → ∀ ad, C = some ad → ad.block ∉ T
  els : ∀ a ∈ ls, 0 < a.bn → ∀ ad, a.bA = some ad → ad.block ∉ T
theorem ChsD.chg {T T' : List Nat} {w w' : World} {C : Option Addr} {ls : List ChV} (h : ChsD T w C ls) (hc : Chg T' w w') (hT : ∀ i ∈ T', i ∈ T) : ChsD T w' C ls := by
  refine ⟨⟨fun h0 => ?_, fun a ha => ?_⟩, h.row, h.els⟩
  · obtain ⟨g, o, e, hg, hx⟩ := h.chs.cells h0
    refine ⟨g, o, e, Nat.lt_of_lt_of_le hg hc.size, fun k a ha => ?_⟩
    obtain ⟨h1, h2⟩ := hx k a ha
    have hk : ∀ j, w'.cell? ⟨g, j, none⟩ = w.cell? ⟨g, j, none⟩ := fun j => World.cell?_of_block (w := w) (hc.block g hg (fun hm => h.row h0 _ e (hT _ hm)))
    exact ⟨(hk _).trans h1, (hk _).trans h2⟩
  · have hok := h.chs.ok a ha
    exact { hok with bs := ⟨hok.bs.len, hok.bs.src.chg hc (fun h0 ad e hm => h.els a ha (by rw [bts_len, hok.bs.len] at h0; exact h0) ad e (hT _ hm)), hok.bs.cap, hok.bs.max, hok.bs.spot⟩ }
/-- What a commit makes of a store. -/
def comV (x : SV) (ls : List ChV) : SV := ⟨x.L, x.P, x.E, applyL x.pages ls, nameL x.named ls, x.used + (18 + 66 * ls.length), x.seq + 1⟩
def comL (x : SV) (ls : List ChV) : List UInt8 := frameL x.E x.seq (bytesD ls)
def comS (s : St) (x : SV) (ls : List ChV) : St := apS s (128 + x.used) (comL x ls)
def ComPost (w : World) (k : SK) (s : St) (x : SV) (ls : List ChV) (e : Ending) (w' : World) : Prop :=
  (rightB x.P ls = false ∧ e = .returned (.int .i64 1) ∧ Chg [] w w') ∨
  (rightB x.P ls = true ∧ fitsB x.L x.used ls.length = false ∧ e = .returned (.int .i64 24) ∧ Chg [] w w') ∨
  (rightB x.P ls = true ∧ fitsB x.L x.used ls.length = true ∧ e = .returned (.int .i64 0) ∧ (∃ v, Sto w' k (comS s x ls) (comV x ls) v) ∧ Chg k.W w w')
/-- Other numbers of what is used. -/
theorem Sto.used_ {w : World} {k : SK} {s : St} {x : SV} {vP : Value} (h : Sto w k s x vP) (u q : Nat) (hu : u ≤ 4096) (hq : q * 18 ≤ u) :
    Sto ((w.setCell ⟨k.g, 6, none⟩ (.int .i64 (u : Int))).setCell ⟨k.g, 7, none⟩ (.int .u32 (q : Int))) k s ⟨x.L, x.P, x.E, x.pages, x.named, u, q⟩ vP ∧ Chg [k.g] w ((w.setCell ⟨k.g, 6, none⟩ (.int .i64 (u : Int))).setCell ⟨k.g, 7, none⟩ (.int .u32 (q : Int))) := by
  have hr := (h.rec_.set_ 6 (.int .i64 (u : Int))).set_ 7 (.int .u32 (q : Int))
  have hc : Chg [k.g] w ((w.setCell ⟨k.g, 6, none⟩ (.int .i64 (u : Int))).setCell ⟨k.g, 7, none⟩ (.int .u32 (q : Int))) := ((Chg.refl [k.g] w).setCell (p := ⟨k.g, 6, none⟩) (fun _ => by simp) _).setCell (p := ⟨k.g, 7, none⟩) (fun _ => by simp) _
  simp only [List.set_cons_succ, List.set_cons_zero] at hr
  refine ⟨{ dsk := ?_, rec_ := hr, pgs := h.pgs.chg hc (by simp [SK.D]), nm := h.nm.chg hc ?_, ng := h.ng, rt := h.rt, ep := h.ep, pl := h.pl, nl := h.nl, p64 := h.p64, us := hu, sq := hq, exl := fun i hi => Nat.lt_of_lt_of_le (h.exl i hi) hc.size }, hc⟩
  · exact Dsk.away h.dsk hc (by simp only [List.mem_singleton]; exact fun e => (Dsk.rec_ h.dsk).ne_ h.rec_ (by decide) e) (by simp only [List.mem_singleton]; exact fun e => (Dsk.last h.dsk).ne_ h.rec_ (by decide) e) (by simp only [List.mem_singleton]; exact fun e => (Dsk.seen h.dsk).ne_ h.rec_ (by decide) e) (by simp only [List.mem_singleton]; exact fun e => (Dsk.wait h.dsk).ne_ h.rec_ (by decide) e)
  · simp only [List.mem_singleton]; exact fun e => h.nm.ne_ h.rec_ (by decide) e
/-- The disk has turned. -/
theorem Sto.disk_ {w w' : World} {k : SK} {s s' : St} {x : SV} {vP : Value} (h : Sto w k s x vP) (hd : DskS w' k.p k.bL k.bS k.bW s') (hc : Chg [k.bL, k.bS, k.bW] w w') (hl : s'.V.length = s.V.length) : Sto w' k s' x vP := by
  have hg : k.g ∉ [k.bL, k.bS, k.bW] := by
    simp only [List.mem_cons, List.not_mem_nil, or_false]
    rintro (e | e | e)
    · exact h.rec_.ne_ (Dsk.last h.dsk) (by decide) e
    · exact h.rec_.ne_ (Dsk.seen h.dsk) (by decide) e
    · exact h.rec_.ne_ (Dsk.wait h.dsk) (by decide) e
  have hn : k.gN ∉ [k.bL, k.bS, k.bW] := by
    simp only [List.mem_cons, List.not_mem_nil, or_false]
    rintro (e | e | e)
    · exact h.nm.ne_ (Dsk.last h.dsk) (by decide) e
    · exact h.nm.ne_ (Dsk.seen h.dsk) (by decide) e
    · exact h.ng e
  exact { h with dsk := hd, rec_ := h.rec_.chg hc hg, pgs := h.pgs.chg hc (by simp [SK.D]), nm := h.nm.chg hc hn, rt := by rw [hl]; exact h.rt, exl := fun i hi => Nat.lt_of_lt_of_le (h.exl i hi) hc.size }
section
variable {w : World} {k : SK} {s : St} {x : SV} {vP : Value} {C : Option Addr} {m d : Nat} {ls : List ChV}
set_option maxHeartbeats 16000000 in
set_option maxRecDepth 100000 in
theorem commit_any (h : Sto w k s x vP) (hC : ChsD k.D w C ls) (hm : ls.length = m) (hm1 : m ≤ 9223372036854775807) :
    Calls Tryz.prog 25 #[.pointer (some ⟨k.g, 0, none⟩), .slice C m d] w (ComPost w k s x ls) := by
  have hrt := rightR_true.1 h.rt
  have HRT := Lib.hid hrt
  have H := Lib.hid h
  have HCH := Lib.hid hC
  have HLM := Lib.hid hm
  have hr := h.rec_
  have HR := Lib.hid hr
  have e2 := hr.cell 2
  have hnum := Lib.hid (show x.L ≤ 64 ∧ x.P ≤ 64 ∧ x.used ≤ 4096 ∧ x.seq * 18 ≤ x.used ∧ x.E < 4294967296 from ⟨by omega, by omega, h.us, h.sq, h.ep⟩)
  clear hrt h hC hm hr
  go_enter Tryz.func25, Tryz.ntmps25
  go_wp2_with fail
  refine (right_any HCH.out.chs HLM.out hm1 (x.P : Int)).mono ?_
  rintro e w2 ⟨rfl, hc2⟩
  have HC2 := Lib.hid hc2
  have HR2 := Lib.hid (HR.out.keep hc2)
  clear hc2 e2
  by_cases hright : rightB (x.P : Int) ls = true
  rotate_left
  · have hr' : rightB (x.P : Int) ls = false := by simpa using hright
    have HP := Lib.hid (show ComPost w k s x ls (.returned (.int .i64 1)) w2 from .inl ⟨hr', rfl, HC2.out⟩)
    rw [hr']
    clear hright hr'
    go_wp2_with fail
    go_ret
    exact HP.out
  have HRI := Lib.hid hright
  rw [hright]
  have hrs : rightS (-1) (x.P : Int) ls = true := by unfold rightB at hright; rw [Bool.and_eq_true] at hright; exact hright.2
  obtain ⟨hl1, hl2⟩ := rs_len hrs (by omega)
  have hm64 : m ≤ 64 := by have := HLM.out; have := hnum.out; omega
  have HL2 := Lib.hid hl2
  have HM64 := Lib.hid hm64
  clear hright hrs hl1 hl2 hm1
  go_upto_region 3 with fail
  have hC0 := (Chg.refl [] w2).drew
  refine wp_flow (by kernel_rfl) plainT plainT_ok (by kernel_rfl) ?_
  refine flow_move_out plainT_ok rfl rfl rfl ?_
  refine flow1 (r := .pointer (some ⟨k.g, 0, none⟩)) plainT_ok rfl (.inn rfl) rfl (fun ev W he e1 => by go_simp) ?_
  refine flow1 (r := .pointer (some ⟨k.g, 1, none⟩)) plainT_ok rfl (.inn rfl) rfl (fun ev W he e1 => by go_simp) ?_
  refine flow1h (r := rootV x.L x.P x.E) plainT_ok rfl (.inn rfl) rfl (fun ev W he hW e1 => by have hx := HR2.out.keep (hC0.new hW); have r1 := hx.cell 1; have r2 := hx.cell 2; have r3 := hx.cell 3; clear hW hx; unfold rootV; go_simp) ?_
  refine flow_move_out plainT_ok rfl rfl rfl ?_
  refine flow1 (r := .pointer (some ⟨k.g, 0, none⟩)) plainT_ok rfl (.inn rfl) rfl (fun ev W he e1 => by go_simp) ?_
  refine flow1 (r := .pointer (some ⟨k.g, 6, none⟩)) plainT_ok rfl (.inn rfl) rfl (fun ev W he e1 => by go_simp) ?_
  refine flow1h (r := .int .i64 (x.used : Int)) plainT_ok rfl (.inn rfl) rfl (fun ev W he hW e1 => by have r6 := (HR2.out.keep (hC0.new hW)).cell 6; clear hW; go_simp) ?_
  refine flow_move_out plainT_ok rfl rfl rfl ?_
  refine flow_lend plainT_ok (.inn rfl) (fun ev W he e1 => by go_simp) rfl ?_
  refine flow_callv (.bool (fitsB x.L x.used m)) (by kernel_rfl) rfl (.cons (.inn rfl) (.cons (.inn rfl) (.cons (.inn rfl) .nil))) (fun W hW => (fits_any (x.L : Int) x.P x.E x.used m (by have := hnum.out; omega) (by have := hnum.out; omega) (by omega)).mono ?_) ?_
  · rintro e w' ⟨rfl, hc⟩; exact ⟨rfl, hc⟩
  refine flow1 (r := .bool (!fitsB x.L x.used m)) plainT_ok rfl (.inn rfl) rfl (fun ev W he e1 => by go_simp) ?_
  intro vs W hW hF
  have e25 : vs 25 = .bool (!fitsB x.L x.used m) := hF 25 _ rfl rfl
  have hcw : Chg [] w2 W := hC0.new hW
  have HR3 := Lib.hid (HR2.out.keep hcw)
  have HC3 := Lib.hid (HC2.out.new hcw)
  simp only [putAll, Act.put, List.setIfInBounds_toArray, List.set_cons_zero, List.set_cons_succ]
  rw [e25]
  clear hF hW e25 hcw hC0
  obtain ⟨w3, hw3⟩ : ∃ w3 : World, w3 = W := ⟨_, rfl⟩
  rw [← hw3] at HR3 HC3 ⊢
  clear hw3
  by_cases hfit : fitsB x.L x.used m = true
  rotate_left
  · have hr' : fitsB x.L x.used m = false := by simpa using hfit
    have HP := Lib.hid (show ComPost w k s x ls (.returned (.int .i64 24)) w3 from .inr (.inl ⟨HRI.out, by rw [HLM.out]; exact hr', rfl, HC3.out⟩))
    rw [hr']
    clear hfit hr'
    go_wp2_with fail
    go_ret
    exact HP.out
  have HFI := Lib.hid hfit
  rw [hfit]
  have HFN := Lib.hid (show x.used + (18 + 66 * m) ≤ x.L * 64 by
    have h1 := HRT.out
    unfold fitsB at hfit
    rw [Bool.and_eq_true, decide_eq_true_iff, decide_eq_true_iff] at hfit
    have h2 := hfit.2
    unfold leftI sizeI needI at h2
    rw [if_neg (by omega), if_neg (by omega)] at h2
    omega)
  have HPG := Lib.hid (show ∀ a ∈ ls, Page a from fun a ha => ⟨by have h2 := HL2.out a ha; have := hnum.out; exact ⟨by omega, by omega, h2.2.2⟩, by have h1 := (HCH.out.chs.ok a ha).bs.len; have := HL2.out a ha; omega⟩)
  clear hfit
  have hbl : (bytesD ls).length = 2 + m * 66 := by rw [back_len HPG.out, HLM.out]
  have hcl : (comL x ls).length = 18 + 66 * m := by unfold comL; rw [frameL_len, hbl]; omega
  have HBL := Lib.hid hbl
  have HCL := Lib.hid hcl
  have HCH3 := Lib.hid (HCH.out.chg HC3.out (fun _ h => by cases h))
  clear hbl hcl
  go_upto_region 5 with fail
  have hC0 := (Chg.refl [] w3).drew
  refine wp_flow (by kernel_rfl) plainT plainT_ok (by kernel_rfl) ?_
  refine flow_move_out plainT_ok rfl rfl rfl ?_
  refine flow1 (r := .pointer (some ⟨k.g, 0, none⟩)) plainT_ok rfl (.inn rfl) rfl (fun ev W he e1 => by go_simp) ?_
  refine flow1 (r := .pointer (some ⟨k.g, 1, none⟩)) plainT_ok rfl (.inn rfl) rfl (fun ev W he e1 => by go_simp) ?_
  refine flow1 (r := .pointer (some ⟨k.g, 3, none⟩)) plainT_ok rfl (.inn rfl) rfl (fun ev W he e1 => by go_simp) ?_
  refine flow1h (r := .int .u32 (x.E : Int)) plainT_ok rfl (.inn rfl) rfl (fun ev W he hW e1 => by have r3 := (HR3.out.keep (hC0.new hW)).cell 3; clear hW; go_simp) ?_
  refine flow_move_out plainT_ok rfl rfl rfl ?_
  refine flow1 (r := .pointer (some ⟨k.g, 0, none⟩)) plainT_ok rfl (.inn rfl) rfl (fun ev W he e1 => by go_simp) ?_
  refine flow1 (r := .pointer (some ⟨k.g, 7, none⟩)) plainT_ok rfl (.inn rfl) rfl (fun ev W he e1 => by go_simp) ?_
  refine flow1h (r := .int .u32 (x.seq : Int)) plainT_ok rfl (.inn rfl) rfl (fun ev W he hW e1 => by have r7 := (HR3.out.keep (hC0.new hW)).cell 7; clear hW; go_simp) ?_
  refine flow_move_out plainT_ok rfl rfl rfl ?_
  refine flow_calld (ownF w3.heap.size 5 (bts (bytesD ls))) (keeps_own _ _ _) (.inr (keeps_own _ _ _)) (by kernel_rfl) rfl (.cons (.inn rfl) .nil) (fun W hW => (dbytes_any (HCH3.out.chs.keep (hC0.new hW)) (fun a ha => (HPG.out a ha).1) HLM.out (by have := HM64.out; omega)).mono ?_) ?_
  · rintro e w' ⟨v, rfl, ho, hc⟩
    exact ⟨v, rfl, hc, by unfold ownF; rw [bts_len]; exact own_more ho (hC0.new hW).size⟩
  refine flow_call (ownF w3.heap.size 5 (bts (comL x ls))) (keeps_own _ _ _) (.inr (keeps_own _ _ _)) (by kernel_rfl) rfl (fun ev W he hW hfs => ?_) ?_
  · obtain ⟨f1, f2, f3, _⟩ := hfs
    have e1 : ev (.tmp 30) = .int .u32 (x.E : Int) := f1
    have e2 : ev (.tmp 34) = .int .u32 (x.seq : Int) := f2
    have f3' : ownF w3.heap.size 5 (bts (bytesD ls)) (ev (.tmp 36)) W := f3
    obtain ⟨Ad, cd, e3, hBd, _⟩ := Bs.of_own (n := (bts (bytesD ls)).length) f3'
    rw [show (List.map ev (#[.tmp 30, .tmp 34, .tmp 36] : Array Operand).toList).toArray = #[ev (.tmp 30), ev (.tmp 34), ev (.tmp 36)] by simp]
    rw [e1, e2, e3]
    have hnu := hnum.out
    refine (frame_any hBd x.E x.seq hnu.2.2.2.2 (by omega) (by rw [bts_len, HBL.out]; have := HM64.out; omega)).mono ?_
    rintro e w' ⟨v, rfl, ho, hc⟩
    exact ⟨v, rfl, hc, by unfold ownF; rw [bts_len]; exact own_more ho (hC0.new hW).size⟩
  refine flow_assign plainT_ok rfl (keeps_own _ _ _) (.inr (keeps_own _ _ _)) rfl ?_
  intro vs5 W hW hF
  have h5 : ownF w3.heap.size 5 (bts (comL x ls)) (vs5 5) W := hF 5 _ rfl rfl
  have hcw : Chg [] w3 W := hC0.new hW
  unfold ownF at h5
  rw [bts_len, HCL.out] at h5
  obtain ⟨Ab, cb, e5, _, hcb, hsb, hspb⟩ := own_slice h5
  have HBB := Lib.hid (Bs.of_own h5)
  have HAB := Lib.hid (show ∀ ad, Ab = some ad → w3.heap.size ≤ ad.block from fun ad e => (hspb ad e).2.1)
  have HR4 := Lib.hid (HR3.out.keep hcw)
  have HC4 := Lib.hid (HC3.out.new hcw)
  have HCH4 := Lib.hid (HCH3.out.chg hcw (fun _ h => by cases h))
  simp only [putAll, Act.put, List.setIfInBounds_toArray, List.set_cons_zero, List.set_cons_succ]
  rw [e5]
  rw [e5] at HBB
  clear hF hW hcw hC0 h5 e5 hcb hsb hspb
  obtain ⟨w4, hw4⟩ : ∃ w4 : World, w4 = W := ⟨_, rfl⟩
  rw [← hw4] at HBB HR4 HC4 HCH4 ⊢
  clear hw4
  obtain ⟨nb, hnb⟩ : ∃ nb, nb = 18 + 66 * m := ⟨_, rfl⟩
  have HNB := Lib.hid hnb
  rw [← hnb] at HBB ⊢
  clear hnb
  go_upto_region 6 with fail
  have HS4 := Lib.hid (H.out.keep HC4.out)
  have hlts := Lib.hid H.out.lts
  have hgT : k.g ∉ [k.bS, k.bW] := by
    simp only [List.mem_cons, List.not_mem_nil, or_false]
    rintro (e | e)
    · exact H.out.rec_.ne_ (Dsk.seen H.out.dsk) (by decide) e
    · exact H.out.rec_.ne_ (Dsk.wait H.out.dsk) (by decide) e
  have HGT := Lib.hid hgT
  clear hgT
  have hC0 := (Chg.refl [] w4).drew.sub (T' := [k.bS, k.bW]) (fun _ h => by cases h)
  have TOK := dkT_ok (T := [k.bS, k.bW]) (hard := [13]) (soft := [13])
  refine wp_flow (by kernel_rfl) (dkT [k.bS, k.bW] [13] [13]) TOK (by kernel_rfl) ?_
  refine flow_move_out TOK rfl rfl rfl ?_
  refine flow1 (r := .pointer (some ⟨k.g, 0, none⟩)) TOK rfl (.inn rfl) rfl (fun ev W he e1 => by go_simp) ?_
  refine flow1 (r := .pointer (some ⟨k.g, 0, none⟩)) TOK rfl (.inn rfl) rfl (fun ev W he e1 => by go_simp) ?_
  refine flow1h (r := .pointer (some ⟨k.p, 0, none⟩)) TOK rfl (.inn rfl) rfl (fun ev W he hW e1 => by have r0 := (HR4.out.chg (hC0.trans hW) HGT.out).cell 0; clear hW; go_simp) ?_
  refine flow_move_out TOK rfl rfl rfl ?_
  refine flow1 (r := .pointer (some ⟨k.g, 0, none⟩)) TOK rfl (.inn rfl) rfl (fun ev W he e1 => by go_simp) ?_
  refine flow1 (r := .pointer (some ⟨k.g, 1, none⟩)) TOK rfl (.inn rfl) rfl (fun ev W he e1 => by go_simp) ?_
  refine flow1h (r := rootV x.L x.P x.E) TOK rfl (.inn rfl) rfl (fun ev W he hW e1 => by have hx := HR4.out.chg (hC0.trans hW) HGT.out; have r1 := hx.cell 1; have r2 := hx.cell 2; have r3 := hx.cell 3; clear hW hx; unfold rootV; go_simp) ?_
  refine flow_move_out TOK rfl rfl rfl ?_
  refine flow1 (r := .pointer (some ⟨k.g, 0, none⟩)) TOK rfl (.inn rfl) rfl (fun ev W he e1 => by go_simp) ?_
  refine flow1 (r := .pointer (some ⟨k.g, 6, none⟩)) TOK rfl (.inn rfl) rfl (fun ev W he e1 => by go_simp) ?_
  refine flow1h (r := .int .i64 (x.used : Int)) TOK rfl (.inn rfl) rfl (fun ev W he hW e1 => by have r6 := (HR4.out.chg (hC0.trans hW) HGT.out).cell 6; clear hW; go_simp) ?_
  refine flow_move_out TOK rfl rfl rfl ?_
  refine flow_early (hputF k.p k.bL k.bS k.bW (comS s x ls)) keeps_hput (.inl rfl) rfl rfl (fun ev W he hW hfs => ?_) ?_
  · have hc0 : Chg [] w4 W := (Chg.refl [] w4).drew.new (star_chg hW)
    rw [run_call he (by kernel_rfl)]
    obtain ⟨_, f1, f2, f3, f4, _⟩ := hfs
    have e1 : ev (.tmp 41) = .pointer (some ⟨k.p, 0, none⟩) := f1
    have e2 : ev (.tmp 45) = rootV x.L x.P x.E := f2
    have e3 : ev (.tmp 49) = .int .i64 (x.used : Int) := f3
    have e4 : ev (.tmp 50) = .slice Ab nb cb := f4
    rw [show Array.map ev #[.tmp 41, .tmp 45, .tmp 49, .tmp 50] = #[ev (.tmp 41), ev (.tmp 45), ev (.tmp 49), ev (.tmp 50)] by simp]
    unfold Leaves
    simp only
    rw [e1, e2, e3, e4]
    have hnu := hnum.out
    obtain ⟨Ab', cb', e6, hB6, _⟩ := HBB.out
    injection e6 with e6 _ e7
    subst e6 e7
    refine (append_any (Dsk.keep HS4.out.dsk hc0) x.L x.P x.E x.used (by omega) (by omega) (hB6.keep hc0) (fun _ ad e => ?_)).mono ?_
    · have h1 := HAB.out ad e
      have h2 := HC3.out.size
      have h3 := hlts.out k.bS (by simp [SK.D])
      have h4 := hlts.out k.bW (by simp [SK.D])
      omega
    · have hcan : canA s x.L x.P x.E x.used (comL x ls).length := by
        refine ⟨H.out.rt, by omega, ?_, ?_⟩
        · have := HFN.out; omega
        · have := HFN.out; have := HCL.out; omega
      rintro e w5 (⟨_, rfl, hd5, hc5⟩ | ⟨hno, _⟩)
      · refine ⟨_, rfl, dk_hard rfl hc5, ?_⟩
        show DskS w5 k.p k.bL k.bS k.bW (comS s x ls)
        unfold comS
        rw [show ((x.used : Int)).toNat = x.used from rfl] at hd5
        exact hd5
      · exact absurd hcan hno
  intro vs6 W hW hF
  have hd : hputF k.p k.bL k.bS k.bW (comS s x ls) (vs6 51) W := hF 51 _ rfl rfl
  have hcw := hC0.trans hW
  have HS5 := Lib.hid (show Sto W k (comS s x ls) x vP from HS4.out.disk_ hd (hcw.sub (by simp)) (apS_V _ _ _))
  have HC5 := Lib.hid (show Chg k.W w W from (HC4.out.sub (T' := k.W) (fun _ h => by cases h)).trans (hcw.sub (by simp [SK.W])))
  have HCH5 := Lib.hid (HCH4.out.chg hcw (by simp [SK.D]))
  simp only [putAll, Act.put, List.setIfInBounds_toArray, List.set_cons_zero, List.set_cons_succ]
  clear hF hW hd hcw TOK hC0 HBB
  obtain ⟨w5, hw5⟩ : ∃ w5 : World, w5 = W := ⟨_, rfl⟩
  rw [← hw5] at HS5 HC5 HCH5 ⊢
  clear hw5
  have HIN := Lib.hid (show InP x.P ls from fun a ha => ⟨by have := (HL2.out a ha).1; omega, (HL2.out a ha).2.1, (HPG.out a ha).2⟩)
  go_wp2_with fail
  refine (turn_any HS5.out HCH5.out.chs HLM.out (by have := HM64.out; omega) HIN.out (fun h0 ad e hm => HCH5.out.row h0 ad e (by simp only [List.mem_cons, List.not_mem_nil, or_false] at hm; simp only [SK.D, List.mem_cons]; rcases hm with h | h <;> simp [h]))).mono ?_
  rintro e w6 ⟨rfl, ⟨v6, hS6⟩, hc6⟩
  have HS6 := Lib.hid hS6
  have HC6 := Lib.hid (HC5.out.trans (hc6.sub (T' := k.W) (by simp [SK.W])))
  have r6 : w6.cell? ⟨k.g, 6, none⟩ = some (.int .i64 (x.used : Int)) := hS6.rec_.cell 6
  have f6 := hS6.rec_.frozen 6
  have r7 : w6.cell? ⟨k.g, 7, none⟩ = some (.int .u32 (x.seq : Int)) := hS6.rec_.cell 7
  have f7 := hS6.rec_.frozen 7
  have hnu := hnum.out
  have hm6 := HM64.out
  have hfn := HFN.out
  have hnb2 := HNB.out
  obtain ⟨u2, hu2⟩ : ∃ u2, u2 = x.used + nb := ⟨_, rfl⟩
  obtain ⟨q2, hq2⟩ : ∃ q2, q2 = x.seq + 1 := ⟨_, rfl⟩
  have hw1 : IntKind.i64.wrap ((x.used : Int) + (nb : Int)) = (u2 : Int) := by rw [IntKind.wrap_i64]; omega
  have hw2 : IntKind.u32.wrap ((x.seq : Int) + 1) = (q2 : Int) := by rw [IntKind.wrap_u32]; omega
  have HU := Lib.hid (hS6.used_ u2 q2 (by omega) (by omega))
  have HUQ := Lib.hid (And.intro hu2 hq2)
  clear hS6 hc6 hu2 hq2 hnu hm6 hfn hnb2
  go_wp2_with fail
  have HP := Lib.hid (show ComPost w k s x ls (.returned (.int .i64 0)) ((w6.setCell ⟨k.g, 6, none⟩ (.int .i64 (u2 : Int))).setCell ⟨k.g, 7, none⟩ (.int .u32 (q2 : Int))) from .inr (.inr ⟨HRI.out, by rw [HLM.out]; exact HFI.out, rfl, ⟨v6, by
    have h1 := HU.out.1
    have h2 := HUQ.out
    have h3 := HNB.out
    have h4 := HLM.out
    show Sto _ k (comS s x ls) ⟨x.L, x.P, x.E, applyL x.pages ls, nameL x.named ls, x.used + (18 + 66 * ls.length), x.seq + 1⟩ v6
    rw [h4, ← h3, ← h2.1, ← h2.2]
    exact h1⟩, HC6.out.trans (HU.out.2.sub (T' := k.W) (by simp [SK.W]))⟩))
  generalize (w6.setCell ⟨k.g, 6, none⟩ (.int .i64 (u2 : Int))).setCell ⟨k.g, 7, none⟩ (.int .u32 (q2 : Int)) = w7 at HP ⊢
  clear r6 f6 r7 f7
  go_ret
  exact HP.out
end
end Go.Proofs.YtddjgncdjdjgeaaGreat
