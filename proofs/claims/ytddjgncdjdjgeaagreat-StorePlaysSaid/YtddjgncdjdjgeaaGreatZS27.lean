/-
  S: Rst1.
-/
import Derived.Test.YtddjgncdjdjgeaaGreatZS5
import Derived.Test.YtddjgncdjdjgeaaGreatZS13
import Derived.Test.YtddjgncdjdjgeaaGreatZS25
import Derived.Test.YtddjgncdjdjgeaaGreatZS26
import Derived.StillTailTactics
namespace Go.Proofs.YtddjgncdjdjgeaaGreat
open Go.RowKit
structure RK where
  q : Nat
  gL : Nat
  gN : Nat
  g : Nat
  gP : Nat
  gM : Nat
  ex : List Nat
def RK.D (k : RK) (gW : Nat) : List Nat := k.q :: k.gL :: k.gN :: gW :: k.g :: k.gP :: k.gM :: k.ex
/-- Rows of bytes in memory, in blocks that are none of T. -/
def Els (T : List Nat) (w : World) (us : List Value) (ps : List (List UInt8)) : Prop :=
  us.length = ps.length ∧ ∀ (i : Nat) u l, us[i]? = some u → ps[i]? = some l → ∃ A' n' c', u = .slice A' n' c' ∧ Bs w A' n' c' l ∧ ∀ ad, A' = some ad → ad.block ∉ T
theorem Els.chg {T T' : List Nat} {w w' : World} {us : List Value} {ps : List (List UInt8)} (h : Els T w us ps) (hc : Chg T' w w') (hT : ∀ i ∈ T', i ∈ T) : Els T w' us ps := ⟨h.1, fun i u l hu hl => by
  obtain ⟨A', n', c', e', hB, hD⟩ := h.2 i u l hu hl
  exact ⟨A', n', c', e', bs_aw hB hc (fun ad e hm => hD ad e (hT _ hm)), hD⟩⟩
theorem Els.keep {T : List Nat} {w w' : World} {us : List Value} {ps : List (List UInt8)} (h : Els T w us ps) (hc : Chg [] w w') : Els T w' us ps := h.chg hc (fun i hi => by cases hi)
theorem Els.set {T : List Nat} {w : World} {us : List Value} {ps : List (List UInt8)} (h : Els T w us ps) (i : Nat) {A : Option Addr} {n c : Nat} {l : List UInt8} (hB : Bs w A n c l) (hD : ∀ ad, A = some ad → ad.block ∉ T) : Els T w (us.set i (.slice A n c)) (ps.set i l) := by
  refine ⟨by rw [List.length_set, List.length_set]; exact h.1, fun j u y hu hy => ?_⟩
  rw [List.getElem?_set] at hu hy
  by_cases e : i = j
  · subst e
    rw [if_pos rfl] at hu hy
    split at hu
    · injection hu with hu
      split at hy
      · injection hy with hy
        subst hu hy
        exact ⟨A, n, c, rfl, hB, hD⟩
      · cases hy
    · cases hu
  · rw [if_neg e] at hu hy
    exact h.2 j u y hu hy
/-- The reference's store: its disk, its root, its pages, which of them the log named, what is used. -/
structure RSto (w : World) (k : RK) (gW : Nat) (rL rN : List Value) (d : Dg) (x : SV) (us rP : List Value) : Prop where
  dsk : Rd w k.q k.gL k.gN gW rL rN d
  rec_ : Whole w k.g 69 [.pointer (some ⟨k.q, 0, none⟩), .int .i64 (x.L : Int), .int .i64 (x.P : Int), .int .u32 (x.E : Int), .slice (some ⟨k.gP, 0, none⟩) x.P (x.P + rP.length), .slice (some ⟨k.gM, 0, none⟩) x.P x.P, .int .i64 (x.used : Int), .int .u32 (x.seq : Int)]
  pg : Whole w k.gP 30 (us ++ rP)
  els : Els (k.D gW) w us x.pages
  nm : Whole w k.gM 4 (bls x.named)
  ng : k.gM ≠ gW
  rt : rightR (x.L : Int) (x.P : Int) (x.E : Int) d.s.V.length = true
  ep : x.E < 4294967296
  pl : x.pages.length = x.P
  nl : x.named.length = x.P
  p64 : ∀ l ∈ x.pages, l.length = 64
  us_ : x.used ≤ 4096
  sq : x.seq * 18 ≤ x.used
  exl : ∀ i ∈ k.ex, i < w.heap.size
section
variable {w : World} {k : RK} {gW : Nat} {rL rN : List Value} {d : Dg} {x : SV} {us rP : List Value}
theorem RSto.keep {w' : World} (h : RSto w k gW rL rN d x us rP) (hc : Chg [] w w') : RSto w' k gW rL rN d x us rP :=
  { h with dsk := Rfx.keep h.dsk hc, rec_ := h.rec_.keep hc, pg := h.pg.keep hc, els := h.els.keep hc, nm := h.nm.keep hc, exl := fun i hi => Nat.lt_of_lt_of_le (h.exl i hi) hc.size }
theorem RSto.lts (h : RSto w k gW rL rN d x us rP) : ∀ i ∈ k.D gW, i < w.heap.size := fun i hi => by
  simp only [RK.D, List.mem_cons] at hi
  rcases hi with rfl | rfl | rfl | rfl | rfl | rfl | rfl | hi
  · exact (Rfx.rec_ h.dsk).lt
  · exact (Rfx.last h.dsk).lt
  · exact (Rfx.now h.dsk).lt
  · exact (Rfx.wait h.dsk).lt
  · exact h.rec_.lt
  · exact h.pg.lt
  · exact h.nm.lt
  · exact h.exl i hi
theorem RSto.ul (h : RSto w k gW rL rN d x us rP) : us.length = x.P := h.els.1.trans h.pl
end
/-- What is stored into a row of slices. -/
def pgW (gP B : Nat) (cs : List Value) (i : Nat) (l : List UInt8) (W : World) : Prop := ∃ u, Whole W gP 30 (cs.set i u) ∧ W.ownsRow B 5 1 u l.length (bts l)
theorem pgW_keep {gP B : Nat} {cs : List Value} {i : Nat} {l : List UInt8} (W W' : World) (hc : Chg [] W W') : pgW gP B cs i l W → pgW gP B cs i l W' := fun ⟨u, h1, h2⟩ => ⟨u, h1.keep hc, own_keep h2 hc⟩
/-- Blocks of T turn by what is hard; what φ says stays. -/
def stT (T : List Nat) (φ : World → Prop) (hard soft : List Nat) : Turns := ⟨Chg [], fun W W' => Chg T W W' ∧ (φ W → φ W'), hard, soft⟩
theorem stT_ok {T : List Nat} {φ : World → Prop} {hard soft : List Nat} (h : ∀ W W', Chg [] W W' → φ W → φ W') : (stT T φ hard soft).Ok := ⟨Chg.refl [], fun a b hc => ⟨hc.sub (fun _ h => by cases h), h a b hc⟩, fun _ _ _ h k => ⟨h.1.trans k.1, fun x => k.2 (h.2 x)⟩⟩
theorem st_by {T : List Nat} {φ : World → Prop} {hard soft : List Nat} (h : ∀ W W', Chg [] W W' → φ W → φ W') (k : Nat) {W W' : World} (hc : Chg [] W W') : (stT T φ hard soft).by_ k W W' := by
  unfold Turns.by_
  split
  · exact ⟨hc.sub (fun _ h => by cases h), h _ _ hc⟩
  · exact hc
theorem st_hard {T : List Nat} {φ : World → Prop} {hard soft : List Nat} {k : Nat} (hk : hard.contains k = true) {W W' : World} (hc : Chg T W W') (hφ : φ W') : (stT T φ hard soft).by_ k W W' := by
  unfold Turns.by_
  rw [if_pos (show (stT T φ hard soft).hard.contains k = true from hk)]
  exact ⟨hc, fun _ => hφ⟩
theorem keeps_st {T : List Nat} {φ : World → Prop} {hard soft : List Nat} : Keeps (stT T φ hard soft).H (fun _ W => φ W) := fun _ _ _ h hc => hc.2 h
theorem keeps_empty_b {T : List Nat} {φ : World → Prop} {hard soft : List Nat} {B : Nat} {e : TypeId} (h : ∀ i ∈ T, i < B) : Keeps (stT T φ hard soft).H (emptyF B e) := fun _ _ _ ⟨g, h1, h2, h3⟩ hc => ⟨g, h1, h2, h3.chg hc.1 (fun hm => by have := h _ hm; omega)⟩
theorem keeps_own_b {T : List Nat} {φ : World → Prop} {hard soft : List Nat} {B : Nat} {e : TypeId} {xs : List Value} (h : ∀ i ∈ T, i < B) : Keeps (stT T φ hard soft).H (ownF B e xs) := fun _ _ _ ho hc => rown_chg ho hc.1 (fun i hi => .inl (h i hi))
theorem RK.gP_D (k : RK) (gW : Nat) : k.gP ∈ k.D gW ∧ k.gM ∈ k.D gW := by simp [RK.D]
def RApPost (w : World) (k : RK) (gW : Nat) (rL rN : List Value) (d : Dg) (x : SV) (rP : List Value) (ls : List ChV) (e : Ending) (w' : World) : Prop := e = .returned (.tuple #[]) ∧ (∃ us', RSto w' k gW rL rN d (turnV x ls) us' rP) ∧ Chg [k.gP, k.gM] w w'
section
variable {w : World} {k : RK} {gW : Nat} {rL rN : List Value} {d : Dg} {x : SV} {us rP : List Value} {C : Option Addr} {m dC : Nat} {ls : List ChV}
set_option maxHeartbeats 8000000 in
set_option maxRecDepth 100000 in
theorem rapply_any (h : RSto w k gW rL rN d x us rP) (hC : ChsD (k.D gW) w C ls) (hm : ls.length = m) (hm1 : m ≤ 9223372036854775807) (hin : InP x.P ls) :
    Calls Tryz.prog 62 #[.pointer (some ⟨k.g, 0, none⟩), .slice C m dC] w (RApPost w k gW rL rN d x rP ls) := by
  obtain ⟨i0, hi, hz0, hz1, hz2⟩ := info_parts info_u8
  have hP64 : x.P ≤ 64 := by have := rightR_true.1 h.rt; omega
  have H := Lib.hid h
  have HCH := Lib.hid hC
  have HLM := Lib.hid hm
  have HIN := Lib.hid hin
  have HGP := Lib.hid (show k.gP ≠ k.gM ∧ k.g ≠ k.gP ∧ k.g ≠ k.gM from ⟨fun e => (h.pg.ne_ h.nm (by decide)) e, fun e => (h.rec_.ne_ h.pg (by decide)) e, fun e => (h.rec_.ne_ h.nm (by decide)) e⟩)
  have HNE := Lib.hid (show (k.q ∉ [k.gP, k.gM] ∧ k.gL ∉ [k.gP, k.gM] ∧ k.gN ∉ [k.gP, k.gM] ∧ gW ∉ [k.gP, k.gM]) ∧ k.g ∉ [k.gP, k.gM] from by
    have e1 : k.q ≠ k.gP := fun e => ((Rfx.rec_ h.dsk).ne_ h.pg (by decide)) e
    have e2 : k.q ≠ k.gM := fun e => ((Rfx.rec_ h.dsk).ne_ h.nm (by decide)) e
    have e3 : k.gL ≠ k.gP := fun e => ((Rfx.last h.dsk).ne_ h.pg (by decide)) e
    have e4 : k.gL ≠ k.gM := fun e => ((Rfx.last h.dsk).ne_ h.nm (by decide)) e
    have e5 : k.gN ≠ k.gP := fun e => ((Rfx.now h.dsk).ne_ h.pg (by decide)) e
    have e6 : k.gN ≠ k.gM := fun e => ((Rfx.now h.dsk).ne_ h.nm (by decide)) e
    have e7 : gW ≠ k.gP := fun e => ((Rfx.wait h.dsk).ne_ h.pg (by decide)) e
    have e8 := h.ng
    have e9 : k.g ≠ k.gP := fun e => (h.rec_.ne_ h.pg (by decide)) e
    have e10 : k.g ≠ k.gM := fun e => (h.rec_.ne_ h.nm (by decide)) e
    simp only [List.mem_cons, List.not_mem_nil, or_false, not_or]
    exact ⟨⟨⟨e1, e2⟩, ⟨e3, e4⟩, ⟨e5, e6⟩, ⟨e7, fun e => e8 e.symm⟩⟩, ⟨e9, e10⟩⟩)
  clear h hC hm hin
  go_enter Tryz.func62, Tryz.ntmps62
  go_wp2_with fail
  go_loopw [8] (fun i wr => ∃ j : Nat, i = .int .i64 (j : Int) ∧ j ≤ m ∧ Hid (∃ us', Whole wr k.gP 30 (us' ++ rP) ∧ Els (k.D gW) wr us' (applyL x.pages (ls.take j))) ∧ Hid (Whole wr k.gM 4 (bls (nameL x.named (ls.take j)))) ∧ Hid (Chg [k.gP, k.gM] w wr)) (fun i _ => m - (intOf i).toNat)
  case atStart => exact ⟨0, rfl, Nat.zero_le _, Lib.hid ⟨us, H.out.pg, H.out.els⟩, Lib.hid H.out.nm, Lib.hid (Chg.refl _ _)⟩
  case round =>
    obtain ⟨j, rfl, hj, HPr, HNr, HCr⟩ := hrel
    have HRr := Lib.hid (H.out.rec_.chg HCr.out HNE.out.2)
    by_cases hlt : j < m
    · have hjI : (j : Int) < (m : Int) := by omega
      have hj0 : (0 : Int) ≤ (j : Int) := by omega
      have hjl : j < ls.length := by have := HLM.out; omega
      obtain ⟨us', hpg, hel⟩ := HPr.out
      have hCr := HCH.out.chg HCr.out (fun i hi => by simp only [List.mem_cons, List.not_mem_nil, or_false] at hi; rcases hi with rfl | rfl <;> simp [RK.D])
      obtain ⟨a, ha⟩ : ∃ a, ls[j]? = some a := ⟨ls[j], List.getElem?_eq_getElem hjl⟩
      obtain ⟨gc, oc, rfl, hgc, hcc⟩ := hCr.chs.cells (by omega)
      obtain ⟨q0, q1⟩ := hcc j a ha
      obtain ⟨hp0, hp1, hp2⟩ := HIN.out a (List.mem_of_getElem? ha)
      have hok := hCr.chs.ok a (List.mem_of_getElem? ha)
      have HBS := Lib.hid hok.bs
      have HELB := Lib.hid (hCr.els a (List.mem_of_getElem? ha))
      have HAX := Lib.hid (applyL_take x.pages ls j a ha)
      have HNX := Lib.hid (nameL_next x.named ls j a ha)
      have hNl : (nameL x.named (ls.take j)).length = x.P := by rw [nameL_len, H.out.nl]
      have hAl : (applyL x.pages (ls.take j)).length = x.P := by rw [applyL_len, H.out.pl]
      obtain ⟨q, hq⟩ : ∃ q : Nat, a.page = (q : Int) := ⟨a.page.toNat, by omega⟩
      rw [hq] at q0 hp1 HNX
      rw [Int.toNat_natCast] at HNX
      have hAX2 : applyL x.pages (ls.take (j + 1)) = (applyL x.pages (ls.take j)).set q a.B := by
        rw [HAX.out]
        unfold applyC
        rw [if_pos ⟨by omega, by rw [hAl]; omega⟩, hq, Int.toNat_natCast]
      have HAX2 := Lib.hid hAX2
      generalize nameL x.named (ls.take j) = Nj at HNr HNX hNl
      generalize applyL x.pages (ls.take j) = Pj at HAX HAX2 hAl hel
      clear hAX2 HAX
      have hqP : q < x.P := by omega
      have hqI : (q : Int) < (x.P : Int) := by omega
      have hqI0 : (0 : Int) ≤ (q : Int) := by omega
      have HUL := Lib.hid (show us'.length = x.P from hel.1.trans hAl)
      have HPG := Lib.hid hpg
      have HEL := Lib.hid hel
      have HB64 := Lib.hid (show a.B.length = 64 ∧ a.bn = 64 from ⟨hp2, by rw [← hok.bs.len]; exact hp2⟩)
      clear hpg hel hCr hcc ha hp0 hp1 hp2 hq hjl HPr hok
      go_upto_region 3 with fail
      have hX := Whole.new wr 51 [.int .i64 (q : Int), .slice a.bA a.bn a.bc]
      have hal := (Chg.refl [] wr).alloc (.cells #[.int .i64 (q : Int), .slice a.bA a.bn a.bc] 51)
      have HN4 := Lib.hid (HNr.out.keep hal)
      have HR4 := Lib.hid (HRr.out.keep hal)
      have HPG4 := Lib.hid (HPG.out.keep hal)
      have HEL4 := Lib.hid (HEL.out.keep hal)
      have HBS4 := Lib.hid (HBS.out.keep hal)
      have HC4 := Lib.hid (HCr.out.new hal)
      obtain ⟨gx, hgx⟩ : ∃ gx, gx = wr.heap.size := ⟨_, rfl⟩
      have HGX := Lib.hid (show gx ≠ k.gP ∧ gx ≠ k.gM ∧ gx ≠ k.g from by
        have h1 := HPG.out.lt
        have h2 := HNr.out.lt
        have h3 := HRr.out.lt
        omega)
      rw [← hgx] at hX ⊢
      generalize wr.alloc (.cells #[.int .i64 (q : Int), .slice a.bA a.bn a.bc] 51) = w4 at hX hal HN4 HR4 HPG4 HEL4 HBS4 HC4 ⊢
      have HX := Lib.hid hX
      have HSZL := Lib.hid (show ∀ i ∈ [k.gP], i < w4.heap.size from fun i hi => by simp only [List.mem_singleton] at hi; subst hi; exact HPG4.out.lt)
      have HLTS := Lib.hid (show ∀ i ∈ k.D gW, i < w4.heap.size from fun i hi => Nat.lt_of_lt_of_le (H.out.lts i hi) (Nat.le_trans HC4.out.size (Nat.le_refl _)))
      clear hX hal hgx q0 q1 HNr HRr HCr HPG HEL HBS
      have hC0 := (Chg.refl [] w4).drew
      have TOK := stT_ok (T := [k.gP]) (φ := pgW k.gP w4.heap.size (us' ++ rP) q a.B) (hard := [11]) (soft := []) pgW_keep
      refine F2.wp_flow (by kernel_rfl) (stT [k.gP] (pgW k.gP w4.heap.size (us' ++ rP) q a.B) [11] []) TOK (by kernel_rfl) (by kernel_rfl) ?_
      refine F2.flow_move_out TOK rfl rfl rfl ?_
      refine F2.flow1 (r := .pointer (some ⟨k.g, 0, none⟩)) TOK rfl (.inn rfl) rfl (fun ev W he e1 => by go_simp) ?_
      refine F2.flow1 (r := .pointer (some ⟨k.g, 4, none⟩)) TOK rfl (.inn rfl) rfl (fun ev W he e1 => by go_simp) ?_
      refine F2.flow1h (r := .slice (some ⟨k.gP, 0, none⟩) x.P (x.P + rP.length)) TOK rfl (.inn rfl) rfl (fun ev W he hW e1 => by have r4 := (HR4.out.chg (hC0.sub (T' := [k.gP]) (fun _ h => by cases h) |>.trans hW.1) (by simp only [List.mem_singleton]; exact HGP.out.2.1)).cell 4; clear hW; go_simp) ?_
      refine F2.flow1 (r := .pointer (some ⟨gx, 0, none⟩)) TOK rfl (.out rfl rfl) rfl (fun ev W he e1 => by go_simp) ?_
      refine F2.flow1h (r := .int .i64 (q : Int)) TOK rfl (.inn rfl) rfl (fun ev W he hW e1 => by have x0 := (HX.out.chg (hC0.sub (T' := [k.gP]) (fun _ h => by cases h) |>.trans hW.1) (by simp only [List.mem_singleton]; exact HGX.out.1)).cell 0; clear hW; go_simp) ?_
      refine F2.flow_op (emptyF w4.heap.size 5) (keeps_empty _ _) (.inr (keeps_empty_b HSZL.out)) rfl (fun ev W he hW hfs => ?_) ?_
      · have hr : (execOp ev ⟨some 18, .buildSlice 30 0 #[], 30, "ref.go:113", #[], none⟩).run Tryz.prog W = .ok (.value (.slice (some ⟨W.heap.size, 0, none⟩) 0 0)) (W.alloc (.cells #[] 5)) := by go_simp
        refine Eq.mpr (congrArg _ hr) ?_
        exact ⟨st_by pgW_keep _ ((Chg.refl _ _).alloc _), _, rfl, hW.1.size, Whole.new W 5 []⟩
      refine F2.flow1 (r := .pointer (some ⟨gx, 1, none⟩)) TOK rfl (.out rfl rfl) rfl (fun ev W he e1 => by go_simp) ?_
      refine F2.flow1h (r := .slice a.bA a.bn a.bc) TOK rfl (.inn rfl) rfl (fun ev W he hW e1 => by have x0 := (HX.out.chg (hC0.sub (T' := [k.gP]) (fun _ h => by cases h) |>.trans hW.1) (by simp only [List.mem_singleton]; exact HGX.out.1)).cell 1; clear hW; go_simp) ?_
      refine F2.flow_op (ownF w4.heap.size 5 (bts a.B)) (keeps_own _ _ _) (.inr (keeps_own_b HSZL.out)) rfl (fun ev W he hW hfs => ?_) ?_
      · obtain ⟨f1, f2, _⟩ := hfs
        have f1' : emptyF w4.heap.size 5 (ev (.tmp 18)) W := f1
        have e2 : ev (.tmp 20) = .slice a.bA a.bn a.bc := f2
        obtain ⟨b, e1, hbb, hw⟩ := f1'
        have hcw := (hC0.sub (T' := [k.gP]) (fun _ h => by cases h)).trans hW.1
        have hsz : w4.heap.size ≤ W.heap.size := hcw.size
        have hbs := bs_aw HBS4.out hcw (fun ad e hm => HELB.out (by have := HB64.out; omega) ad e (by simp only [List.mem_singleton] at hm; rw [hm]; exact (RK.gP_D k gW).1))
        obtain ⟨v', w', hrun, ho, hc⟩ := run_append_empty (P := Tryz.prog) W w4.heap.size 30 30 5 i0 _ 1 Tryz.underlying30 hi hz0 hz1 hz2 rfl b hw hbb hsz a.bA a.bn a.bc (bts a.B) (by rw [bts_len]; exact hbs.len) hbs.src (by have := HB64.out; omega) (by unfold maxLen; have := HB64.out; omega)
        have hr : (execOp ev ⟨some 21, .call { callee := .builtin .append, args := #[.tmp 18, .tmp 20], argTypes := #[30, 30] }, 30, "ref.go:113", #[{ on := 6, ground := Ground.data }, { on := 8, ground := Ground.data }], none⟩).run Tryz.prog W = .ok (.value v') w' := by
          unfold execOp
          simp only [resolve, invoke, builtin, Sem.run_bind, Sem.run_pure, Result.andThen_ok, List.map_toArray, List.map_cons, List.map_nil, e1, e2, hrun]
        refine Eq.mpr (congrArg _ hr) ?_
        exact ⟨st_by pgW_keep _ hc, by rw [ownF, bts_len, HB64.out.1]; rw [HB64.out.2] at ho; exact ho⟩
      refine F2.flow2 (r := .pointer (some ⟨k.gP, q, none⟩)) TOK rfl (.inn rfl) (.inn rfl) rfl (fun ev W he e1 e2 => by go_simp) ?_
      refine F2.flow_store_early (fun _ W => pgW k.gP w4.heap.size (us' ++ rP) q a.B W) (t := 22) rfl rfl (fun _ W W' h hc => pgW_keep W W' hc h) (.inr keeps_st) rfl rfl (fun ev W he hW hfs => ?_) ?_
      · obtain ⟨f1, f2, _⟩ := hfs
        have e1 : ev (.tmp 22) = .pointer (some ⟨k.gP, q, none⟩) := f1
        have f2' : ownF w4.heap.size 5 (bts a.B) (ev (.tmp 21)) W := f2
        have hcw := hC0.new (star_chg hW)
        have hW4 := HPG4.out.keep hcw
        rw [ownF, bts_len] at f2'
        obtain ⟨A2, c2, e2, _⟩ := own_slice f2'
        have f3 := f2'
        rw [e2] at f3
        have hold := hW4.cell q
        rw [List.getElem?_append_left (by rw [HUL.out]; exact hqP), List.getElem?_eq_getElem (by rw [HUL.out]; exact hqP)] at hold
        have hof := hW4.frozen q
        have hr : (execOp ev ⟨none, .store 30 (.tmp 22) (.tmp 21), 0, "ref.go:113", #[{ on := 10, ground := Ground.data }, { on := 9, ground := Ground.data }, { on := 9, ground := Ground.chain }, { on := 0, ground := Ground.phase }, { on := 1, ground := Ground.phase }, { on := 2, ground := Ground.phase }, { on := 3, ground := Ground.phase }, { on := 4, ground := Ground.phase }, { on := 5, ground := Ground.phase }, { on := 6, ground := Ground.phase }, { on := 7, ground := Ground.phase }, { on := 8, ground := Ground.phase }, { on := 9, ground := Ground.phase }], none⟩).run Tryz.prog W = .ok .skip (W.setCell ⟨k.gP, q, none⟩ (.slice A2 a.B.length c2)) := by
          clear f2' f3 hW hcw f1 f2
          go_simp
        refine Eq.mpr (congrArg _ hr) ?_
        have hc5 : Chg [k.gP] W (W.setCell ⟨k.gP, q, none⟩ (.slice A2 a.B.length c2)) := (Chg.refl [k.gP] W).setCell (p := ⟨k.gP, q, none⟩) (fun _ => by simp) _
        have hφ : pgW k.gP w4.heap.size (us' ++ rP) q a.B (W.setCell ⟨k.gP, q, none⟩ (.slice A2 a.B.length c2)) := ⟨_, hW4.set_ q _, rown_chg f3 hc5 (fun i hi => .inl (HSZL.out i hi))⟩
        exact ⟨st_hard rfl hc5 hφ, hφ⟩
      intro vs W hW _ hst
      obtain ⟨u, hpgu, hou⟩ := hst 11 _ _ 22 rfl rfl rfl rfl
      have hcw := (hC0.sub (T' := [k.gP]) (fun _ h => by cases h)).trans hW.1
      obtain ⟨A2, c2, rfl, hB2, hA2⟩ := Bs.of_own hou
      have HN5 := Lib.hid (HN4.out.chg hcw (by simp only [List.mem_singleton]; exact fun e => HGP.out.1 e.symm))
      have HR5 := Lib.hid (HR4.out.chg hcw (by simp only [List.mem_singleton]; exact HGP.out.2.1))
      have HX5 := Lib.hid (HX.out.chg hcw (by simp only [List.mem_singleton]; exact HGX.out.1))
      have HC5 := Lib.hid (show Chg [k.gP, k.gM] w W from HC4.out.trans (hcw.sub (by simp)))
      have HP5 := Lib.hid (show ∃ us', Whole W k.gP 30 (us' ++ rP) ∧ Els (k.D gW) W us' (applyL x.pages (ls.take (j + 1))) from ⟨us'.set q (.slice A2 a.B.length c2), by
        rw [List.set_append_left _ _ (by rw [HUL.out]; exact hqP)] at hpgu; exact hpgu, by
        rw [HAX2.out]
        exact (HEL4.out.chg hcw (fun i hi => by simp only [List.mem_singleton] at hi; subst hi; exact (RK.gP_D k gW).1)).set q hB2 (fun ad e hm => by have h1 := (hA2 ad e).2.1; have h2 := HLTS.out _ hm; omega)⟩)
      simp only [putAll, Act.put, List.setIfInBounds_toArray, List.set_cons_zero, List.set_cons_succ]
      clear hst hpgu hou hB2 hA2 hcw hW TOK hC0 HN4 HR4 HX HC4 HPG4 HEL4 HBS4 HELB
      obtain ⟨w5, hw5⟩ : ∃ w5 : World, w5 = W := ⟨_, rfl⟩
      rw [← hw5] at HN5 HR5 HX5 HC5 HP5 ⊢
      clear hw5
      go_upto_region 4 with fail
      have x0 := HX5.out.cell 0
      have d5 := HR5.out.cell 5
      have dold := HN5.out.cell q
      have dfr := HN5.out.frozen q
      simp only [List.getElem?_cons_zero, List.getElem?_cons_succ] at d5
      rw [bls_get Nj q (by omega)] at dold
      go_region
      have hNs := HN5.out.drew.set_ q (.bool true)
      rw [bls_set] at hNs
      have hc6 : Chg [k.gM] w5 (w5.drew.setCell ⟨k.gM, q, none⟩ (.bool true)) := ((Chg.refl [k.gM] w5).drew).setCell (p := ⟨k.gM, q, none⟩) (fun _ => by simp) _
      have HN6 := Lib.hid hNs
      have HC6 := Lib.hid (show Chg [k.gP, k.gM] w (w5.drew.setCell ⟨k.gM, q, none⟩ (.bool true)) from HC5.out.trans (hc6.sub (by simp)))
      have HP6 := Lib.hid (show ∃ us', Whole (w5.drew.setCell ⟨k.gM, q, none⟩ (.bool true)) k.gP 30 (us' ++ rP) ∧ Els (k.D gW) (w5.drew.setCell ⟨k.gM, q, none⟩ (.bool true)) us' (applyL x.pages (ls.take (j + 1))) from by
        obtain ⟨us2, h1, h2⟩ := HP5.out
        exact ⟨us2, h1.chg hc6 (by simp only [List.mem_singleton]; exact HGP.out.1), h2.chg hc6 (fun i hi => by simp only [List.mem_singleton] at hi; subst hi; exact (RK.gP_D k gW).2)⟩)
      clear hNs hc6
      go_wp2_with fail
      go_roundw
      case rel => exact ⟨j + 1, by go_num, by omega, HP6, Lib.hid (by rw [HNX.out]; exact HN6.out), HC6⟩
      case measure => simp [intOf]; omega
    · obtain rfl : m = j := by omega
      have hjI : ¬ (m : Int) < (m : Int) := by omega
      obtain ⟨us', hpg, hel⟩ := HPr.out
      have HP := Lib.hid (show RApPost w k gW rL rN d x rP ls (.returned (.tuple #[])) wr from by
        have ht : ls.take m = ls := List.take_of_length_le (by rw [HLM.out]; exact Nat.le_refl _)
        have hN := HNr.out
        rw [ht] at hN hel
        have h64 := applyL_64 ls x.pages H.out.p64 (fun a ha => (HIN.out a ha).2.2)
        refine ⟨rfl, ⟨us', ?_⟩, HCr.out⟩
        exact { dsk := Rfx.away H.out.dsk HCr.out HNE.out.1.1 HNE.out.1.2.1 HNE.out.1.2.2.1 HNE.out.1.2.2.2, rec_ := HRr.out, pg := hpg, els := hel, nm := hN, ng := H.out.ng, rt := H.out.rt, ep := H.out.ep, pl := by show (applyL x.pages ls).length = _; rw [applyL_len, H.out.pl]; rfl, nl := by show (nameL x.named ls).length = _; rw [nameL_len, H.out.nl]; rfl, p64 := h64, us_ := H.out.us_, sq := H.out.sq, exl := fun i hi => Nat.lt_of_lt_of_le (H.out.exl i hi) HCr.out.size })
      clear hpg hel
      go_wp2_with fail
      go_end0
      exact HP.out
end
end Go.Proofs.YtddjgncdjdjgeaaGreat
