/-
  S: Sto2, Sto3, Sto4.
-/
import Derived.Test.YtddjgncdjdjgeaaGreatZS13
import Derived.Test.YtddjgncdjdjgeaaGreatZS15
import Derived.Test.YtddjgncdjdjgeaaGreatZS16
import Derived.LoopTactic
import Derived.RegionTactic
import Derived.BigRegion
namespace Go.Proofs.YtddjgncdjdjgeaaGreat
open Go.RowKit
section
variable {w : World} {p bL bS bW : Nat} {s : St}
def FmtPost (w : World) (p bL bS bW : Nat) (s : St) (L P : Int) (e : Ending) (w' : World) : Prop :=
  (rightR L P 1 s.V.length = true ∧ e = .returned (.int .i64 0) ∧ DskS w' p bL bS bW (fmt s L.toNat P.toNat) ∧ Chg [bL, bS, bW] w w') ∨
  (rightR L P 1 s.V.length = false ∧ e = .returned (.int .i64 25) ∧ Chg [] w w')
set_option maxHeartbeats 4000000 in
set_option maxRecDepth 100000 in
theorem format_nil (L P : Int) : Calls Tryz.prog 19 #[.pointer none, .int .i64 L, .int .i64 P] w (fun e w' => e = .returned (.int .i64 1) ∧ Chg [] w w') := by
  go_enter Tryz.func19, Tryz.ntmps19
  go_wp2_with fail
  go_ret
  exact ⟨rfl, Chg.refl _ _⟩
set_option maxHeartbeats 4000000 in
set_option maxRecDepth 100000 in
theorem format_any (h : DskS w p bL bS bW s) (L P : Int) :
    Calls Tryz.prog 19 #[.pointer (some ⟨p, 0, none⟩), .int .i64 L, .int .i64 P] w (FmtPost w p bL bS bW s L P) := by
  have H := Lib.hid h
  have HB := Lib.hid (show p < w.heap.size ∧ bL < w.heap.size ∧ bS < w.heap.size ∧ bW < w.heap.size from ⟨(Dsk.rec_ h).lt, (Dsk.last h).lt, (Dsk.seen h).lt, (Dsk.wait h).lt⟩)
  clear h
  go_enter Tryz.func19, Tryz.ntmps19
  go_upto_region 4 with fail
  have hR := Whole.new w 58 [.int .i64 L, .int .i64 P, .int .u32 1]
  have hal := (Chg.refl [] w).alloc (.cells #[.int .i64 L, .int .i64 P, .int .u32 1] 58)
  have HD := Lib.hid (H.out.keep hal)
  have HC := Lib.hid hal
  obtain ⟨gr, hgr⟩ : ∃ g, g = w.heap.size := ⟨_, rfl⟩
  have HG := Lib.hid hgr
  rw [← hgr] at hR ⊢
  generalize w.alloc (.cells #[.int .i64 L, .int .i64 P, .int .u32 1] 58) = w1 at hR HD HC ⊢
  have HR := Lib.hid hR
  clear hR hal hgr
  refine wp_flow (by kernel_rfl) plainT plainT_ok (by kernel_rfl) ?_
  refine flow1h (r := rootV L P 1) plainT_ok rfl (.out rfl rfl) rfl (fun ev W he hW e1 => by have hx := HR.out.keep ((Chg.refl [] w1).drew.new hW); have r0 := hx.cell 0; have r1 := hx.cell 1; have r2 := hx.cell 2; clear hW hx; unfold rootV; go_simp) ?_
  refine flow_move_out plainT_ok rfl rfl rfl ?_
  refine flow_callv (.int .i64 (s.V.length : Int)) (by kernel_rfl) rfl (.cons (.inn rfl) .nil) (fun W hW => (len_any (HD.out.keep ((Chg.refl [] w1).drew.new hW))).mono ?_) ?_
  · rintro e w' ⟨rfl, rfl⟩; exact ⟨rfl, Chg.refl _ _⟩
  refine flow_callv (.bool (rightR L P 1 s.V.length)) (by kernel_rfl) rfl (.cons (.inn rfl) (.cons (.inn rfl) .nil)) (fun W hW => (rright_any L P 1 _).mono ?_) ?_
  · rintro e w' ⟨rfl, hc⟩; exact ⟨rfl, hc⟩
  refine flow1 (r := .bool (!rightR L P 1 s.V.length)) plainT_ok rfl (.inn rfl) rfl (fun ev W he e1 => by go_simp) ?_
  intro vs W hW hF
  have e17 : vs 17 = .bool (!rightR L P 1 s.V.length) := hF 17 _ rfl rfl
  have hcw : Chg [] w1 W := (Chg.refl [] w1).drew.new hW
  have HD2 := Lib.hid (HD.out.keep hcw)
  have HR2 := Lib.hid (HR.out.keep hcw)
  have HC2 := Lib.hid (HC.out.new hcw)
  simp only [putAll, Act.put, List.setIfInBounds_toArray, List.set_cons_zero, List.set_cons_succ]
  rw [e17]
  clear hF hW e17 hcw
  obtain ⟨w2, hw2⟩ : ∃ w2 : World, w2 = W := ⟨_, rfl⟩
  rw [← hw2] at HD2 HR2 HC2 ⊢
  clear hw2
  by_cases hr : rightR L P 1 s.V.length = true
  · obtain ⟨a1, a2, a3, a4, a5, _⟩ := rightR_true.1 hr
    have HRT := Lib.hid hr
    have HLP := Lib.hid (show L = (L.toNat : Int) ∧ P = (P.toNat : Int) from ⟨by omega, by omega⟩)
    rw [hr]
    obtain ⟨l, hl⟩ : ∃ l, l = L.toNat := ⟨_, rfl⟩
    obtain ⟨q, hq⟩ : ∃ q, q = P.toNat := ⟨_, rfl⟩
    have HLQ := Lib.hid (And.intro hl hq)
    obtain rfl : L = (l : Int) := by omega
    obtain rfl : P = (q : Int) := by omega
    have hlq : 1 ≤ l ∧ l ≤ 64 ∧ 1 ≤ q ∧ q ≤ 64 ∧ 2 + l + q ≤ s.V.length := by omega
    obtain ⟨m1, hm1⟩ : ∃ m1, m1 = 2 + l := ⟨_, rfl⟩
    obtain ⟨m, hm⟩ : ∃ m, m = 2 + l + q := ⟨_, rfl⟩
    have hs1 : IntKind.i64.wrap (2 + (l : Int)) = (m1 : Int) := by rw [IntKind.wrap_i64]; omega
    have hs2 : IntKind.i64.wrap ((m1 : Int) + (q : Int)) = (m : Int) := by rw [IntKind.wrap_i64]; omega
    have HL2 := Lib.hid hlq
    have HM := Lib.hid hm
    clear a1 a2 a3 a4 a5 hl hq hr HLP hm hm1 hlq
    go_wp2_with fail
    refine (wipe_any HD2.out 0 2 (by omega) (by have := HL2.out; omega)).mono ?_
    rintro e w3 ⟨rfl, hd3, hc3⟩
    have HD3 := Lib.hid hd3
    have HR3 := Lib.hid (HR2.out.chg hc3 (fun hm => by have h1 := HB.out; have h2 := HG.out; simp only [List.mem_cons, List.not_mem_nil, or_false] at hm; omega))
    have HC3 := Lib.hid ((HC2.out.sub (T' := [bL, bS, bW]) (fun _ h => by cases h)).trans hc3)
    clear hd3 hc3
    go_wp2_with fail
    refine (wipe_any HD3.out 2 m (by have := HM.out; omega) (by have h1 := HL2.out; have h2 := HM.out; rw [flA_len, wipeN_len]; omega)).mono ?_
    rintro e w4 ⟨rfl, hd4, hc4⟩
    have HD4 := Lib.hid hd4
    have hr4 := HR3.out.chg hc4 (fun hm => by have h1 := HB.out; have h2 := HG.out; simp only [List.mem_cons, List.not_mem_nil, or_false] at hm; omega)
    have r0 := hr4.cell 0
    have r1 := hr4.cell 1
    have r2 := hr4.cell 2
    have HC4 := Lib.hid (HC3.out.trans hc4)
    clear hd4 hc4 hr4
    go_wp2_with fail
    have hpr := putRoot_any HD4.out l q 1 (by have := HL2.out; omega) (by have := HL2.out; omega) (by omega) (by have h1 := HL2.out; rw [flA_len, wipeN_len, flA_len, wipeN_len]; omega)
    unfold rootV at hpr
    refine hpr.mono ?_
    rintro e w5 ⟨rfl, hd5, hc5⟩
    have HP := Lib.hid (show FmtPost w p bL bS bW s (l : Int) (q : Int) (.returned (.int .i64 0)) w5 from .inl ⟨HRT.out, rfl, by
      unfold fmt
      have h1 := HLQ.out
      have h2 := HM.out
      rw [← h1.1, ← h1.2, show l + q = m - 2 by omega]
      exact hd5, HC4.out.trans hc5⟩)
    clear hd5 hc5 hpr r0 r1 r2
    go_wp2_with fail
    go_ret
    exact HP.out
  · have hr' : rightR L P 1 s.V.length = false := by simpa using hr
    have HP := Lib.hid (show FmtPost w p bL bS bW s L P (.returned (.int .i64 25)) w2 from .inr ⟨hr', rfl, HC2.out⟩)
    rw [hr']
    clear hr hr'
    go_wp2_with fail
    go_ret
    exact HP.out
end
end Go.Proofs.YtddjgncdjdjgeaaGreat
namespace Go.Proofs.YtddjgncdjdjgeaaGreat
open Go.RowKit
structure SK where
  p : Nat
  bL : Nat
  bS : Nat
  bW : Nat
  g : Nat
  gN : Nat
  ex : List Nat
/-- A store: its root, its pages, which of them its log named, what is used. -/
structure SV where
  L : Nat
  P : Nat
  E : Nat
  pages : List (List UInt8)
  named : List Bool
  used : Nat
  seq : Nat
def SK.D (k : SK) : List Nat := k.p :: k.bL :: k.bS :: k.bW :: k.g :: k.gN :: k.ex
/-- Pages in memory, in blocks that are none of T. -/
def Pgs (T : List Nat) (w : World) (v : Value) (ps : List (List UInt8)) : Prop :=
  ∃ A c us, v = .slice A ps.length c ∧ ps.length ≤ c ∧ Src w A us ∧ us.length = ps.length ∧ (∀ ad, A = some ad → ad.spot = none ∧ ad.block ∉ T) ∧ ∀ (i : Nat) u l, us[i]? = some u → ps[i]? = some l → ∃ A' n' c', u = .slice A' n' c' ∧ Bs w A' n' c' l ∧ ∀ ad, A' = some ad → ad.block ∉ T
theorem src_aw {w w' : World} {A : Option Addr} {xs : List Value} {T : List Nat} (h : Src w A xs) (hc : Chg T w w') (hA : ∀ ad, A = some ad → ad.block ∉ T) : Src w' A xs := h.chg hc fun _ ad e => hA ad e
theorem bs_aw {w w' : World} {A : Option Addr} {n c : Nat} {l : List UInt8} {T : List Nat} (h : Bs w A n c l) (hc : Chg T w w') (hA : ∀ ad, A = some ad → ad.block ∉ T) : Bs w' A n c l := { h with src := src_aw h.src hc hA }
theorem Pgs.chg {T T' : List Nat} {w w' : World} {v : Value} {ps : List (List UInt8)} (h : Pgs T w v ps) (hc : Chg T' w w') (hT : ∀ i ∈ T', i ∈ T) : Pgs T w' v ps := by
  obtain ⟨A, c, us, e, h1, h2, h3, h4, h5⟩ := h
  refine ⟨A, c, us, e, h1, src_aw h2 hc (fun ad e hm => (h4 ad e).2 (hT _ hm)), h3, h4, fun i u l hu hl => ?_⟩
  obtain ⟨A', n', c', e', hB, hD⟩ := h5 i u l hu hl
  exact ⟨A', n', c', e', bs_aw hB hc (fun ad e hm => hD ad e (hT _ hm)), hD⟩
theorem Pgs.lists {T : List Nat} {w : World} {v : Value} {ps : List (List UInt8)} (h : Pgs T w v ps) : ∃ A c us, v = .slice A ps.length c ∧ ps.length ≤ c ∧ Src w A us ∧ us.length = ps.length ∧ (∀ ad, A = some ad → ad.spot = none) ∧ Lists w us ps := by
  obtain ⟨A, c, us, e, h1, h2, h3, h4, h5⟩ := h
  exact ⟨A, c, us, e, h1, h2, h3, fun ad e => (h4 ad e).1, h3, fun i u l hu hl => by
    obtain ⟨A', n', c', e', hB, _⟩ := h5 i u l hu hl
    exact ⟨A', n', c', e', hB⟩⟩
/-- Rows of a call's own. -/
theorem Pgs.of_fr {T : List Nat} {B : Nat} {w : World} {g n : Nat} {us : List Value} {ps : List (List UInt8)} (h : Fr B w g n us ps n) (hg : B ≤ g) (hT : ∀ i ∈ T, i < B) (hps : ∀ l ∈ ps, l.length ≤ 1000000) : Pgs T w (.slice (some ⟨g, 0, none⟩) n n) ps := by
  have hpl := h.lenP
  refine ⟨some ⟨g, 0, none⟩, n, us, by rw [hpl], by omega, Src.of_all h.row, by rw [h.len, hpl], fun ad e => by injection e with e; subst e; exact ⟨rfl, fun hm => by have := hT _ hm; simp only at this; omega⟩, fun i u l hu hl => ?_⟩
  have hi : i < n := by rw [← hpl]; exact (List.getElem?_eq_some_iff.1 hl).1
  obtain ⟨x, h1, h2, h3⟩ := h.at_ i hi l hl
  rw [h1] at hu
  injection hu with hu
  subst hu
  exact ⟨_, _, _, rfl, Bs.of_all h2 (by have := hps l (List.mem_of_getElem? hl); omega), fun ad e => by injection e with e; subst e; exact fun hm => by have := hT _ hm; simp only at this; omega⟩
structure Sto (w : World) (k : SK) (s : St) (x : SV) (vP : Value) : Prop where
  dsk : DskS w k.p k.bL k.bS k.bW s
  rec_ : Whole w k.g 94 [.pointer (some ⟨k.p, 0, none⟩), .int .i64 (x.L : Int), .int .i64 (x.P : Int), .int .u32 (x.E : Int), vP, .slice (some ⟨k.gN, 0, none⟩) x.P x.P, .int .i64 (x.used : Int), .int .u32 (x.seq : Int)]
  pgs : Pgs k.D w vP x.pages
  nm : Whole w k.gN 4 (bls x.named)
  ng : k.gN ≠ k.bW
  rt : rightR (x.L : Int) (x.P : Int) (x.E : Int) s.V.length = true
  ep : x.E < 4294967296
  pl : x.pages.length = x.P
  nl : x.named.length = x.P
  p64 : ∀ l ∈ x.pages, l.length = 64
  us : x.used ≤ 4096
  sq : x.seq * 18 ≤ x.used
  exl : ∀ i ∈ k.ex, i < w.heap.size
/-- The pages that changes name. -/
def nameL (N : List Bool) (ls : List ChV) : List Bool := ls.foldl (fun N a => N.set a.page.toNat true) N
theorem nameL_len : ∀ (ls : List ChV) (N : List Bool), (nameL N ls).length = N.length
  | [], _ => rfl
  | a :: ls, N => by show (nameL (N.set _ _) ls).length = _; rw [nameL_len ls, List.length_set]
theorem nameL_next (N : List Bool) (ls : List ChV) (j : Nat) (a : ChV) (h : ls[j]? = some a) : nameL N (ls.take (j + 1)) = (nameL N (ls.take j)).set a.page.toNat true := by
  obtain ⟨hj, he⟩ := List.getElem?_eq_some_iff.1 h
  unfold nameL
  rw [List.take_succ_eq_append_getElem hj, List.foldl_append, he]; rfl
/-- What the changes make of a store. -/
def turnV (x : SV) (ls : List ChV) : SV := ⟨x.L, x.P, x.E, applyL x.pages ls, nameL x.named ls, x.used, x.seq⟩
/-- Changes that go in. -/
def InP (P : Nat) (ls : List ChV) : Prop := ∀ a ∈ ls, 0 ≤ a.page ∧ a.page < (P : Int) ∧ a.B.length = 64
def TurnPost (w : World) (k : SK) (s : St) (x : SV) (ls : List ChV) (e : Ending) (w' : World) : Prop := e = .returned (.tuple #[]) ∧ (∃ v, Sto w' k s (turnV x ls) v) ∧ Chg [k.g, k.gN] w w'
theorem applyL_64 : ∀ (ls : List ChV) (ps : List (List UInt8)), (∀ l ∈ ps, l.length = 64) → (∀ a ∈ ls, a.B.length = 64) → ∀ l ∈ applyL ps ls, l.length = 64
  | [], _, h, _ => h
  | a :: ls, ps, h, ha => by
    show ∀ l ∈ applyL (applyC ps a) ls, l.length = 64
    refine applyL_64 ls _ (fun l hl => ?_) (fun b hb => ha b (List.mem_cons_of_mem _ hb))
    unfold applyC at hl
    split at hl
    · rcases List.mem_or_eq_of_mem_set hl with h1 | h1
      · exact h l h1
      · rw [h1]; exact ha a List.mem_cons_self
    · exact h l hl
section
variable {w : World} {k : SK} {s : St} {x : SV} {vP : Value} {C : Option Addr} {m d : Nat} {ls : List ChV}
theorem Sto.lts (h : Sto w k s x vP) : ∀ i ∈ k.D, i < w.heap.size := fun i hi => by
  simp only [SK.D, List.mem_cons] at hi
  rcases hi with rfl | rfl | rfl | rfl | rfl | rfl | hi
  · exact (Dsk.rec_ h.dsk).lt
  · exact (Dsk.last h.dsk).lt
  · exact (Dsk.seen h.dsk).lt
  · exact (Dsk.wait h.dsk).lt
  · exact h.rec_.lt
  · exact h.nm.lt
  · exact h.exl i hi
theorem Sto.keep {w' : World} (h : Sto w k s x vP) (hc : Chg [] w w') : Sto w' k s x vP :=
  { h with dsk := Dsk.keep h.dsk hc, rec_ := h.rec_.keep hc, pgs := h.pgs.chg hc (fun _ h => by cases h), nm := h.nm.keep hc, exl := fun i hi => Nat.lt_of_lt_of_le (h.exl i hi) hc.size }
end
end Go.Proofs.YtddjgncdjdjgeaaGreat
namespace Go.Proofs.YtddjgncdjdjgeaaGreat
open Go.RowKit
section
variable {w : World} {k : SK} {s : St} {x : SV} {vP : Value} {C : Option Addr} {m d : Nat} {ls : List ChV}
set_option maxHeartbeats 8000000 in
set_option maxRecDepth 100000 in
theorem turn_any (h : Sto w k s x vP) (hC : Chs w C ls) (hm : ls.length = m) (hm1 : m ≤ 1000) (hin : InP x.P ls) (hCb : 0 < ls.length → ∀ ad, C = some ad → ad.block ∉ [k.g, k.gN]) :
    Calls Tryz.prog 58 #[.pointer (some ⟨k.g, 0, none⟩), .slice C m d] w (TurnPost w k s x ls) := by
  obtain ⟨A, c, us, rfl, hcp, hsrc, hul, hsp, hli⟩ := h.pgs.lists
  have hP64 : x.P ≤ 64 := by have := rightR_true.1 h.rt; omega
  have hap := apply_any (d := d) (c := c) hsrc (fun _ ad e => hsp ad e) hul (by rw [h.pl]; omega) hli (fun l hl => by have := h.p64 l hl; omega) hC hm hm1 (fun a ha => by have := (hin a ha).2.2; omega)
  have HAP := Lib.hid hap
  have H := Lib.hid h
  have HCH := Lib.hid hC
  have HLM := Lib.hid hm
  have HIN := Lib.hid hin
  have HCB := Lib.hid hCb
  have e4 := h.rec_.cell 4
  clear hap h hC hm hin hCb hsrc hul hsp hli hcp
  go_enter Tryz.func58, Tryz.ntmps58
  go_wp2_with fail
  refine HAP.out.mono ?_
  rintro e w2 ⟨gp, us2, rfl, hfr, hgp, hc2⟩
  have HFR := Lib.hid (And.intro hfr hgp)
  have HC2 := Lib.hid hc2
  have hr2 := H.out.rec_.keep hc2
  have c4 := hr2.cell 4
  have f4 := hr2.frozen 4
  have HR2 := Lib.hid hr2
  obtain ⟨n, hn⟩ : ∃ n, n = (applyL x.pages ls).length := ⟨_, rfl⟩
  have HN := Lib.hid (show n = x.P from by rw [hn, applyL_len, H.out.pl])
  rw [← hn] at HFR ⊢
  clear e4 hfr hgp hc2 hr2 hn HAP
  go_upto_region 1 with fail
  have hR3 := Lib.hid (HR2.out.set_ 4 (.slice (some ⟨gp, 0, none⟩) n n))
  have HCH3 := Lib.hid (show Chg [k.g] w2 (w2.setCell ⟨k.g, 4, none⟩ (.slice (some ⟨gp, 0, none⟩) n n)) from (Chg.refl [k.g] w2).setCell (p := ⟨k.g, 4, none⟩) (fun _ => by simp) _)
  generalize w2.setCell ⟨k.g, 4, none⟩ (.slice (some ⟨gp, 0, none⟩) n n) = w3 at hR3 HCH3 ⊢
  have HGN := Lib.hid (show k.g ≠ k.gN from fun e => (H.out.rec_.ne_ H.out.nm (by decide)) e)
  have hN3 := Lib.hid ((H.out.nm.keep HC2.out).chg HCH3.out (fun hm => HGN.out (by simp only [List.mem_singleton] at hm; exact hm.symm)))
  go_wp2_with fail
  go_loopw [17] (fun i wr => ∃ j : Nat, i = .int .i64 (j : Int) ∧ j ≤ m ∧ Hid (Whole wr k.gN 4 (bls (nameL x.named (ls.take j)))) ∧ Hid (Chg [k.gN] w3 wr)) (fun i _ => m - (intOf i).toNat)
  case atStart => exact ⟨0, rfl, Nat.zero_le _, hN3, Lib.hid (Chg.refl _ _)⟩
  case round =>
    obtain ⟨j, rfl, hj, HNr, HCr⟩ := hrel
    have HRr := Lib.hid (hR3.out.chg HCr.out (fun hm => HGN.out (by simpa using hm)))
    by_cases hlt : j < m
    · have hjI : (j : Int) < (m : Int) := by omega
      have hj0 : (0 : Int) ≤ (j : Int) := by omega
      have hjl : j < ls.length := by have := HLM.out; omega
      obtain ⟨a, ha⟩ : ∃ a, ls[j]? = some a := ⟨ls[j], List.getElem?_eq_getElem hjl⟩
      obtain ⟨gc, oc, rfl, hgc, hcc⟩ := HCH.out.cells (by omega)
      obtain ⟨q0, q1⟩ := hcc j a ha
      obtain ⟨hp0, hp1, hp2⟩ := HIN.out a (List.mem_of_getElem? ha)
      have hcb := HCB.out (by omega) _ rfl
      have hbl : ∀ i, wr.cell? ⟨gc, i, none⟩ = w.cell? ⟨gc, i, none⟩ := fun i => by
        refine World.cell?_of_block (w := w) ?_
        have h1 := HC2.out.block gc hgc (by simp)
        have h2 := HCH3.out.block gc (Nat.lt_of_lt_of_le hgc HC2.out.size) (fun hm => hcb (by simp only [List.mem_singleton] at hm; simp [hm]))
        have h3 := HCr.out.block gc (Nat.lt_of_lt_of_le hgc (Nat.le_trans HC2.out.size HCH3.out.size)) (fun hm => hcb (by simp only [List.mem_singleton] at hm; simp [hm]))
        rw [h3, h2, h1]
      have k0 := (hbl _).trans q0
      have k1 := (hbl _).trans q1
      have HNX := Lib.hid (nameL_next x.named ls j a ha)
      have hNl : (nameL x.named (ls.take j)).length = x.P := by rw [nameL_len, H.out.nl]
      obtain ⟨q, hq⟩ : ∃ q : Nat, a.page = (q : Int) := ⟨a.page.toNat, by omega⟩
      rw [hq] at k0 hp1 HNX
      rw [Int.toNat_natCast] at HNX
      generalize nameL x.named (ls.take j) = Nj at HNr HNX hNl
      have hqP : q < x.P := by omega
      have hold := HNr.out.cell q
      rw [bls_get Nj q (by omega)] at hold
      have hof := HNr.out.frozen q
      generalize Nj[q]'(by omega) = ob at hold
      have hqI : (q : Int) < (x.P : Int) := by omega
      have hqI0 : (0 : Int) ≤ (q : Int) := by omega
      clear hcc q0 q1 hbl ha hp0 hp1 hp2 hq hcb hjl
      go_upto_region 4 with fail
      have hX := Whole.new wr 51 [.int .i64 (q : Int), .slice a.bA a.bn a.bc]
      have hal := (Chg.refl [] wr).alloc (.cells #[.int .i64 (q : Int), .slice a.bA a.bn a.bc] 51)
      have hN4 := HNr.out.keep hal
      have hR4 := HRr.out.keep hal
      have HC4 := Lib.hid (HCr.out.new hal)
      generalize wr.heap.size = gx at hX ⊢
      generalize wr.alloc (.cells #[.int .i64 (q : Int), .slice a.bA a.bn a.bc] 51) = w4 at hX hN4 hR4 HC4 ⊢
      have HN4 := Lib.hid hN4
      have x0 := hX.cell 0
      have d5 := hR4.cell 5
      have dold := hN4.cell q
      have dfr := hN4.frozen q
      simp only [List.getElem?_cons_zero, List.getElem?_cons_succ, List.set_cons_zero, List.set_cons_succ] at d5
      rw [bls_get Nj q (by omega)] at dold
      clear hX hal hN4 hR4 k0 k1 hold hof
      go_region
      have hNs := HN4.out.drew.set_ q (.bool true)
      rw [bls_set] at hNs
      have HN5 := Lib.hid hNs
      have HC5 := Lib.hid (show Chg [k.gN] w3 (w4.drew.setCell ⟨k.gN, q, none⟩ (.bool true)) from (HC4.out.drew).setCell (p := ⟨k.gN, q, none⟩) (fun _ => by simp) _)
      clear hNs
      go_wp2_with fail
      go_roundw
      case rel => exact ⟨j + 1, by go_num, by omega, Lib.hid (by rw [HNX.out]; exact HN5.out), HC5⟩
      case measure => simp [intOf]; omega
    · obtain rfl : m = j := by omega
      have hjI : ¬ (m : Int) < (m : Int) := by omega
      have HP := Lib.hid (show TurnPost w k s x ls (.returned (.tuple #[])) wr from by
        have hc : Chg [k.g, k.gN] w wr := ((HC2.out.sub (T' := [k.g, k.gN]) (fun _ h => by cases h)).trans (sub_s HCH3.out)).trans (sub_s HCr.out)
        have hlt := H.out.lts
        have ht : ls.take m = ls := List.take_of_length_le (by rw [HLM.out]; exact Nat.le_refl _)
        have hN := HNr.out
        rw [ht] at hN
        have hdsk : DskS wr k.p k.bL k.bS k.bW s := Dsk.away H.out.dsk hc
          (by simp only [List.mem_cons, List.not_mem_nil, or_false]; rintro (e | e)
              · exact ((Dsk.rec_ H.out.dsk).ne_ H.out.rec_ (by decide)) e
              · exact ((Dsk.rec_ H.out.dsk).ne_ H.out.nm (by decide)) e)
          (by simp only [List.mem_cons, List.not_mem_nil, or_false]; rintro (e | e)
              · exact ((Dsk.last H.out.dsk).ne_ H.out.rec_ (by decide)) e
              · exact ((Dsk.last H.out.dsk).ne_ H.out.nm (by decide)) e)
          (by simp only [List.mem_cons, List.not_mem_nil, or_false]; rintro (e | e)
              · exact ((Dsk.seen H.out.dsk).ne_ H.out.rec_ (by decide)) e
              · exact ((Dsk.seen H.out.dsk).ne_ H.out.nm (by decide)) e)
          (by simp only [List.mem_cons, List.not_mem_nil, or_false]; rintro (e | e)
              · exact ((Dsk.wait H.out.dsk).ne_ H.out.rec_ (by decide)) e
              · exact H.out.ng e.symm)
        have h64 := applyL_64 ls x.pages H.out.p64 (fun a ha => (HIN.out a ha).2.2)
        have hpg := Pgs.of_fr (T := k.D) HFR.out.1 HFR.out.2 hlt (fun l hl => by have := h64 l hl; omega)
        refine ⟨rfl, ⟨.slice (some ⟨gp, 0, none⟩) n n, ?_⟩, hc⟩
        exact { dsk := hdsk, rec_ := HRr.out, pgs := (hpg.chg HCH3.out (by simp [SK.D])).chg HCr.out (by simp [SK.D]), nm := hN, ng := H.out.ng, rt := H.out.rt, ep := H.out.ep, pl := by show (applyL x.pages ls).length = _; rw [applyL_len, H.out.pl]; rfl, nl := by show (nameL x.named ls).length = _; rw [nameL_len, H.out.nl]; rfl, p64 := h64, us := H.out.us, sq := H.out.sq, exl := fun i hi => Nat.lt_of_lt_of_le (H.out.exl i hi) hc.size })
      go_wp2_with fail
      go_end0
      exact HP.out
end
end Go.Proofs.YtddjgncdjdjgeaaGreat
