/-
  N: DeltaPure, Sto6, DeltaRef, DeltaRefB.
-/
import Derived.Test.YtddjgncdjdjgeaaGreatZN5
import Derived.Test.YtddjgncdjdjgeaaGreatZN8
import Derived.Test.YtddjgncdjdjgeaaGreatZN9
import Derived.Test.YtddjgncdjdjgeaaGreatZN15
import Derived.Test.YtddjgncdjdjgeaaGreatZN16
import Derived.Test.YtddjgncdjdjgeaaGreatZN18
namespace Go.Proofs.YtddjgncdjdjgeaaGreat
open Go.RowKit
/-- A change that is a page. -/
def Page (a : ChV) : Prop := Small a ∧ a.B.length = 64
theorem be2_len (k : Nat) : (be2 k).length = 2 := rfl
theorem num2_be2 (k : Nat) (h : k < 65536) (x : List UInt8) : num2 (be2 k ++ x) = k := by
  show (UInt8.ofNat (k / 256)).toNat * 256 + (UInt8.ofNat k).toNat = k
  rw [UInt8.toNat_ofNat', UInt8.toNat_ofNat']
  omega
theorem chB_len {a : ChV} (h : Page a) : (chB a).length = 66 := by unfold chB; rw [List.length_append, be2_len, h.2]
theorem chsB_len : ∀ {l : List ChV}, (∀ a ∈ l, Page a) → (chsB l).length = l.length * 66
  | [], _ => rfl
  | a :: l, h => by
    rw [chsB, List.length_append, chB_len (h a (List.mem_cons_self ..)), chsB_len (fun b hb => h b (List.mem_cons_of_mem _ hb)), List.length_cons]
    omega
theorem chsB_drop : ∀ {l : List ChV}, (∀ a ∈ l, Page a) → ∀ k, k ≤ l.length → (chsB l).drop (k * 66) = chsB (l.drop k)
  | l, _, 0, _ => by simp
  | [], _, k + 1, h => by simp at h
  | a :: l, h, k + 1, hk => by
    rw [chsB, show (k + 1) * 66 = (chB a).length + k * 66 by rw [chB_len (h a (List.mem_cons_self ..))]; omega, ← List.drop_drop, List.drop_left, List.drop_succ_cons]
    exact chsB_drop (fun b hb => h b (List.mem_cons_of_mem _ hb)) k (by simpa using hk)
section
variable {l : List ChV}
theorem back_num (hn : l.length < 65536) : num2 (bytesD l) = l.length := num2_be2 _ hn _
theorem back_len (h : ∀ a ∈ l, Page a) : (bytesD l).length = 2 + l.length * 66 := by unfold bytesD; rw [List.length_append, be2_len, chsB_len h]
theorem back_at (h : ∀ a ∈ l, Page a) (k : Nat) (a : ChV) (ha : l[k]? = some a) : keyC (chOf (bytesD l) k) = keyC a := by
  obtain ⟨hk, rfl⟩ := List.getElem?_eq_some_iff.1 ha
  have hp := h _ (List.getElem_mem hk)
  have e0 : (bytesD l).drop (2 + k * 66) = chB l[k] ++ chsB (l.drop (k + 1)) := by
    unfold bytesD
    rw [← List.drop_drop, List.drop_left' (be2_len _), chsB_drop h k (by omega), List.drop_eq_getElem_cons hk]
    rfl
  have e1 : (bytesD l).drop (2 + k * 66 + 2) = l[k].B ++ chsB (l.drop (k + 1)) := by
    rw [← List.drop_drop, e0]
    unfold chB
    rw [List.append_assoc, List.drop_left' (be2_len _)]
  unfold keyC chOf
  rw [e0, e1]
  unfold chB
  rw [List.append_assoc, num2_be2 _ (by have := hp.1; have := this.2.1; have := hp.1.1; omega), List.take_left' hp.2]
  have := hp.1.1
  simp only [Prod.mk.injEq, and_true]
  omega
theorem back_as (h : ∀ a ∈ l, Page a) (hn : l.length < 65536) : asC (chsOf (bytesD l) (num2 (bytesD l))) l := by
  rw [back_num hn]
  refine ⟨?_, fun i a b ha hb => ?_⟩
  · apply List.ext_getElem?
    intro i
    simp only [List.getElem?_map, chsOf]
    rcases Nat.lt_or_ge i l.length with hi | hi
    · rw [List.getElem?_range hi, List.getElem?_eq_getElem hi]
      simp only [Option.map_some]
      rw [back_at h i _ (List.getElem?_eq_getElem hi)]
    · rw [List.getElem?_eq_none (by simpa using hi), List.getElem?_eq_none hi]
      rfl
  · have hi := (List.getElem?_eq_some_iff.1 hb).1
    simp [chsOf, List.getElem?_range hi] at ha
    subst ha
    have := back_at h i b hb
    exact ⟨by injection this, ((h b (List.mem_of_getElem? hb)).1.2.2).symm⟩
end
end Go.Proofs.YtddjgncdjdjgeaaGreat
namespace Go.Proofs.YtddjgncdjdjgeaaGreat
open Go.RowKit
theorem rs_len : ∀ {l : List ChV} {last P : Int}, rightS last P l = true → last < P → (l.length : Int) ≤ P - last - 1 ∧ ∀ a ∈ l, last < a.page ∧ a.page < P ∧ a.bn = 64
  | [], last, P, _, h => ⟨by simp; omega, fun a ha => by simp at ha⟩
  | a :: l, last, P, h, hp => by
    simp only [rightS, Bool.and_eq_true, Bool.not_eq_true', Bool.or_eq_false_iff, decide_eq_false_iff_not] at h
    obtain ⟨⟨⟨h1, h2⟩, h3⟩, h4⟩ := h
    obtain ⟨k1, k2⟩ := rs_len h4 (by omega)
    refine ⟨by rw [List.length_cons]; omega, fun b hb => ?_⟩
    rcases List.mem_cons.1 hb with rfl | hb
    · exact ⟨by omega, by omega, by omega⟩
    · have := k2 b hb
      omega
/-- Changes that lie away from a store. -/
structure ChsD (T : List Nat) (w : World) (C : Option Addr) (ls : List ChV) : Prop where
  chs : Chs w C ls
  row : ∀ ad, C = some ad → ad.block ∉ T
  els : ∀ a ∈ ls, ∀ ad, a.bA = some ad → ad.block ∉ T
theorem ChsD.chg {T T' : List Nat} {w w' : World} {C : Option Addr} {ls : List ChV} (h : ChsD T w C ls) (hc : Chg T' w w') (hT : ∀ i ∈ T', i ∈ T) : ChsD T w' C ls := by
  refine ⟨⟨fun h0 => ?_, fun a ha => ?_⟩, h.row, h.els⟩
  · obtain ⟨g, o, e, hg, hx⟩ := h.chs.cells h0
    refine ⟨g, o, e, Nat.lt_of_lt_of_le hg hc.size, fun k a ha => ?_⟩
    obtain ⟨h1, h2⟩ := hx k a ha
    have hk : ∀ j, w'.cell? ⟨g, j, none⟩ = w.cell? ⟨g, j, none⟩ := fun j => World.cell?_of_block (w := w) (hc.block g hg (fun hm => h.row _ e (hT _ hm)))
    exact ⟨(hk _).trans h1, (hk _).trans h2⟩
  · have hok := h.chs.ok a ha
    exact { hok with bs := bs_aw hok.bs hc (fun ad e hm => h.els a ha ad e (hT _ hm)) }
/-- What a commit makes of a store. -/
def comV (x : SV) (ls : List ChV) : SV := ⟨x.L, x.P, x.E, applyL x.pages ls, nameL x.named ls, x.used + (18 + 66 * ls.length), x.seq + 1⟩
def comL (x : SV) (ls : List ChV) : List UInt8 := frameL x.E x.seq (bytesD ls)
def comS (s : St) (x : SV) (ls : List ChV) : St := apS s (128 + x.used) (comL x ls)
/-- Other numbers of what is used. -/
theorem Sto.used_ {w : World} {k : SK} {s : St} {x : SV} {vP : Value} (h : Sto w k s x vP) (u q : Nat) (hu : u ≤ 4096) (hq : q * 18 ≤ u) :
    Sto ((w.setCell ⟨k.g, 6, none⟩ (.int .i64 (u : Int))).setCell ⟨k.g, 7, none⟩ (.int .u32 (q : Int))) k s ⟨x.L, x.P, x.E, x.pages, x.named, u, q⟩ vP ∧ Chg [k.g] w ((w.setCell ⟨k.g, 6, none⟩ (.int .i64 (u : Int))).setCell ⟨k.g, 7, none⟩ (.int .u32 (q : Int))) := by
  have hr := (h.rec_.set_ 6 (.int .i64 (u : Int))).set_ 7 (.int .u32 (q : Int))
  have hc : Chg [k.g] w ((w.setCell ⟨k.g, 6, none⟩ (.int .i64 (u : Int))).setCell ⟨k.g, 7, none⟩ (.int .u32 (q : Int))) := ((Chg.refl [k.g] w).setCell (p := ⟨k.g, 6, none⟩) (fun _ => by simp) _).setCell (p := ⟨k.g, 7, none⟩) (fun _ => by simp) _
  simp only [List.set_cons_succ, List.set_cons_zero] at hr
  refine ⟨{ dsk := ?_, rec_ := hr, pgs := h.pgs.chg hc (by simp [SK.D]), nm := h.nm.chg hc ?_, ng := h.ng, rt := h.rt, ep := h.ep, pl := h.pl, nl := h.nl, p64 := h.p64, us := hu, sq := hq, exl := fun i hi => Nat.lt_of_lt_of_le (h.exl i hi) hc.size }, hc⟩
  · exact Dsk.away h.dsk hc (by simp only [List.mem_singleton]; exact fun e => (Dsk.rec_ h.dsk).ne_ h.rec_ (by decide) e) (by simp only [List.mem_singleton]; exact fun e => (Dsk.last h.dsk).ne_ h.rec_ (by decide) e) (by simp only [List.mem_singleton]; exact fun e => (Dsk.seen h.dsk).ne_ h.rec_ (by decide) e) (by simp only [List.mem_singleton]; exact fun e => (Dsk.wait h.dsk).ne_ h.rec_ (by decide) e)
  · simp only [List.mem_singleton]; exact fun e => h.nm.ne_ h.rec_ (by decide) e
/-- The disk has turned. -/
theorem Sto.disk_ {w w' : World} {k : SK} {s s' : St} {x : SV} {vP : Value} (h : Sto w k s x vP) (hd : DskS w' k.p k.bL k.bS k.bW s') (hc : Chg [k.bL, k.bS, k.bW] w w') (hl : s'.V.length = s.V.length) : Sto w' k s' x vP := by
  have hg : k.g ∉ [k.bL, k.bS, k.bW] := by
    simp only [List.mem_cons, List.not_mem_nil, or_false]
    rintro (e | e | e)
    · exact h.rec_.ne_ (Dsk.last h.dsk) (by decide) e
    · exact h.rec_.ne_ (Dsk.seen h.dsk) (by decide) e
    · exact h.rec_.ne_ (Dsk.wait h.dsk) (by decide) e
  have hn : k.gN ∉ [k.bL, k.bS, k.bW] := by
    simp only [List.mem_cons, List.not_mem_nil, or_false]
    rintro (e | e | e)
    · exact h.nm.ne_ (Dsk.last h.dsk) (by decide) e
    · exact h.nm.ne_ (Dsk.seen h.dsk) (by decide) e
    · exact h.ng e
  exact { h with dsk := hd, rec_ := h.rec_.chg hc hg, pgs := h.pgs.chg hc (by simp [SK.D]), nm := h.nm.chg hc hn, rt := by rw [hl]; exact h.rt, exl := fun i hi => Nat.lt_of_lt_of_le (h.exl i hi) hc.size }
end Go.Proofs.YtddjgncdjdjgeaaGreat
namespace Go.Proofs.YtddjgncdjdjgeaaGreat
open Go.RowKit
section
variable {w : World} {A : Option Addr} {n c : Nat}
/-- The page ahead of the k-th. -/
def LastIs (l : List ChV) (k : Nat) (last : Int) : Prop := (k = 0 ∧ last = -1) ∨ (∃ a, 0 < k ∧ l[k - 1]? = some a ∧ last = a.page ∧ 0 ≤ last)
set_option maxHeartbeats 8000000 in
set_option maxRecDepth 100000 in
theorem rchanges_any {l : List ChV} (h : Chs w A l) (hl : l.length = n) (hn : n ≤ 9223372036854775807) (pages : Int) :
    Calls Tryz.prog 73 #[.slice A n c, .int .i64 pages] w (BoolPost (rightB pages l) w) := by
  have H := Lib.hid h
  have HL := Lib.hid hl
  clear h hl
  go_enter Tryz.func73, Tryz.ntmps73
  go_wp2_with fail
  go_loopw [8] (fun i wr => ∃ k : Nat, k ≤ n ∧ i = .int .i64 (k : Int) ∧ (∃ last : Int, Hid (LastIs l k last) ∧ Hid (rightS (-1) pages l = rightS last pages (l.drop k))) ∧ Chg [] w wr) (fun i _ => n - (intOf i).toNat)
  case atStart => exact ⟨0, Nat.zero_le _, rfl, ⟨-1, Lib.hid (.inl ⟨rfl, rfl⟩), Lib.hid (by rw [List.drop_zero])⟩, Chg.refl _ _⟩
  case round =>
    obtain ⟨k, hk, rfl, ⟨last, HLA, HK⟩, hcr⟩ := hrel
    by_cases hlt : k < n
    · obtain ⟨a, ha⟩ : ∃ a, l[k]? = some a := ⟨_, List.getElem?_eq_getElem (by have := HL.out; omega)⟩
      obtain ⟨g, o, rfl, hg, hce⟩ := (H.out.keep hcr).cells (by have := HL.out; omega)
      obtain ⟨c0, c1⟩ := hce k a ha
      have hbn := (H.out.ok a (List.mem_of_getElem? ha)).bs.len
      have HD := Lib.hid (show l.drop k = a :: l.drop (k + 1) by rw [List.drop_eq_getElem_cons (by have := HL.out; omega)]; congr 1; have := List.getElem?_eq_getElem (l := l) (i := k) (by have := HL.out; omega); rw [this] at ha; injection ha)
      have HC := Lib.hid hcr
      have hkI : (k : Int) < (n : Int) := by omega
      have HN1 := Lib.hid (show ∀ (hp : last < a.page) (hq : a.page < pages) (hr : a.bn = 64), LastIs l (k + 1) a.page ∧ rightS (-1) pages l = rightS a.page pages (l.drop (k + 1)) from fun hp hq hr => by
        refine ⟨.inr ⟨a, by omega, by simpa using ha, rfl, ?_⟩, ?_⟩
        · rcases HLA.out with ⟨_, h2⟩ | ⟨_, _, _, _, h2⟩ <;> omega
        · rw [HK.out, HD.out]
          simp only [rightS]
          rw [decide_eq_false (by omega), decide_eq_false (by omega), decide_eq_false (by simpa using hr)]
          rfl)
      have HF1 := Lib.hid (show ∀ (hp : a.page ≤ last ∨ pages ≤ a.page ∨ a.bn ≠ 64), rightB pages l = false from fun hp => by
        unfold rightB
        rw [HK.out, HD.out]
        simp only [rightS]
        rcases hp with h | h | h <;> simp [h])
      clear ha hcr hbn
      obtain ⟨page, bA, bn, bc, Bb⟩ := a
      simp only at c0 c1 HN1 HF1
      by_cases h1 : page < 0
      · have hd1 : decide (page < 0) = true := by simpa using h1
        have HF := Lib.hid (HF1.out (.inl (by rcases HLA.out with ⟨_, h2⟩ | ⟨_, _, _, _, h2⟩ <;> omega)))
        clear hce h1
        go_wp2_with fail
        go_quiet (fail)
        go_wp2_with fail
        go_ret
        exact ⟨by rw [HF.out]; rfl, HC.out.drewN _⟩
      · have hd1 : decide (page < 0) = false := by simpa using h1
        by_cases h2 : pages ≤ page
        · have hd2 : decide (pages ≤ page) = true := by simpa using h2
          have HF := Lib.hid (HF1.out (.inr (.inl h2)))
          clear hce h2
          go_wp2_with fail
          go_quiet (fail)
          go_wp2_with fail
          go_ret
          exact ⟨by rw [HF.out]; rfl, HC.out.drewN _⟩
        · have hd2 : decide (pages ≤ page) = false := by simpa using h2
          by_cases hk0 : k = 0
          · have hk1 : decide ((0 : Int) < (k : Int)) = false := by simp; omega
            have hk2 : decide (0 < k) = false := by simp; omega
            have hla : last < page := by rcases HLA.out with ⟨_, h3⟩ | ⟨_, h3, _⟩ <;> omega
            by_cases h3 : bn = 64
            · obtain ⟨hLN, hRN⟩ := HN1.out hla (by omega) h3
              have HLN := Lib.hid hLN
              have HRN := Lib.hid hRN
              have hb3 : ((bn : Int) == 64) = true := by simp; omega
              have hb4 : ((bn : Int) != 64) = false := by simp; omega
              have hb5 : (!((bn : Int) == 64)) = false := by simp; omega
              clear hce hLN hRN h3 hk0 hla h2 h1
              go_wp2_with fail
              go_quiet (fail)
              go_wp2_with fail
              go_roundw
              case rel => exact ⟨k + 1, by omega, by go_num, ⟨page, HLN, HRN⟩, HC.out.drewN _⟩
              case measure => simp [intOf]; omega
            · have HF := Lib.hid (HF1.out (.inr (.inr h3)))
              have hb3 : ((bn : Int) == 64) = false := by simp; omega
              have hb4 : ((bn : Int) != 64) = true := by simp; omega
              have hb5 : (!((bn : Int) == 64)) = true := by simp; omega
              clear hce h3 hk0 hla h2 h1
              go_wp2_with fail
              go_quiet (fail)
              go_wp2_with fail
              go_ret
              exact ⟨by rw [HF.out]; rfl, HC.out.drewN _⟩
          · have hk1 : decide ((0 : Int) < (k : Int)) = true := by simp; omega
            have hk2 : decide (0 < k) = true := by simp; omega
            obtain ⟨pv, hpv, hpl⟩ : ∃ a, l[k - 1]? = some a ∧ last = a.page := by
              rcases HLA.out with ⟨h3, _⟩ | ⟨a, _, h3, h4, _⟩
              · exact absurd h3 hk0
              · exact ⟨a, h3, h4⟩
            obtain ⟨d0, _⟩ := hce (k - 1) pv hpv
            rw [← hpl] at d0
            have m1 : IntKind.i64.wrap ((k : Int) - 1) = (k : Int) - 1 := IntWalk.i64_in _ (by omega)
            have m2 : (0 : Int) ≤ (k : Int) - 1 := by omega
            have m3 : (k : Int) - 1 < (n : Int) := by omega
            have m4 : ((k : Int) - 1).toNat = k - 1 := by omega
            have m5 : (1 : Int) ≤ (k : Int) := by omega
            by_cases h4 : page ≤ last
            · have hd4 : decide (page ≤ last) = true := by simpa using h4
              have HF := Lib.hid (HF1.out (.inl h4))
              clear hce hpv hpl h4 hk0 h2 h1
              go_wp2_with fail
              go_quiet (fail)
              go_wp2_with fail
              go_ret
              exact ⟨by rw [HF.out]; rfl, HC.out.drewN _⟩
            · have hd4 : decide (page ≤ last) = false := by simpa using h4
              by_cases h3 : bn = 64
              · obtain ⟨hLN, hRN⟩ := HN1.out (by omega) (by omega) h3
                have HLN := Lib.hid hLN
                have HRN := Lib.hid hRN
                have hb3 : ((bn : Int) == 64) = true := by simp; omega
                have hb4 : ((bn : Int) != 64) = false := by simp; omega
                have hb5 : (!((bn : Int) == 64)) = false := by simp; omega
                clear hce hLN hRN h3 hk0 h2 h1 h4 hpv hpl
                go_wp2_with fail
                go_quiet (fail)
                go_wp2_with fail
                go_roundw
                case rel => exact ⟨k + 1, by omega, by go_num, ⟨page, HLN, HRN⟩, HC.out.drewN _⟩
                case measure => simp [intOf]; omega
              · have HF := Lib.hid (HF1.out (.inr (.inr h3)))
                have hb3 : ((bn : Int) == 64) = false := by simp; omega
                have hb4 : ((bn : Int) != 64) = true := by simp; omega
                have hb5 : (!((bn : Int) == 64)) = true := by simp; omega
                clear hce h3 hk0 h2 h1 h4 hpv hpl
                go_wp2_with fail
                go_quiet (fail)
                go_wp2_with fail
                go_ret
                exact ⟨by rw [HF.out]; rfl, HC.out.drewN _⟩
    · have HF := Lib.hid (show rightB pages l = decide (pages ≤ 64) by
        unfold rightB
        rw [HK.out, List.drop_eq_nil_of_le (by have := HL.out; omega)]
        simp [rightS])
      have hkI : (n : Int) ≤ (k : Int) := by omega
      go_wp2_with fail
      go_ret
      exact ⟨by rw [HF.out]; rfl, hcr⟩
end
end Go.Proofs.YtddjgncdjdjgeaaGreat
namespace Go.Proofs.YtddjgncdjdjgeaaGreat
open Go.RowKit
section
variable {w : World} {A : Option Addr} {n c : Nat}
set_option maxHeartbeats 8000000 in
set_option maxRecDepth 100000 in
theorem rdelta_any {l : List ChV} (h : Chs w A l) (hs : ∀ a ∈ l, Small a) (hl : l.length = n) (hn : n ≤ 1000) :
    Calls Tryz.prog 76 #[.slice A n c] w (BytesPost w (bytesD l)) := by
  obtain ⟨i0, hi, hz, hs1, hb⟩ := info_parts info_byte
  have H := Lib.hid h
  have HL := Lib.hid hl
  have HS := Lib.hid hs
  have hbe := Lib.hid (bts_be2 n (by omega))
  clear h hl hs
  go_enter Tryz.func76, Tryz.ntmps76
  go_wp2_with fail
  have ho1 : (w.alloc (.cells #[.int .u8 ((n : Int) / 256), .int .u8 ((n : Int) % 256)] 5)).ownsRow w.heap.size 5 1 (.slice (some ⟨w.heap.size, 0, none⟩) 2 2) 2 (bts (be2 n)) := by
    have := own_of_whole (B := w.heap.size) (n := 2) (c := 2) (Whole.new w 5 [.int .u8 ((n : Int) / 256), .int .u8 ((n : Int) % 256)]) (Nat.le_refl _) rfl (by omega) (by unfold maxLen; omega)
    rw [hbe.out]
    exact this
  have hc1 : Chg [] w (w.alloc (.cells #[.int .u8 ((n : Int) / 256), .int .u8 ((n : Int) % 256)] 5)) := (Chg.refl [] w).alloc _
  go_loopw [3, 15] (fun t i wr => ∃ k : Nat, k ≤ n ∧ i = .int .i64 (k : Int) ∧ wr.ownsRow w.heap.size 5 1 t (2 + k * 66) (bts (be2 n ++ chsB (l.take k))) ∧ Chg [] w wr) (fun _ i _ => n - (intOf i).toNat)
  case atStart => exact ⟨0, Nat.zero_le _, rfl, by simpa [chsB] using ho1, hc1⟩
  case round =>
    obtain ⟨k, hk, rfl, hown, hcr⟩ := hrel
    have hwr := hcr.size
    clear ho1 hc1
    by_cases hlt : k < n
    · obtain ⟨a, ha⟩ : ∃ a, l[k]? = some a := ⟨_, List.getElem?_eq_getElem (by have := HL.out; omega)⟩
      have ham := List.mem_of_getElem? ha
      obtain ⟨g, o, rfl, hg, hce⟩ := (H.out.keep hcr).cells (by have := HL.out; omega)
      obtain ⟨c0, c1⟩ := hce k a ha
      have hbs := (H.out.ok a ham).bs
      obtain ⟨hp0, hp1, hbn⟩ := HS.out a ham
      have HT := Lib.hid (chsB_next l k a ha)
      have HC := Lib.hid hcr
      have HA := Lib.hid ha
      clear hce ha ham hcr
      obtain ⟨page, bA, bn, bc, Bb⟩ := a
      simp only at c0 c1 hbs hp0 hp1 hbn
      subst hbn
      obtain ⟨q, rfl⟩ := Int.eq_ofNat_of_zero_le hp0
      have hbq := Lib.hid (bts_be2 q (by omega))
      have HBS := Lib.hid hbs
      clear hbs
      obtain ⟨A3, c3, rfl, _, _, _, _⟩ := own_slice hown
      obtain ⟨X, hX⟩ : ∃ X, X = be2 n ++ chsB (l.take k) := ⟨_, rfl⟩
      rw [← hX] at hown
      have HX := Lib.hid hX
      clear hX
      have hkI : (k : Int) < (n : Int) := by omega
      have HOW := Lib.hid (fun o => own_keep hown ((Chg.refl [] wr).alloc o).drew)
      have hm1 : IntKind.u8.wrap ((q : Int) / 256) = (q : Int) / 256 := by rw [IntKind.wrap_u8]; omega
      have hm2 : IntKind.u8.wrap (q : Int) = (q : Int) % 256 := by rw [IntKind.wrap_u8]
      have hx1 := Lib.hid (show 2 + k * 66 + 2 ≤ maxLen by unfold maxLen; omega)
      have hx2 := Lib.hid (show (2 + k * 66 + 2) * 1 ≤ 140737488355328 by omega)
      have hx3 := Lib.hid (show 2 + k * 66 + 2 + 64 ≤ maxLen by unfold maxLen; omega)
      have hx4 := Lib.hid (show (2 + k * 66 + 2 + 64) * 1 ≤ 140737488355328 by omega)
      have HGW := Lib.hid hg
      have C1 := Lib.hid c1
      go_wp2_with fail
      go_region_law (first
        | (refine step_append_src rfl (.tmp 33) (.tmp 38) 30 rfl w.heap.size 5 i0 _ 1 Tryz.underlying30 hi hz hs1 hb cells_u8 v5 (2 + k * 66 + 2) (bts (X ++ be2 q)) rfl ho5 bA 64 bc (bts Bb) rfl hbl hsB (bts_one _) hx3.out hx4.out hc5.size ?_
           intro v6 w6 ho6 hg6)
        | (refine step_append_src rfl (.tmp 18) (.tmp 32) 30 rfl w.heap.size 5 i0 _ 1 Tryz.underlying30 hi hz hs1 hb cells_u8 (.slice A3 (2 + k * 66) c3) (2 + k * 66) (bts X) rfl (HOW.out _) (some ⟨wr.heap.size, 0, none⟩) 2 2 [.int .u8 ((q : Int) / 256), .int .u8 ((q : Int) % 256)] rfl rfl ((Src.of_all (Whole.new wr 5 [.int .u8 ((q : Int) / 256), .int .u8 ((q : Int) % 256)])).drew) (by simp [Value.oneCell']) hx1.out hx2.out (by simp; omega) ?_
           intro v5 w5 ho5' hg5
           have hc5 : Chg [] w w5 := ((Low.of_chg (B := w.heap.size) (HC.out.alloc _).drew).trans (Low.of_own (HOW.out _) hg5)).chg (Nat.le_refl _)
           have ho5 : w5.ownsRow w.heap.size 5 1 v5 (2 + k * 66 + 2) (bts (X ++ be2 q)) := by
             have e : bts (X ++ be2 q) = bts X ++ [.int .u8 ((q : Int) / 256), .int .u8 ((q : Int) % 256)] := by rw [← hbq.out]; simp [bts]
             rw [e]; exact ho5'
           have hB5 := HBS.out.keep hc5
           have hbl : (bts Bb).length = 64 := by rw [bts_len]; exact hB5.len
           have hsB : Src w5 bA (bts Bb) := hB5.src
           have d1 : w5.cell? ⟨g, o + k * 2 + 1, none⟩ = some (.slice bA 64 bc) := by
             obtain ⟨g2, o2, e2, _, hx2⟩ := (H.out.keep hc5).cells (by have := HL.out; omega)
             injection e2 with e2
             injection e2 with e21 e22
             subst e21 e22
             exact (hx2 k _ HA.out).2
           clear ho5'))
      all_goals
        have hL6 : Low w.heap.size w5 w6 := Low.of_own ho5 hg6
        have hc6 : Chg [] w w6 := ((Low.of_chg hc5).trans hL6).chg (Nat.le_refl _)
        clear hg6 hg5 d1
        go_wp2_with fail
        go_roundw
        case rel =>
          refine ⟨k + 1, by omega, by go_num, ?_, hc6⟩
          have e1 : bts (be2 n ++ chsB (l.take (k + 1))) = bts (X ++ be2 q) ++ bts Bb := by
            rw [HT.out, ← List.append_assoc, ← HX.out]
            simp [chB, bts]
          rw [e1, show 2 + (k + 1) * 66 = 2 + k * 66 + 2 + 64 by omega]
          exact ho6
        case measure => simp [intOf]; omega
    · obtain rfl : n = k := by omega
      have HK := Lib.hid (show l.take n = l by rw [List.take_of_length_le (by rw [HL.out]; exact Nat.le_refl _)])
      rw [HK.out] at hown
      have e1 : be2 n ++ chsB l = bytesD l := by unfold bytesD; rw [HL.out]
      rw [e1] at hown
      have e2 : 2 + n * 66 = (bytesD l).length := by have := hown.1; rw [bts_len] at this; omega
      rw [e2] at hown
      have HO := Lib.hid hown
      clear e1 e2 hown
      go_wp2_with fail
      go_ret
      exact ⟨_, rfl, HO.out, hcr⟩
end
end Go.Proofs.YtddjgncdjdjgeaaGreat
