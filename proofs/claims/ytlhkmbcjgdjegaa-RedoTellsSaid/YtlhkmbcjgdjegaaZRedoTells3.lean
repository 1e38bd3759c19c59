/-
  RedoTells, part 3: DeltaBytes, KeepCh, DeltaSame, DeltaRead, RedoRec, RedoRecA, Home, Ref, Append, RefMore, RefOwn, HomeAll, RedoRefL, FrmPure, FrmUse, FrmRef, FrmRefScan, DeltaPure, DeltaRef.
-/
import Derived.Test.YtlhkmbcjgdjegaaZRedoTells1
import Derived.Test.YtlhkmbcjgdjegaaZRedoTells2
import Derived.Deep.RegionLaw
import Derived.Laws.CopyOwn
namespace Go.Proofs.Ytlhkmbcjgdjegaa
open Go.RowKit
def chB (a : ChV) : List UInt8 := be2 a.page.toNat ++ a.B
/-- Changes as bytes. -/
def chsB : List ChV → List UInt8
  | [] => []
  | a :: l => chB a ++ chsB l
theorem chsB_app : ∀ l m, chsB (l ++ m) = chsB l ++ chsB m
  | [], _ => rfl
  | a :: l, m => by rw [List.cons_append, chsB, chsB, chsB_app l m, List.append_assoc]
theorem chsB_next (l : List ChV) (k : Nat) (a : ChV) (h : l[k]? = some a) : chsB (l.take (k + 1)) = chsB (l.take k) ++ chB a := by
  obtain ⟨hk, rfl⟩ := List.getElem?_eq_some_iff.1 h
  rw [List.take_succ_eq_append_getElem hk, chsB_app]
  simp [chsB]
def bytesD (l : List ChV) : List UInt8 := be2 l.length ++ chsB l
section
variable {w : World} {A : Option Addr} {n c : Nat}
end
end Go.Proofs.Ytlhkmbcjgdjegaa
namespace Go.Proofs.Ytlhkmbcjgdjegaa
open Go.RowKit
theorem rightS_snoc : ∀ (l : List ChV) (last P : Int) (a : ChV), rightS last P l = true → (∀ b ∈ l, b.page < a.page) → last < a.page → a.page < P → a.bn = 64 → rightS last P (l ++ [a]) = true
  | [], last, P, a, _, _, h1, h2, h3 => by
    simp only [List.nil_append, rightS]
    rw [decide_eq_false (by omega), decide_eq_false (by omega), decide_eq_false (by simpa using h3)]
    rfl
  | b :: l, last, P, a, h, hb, h1, h2, h3 => by
    simp only [rightS, List.cons_append, Bool.and_eq_true] at h ⊢
    exact ⟨h.1, rightS_snoc l b.page P a h.2 (fun c hc => hb c (List.mem_cons_of_mem _ hc)) (hb b (List.mem_cons_self ..)) h2 h3⟩
theorem make_page (W : World) : (Instr.makeSlice 22 (.int .i64 64) (.int .i64 64)).run Try.prog W = .ok (.slice (some ⟨W.heap.size, 0, none⟩) 64 64) (W.alloc (.cells (bts (zeros 64)).toArray 5)) := by
  obtain ⟨i, hi, hz, hs1, hb⟩ := info_parts info_byte
  rw [bts_zeros]
  exact run_make1 22 5 i (.int .u8 0) rfl Try.underlying22 hi hz hs1 64 (by rw [hb]; omega) (by omega) W
/-- What Changes has made so far. -/
def ChSo (w : World) (p : Nat) (At : Option Addr) (nt ct : Nat) (lt : List Int) (wr : World) (v : Value) (k : Nat) : Prop :=
  ∃ (ls : List ChV) (a' : Nat), wr.ownsRow w.heap.size 53 2 v ls.length (chCs ls) ∧ (∀ a ∈ ls, MadeCh wr w.heap.size a) ∧ (∀ a ∈ ls, a.page < k) ∧ ls.length ≤ k ∧ (∀ P : Int, (k : Int) ≤ P → rightS (-1) P ls = true) ∧ Tp wr p At nt ct lt a' ∧ Chg [p] w wr
section
variable {w : World} {p nt ct at_ : Nat} {At : Option Addr} {lt : List Int}
set_option maxHeartbeats 8000000 in
set_option maxRecDepth 100000 in
theorem changes_any (h : Tp w p At nt ct lt at_) (P : Nat) (hP : P ≤ 64) :
    Calls Try.prog 77 #[.pointer (some ⟨p, 0, none⟩), .int .i64 (P : Int)] w fun e w' => ∃ v, e = .returned v ∧ ChSo w p At nt ct lt w' v P := by
  obtain ⟨i0, hi, hz0, hz1, hz2⟩ := info_parts info_change
  have hpw := h.lt
  have H := Lib.hid h
  have hmk := make_page
  clear h
  go_enter Try.func77, Try.ntmps77
  go_wp2_with fail
  go_loopw [5, 6] (fun v i wr => ∃ k : Nat, k ≤ P ∧ i = .int .i64 (k : Int) ∧ ChSo w p At nt ct lt wr v k) (fun _ i _ => P - (intOf i).toNat)
  case atStart => exact ⟨0, Nat.zero_le _, rfl, [], at_, World.ownsRow_nil _ _ _ _, fun a ha => by simp at ha, fun a ha => by simp at ha, Nat.le_refl _, fun _ _ => rfl, H.out, Chg.refl _ _⟩
  case round =>
    obtain ⟨k, hk, rfl, ls, a', hown, hmade, hpg, hlen, hrise, hT, hcr⟩ := hrel
    have hwr := hcr.size
    have HM := Lib.hid hmade
    have HG := Lib.hid hpg
    have HRI := Lib.hid hrise
    have HC := Lib.hid hcr
    clear hmade hpg hrise hcr
    by_cases hlt : k < P
    · have hkI : (k : Int) < (P : Int) := by omega
      go_wp2_with fail
      refine (next_any hT 3 (by omega) (by omega)).mono ?_
      rintro e w1 ⟨r1, a1, hr1, rfl, hT1, hc1⟩
      have hown1 := rown_chg hown hc1 (fun i hm => by simp only [List.mem_cons, List.not_mem_nil, or_false] at hm; omega)
      have HM1 := Lib.hid (show ∀ a ∈ ls, MadeCh w1 w.heap.size a from fun a ha => (HM.out a ha).chg hc1 (fun i hm => by simp only [List.mem_cons, List.not_mem_nil, or_false] at hm; omega))
      have HC1 := Lib.hid (HC.out.trans hc1)
      have hw1 := hc1.size
      clear hown hc1 hT
      by_cases h0 : r1 = 0
      · subst h0
        go_wp2_with fail
        have hG := Whole.new w1 5 (bts (zeros 64))
        have hal : Chg [] w1 (w1.alloc (.cells (bts (zeros 64)).toArray 5)) := (Chg.refl [] w1).alloc _
        obtain ⟨g, hg⟩ : ∃ g, g = w1.heap.size := ⟨_, rfl⟩
        rw [← hg] at hG
        have hT2 := hT1.keep hal
        have HAL := Lib.hid (hal.sub (T' := [p, g]) (by simp))
        have HGE := Lib.hid hg
        rw [← hg]
        have hgw : w.heap.size ≤ g := by rw [hg]; omega
        clear hal hg hT1
        go_loopw [8] (fun i wx => ∃ q : Nat, q ≤ 4 ∧ i = .int .i64 (q : Int) ∧ (∃ B : List UInt8, B.length = 64 ∧ Whole wx g 5 (bts B)) ∧ (∃ a2, Tp wx p At nt ct lt a2) ∧ Chg [p, g] w1 wx) (fun i _ => 4 - (intOf i).toNat)
        case atStart => exact ⟨0, by omega, rfl, ⟨zeros 64, zeros_len _, hG⟩, ⟨_, hT2⟩, HAL.out⟩
        case round =>
          obtain ⟨q, hq, rfl, ⟨B, hBl, hWB⟩, ⟨a2, hTx⟩, hcx⟩ := hrel
          clear hG hT2
          have HBL := Lib.hid hBl
          have HCX := Lib.hid hcx
          clear hBl hcx
          by_cases hltq : q < 4
          · have hqI : (q : Int) < 4 := by omega
            go_wp2_with fail
            refine (next_any hTx 64 (by omega) (by omega)).mono ?_
            rintro e w3 ⟨r3, a3, hr3, rfl, hT3, hc3⟩
            have hW3 := hWB.chg hc3 (by simp; omega)
            go_wp2_with fail
            refine (next_any hT3 256 (by omega) (by omega)).mono ?_
            rintro e w4 ⟨r4, a4, hr4, rfl, hT4, hc4⟩
            have hW4 := hW3.chg hc4 (by simp; omega)
            have c5 := (hW4.cell r3).trans (bts_get B r3 (by rw [HBL.out]; exact hr3))
            have f5 := hW4.frozen r3
            have hb8 : B8 (UInt8.ofNat r4) = .int .u8 (r4 : Int) := by
              unfold B8; rw [UInt8.toNat_ofNat', Nat.mod_eq_of_lt (by simpa using hr4)]
            have hW5 := hW4.set_ r3 (.int .u8 (r4 : Int))
            rw [← hb8, bts_set, hb8] at hW5
            have hc45 : Chg [p, g] w1 (w4.setCell ⟨g, r3, none⟩ (.int .u8 (r4 : Int))) := ((HCX.out.trans (hc3.sub (by simp))).trans (hc4.sub (by simp))).setCell (by simp) _
            have hT5 : Tp (w4.setCell ⟨g, r3, none⟩ (.int .u8 (r4 : Int))) p At nt ct lt a4 := hT4.other (by show g ≠ p; omega) (fun ad e h0 => by have := hT4.spot h0 ad e; show ad.block ≠ g; omega) _
            have HW5 := Lib.hid hW5
            have HC5 := Lib.hid hc45
            have HT5 := Lib.hid hT5
            have HLB := Lib.hid (show (B.set r3 (UInt8.ofNat r4)).length = 64 by rw [List.length_set]; exact HBL.out)
            clear hW5 hc45 hT5 hc3 hc4 hb8 hW3 hT3 hTx hWB
            go_wp2_with fail
            go_roundw
            case rel => exact ⟨q + 1, by omega, by go_num, ⟨_, HLB.out, HW5.out⟩, ⟨_, HT5.out⟩, HC5.out⟩
            case measure => simp [intOf]; omega
          · have hqI : (4 : Int) ≤ (q : Int) := by omega
            have hex : ∀ i ∈ [p, g], i < w.heap.size ∨ w1.heap.size ≤ i := fun i hm => by
              have := HGE.out
              simp only [List.mem_cons, List.not_mem_nil, or_false] at hm; omega
            have hown2 := rown_chg hown1 HCX.out hex
            have HM2 := Lib.hid (show ∀ a ∈ ls, MadeCh wr w.heap.size a from fun a ha => (HM1.out a ha).chg HCX.out hex)
            have HC2 : Chg [p] w wr := HC1.out.then_ HCX.out (fun i hm hlt => by
              simp only [List.mem_cons, List.not_mem_nil, or_false] at hm ⊢; omega)
            have hnew : MadeCh wr w.heap.size ⟨(k : Int), some ⟨g, 0, none⟩, 64, 64, B⟩ := ⟨⟨g, rfl, hgw, hWB⟩, HBL.out, rfl, rfl, by simp only; omega⟩
            have HNEW := Lib.hid hnew
            have HC3 := Lib.hid HC2
            have HTX := Lib.hid hTx
            obtain ⟨X, hX⟩ : ∃ X, X = chCs ls := ⟨_, rfl⟩
            obtain ⟨N, hN⟩ : ∃ N, N = ls.length := ⟨_, rfl⟩
            rw [← hX, ← hN] at hown2
            rw [← hN] at hlen
            have HX := Lib.hid hX
            have HN := Lib.hid hN
            have hw2 := HC2.size
            clear hX hN HC2 hnew hown1 hWB hTx
            go_wp2_with (first
              | (at_builtin
                 refine wpList_append_own _ rfl (.tmp 29) (.tmp 33) _ rfl w.heap.size 53 i0 _ 2 32 Try.underlying47 hi hz0 hz1 hz2 rfl (by decide) _ N X rfl (rown_chg hown2 ((Chg.refl [] wr).alloc _) (by simp)) ⟨wr.heap.size, 0, none⟩ 1 1 [.int .i64 (k : Int), .slice (some ⟨g, 0, none⟩) 64 64] rfl rfl ?c1 ?c2 ?c3 ?c4 ?c5 ?_
                 case c1 => exact cells_page _ _ _
                 case c2 => simp [Value.oneCell']
                 case c3 => simp only [maxLen]; omega
                 case c4 => omega
                 case c5 => simp; omega
                 intro v' w6 hown' hg' _))
            have HAL6 := Lib.hid (rown_chg hown2 ((Chg.refl [] wr).alloc (.cells #[.int .i64 (k : Int), .slice (some ⟨g, 0, none⟩) 64 64] 53)) (by simp))
            go_roundw
            case rel =>
              refine ⟨k + 1, by omega, by go_num, ls ++ [⟨(k : Int), some ⟨g, 0, none⟩, 64, 64, B⟩], a2, ?_, ?_, ?_, ?_, ?_, ?_, ?_⟩
              · rw [chCs_app, chCs_one, ← HX.out, List.length_append, ← HN.out]
                exact hown'
              · intro a ha
                rcases List.mem_append.1 ha with h | h
                · exact ((HM2.out a h).chg ((Chg.refl [] wr).alloc _) (by simp)).grown HAL6.out hg'
                · simp only [List.mem_cons, List.not_mem_nil, or_false] at h
                  subst h
                  exact (HNEW.out.chg ((Chg.refl [] wr).alloc _) (by simp)).grown HAL6.out hg'
              · intro a ha
                rcases List.mem_append.1 ha with h | h
                · have := HG.out a h; omega
                · simp only [List.mem_cons, List.not_mem_nil, or_false] at h
                  subst h
                  show (k : Int) < ((k + 1 : Nat) : Int)
                  omega
              · rw [List.length_append, ← HN.out]; simp only [List.length_cons, List.length_nil]; omega
              · intro P2 hP2
                exact rightS_snoc ls (-1) P2 _ (HRI.out P2 (by omega)) (fun b hb => HG.out b hb) (by show (-1 : Int) < (k : Int); omega) (by show (k : Int) < P2; omega) rfl
              · exact (HTX.out.keep ((Chg.refl [] wr).alloc _)).grown HAL6.out hg' (by decide) (by omega)
              · exact chg_grown2 (HC3.out.alloc _) hg' fun g hgg => (HAL6.out.lt g hgg).1
            case measure => simp [intOf]; omega
      · have h0I : ((r1 : Int) == 0) = false := by simp; omega
        have HO1 := Lib.hid hown1
        have HT1 := Lib.hid hT1
        clear hown1 hT1
        go_wp2_with fail
        go_roundw
        case rel => exact ⟨k + 1, by omega, by go_num, ls, a1, HO1.out, HM1.out, fun a ha => by have := HG.out a ha; omega, by omega, fun P2 hP2 => HRI.out P2 (by omega), HT1.out, HC1.out⟩
        case measure => simp [intOf]; omega
    · obtain rfl : P = k := by omega
      go_wp2_with fail
      go_ret
      exact ⟨_, rfl, ls, a', hown, HM.out, HG.out, hlen, HRI.out, hT, HC.out⟩
end
end Go.Proofs.Ytlhkmbcjgdjegaa
namespace Go.Proofs.Ytlhkmbcjgdjegaa
open Go.RowKit
/-- The same pages, with the same bytes. -/
def keyC (a : ChV) : Int × List UInt8 := (a.page, a.B)
def sameC (l m : List ChV) : Bool := decide (l.map keyC = m.map keyC)
theorem sameC_len {l m : List ChV} (h : l.length ≠ m.length) : sameC l m = false := by
  unfold sameC
  rw [decide_eq_false_iff_not]
  intro e
  have := congrArg List.length e
  simp at this
  exact h this
theorem sameC_at {l m : List ChV} {k : Nat} {a b : ChV} (ha : l[k]? = some a) (hb : m[k]? = some b) (h : keyC a ≠ keyC b) : sameC l m = false := by
  unfold sameC
  rw [decide_eq_false_iff_not]
  intro e
  have := congrArg (fun (x : List (Int × List UInt8)) => x[k]?) e
  simp [ha, hb] at this
  exact h this
theorem sameC_all {l m : List ChV} (hl : l.length = m.length) (h : ∀ (i : Nat) (a b : ChV), l[i]? = some a → m[i]? = some b → keyC a = keyC b) : sameC l m = true := by
  unfold sameC
  rw [decide_eq_true_iff]
  apply List.ext_getElem?
  intro i
  simp only [List.getElem?_map]
  rcases Nat.lt_or_ge i l.length with hi | hi
  · have hj : i < m.length := by omega
    rw [List.getElem?_eq_getElem hi, List.getElem?_eq_getElem hj]
    simp only [Option.map_some]
    rw [h i _ _ (List.getElem?_eq_getElem hi) (List.getElem?_eq_getElem hj)]
  · rw [List.getElem?_eq_none hi, List.getElem?_eq_none (by omega)]
section
variable {w : World} {A A2 : Option Addr} {n c n2 c2 : Nat}
set_option maxHeartbeats 4000000 in
set_option maxRecDepth 100000 in
theorem rsame_any {l m : List ChV} (h : Chs w A l) (hl : l.length = n) (h2 : Chs w A2 m) (hl2 : m.length = n2) (hn : n ≤ 9223372036854775807) (hn2 : n2 ≤ 9223372036854775807) :
    Calls Try.prog 105 #[.slice A n c, .slice A2 n2 c2] w (BoolPost (sameC l m) w) := by
  have H := Lib.hid h
  have H2 := Lib.hid h2
  have HL := Lib.hid hl
  have HL2 := Lib.hid hl2
  clear h h2 hl hl2
  by_cases hnn : n = n2
  · subst hnn
    go_enter Try.func105, Try.ntmps105
    go_wp2_with fail
    go_loopw [13] (fun i wr => ∃ k : Nat, k ≤ n ∧ i = .int .i64 (k : Int) ∧ Hid (∀ (j : Nat) (a b : ChV), j < k → l[j]? = some a → m[j]? = some b → keyC a = keyC b) ∧ Chg [] w wr) (fun i _ => n - (intOf i).toNat)
    case atStart => exact ⟨0, Nat.zero_le _, rfl, Lib.hid (fun j a b h => absurd h (by omega)), Chg.refl _ _⟩
    case round =>
      obtain ⟨k, hk, rfl, HK, hcr⟩ := hrel
      by_cases hlt : k < n
      · obtain ⟨a, ha⟩ : ∃ a, l[k]? = some a := ⟨_, List.getElem?_eq_getElem (by have := HL.out; omega)⟩
        obtain ⟨b, hb⟩ : ∃ b, m[k]? = some b := ⟨_, List.getElem?_eq_getElem (by have := HL2.out; omega)⟩
        have hba := ((H.out.keep hcr).ok a (List.mem_of_getElem? ha)).bs
        have hbb := ((H2.out.keep hcr).ok b (List.mem_of_getElem? hb)).bs
        obtain ⟨g, o, rfl, hg, hce⟩ := (H.out.keep hcr).cells (by have := HL.out; omega)
        obtain ⟨g2, o2, rfl, hg2, hce2⟩ := (H2.out.keep hcr).cells (by have := HL2.out; omega)
        obtain ⟨c0, c1⟩ := hce k a ha
        obtain ⟨d0, d1⟩ := hce2 k b hb
        have HKN := Lib.hid (fun (e : keyC a = keyC b) => (show ∀ (j : Nat) (x y : ChV), j < k + 1 → l[j]? = some x → m[j]? = some y → keyC x = keyC y from fun j x y hj hx hy => by
          rcases Nat.lt_or_ge j k with hjk | hjk
          · exact HK.out j x y hjk hx hy
          · obtain rfl : j = k := by omega
            rw [ha] at hx
            rw [hb] at hy
            injection hx with hx
            injection hy with hy
            subst hx
            subst hy
            exact e))
        have HNE := Lib.hid (fun (e : keyC a ≠ keyC b) => sameC_at ha hb e)
        have HC := Lib.hid hcr
        clear hce hce2 ha hb hcr
        obtain ⟨page, bA, bn, bc, Bb⟩ := a
        obtain ⟨page2, bA2, bn2, bc2, Bb2⟩ := b
        simp only at c0 c1 d0 d1 hba hbb
        have hkI : (k : Int) < (n : Int) := by omega
        by_cases hp : page = page2
        · subst hp
          have HPP := Lib.hid (show Bb = Bb2 → keyC ⟨page, bA, bn, bc, Bb⟩ = keyC ⟨page, bA2, bn2, bc2, Bb2⟩ from fun e => by subst e; rfl)
          have HPN := Lib.hid (show Bb ≠ Bb2 → keyC ⟨page, bA, bn, bc, Bb⟩ ≠ keyC ⟨page, bA2, bn2, bc2, Bb2⟩ from fun e h => by injection h with _ h; exact e h)
          have v1 : ∀ k, (convert 22 9 (.slice bA bn bc)).run Try.prog (wr.drewN k) = .ok (.string (strOf Bb)) (wr.drewN k) := fun k => (hba.keep ((Chg.refl [] wr).drewN k)).str (P := Try.prog) 22 5 9 Try.underlying22 Try.underlying5 Try.underlying9
          have v2 : ∀ k, (convert 22 9 (.slice bA2 bn2 bc2)).run Try.prog (wr.drewN k) = .ok (.string (strOf Bb2)) (wr.drewN k) := fun k => (hbb.keep ((Chg.refl [] wr).drewN k)).str (P := Try.prog) 22 5 9 Try.underlying22 Try.underlying5 Try.underlying9
          clear hba hbb
          by_cases hB : Bb = Bb2
          · have HR := Lib.hid (HKN.out (HPP.out hB))
            subst hB
            go_wp2_with fail
            go_quiet (fail)
            go_wp2_with fail
            go_roundw
            case rel => exact ⟨k + 1, by omega, by go_num, HR, HC.out.drewN _⟩
            case measure => simp [intOf]; omega
          · have HF := Lib.hid (HNE.out (HPN.out hB))
            have hs1 : ((strOf Bb).toList == (strOf Bb2).toList) = false := by rw [str_ne]; simpa using hB
            have hs2 : (!((strOf Bb).toList == (strOf Bb2).toList)) = true := by rw [hs1]; rfl
            clear hB
            go_wp2_with fail
            go_quiet (fail)
            go_wp2_with fail
            go_ret
            exact ⟨by rw [HF.out]; rfl, HC.out.drewN _⟩
        · have hpb : (page == page2) = false := by simpa using hp
          have hpb2 : (!(page == page2)) = true := by simpa using hp
          have HF := Lib.hid (HNE.out (fun e => by injection e with e; exact hp e))
          clear hba hbb
          go_wp2_with fail
          go_quiet (fail)
          go_wp2_with fail
          go_ret
          exact ⟨by rw [HF.out]; rfl, HC.out.drewN _⟩
      · have HF := Lib.hid (show sameC l m = true from sameC_all (by rw [HL.out, HL2.out]) fun i a b ha hb => HK.out i a b (by have := (List.getElem?_eq_some_iff.1 ha).1; have := HL.out; omega) ha hb)
        have hkI : (n : Int) ≤ (k : Int) := by omega
        go_wp2_with fail
        go_ret
        exact ⟨by rw [HF.out]; rfl, hcr⟩
  · have HF := Lib.hid (show sameC l m = false from sameC_len (by rw [HL.out, HL2.out]; exact hnn))
    have hb1 : ((n : Int) == (n2 : Int)) = false := by simp; omega
    have hb2 : (!((n : Int) == (n2 : Int))) = true := by simp; omega
    have hb3 : (n == n2) = false := by simpa using hnn
    go_enter Try.func105, Try.ntmps105
    go_wp2_with fail
    go_ret
    exact ⟨by rw [HF.out]; rfl, Chg.refl _ _⟩
end
end Go.Proofs.Ytlhkmbcjgdjegaa
namespace Go.Proofs.Ytlhkmbcjgdjegaa
open Go.RowKit
theorem size_byte4 : (Try.prog.info? 5).map (·.size) = some 1 := by kernel_rfl
/-- The k-th change that the bytes b say. -/
def chOf (b : List UInt8) (k : Nat) : ChV := ⟨(num2 (b.drop (2 + k * 66)) : Nat), none, 64, 64, (b.drop (2 + k * 66 + 2)).take 64⟩
def chsOf (b : List UInt8) (k : Nat) : List ChV := (List.range k).map (chOf b)
theorem chsOf_next (b : List UInt8) (k : Nat) : chsOf b (k + 1) = chsOf b k ++ [chOf b k] := by simp [chsOf, List.range_succ]
theorem chsOf_len (b : List UInt8) (k : Nat) : (chsOf b k).length = k := by simp [chsOf]
/-- The same page, the same bytes, as long. -/
def asC (l m : List ChV) : Prop := l.map keyC = m.map keyC ∧ ∀ (i : Nat) (a b : ChV), l[i]? = some a → m[i]? = some b → a.page = b.page ∧ a.bn = b.bn
theorem asC_nil : asC [] [] := ⟨rfl, fun i a b h => by simp at h⟩
theorem asC_snoc {l m : List ChV} {a b : ChV} (h : asC l m) (hk : keyC a = keyC b) (hb : a.bn = b.bn) : asC (l ++ [a]) (m ++ [b]) := by
  have hlen : l.length = m.length := by have := congrArg List.length h.1; simpa using this
  refine ⟨by simp [h.1, hk], fun i x y hx hy => ?_⟩
  rcases Nat.lt_trichotomy i l.length with hi | hi | hi
  · rw [List.getElem?_append_left hi] at hx
    rw [List.getElem?_append_left (by omega)] at hy
    exact h.2 i x y hx hy
  · subst hi
    rw [List.getElem?_concat_length] at hx
    rw [hlen, List.getElem?_concat_length] at hy
    cases hx
    cases hy
    exact ⟨by injection hk, hb⟩
  · rw [List.getElem?_eq_none (by simp; omega)] at hx
    cases hx
theorem asC_right : ∀ {l m : List ChV} (_ : l.length = m.length) (_ : ∀ (i : Nat) (a b : ChV), l[i]? = some a → m[i]? = some b → a.page = b.page ∧ a.bn = b.bn) (last P : Int), rightS last P l = rightS last P m
  | [], [], _, _, _, _ => rfl
  | [], b :: m, h, _, _, _ => by simp at h
  | a :: l, [], h, _, _, _ => by simp at h
  | a :: l, b :: m, h, hx, last, P => by
    obtain ⟨h1, h2⟩ := hx 0 a b rfl rfl
    unfold rightS
    rw [h1, h2, asC_right (by simpa using h) (fun i x y hi hj => hx (i + 1) x y (by simpa using hi) (by simpa using hj)) b.page P]
theorem asC_rightB {l m : List ChV} (h : asC l m) (P : Int) : rightB P l = rightB P m := by
  unfold rightB
  rw [asC_right (by have := congrArg List.length h.1; simpa using this) h.2]
/-- What Read answers, with rows of the call's own. -/
def DReadOwn (b : List UInt8) (P : Int) (w : World) (e : Ending) (w' : World) : Prop :=
  (2 ≤ b.length ∧ b.length = 2 + num2 b * 66 ∧ rightB P (chsOf b (num2 b)) = true ∧ ∃ v ls, e = .returned (.tuple #[v, .bool true]) ∧ w'.ownsRow w.heap.size 53 2 v (num2 b) (chCs ls) ∧ (∀ a ∈ ls, RMade w' w.heap.size a) ∧ ls.length = num2 b ∧ asC ls (chsOf b (num2 b)) ∧ Chg [] w w') ∨
  (¬ (2 ≤ b.length ∧ b.length = 2 + num2 b * 66 ∧ rightB P (chsOf b (num2 b)) = true) ∧ e = .returned (.tuple #[.slice none 0 0, .bool false]) ∧ Chg [] w w')
/-- What Read answers. -/
def DReadPost (b : List UInt8) (P : Int) (w : World) (e : Ending) (w' : World) : Prop :=
  (2 ≤ b.length ∧ b.length = 2 + num2 b * 66 ∧ rightB P (chsOf b (num2 b)) = true ∧ ∃ A c ls, e = .returned (.tuple #[.slice A (num2 b) c, .bool true]) ∧ Chs w' A ls ∧ ls.length = num2 b ∧ asC ls (chsOf b (num2 b)) ∧ Chg [] w w') ∨
  (¬ (2 ≤ b.length ∧ b.length = 2 + num2 b * 66 ∧ rightB P (chsOf b (num2 b)) = true) ∧ e = .returned (.tuple #[.slice none 0 0, .bool false]) ∧ Chg [] w w')
theorem DReadOwn.post {b : List UInt8} {P : Int} {w : World} {e : Ending} {w' : World} (h : DReadOwn b P w e w') : DReadPost b P w e w' := by
  rcases h with ⟨h1, h2, h3, v, ls, rfl, ho, hm, hl, ha, hc⟩ | h
  · obtain ⟨A, c, rfl, _, hch, _⟩ := chs_own' ho (fun a ha => (hm a ha).ok)
    exact .inl ⟨h1, h2, h3, A, c, ls, rfl, hch, hl, ha, hc⟩
  · exact .inr h
theorem num2_lt (l : List UInt8) : num2 l < 65536 := by
  unfold num2
  have h1 := (l.getD 0 0).toNat_lt
  have h2 := (l.getD 1 0).toNat_lt
  omega
theorem make_changes (n : Nat) (hn : n < 65536) (W : World) : ∃ o : Array Value, o.size = n * 2 ∧ (Instr.makeSlice 47 (.int .i64 0) (.int .i64 (n : Int))).run Try.prog W = .ok (.slice (some ⟨W.heap.size, 0, none⟩) 0 n) (W.alloc (.cells o 53)) := by
  obtain ⟨i, hi, hz, hs1, hb⟩ := info_parts info_change
  have h := run_make (P := Try.prog) W 47 53 i _ Try.underlying47 hi hz .i64 .i64 0 (n : Int) (by omega) (by omega) (by rw [hb]; omega) (by omega)
  rw [hs1] at h
  exact ⟨_, size_madeCells _ _, by simpa using h⟩
/-- What Read has made so far. -/
def ReadSo (b : List UInt8) (w wr : World) (v : Value) (k : Nat) : Prop :=
  ∃ ls : List ChV, wr.ownsRow w.heap.size 53 2 v k (chCs ls) ∧ (∀ a ∈ ls, MadeCh wr w.heap.size a) ∧ asC ls (chsOf b k) ∧ Chg [] w wr
section
variable {w : World} {A : Option Addr} {n c : Nat}
set_option maxHeartbeats 8000000 in
set_option maxRecDepth 100000 in
theorem dread_own {b : List UInt8} (h : Bs w A n c b) (P : Int) :
    Calls Try.prog 109 #[.slice A n c, .int .i64 P] w (DReadOwn b P w) := by
  obtain ⟨i0, hi, hz0, hz1, hz2⟩ := info_parts info_change
  have hlen := h.len
  have hcap := h.cap
  have hmax := h.max
  have H := Lib.hid h
  have HLN := Lib.hid hlen
  clear h hlen
  by_cases h2 : n < 2
  · have HNO := Lib.hid (show ¬ (2 ≤ b.length ∧ b.length = 2 + num2 b * 66 ∧ rightB P (chsOf b (num2 b)) = true) from fun h => by have := HLN.out; omega)
    have hd : decide ((n : Int) < 2) = true := by simp; omega
    go_enter Try.func109, Try.ntmps109
    go_wp2_with fail
    go_ret2
    exact .inr ⟨HNO.out, rfl, Chg.refl _ _⟩
  · have hd : decide ((n : Int) < 2) = false := by simp; omega
    obtain ⟨N, hN⟩ : ∃ N, N = num2 b := ⟨_, rfl⟩
    have hN6 : N < 65536 := by rw [hN]; exact num2_lt b
    have HN := Lib.hid hN
    clear hN
    go_enter Try.func109, Try.ntmps109
    go_wp2_with fail
    refine (dget_any H.out (by omega)).mono ?_
    rintro e w1 ⟨rfl, hc1⟩
    rw [← HN.out]
    have H1 := Lib.hid (H.out.keep hc1)
    have HC1 := Lib.hid hc1
    clear hc1
    by_cases h66 : n = 2 + N * 66
    · obtain ⟨o, ho, hmk⟩ := make_changes N hN6 w1
      have hnI : (n : Int) = 2 + (N : Int) * 66 := by omega
      have hb1 : ((n : Int) == 2 + (N : Int) * 66) = true := by simp; omega
      have HO := Lib.hid ho
      clear ho
      have hmkp := make_page
      have hb2 : (!((n : Int) == 2 + (N : Int) * 66)) = false := by rw [hb1]; rfl
      have hb3 : ((n : Int) != 2 + (N : Int) * 66) = false := by simp; omega
      have H66 := Lib.hid h66
      clear hnI h66
      go_wp2_with fail
      have hown0 : (w1.alloc (.cells o 53)).ownsRow w.heap.size 53 2 (.slice (some ⟨w1.heap.size, 0, none⟩) 0 N) 0 (chCs []) :=
        ⟨rfl, .inr ⟨_, _, o, rfl, HC1.out.size, heap_alloc_new w1 _, Nat.zero_le _, by unfold maxLen; omega, HO.out, by simp [chCs]⟩⟩
      have hc2 : Chg [] w (w1.alloc (.cells o 53)) := HC1.out.alloc _
      go_loopw [7, 8] (fun v i wr => ∃ (k t : Nat), k ≤ N ∧ i = .int .i64 (t : Int) ∧ Hid (t = 2 + k * 66) ∧ ReadSo b w wr v k) (fun _ i _ => n - (intOf i).toNat)
      case atStart => exact ⟨0, 2, Nat.zero_le _, rfl, Lib.hid rfl, [], hown0, fun a ha => by simp at ha, asC_nil, hc2⟩
      case round =>
        obtain ⟨k, t, hk, rfl, HT, ls, hown, hmade, has, hcr⟩ := hrel
        have hwr := hcr.size
        have HM := Lib.hid hmade
        have HAS := Lib.hid has
        have HC := Lib.hid hcr
        have HB := Lib.hid (H.out.keep hcr)
        clear hown0 hc2 hmade has hcr
        by_cases hlt : k < N
        · have ht66 : t + 66 ≤ n := by have := HT.out; have := H66.out; omega
          have htI : (t : Int) < (n : Int) := by omega
          have htc : ¬ c = t := by omega
          have htc2 : ¬ c = t + 2 := by omega
          obtain ⟨ad, rfl, _, _⟩ := HB.out.src (by rw [bts_len, HLN.out]; omega)
          obtain ⟨b0, o0, s0⟩ := ad
          obtain rfl : s0 = none := HB.out.spot (by omega) _ rfl
          have hcut2 := HB.out.cut (lo := t + 2) (hi := n) (by omega) (Nat.le_refl _)
          have hcut1 := HB.out.cut (lo := t) (hi := n) (by omega) (Nat.le_refl _)
          rw [if_neg htc2, Option.map_some, add_plain] at hcut2
          rw [if_neg htc, Option.map_some, add_plain] at hcut1
          have e2 : (b.drop (t + 2)).take (n - (t + 2)) = b.drop (t + 2) := List.take_of_length_le (by rw [List.length_drop, HLN.out]; exact Nat.le_refl _)
          have e1 : (b.drop t).take (n - t) = b.drop t := List.take_of_length_le (by rw [List.length_drop, HLN.out]; exact Nat.le_refl _)
          rw [e2] at hcut2
          rw [e1] at hcut1
          obtain ⟨Y, hY⟩ : ∃ Y, Y = (b.drop (t + 2)).take 64 := ⟨_, rfl⟩
          have hYl : Y.length = 64 := by rw [hY, List.length_take, List.length_drop, HLN.out]; omega
          have hsY : Src wr (some ⟨b0, o0 + (t + 2), none⟩) (bts Y) := by
            have := (hcut2.take (m := 64) (by omega)).src
            rwa [← hY] at this
          have HY := Lib.hid hY
          have HCUT := Lib.hid hcut1
          have hYn := Lib.hid (show (bts Y).length = Nat.min (n - (t + 2)) 64 by rw [bts_len, hYl]; show 64 = min _ _; omega)
          have hYf := Lib.hid (show 0 + (bts Y).length ≤ (bts (zeros 64)).length by rw [bts_len, bts_len, hYl, zeros_len]; omega)
          have hYs := Lib.hid (show splice (bts (zeros 64)) 0 (bts Y) = bts Y from splice_all _ _ (by rw [bts_len, bts_len, hYl, zeros_len]))
          have HYL := Lib.hid hYl
          have HSY := Lib.hid (hsY.keep ((Chg.refl [] wr).alloc (.cells (bts (zeros 64)).toArray 5)))
          have hsub : ((t : Int) + 2).toNat = t + 2 := by omega
          clear hY hYl hsY hcut1 hcut2 e1 e2
          go_wp2_with (with_reducible refine wpList_copy_chg rfl (.tmp 30) (.tmp 34) _ _ rfl 5 Try.underlying22 size_byte4 (some ⟨wr.heap.size, 0, none⟩) (some ⟨b0, o0 + (t + 2), none⟩) 64 64 (n - (t + 2)) (c - (t + 2)) rfl rfl wr.heap.size 0 5 (bts (zeros 64)) (bts Y) (Whole.new wr _ _) hYn.out (fun _ => rfl) HSY.out hYf.out (bts_one _) ?_
                       intro w3 hW3 hc3
                       rw [hYs.out] at hW3)
          have hpg := num2_lt (b.drop t)
          have HW3 := Lib.hid hW3
          have hcg := (Chg.refl [] wr).alloc (.cells (bts (zeros 64)).toArray 5)
          have hc3' : Chg [] wr w3 := hcg.then_ hc3 (fun i hm hlt => by simp only [List.mem_cons, List.not_mem_nil, or_false] at hm; omega)
          have HC3 := Lib.hid hc3'
          have hw3 := hc3'.size
          clear hW3 hc3 hcg hc3'
          go_wp2_with fail
          refine (dget_any (HCUT.out.keep HC3.out) (by omega)).mono ?_
          rintro e w4 ⟨rfl, hc4⟩
          have hown4 := rown_chg (rown_chg hown HC3.out (by simp)) hc4 (by simp)
          have HM4 := Lib.hid (show ∀ a ∈ ls, MadeCh w4 w.heap.size a from fun a ha => ((HM.out a ha).chg HC3.out (by simp)).chg hc4 (by simp))
          have hnew : MadeCh w4 w.heap.size ⟨(num2 (b.drop t) : Nat), some ⟨wr.heap.size, 0, none⟩, 64, 64, Y⟩ := ⟨⟨_, rfl, hwr, HW3.out.keep hc4⟩, HYL.out, rfl, rfl, by simp only; omega⟩
          have HNEW := Lib.hid hnew
          have HC4 := Lib.hid ((HC.out.new HC3.out).new hc4)
          have hw4 := hc4.size
          obtain ⟨X, hX⟩ : ∃ X, X = chCs ls := ⟨_, rfl⟩
          rw [← hX] at hown4
          have HX := Lib.hid hX
          obtain ⟨pg, hpgq⟩ : ∃ pg, pg = num2 (b.drop t) := ⟨_, rfl⟩
          rw [← hpgq]
          have HPG := Lib.hid hpgq
          clear hX hc4 hnew hpgq hown
          go_wp2_with (first
            | (at_builtin
               refine wpList_append_own _ rfl (.tmp 36) (.tmp 43) _ rfl w.heap.size 53 i0 _ 2 32 Try.underlying47 hi hz0 hz1 hz2 rfl (by decide) _ k X rfl (rown_chg hown4 ((Chg.refl [] w4).alloc _) (by simp)) ⟨w4.heap.size, 0, none⟩ 1 1 [.int .i64 (pg : Int), .slice (some ⟨wr.heap.size, 0, none⟩) 64 64] rfl rfl ?c1 ?c2 ?c3 ?c4 ?c5 ?_
               case c1 => exact cells_page _ _ _
               case c2 => simp [Value.oneCell']
               case c3 => simp only [maxLen]; omega
               case c4 => omega
               case c5 => simp; omega
               intro v' w6 hown' hg' _))
          have HAL6 := Lib.hid (rown_chg hown4 ((Chg.refl [] w4).alloc (.cells #[.int .i64 (pg : Int), .slice (some ⟨wr.heap.size, 0, none⟩) 64 64] 53)) (by simp))
          go_roundw
          case rel =>
            refine ⟨k + 1, t + 66, by omega, by go_num, Lib.hid (by have := HT.out; omega), ls ++ [⟨(num2 (b.drop t) : Nat), some ⟨wr.heap.size, 0, none⟩, 64, 64, Y⟩], ?_, ?_, ?_, ?_⟩
            · rw [chCs_app, chCs_one, ← HX.out, ← HPG.out]
              exact hown'
            · intro a ha
              rcases List.mem_append.1 ha with h | h
              · exact ((HM4.out a h).chg ((Chg.refl [] w4).alloc _) (by simp)).grown HAL6.out hg'
              · simp only [List.mem_cons, List.not_mem_nil, or_false] at h
                subst h
                exact (HNEW.out.chg ((Chg.refl [] w4).alloc _) (by simp)).grown HAL6.out hg'
            · rw [chsOf_next]
              refine asC_snoc HAS.out ?_ rfl
              unfold keyC chOf
              rw [HY.out, HT.out]
            · exact chg_grown2 (HC4.out.alloc _) hg' fun g hgg => (HAL6.out.lt g hgg).1
          case measure => simp [intOf]; omega
        · obtain rfl : N = k := by omega
          have htI : (n : Int) ≤ (t : Int) := by have := HT.out; have := H66.out; omega
          have HOWN := Lib.hid hown
          obtain ⟨A5, c5, rfl, hll, hch, hm5, hnc5, _⟩ := chs_own hown HM.out
          have HLL := Lib.hid hll
          have HCH := Lib.hid hch
          clear hll hch hown
          cases hr : rightB P (chsOf b N) with
          | true =>
            have HR := Lib.hid hr
            have hrr : rightB P ls = true := by rw [asC_rightB HAS.out P, hr]
            clear hr
            go_wp2_with fail
            refine (right_any HCH.out HLL.out hm5 P).mono ?_
            rintro e w7 ⟨rfl, hc7⟩
            rw [hrr]
            clear hrr
            go_wp2_with fail
            go_ret2
            refine .inl ⟨by have := HLN.out; omega, by have := HLN.out; have := H66.out; have := HN.out; omega, ?_, _, ls, rfl, ?_, fun a ha => ((HM.out a ha).rmade).chg hc7 (by simp), ?_, ?_, HC.out.new hc7⟩
            · rw [← HN.out]; exact HR.out
            · rw [← HN.out]; exact rown_chg HOWN.out hc7 (by simp)
            · rw [← HN.out]; exact HLL.out
            · rw [← HN.out]; exact HAS.out
          | false =>
            have HR := Lib.hid hr
            have hrr : rightB P ls = false := by rw [asC_rightB HAS.out P, hr]
            clear hr
            go_wp2_with fail
            refine (right_any HCH.out HLL.out hm5 P).mono ?_
            rintro e w7 ⟨rfl, hc7⟩
            rw [hrr]
            clear hrr
            go_wp2_with fail
            go_ret2
            refine .inr ⟨fun h => ?_, rfl, HC.out.new hc7⟩
            have := h.2.2
            rw [← HN.out, HR.out] at this
            cases this
    · have HNO := Lib.hid (show ¬ (2 ≤ b.length ∧ b.length = 2 + num2 b * 66 ∧ rightB P (chsOf b (num2 b)) = true) from fun h => by have := HLN.out; have := h.2.1; have := HN.out; omega)
      have hb1 : ((n : Int) == 2 + (N : Int) * 66) = false := by simp; omega
      have hb2 : (!((n : Int) == 2 + (N : Int) * 66)) = true := by rw [hb1]; rfl
      go_wp2_with fail
      go_ret2
      exact .inr ⟨HNO.out, rfl, HC1.out⟩
theorem dread_any {b : List UInt8} (h : Bs w A n c b) (P : Int) :
    Calls Try.prog 109 #[.slice A n c, .int .i64 P] w (DReadPost b P w) := (dread_own h P).mono fun _ _ => DReadOwn.post
end
end Go.Proofs.Ytlhkmbcjgdjegaa
namespace Go.Proofs.Ytlhkmbcjgdjegaa
open Go.RowKit
/-- Are these bytes changes? -/
def okR (P : Int) (b : List UInt8) : Prop := 2 ≤ b.length ∧ b.length = 2 + num2 b * 66 ∧ rightB P (chsOf b (num2 b)) = true
instance (P : Int) (b : List UInt8) : Decidable (okR P b) := by unfold okR; exact inferInstance
def recM (b : List UInt8) : List ChV := chsOf b (num2 b)
/-- The records as far as they are changes, and how long they are. -/
def recF (P : Int) : List (List UInt8) → List (List ChV) × Nat
  | [] => ([], 0)
  | b :: rs => if okR P b then (recM b :: (recF P rs).1, 16 + b.length + (recF P rs).2) else ([], 0)
def lenS (rs : List (List UInt8)) : Nat := (rs.map fun b => 16 + b.length).sum
theorem recF_stop (P : Int) : ∀ (rs : List (List UInt8)) (k : Nat), k ≤ rs.length → (∀ (j : Nat) b, j < k → rs[j]? = some b → okR P b) → (∀ b, rs[k]? = some b → ¬ okR P b) → recF P rs = ((rs.take k).map recM, lenS (rs.take k))
  | [], k, _, _, _ => by simp [recF, lenS]
  | b :: rs, 0, _, _, h => by
    have := h b rfl
    simp [recF, this, lenS]
  | b :: rs, k + 1, hk, h1, h2 => by
    have hb := h1 0 b (by omega) rfl
    have ih := recF_stop P rs k (by simpa using hk) (fun j c hj hc => h1 (j + 1) c (by omega) (by simpa using hc)) (fun c hc => h2 c (by simpa using hc))
    rw [recF, if_pos hb, ih]
    simp [lenS]
theorem lenS_next (rs : List (List UInt8)) (k : Nat) (b : List UInt8) (h : rs[k]? = some b) : lenS (rs.take (k + 1)) = lenS (rs.take k) + (16 + b.length) := by
  obtain ⟨hk, he⟩ := List.getElem?_eq_some_iff.1 h
  unfold lenS
  rw [List.take_succ_eq_append_getElem hk, List.map_append, List.sum_append, he]
  simp
theorem recM_next (rs : List (List UInt8)) (k : Nat) (b : List UInt8) (h : rs[k]? = some b) : (rs.take (k + 1)).map recM = (rs.take k).map recM ++ [recM b] := by
  obtain ⟨hk, he⟩ := List.getElem?_eq_some_iff.1 h
  rw [List.take_succ_eq_append_getElem hk, List.map_append, he]
  rfl
theorem recM_len (b : List UInt8) : (recM b).length = num2 b := chsOf_len b _
/-- Lists of changes of the call's own. -/
def Recs (B : Nat) (w : World) (vs : List Value) (ms : List (List ChV)) : Prop :=
  vs.length = ms.length ∧ ∀ (i : Nat) (v : Value) (m : List ChV), vs[i]? = some v → ms[i]? = some m → ∃ ls, w.ownsRow B 53 2 v m.length (chCs ls) ∧ (∀ a ∈ ls, RMade w B a) ∧ ls.length = m.length ∧ asC ls m
theorem Recs.nil (B : Nat) (w : World) : Recs B w [] [] := ⟨rfl, fun i v m hv => by simp at hv⟩
theorem Recs.keep {B : Nat} {w w' : World} {vs : List Value} {ms : List (List ChV)} (h : Recs B w vs ms) (hc : Chg [] w w') : Recs B w' vs ms :=
  ⟨h.1, fun i v m hv hm => by obtain ⟨ls, h1, h2, h3⟩ := h.2 i v m hv hm; exact ⟨ls, rown_chg h1 hc (by simp), fun a ha => (h2 a ha).chg hc (by simp), h3⟩⟩
theorem Recs.snoc {B : Nat} {w : World} {vs : List Value} {ms : List (List ChV)} (h : Recs B w vs ms) {v : Value} {m ls : List ChV} (h1 : w.ownsRow B 53 2 v m.length (chCs ls)) (h2 : ∀ a ∈ ls, RMade w B a) (h3 : ls.length = m.length) (h4 : asC ls m) : Recs B w (vs ++ [v]) (ms ++ [m]) := by
  refine ⟨by simp [h.1], fun i u x hu hx => ?_⟩
  rcases Nat.lt_trichotomy i vs.length with hi | hi | hi
  · rw [List.getElem?_append_left hi] at hu
    rw [List.getElem?_append_left (by rw [← h.1]; exact hi)] at hx
    exact h.2 i u x hu hx
  · subst hi
    rw [List.getElem?_concat_length] at hu
    rw [h.1, List.getElem?_concat_length] at hx
    cases hu
    cases hx
    exact ⟨ls, h1, h2, h3, h4⟩
  · rw [List.getElem?_eq_none (by simp; omega)] at hu
    cases hu
theorem rown_grown {w w' : World} {B B2 n m k k2 : Nat} {e e2 : TypeId} {v v2 : Value} {xs ys : List Value} (h : w.ownsRow B e k v n xs) (h2 : w.ownsRow B2 e2 k2 v2 m ys) (hne : e ≠ e2) (hg : w.grownBy w' v2.ownBlock) : w'.ownsRow B e k v n xs := by
  refine ⟨h.1, h.2.imp id ?_⟩
  rintro ⟨g, cap, cur, rfl, hb, hh, r⟩
  exact ⟨g, cap, cur, rfl, hb, (by
    have hW : w.heap[g]? = some (.cells cur.toList.toArray e (0, 0)) := by simpa using hh
    have := whole_grown (show Whole w g e cur.toList from hW) h2 hne hg
    simpa [Whole] using this), r⟩
theorem RMade.grown2 {w w' : World} {B0 B2 e2 k2 m : Nat} {v2 : Value} {ys : List Value} {a : ChV} (h : RMade w B0 a) (h2 : w.ownsRow B2 e2 k2 v2 m ys) (hne : 5 ≠ e2) (hg : w.grownBy w' v2.ownBlock) : RMade w' B0 a := by
  obtain ⟨g, r, hg1, hB, hW, hr⟩ := h.b
  exact { h with b := ⟨g, r, hg1, hB, whole_grown hW h2 hne hg, hr⟩ }
theorem Recs.grown {B B2 m : Nat} {w w' : World} {vs : List Value} {ms : List (List ChV)} (h : Recs B w vs ms) {v2 : Value} {ys : List Value} (h2 : w.ownsRow B2 47 1 v2 m ys) (hg : w.grownBy w' v2.ownBlock) : Recs B w' vs ms :=
  ⟨h.1, fun i v m hv hm => by
    obtain ⟨ls, h1, h2', h3⟩ := h.2 i v m hv hm
    exact ⟨ls, rown_grown h1 h2 (by decide) hg, fun a ha => (h2' a ha).grown2 h2 (by decide) hg, h3⟩⟩
theorem RMade.more {w : World} {B0 B1 : Nat} {a : ChV} (h : RMade w B0 a) (hB : B1 ≤ B0) : RMade w B1 a := by
  obtain ⟨g, r, hg, hb, hW⟩ := h.b
  exact { h with b := ⟨g, r, hg, Nat.le_trans hB hb, hW⟩ }
theorem rown_more' {w : World} {B B' n k : Nat} {e : TypeId} {v : Value} {xs : List Value} (h : w.ownsRow B e k v n xs) (hB : B' ≤ B) : w.ownsRow B' e k v n xs := by
  refine ⟨h.1, h.2.imp id ?_⟩
  rintro ⟨g, cap, cur, rfl, hb, r⟩
  exact ⟨g, cap, cur, rfl, Nat.le_trans hB hb, r⟩
theorem Recs.more {B B' : Nat} {w : World} {vs : List Value} {ms : List (List ChV)} (h : Recs B w vs ms) (hB : B' ≤ B) : Recs B' w vs ms :=
  ⟨h.1, fun i v m hv hm => by obtain ⟨ls, h1, h2, h3⟩ := h.2 i v m hv hm; exact ⟨ls, rown_more' h1 hB, fun a ha => (h2 a ha).more hB, h3⟩⟩
def RecPost (w : World) (x : List (List ChV) × Nat) (e : Ending) (w' : World) : Prop :=
  ∃ v vs, e = .returned (.tuple #[v, .int .i64 (x.2 : Int)]) ∧ w'.ownsRow w.heap.size 47 1 v x.1.length vs ∧ Recs w.heap.size w' vs x.1 ∧ Chg [] w w'
/-- How many frames there are, and how long. -/
theorem itS_small (l : List UInt8) (ep : Nat) : ∀ k, (itS l ep k).1.length ≤ k ∧ ∀ r ∈ (itS l ep k).1, r.length ≤ l.length
  | 0 => ⟨Nat.le_refl _, fun r hr => by simp [itS] at hr⟩
  | k + 1 => by
    obtain ⟨h1, h2⟩ := itS_small l ep k
    show (stepS l ep (itS l ep k)).1.length ≤ k + 1 ∧ ∀ r ∈ (stepS l ep (itS l ep k)).1, r.length ≤ l.length
    by_cases h : readOk (l.drop (itS l ep k).2) ep (itS l ep k).1.length
    · rw [stepS_yes h]
      refine ⟨by simp; omega, fun r hr => ?_⟩
      rcases List.mem_append.1 hr with h3 | h3
      · exact h2 r h3
      · simp only [List.mem_cons, List.not_mem_nil, or_false] at h3
        subst h3
        unfold recL
        rw [List.length_take, List.length_drop, List.length_drop]; omega
    · rw [stepS_no h]
      exact ⟨by omega, h2⟩
theorem scanS_small (l : List UInt8) (ep : Nat) : (scanS l ep).1.length ≤ l.length + 1 ∧ ∀ r ∈ (scanS l ep).1, r.length ≤ l.length := itS_small l ep _
theorem logL_small (s : St) (L P E : Int) : (logL s L P E).length ≤ 4096 := by
  unfold logL
  split
  · rename_i h
    have := rightR_true.1 h
    unfold logB; rw [List.length_take]; omega
  · simp
/-- What Records answers. -/
noncomputable def recsS (s : St) (L P : Int) (ep : Nat) : List (List ChV) × Nat := recF P (scanS (logL s L P ep) ep).1
/-- Frames as a fact. -/
def scanF (B : Nat) (x : List (List UInt8) × Nat) : Fact := fun v W => ∃ v1 vs, v = .tuple #[v1, .int .i64 (x.2 : Int)] ∧ W.ownsRow B 22 1 v1 x.1.length vs ∧ Rows B W vs x.1
theorem keeps_scan (B : Nat) (x : List (List UInt8) × Nat) : Keeps (Chg []) (scanF B x) := fun _ _ _ ⟨v1, vs, h1, h2, h3⟩ hc => ⟨v1, vs, h1, own_keep h2 hc, h3.keep hc⟩
theorem info_chs : (Try.prog.info? 47).map (fun i => (i.zero, i.size, i.bytes)) = some (some (.slice none 0 0), 1, 24) := by kernel_rfl
end Go.Proofs.Ytlhkmbcjgdjegaa
namespace Go.Proofs.Ytlhkmbcjgdjegaa
open Go.RowKit
section
variable {P0 : Program} {T : Turns} {w0 : World} {a0 : Act} {ops : List Oper} {Q : Exit → Act → World → Prop} {F : Said} {k : Nat} {rest : List Oper}
  {d : Option Tmp} {ty : TypeId} {pos : String} {af : Array Edge} {g : Option (Nat × Bool)}
/-- The frames out of the pair. -/
def frmF (B : Nat) (ls : List (List UInt8)) : Fact := fun v W => ∃ vs, W.ownsRow B 22 1 v ls.length vs ∧ Rows B W vs ls
theorem rows_more {B B' : Nat} {w : World} {vs : List Value} {rs : List (List UInt8)} (h : Rows B w vs rs) (hB : B' ≤ B) : Rows B' w vs rs := ⟨h.1, fun i v l hv hl => own_more (h.2 i v l hv hl) hB⟩
theorem keeps_frm (B : Nat) (ls : List (List UInt8)) : Keeps (Chg []) (frmF B ls) := fun _ _ _ ⟨vs, h2, h3⟩ hc => ⟨vs, own_keep h2 hc, h3.keep hc⟩
theorem flow_scan0 {t : Tmp} {B : Nat} {x : List (List UInt8) × Nat} (hT : T.Ok) (hk : Keeps T.R (frmF B x.1)) (hf : T.soft.contains k = true ∨ Keeps T.H (frmF B x.1)) (hs : look F t = some (scanF B x))
    (hg : guardIs ops F true ⟨d, .extract (.tmp t) 0, ty, pos, af, g⟩) (h : Flow P0 T w0 a0 ops Q ((d, frmF B x.1) :: F) (k + 1) rest) :
    Flow P0 T w0 a0 ops Q F k (⟨d, .extract (.tmp t) 0, ty, pos, af, g⟩ :: rest) := by
  refine flow_op _ hk hf hg (fun ev W he hW hf => ?_) h
  have hf1 : factOf a0 F (.tmp t) (ev (.tmp t)) W := hf.1
  simp only [factOf, hs] at hf1
  obtain ⟨v1, vs, e1, h1, h2⟩ := hf1
  have : (execOp ev ⟨d, .extract (.tmp t) 0, ty, pos, af, g⟩).run P0 W = .ok (.value v1) W := by go_simp
  rw [this]
  exact ⟨hT.by_refl k W, vs, h1, h2⟩
theorem flow_scan1 {t : Tmp} {B : Nat} {x : List (List UInt8) × Nat} (hT : T.Ok) (hs : look F t = some (scanF B x))
    (hg : guardIs ops F true ⟨d, .extract (.tmp t) 1, ty, pos, af, g⟩) (h : Flow P0 T w0 a0 ops Q ((d, isV (.int .i64 (x.2 : Int))) :: F) (k + 1) rest) :
    Flow P0 T w0 a0 ops Q F k (⟨d, .extract (.tmp t) 1, ty, pos, af, g⟩ :: rest) := by
  refine flow_op _ (keeps_isV _) (.inr (keeps_isV _)) hg (fun ev W he hW hf => ?_) h
  have hf1 : factOf a0 F (.tmp t) (ev (.tmp t)) W := hf.1
  simp only [factOf, hs] at hf1
  obtain ⟨v1, vs, e1, h1, h2⟩ := hf1
  have : (execOp ev ⟨d, .extract (.tmp t) 1, ty, pos, af, g⟩).run P0 W = .ok (.value (.int .i64 (x.2 : Int))) W := by go_simp
  rw [this]
  exact ⟨hT.by_refl k W, rfl⟩
end
theorem lenS_le : ∀ (rs : List (List UInt8)) (N : Nat), (∀ r ∈ rs, r.length ≤ N) → lenS rs ≤ rs.length * (16 + N)
  | [], N, _ => by simp [lenS]
  | r :: rs, N, h => by
    have h1 := h r (by simp)
    have h2 := lenS_le rs N (fun x hx => h x (by simp [hx]))
    have e : lenS (r :: rs) = 16 + r.length + lenS rs := by simp [lenS]
    rw [e, List.length_cons, Nat.add_mul]
    omega
theorem cells_chs : (Value.slice none 0 0).cells.size = 1 := rfl
section
variable {w : World} {p bL bS bW : Nat} {s : St}
set_option maxHeartbeats 2000000 in
set_option maxRecDepth 100000 in
theorem rec_any (h : DskS w p bL bS bW s) (L P : Int) (ep : Nat) :
    Calls Try.prog 78 #[.pointer (some ⟨p, 0, none⟩), rootV L P (ep : Int)] w (RecPost w (recsS s L P ep)) := by
  obtain ⟨i, hi, hz, hs1, hb⟩ := info_parts info_chs
  have hr0 : rootV L P (ep : Int) = .agg #[.int .i64 L, .int .i64 P, .int .u32 (ep : Int)] := rfl
  have H := Lib.hid h
  clear h
  rw [hr0]
  go_enter Try.func78, Try.ntmps78
  go_wp2_with fail
  have hR := Whole.new w 26 [.int .i64 L, .int .i64 P, .int .u32 (ep : Int)]
  have hc1 : Chg [] w (w.alloc (.cells #[.int .i64 L, .int .i64 P, .int .u32 (ep : Int)] 26)) := (Chg.refl [] w).alloc _
  obtain ⟨g, hg⟩ : ∃ g, g = w.heap.size := ⟨_, rfl⟩
  rw [← hg] at hR ⊢
  generalize w.alloc (.cells #[.int .i64 L, .int .i64 P, .int .u32 (ep : Int)] 26) = w1 at hc1 hR ⊢
  clear hg
  have hld := fun (W : World) (hW : Chg [] w1.drew W) => root_cells (hR.drew.keep hW)
  have kd : ∀ W, Chg [] w1.drew W → DskS W p bL bS bW s := fun W hW => (Dsk.keep H.out hc1.drew).keep hW
  obtain ⟨lg, hlg⟩ : ∃ lg, lg = logL s L P ep := ⟨_, rfl⟩
  obtain ⟨X, hX⟩ : ∃ X, X = scanS lg ep := ⟨_, rfl⟩
  have hll : lg.length ≤ 4096 := by rw [hlg]; exact logL_small s L P ep
  have hXs := scanS_small lg ep
  rw [← hX] at hXs
  have HRS := Lib.hid (show recsS s L P ep = recF P X.1 by unfold recsS; rw [← hlg, ← hX])
  have hwz : w1.drew.heap.size = w1.heap.size := rfl
  refine wp_flow (by kernel_rfl) plainT plainT_ok (by kernel_rfl) ?_
  refine flow_move_out plainT_ok rfl rfl rfl ?_
  refine flow1h (r := rootV L P ep) plainT_ok rfl (.out rfl rfl) rfl (fun ev W he hW e1 => by obtain ⟨c0, c1, c2, _, _, _⟩ := hld W hW; go_simp) ?_
  refine flow_calld (ownF w1.drew.heap.size 5 (bts lg)) (keeps_own _ _ _) (.inr (keeps_own _ _ _)) (by kernel_rfl) rfl (.cons (.inn rfl) (.cons (.inn rfl) .nil)) (fun W hW => (rbytes_any (kd W hW) L P ep).mono ?_) ?_
  · rintro e w' ⟨v, rfl, ho, hc⟩
    rw [← hlg] at ho
    exact ⟨_, rfl, hc, by rw [ownF, bts_len]; exact own_more ho hW.size⟩
  refine flow1 (r := .pointer (some ⟨g, 2, none⟩)) plainT_ok rfl (.out rfl rfl) rfl (fun ev W he e1 => by go_simp) ?_
  refine flow1h (r := .int .u32 (ep : Int)) plainT_ok rfl (.inn rfl) rfl (fun ev W he hW e1 => by obtain ⟨c0, c1, c2, _, _, _⟩ := hld W hW; go_simp) ?_
  refine flow_call (scanF w1.drew.heap.size X) (keeps_scan _ _) (.inr (keeps_scan _ _)) (by kernel_rfl) rfl (fun ev W he hW hf => ?_) ?_
  · have h1 : (ownF w1.drew.heap.size 5 (bts lg)) (ev (.tmp 17)) W := hf.1
    have h2 : ev (.tmp 19) = .int .u32 (ep : Int) := hf.2.1
    rw [ownF, bts_len] at h1
    obtain ⟨A, c, e1, hB, _⟩ := Bs.of_own h1
    show Calls _ _ #[ev (.tmp 17), ev (.tmp 19)] W _
    rw [e1, h2]
    refine (scan_any hB ep (by omega)).mono ?_
    rintro e w' ⟨v, vs, rfl, ho, hr, hc⟩
    rw [← hX] at ho hr ⊢
    exact ⟨_, rfl, hc, v, vs, rfl, own_more ho hW.size, rows_more hr hW.size⟩
  refine flow_move plainT_ok rfl (keeps_scan _ _) (.inr (keeps_scan _ _)) rfl ?_
  refine flow_scan0 plainT_ok (keeps_frm _ _) (.inr (keeps_frm _ _)) rfl rfl ?_
  refine flow_scan1 plainT_ok rfl rfl ?_
  refine flow_assign plainT_ok rfl (keeps_frm _ _) (.inr (keeps_frm _ _)) rfl ?_
  refine flow_assign plainT_ok rfl (keeps_isV _) (.inr (keeps_isV _)) rfl ?_
  intro vs W hW hF
  obtain ⟨rs, ho, hrows⟩ := hF 6 _ rfl rfl
  have e7 : vs 7 = .int .i64 (X.2 : Int) := hF 7 _ rfl rfl
  generalize hFv : vs 6 = Fv at ho
  simp only [putAll, Act.put, List.setIfInBounds_toArray, List.set_cons_zero, List.set_cons_succ, e7, hFv]
  obtain ⟨Y, z⟩ := X
  simp only at ho hrows HRS hXs ⊢
  obtain ⟨n, hn⟩ : ∃ n, n = Y.length := ⟨_, rfl⟩
  rw [← hn] at ho hXs
  have HN := Lib.hid hn
  obtain ⟨A6, c6, rfl, hl6, _, hs6, hp6⟩ := own_slice ho
  have HCW := Lib.hid (hc1.new (wdrew hW))
  have HRW := Lib.hid (hR.drew.keep hW)
  have HS6 := Lib.hid hs6
  have HP6 := Lib.hid hp6
  have HROW := Lib.hid hrows
  have HYL := Lib.hid hXs.2
  have hn4 : n ≤ 4097 := by omega
  have HL6 := Lib.hid hl6
  have HLG := Lib.hid hll
  clear hW hF hld hR hc1 kd e7 hFv hs6 hp6 hrows ho hXs hlg hX hn hl6 hwz hll
  go_wp2_with fail
  go_loopw [8, 9, 25] (fun v a i wr => ∃ k : Nat, k ≤ n ∧ i = .int .i64 (k : Int) ∧ (∃ m : Nat, a = .int .i64 (m : Int) ∧ Hid (m = lenS (Y.take k))) ∧ (∃ vs, wr.ownsRow W.heap.size 47 1 v k vs ∧ Hid (Recs W.heap.size wr vs ((Y.take k).map recM))) ∧ Hid (∀ (j : Nat) b, j < k → Y[j]? = some b → okR P b) ∧ Hid (Chg [] W wr)) (fun _ _ i _ => n - (intOf i).toNat)
  case atStart => exact ⟨0, Nat.zero_le _, rfl, ⟨0, rfl, Lib.hid rfl⟩, ⟨[], own_nil _ _ _, Lib.hid (by rw [List.take_zero]; exact Recs.nil _ _)⟩, Lib.hid (fun j b hj => absurd hj (by omega)), Lib.hid (Chg.refl _ _)⟩
  case round =>
    obtain ⟨k, hk, rfl, ⟨m, rfl, HM⟩, ⟨vs, hown, HRC⟩, HOK, HCr⟩ := hrel
    obtain ⟨Av, cv, rfl, hvl, hvc, _⟩ := own_slice hown
    have HCa := Lib.hid (HCW.out.new HCr.out)
    by_cases hlt : k < n
    · have hkI : (k : Int) < (n : Int) := by omega
      have HS := Lib.hid ((HS6.out).keep HCr.out)
      obtain ⟨ad, rfl, _, hcell⟩ := HS.out (by rw [HL6.out]; omega)
      obtain ⟨b6, o6, s6⟩ := ad
      obtain rfl : s6 = none := (HP6.out _ rfl).1
      have hkl : k < rs.length := by rw [HL6.out]; exact hlt
      have hkY : k < Y.length := by rw [← HN.out]; exact hlt
      have hc := hcell k rs[k] (List.getElem?_eq_getElem hkl)
      have hfr := HROW.out.2 k _ _ (List.getElem?_eq_getElem hkl) (List.getElem?_eq_getElem hkY)
      have hyl := HYL.out _ (List.getElem_mem hkY)
      have hYk := Lib.hid (List.getElem?_eq_getElem hkY)
      generalize Y[k] = b at hfr hyl hYk
      generalize rs[k] = fv at hc hfr
      obtain ⟨Ab, cb, rfl, hB, _⟩ := Bs.of_own (own_keep hfr HCr.out)
      rw [add_plain] at hc
      obtain ⟨c0, c1, c2, _, _, _⟩ := root_cells (HRW.out.keep HCr.out)
      obtain ⟨q, hq⟩ : ∃ q, q = b.length := ⟨_, rfl⟩
      rw [← hq] at hB hyl hc
      have HB := Lib.hid hB
      have HQ := Lib.hid hq
      have HLN := Lib.hid (lenS_next Y k b hYk.out)
      have HMN := Lib.hid (recM_next Y k b hYk.out)
      have hq5 : q ≤ 4096 := by have := HLG.out; omega
      clear hfr hB hq hcell hyl
      go_wp2_with fail
      refine (dread_own HB.out P).mono ?_
      rintro e w2 (⟨h1, h2, h3, v2, ls, rfl, ho2, hm2, hl2, ha2, hc2⟩ | ⟨hno, rfl, hc2⟩)
      · have HOKb := Lib.hid (show okR P b from ⟨h1, h2, h3⟩)
        have how := own_keep hown hc2
        have HOV := Lib.hid (show w2.ownsRow W.heap.size 53 2 v2 (recM b).length (chCs ls) by rw [recM_len]; exact rown_more' ho2 HCr.out.size)
        have HM2 := Lib.hid (show ∀ a ∈ ls, RMade w2 W.heap.size a from fun a ha => (hm2 a ha).more HCr.out.size)
        have HL2 := Lib.hid (show ls.length = (recM b).length by rw [recM_len]; exact hl2)
        have HA2 := Lib.hid (show asC ls (recM b) from ha2)
        have HC2 := Lib.hid hc2
        have hc2c := cell_keep c0 hc2
        have hx1 := Lib.hid (show k + 1 ≤ maxLen by unfold maxLen; omega)
        have hx2 := Lib.hid (show (k + 1) * 24 ≤ 140737488355328 by omega)
        have hx3 := Lib.hid (show W.heap.size ≤ w2.heap.size from Nat.le_trans HCr.out.size hc2.size)
        have hm4 : m ≤ 17000000 := by
          have h := lenS_le (Y.take k) 4096 (fun r hr => Nat.le_trans (HYL.out r (List.mem_of_mem_take hr)) HLG.out)
          rw [List.length_take] at h
          have := HM.out
          have h5 : min k Y.length * (16 + 4096) ≤ 4097 * 4112 := Nat.mul_le_mul (by omega) (by omega)
          omega
        clear h1 h2 h3 ho2 hm2 hl2 ha2 hc2 c0 c1 c2 hown hc2c
        obtain ⟨A2, q2, rfl, _⟩ : ∃ A2 q2, v2 = .slice A2 (recM b).length q2 ∧ True := by
          rcases HOV.out.2 with ⟨e, h0⟩ | ⟨g, cap, cur, e, _⟩
          · exact ⟨_, _, by rw [e, h0], trivial⟩
          · exact ⟨_, _, e, trivial⟩
        obtain ⟨z2, hz2⟩ : ∃ z, z = (recM b).length := ⟨_, rfl⟩
        rw [← hz2] at HOV HL2 ⊢
        have HZ2 := Lib.hid hz2
        clear hz2
        go_wp2_with (at_builtin
                     refine wpList_append_src rfl (.tmp 38) (.tmp 40) 122 rfl W.heap.size 47 i _ 24 Try.underlying122 hi hz hs1 hb cells_chs (.slice Av k cv) k vs rfl (own_keep how ((Chg.refl _ _).alloc _)) (some ⟨w2.heap.size, 0, none⟩) 1 1 [.slice A2 z2 q2] rfl rfl (Src.of_all (Whole.new w2 47 [.slice A2 z2 q2])) (fun u hu => by simp at hu; rw [hu]; rfl) hx1.out hx2.out (by simp; have := hx3.out; omega) ?_
                     intro v4 w4 ho4 hg4 _)
        have hal : Chg [] w2 (w2.alloc (.cells #[.slice A2 z2 q2] 47)) := (Chg.refl [] w2).alloc _
        go_roundw
        case rel =>
          refine ⟨k + 1, by omega, by go_num, ⟨m + (16 + q), by go_num, Lib.hid (by rw [HLN.out, HM.out, HQ.out])⟩, ⟨_, ho4, Lib.hid ?_⟩, Lib.hid (fun j c hj hcx => ?_), Lib.hid (((HCr.out.new HC2.out).alloc _).own (own_keep how hal) ?_ hg4)⟩
          · rw [HMN.out]
            refine ((HRC.out.keep HC2.out).keep hal |>.snoc ?_ (fun a ha => (HM2.out a ha).chg hal (by simp)) ?_ HA2.out).grown (own_keep how hal) hg4
            · rw [← HZ2.out]; exact rown_chg HOV.out hal (by simp)
            · rw [← HZ2.out]; exact HL2.out
          · rcases Nat.lt_or_ge j k with h | h
            · exact HOK.out j c h hcx
            · obtain rfl : j = k := by omega
              rw [hYk.out] at hcx
              cases hcx
              exact HOKb.out
          · exact Nat.le_refl _
        case measure => simp [intOf]; omega
      · have HNO := Lib.hid hno
        have HC2 := Lib.hid hc2
        have how := own_keep hown hc2
        clear hno hc2 c0 c1 c2
        go_wp2_with fail
        go_ret2
        rw [HRS.out, recF_stop P Y k (Nat.le_of_lt hkY) HOK.out (fun c hc => by rw [hYk.out] at hc; cases hc; exact HNO.out), ← HM.out]
        exact ⟨_, vs, rfl, by simpa [(Nat.le_of_lt hkY)] using own_more how HCW.out.size, (HRC.out.keep HC2.out).more HCW.out.size, HCa.out.new HC2.out⟩
    · have hkI : ¬ (k : Int) < (n : Int) := by omega
      have hkn : k = Y.length := by rw [← HN.out]; omega
      have HKN := Lib.hid hkn
      clear hkn
      go_wp2_with fail
      go_ret2
      rw [HRS.out, recF_stop P Y k (by rw [HKN.out]; exact Nat.le_refl _) HOK.out (fun c hc => by rw [List.getElem?_eq_none (by rw [HKN.out]; exact Nat.le_refl _)] at hc; cases hc), ← HM.out]
      exact ⟨_, vs, rfl, by simpa [HKN.out] using own_more hown HCW.out.size, HRC.out.more HCW.out.size, HCa.out⟩
end
end Go.Proofs.Ytlhkmbcjgdjegaa
namespace Go.Proofs.Ytlhkmbcjgdjegaa
open Go.RowKit
/-- Is i a page of a root that parts n sectors? -/
def hasR (L P E i : Int) (n : Nat) : Bool := rightR L P E n && decide (0 ≤ homeI L P i)
theorem homeI_in {L P i : Int} (h1 : 1 ≤ L) (h2 : L ≤ 64) (h3 : P ≤ 64) (h4 : 0 ≤ i) (h5 : i < P) : homeI L P i = 2 + L + i := by
  unfold homeI
  rw [if_neg (by omega)]; unfold wrap64; omega
theorem homeI_out {L P i : Int} (h : i < 0 ∨ P ≤ i) : homeI L P i = -1 := by unfold homeI; rw [if_pos h]
theorem hasR_yes {L P E i : Int} {n : Nat} (h : hasR L P E i n = true) : rightR L P E n = true ∧ ∃ k : Nat, homeI L P i = (k : Int) ∧ k < n ∧ (k : Int) = 2 + L + i ∧ 0 ≤ i ∧ i < P := by
  unfold hasR at h
  rw [Bool.and_eq_true, decide_eq_true_iff] at h
  obtain ⟨h1, h2⟩ := h
  refine ⟨h1, ?_⟩
  obtain ⟨a, b, c, d, e, f⟩ := rightR_true.1 h1
  by_cases hi : i < 0 ∨ P ≤ i
  · rw [homeI_out hi] at h2; omega
  · have := homeI_in (L := L) (P := P) (i := i) a b d (by omega) (by omega)
    exact ⟨(2 + L + i).toNat, by rw [this]; omega, by omega, by omega, by omega, by omega⟩
theorem hasR_in {L P E i : Int} {n : Nat} (h : rightR L P E n = true) (h4 : 0 ≤ i) (h5 : i < P) : hasR L P E i n = true := by
  obtain ⟨a, b, c, d, e, f⟩ := rightR_true.1 h
  unfold hasR
  rw [h, homeI_in a b d h4 h5]
  simp; omega
theorem hasR_out {L P E i : Int} {n : Nat} (h : i < 0 ∨ P ≤ i) : hasR L P E i n = false := by
  unfold hasR
  rw [homeI_out h]; simp
theorem hasR_wrong {L P E i : Int} {n : Nat} (h : rightR L P E n = false) : hasR L P E i n = false := by
  unfold hasR
  rw [h]; rfl
section
variable {w : World} {p bL bS bW : Nat} {s : St}
set_option maxHeartbeats 400000 in
set_option maxRecDepth 100000 in
theorem hhas_any (h : DskS w p bL bS bW s) (L P E i : Int) :
    Calls Try.prog 57 #[.pointer (some ⟨p, 0, none⟩), rootV L P E, .int .i64 i] w (BoolPost (hasR L P E i s.V.length) w) := by
  have hr0 : rootV L P E = .agg #[.int .i64 L, .int .i64 P, .int .u32 E] := rfl
  rw [hr0]
  go_enter Try.func57, Try.ntmps57
  go_wp2_with fail
  have hR := Whole.new w 26 [.int .i64 L, .int .i64 P, .int .u32 E]
  have hc1 : Chg [] w (w.alloc (.cells #[.int .i64 L, .int .i64 P, .int .u32 E] 26)) := (Chg.refl [] w).alloc _
  obtain ⟨g, hg⟩ : ∃ g, g = w.heap.size := ⟨_, rfl⟩
  rw [← hg] at hR ⊢
  generalize w.alloc (.cells #[.int .i64 L, .int .i64 P, .int .u32 E] 26) = w1 at hc1 hR ⊢
  clear hg
  have hld := fun (W : World) (hW : Chg [] w1.drew W) => root_cells (hR.drew.keep hW)
  have kd : ∀ W, Chg [] w1.drew W → DskS W p bL bS bW s := fun W hW => (Dsk.keep h hc1.drew).keep hW
  cases hrr : rightR L P E s.V.length with
  | false =>
    have HF := Lib.hid (hasR_wrong (i := i) hrr)
    refine wp_flow (by kernel_rfl) plainT plainT_ok (by kernel_rfl) ?_
    refine flow_move_out plainT_ok rfl rfl rfl ?_
    refine flow2 (r := .bool true) plainT_ok rfl (.inn rfl) (.const _) rfl (fun ev W he e1 e2 => by go_simp) ?_
    refine flow_move plainT_ok rfl (keeps_isV _) (.inr (keeps_isV _)) rfl ?_
    refine flow1h (r := rootV L P E) plainT_ok rfl (.out rfl rfl) rfl (fun ev W he hW e1 => by obtain ⟨c0, c1, c2, _, _, _⟩ := hld W hW; go_simp) ?_
    refine flow_move_out plainT_ok rfl rfl rfl ?_
    refine flow_callv (.int .i64 (s.V.length : Int)) (by kernel_rfl) rfl (.cons (.inn rfl) .nil) (fun W hW => (len_any (kd W hW)).mono ?_) ?_
    · rintro e w' ⟨rfl, rfl⟩; exact ⟨rfl, Chg.refl _ _⟩
    refine flow_callv (.bool false) (by kernel_rfl) rfl (.cons (.inn rfl) (.cons (.inn rfl) .nil)) (fun W hW => (rright_any _ _ _ _).mono ?_) ?_
    · rintro e w' ⟨rfl, hc⟩; exact ⟨by rw [hrr], hc⟩
    refine flow_and plainT_ok rfl rfl rfl ?_
    refine flow_move plainT_ok rfl (keeps_isV _) (.inr (keeps_isV _)) rfl ?_
    refine flow_skip rfl ?_
    refine flow_skip rfl ?_
    refine flow_skip rfl ?_
    refine flow_skip rfl ?_
    refine flow_and_false plainT_ok rfl rfl rfl ?_
    refine flow_assign plainT_ok rfl (keeps_isV _) (.inr (keeps_isV _)) rfl ?_
    intro vs W hW hF
    have e40 : vs 6 = .bool false := hF 6 _ rfl rfl
    simp only [putAll, Act.put, List.setIfInBounds_toArray, List.set_cons_zero, List.set_cons_succ, e40]
    have HCW := Lib.hid (hc1.drew.new hW)
    clear hW hF hld hR hc1 kd
    go_wp2_with fail
    go_ret
    exact ⟨by rw [HF.out]; rfl, HCW.out⟩
  | true =>
    have HF := Lib.hid (show decide (0 ≤ homeI L P i) = hasR L P E i s.V.length by unfold hasR; rw [hrr]; rfl)
    refine wp_flow (by kernel_rfl) plainT plainT_ok (by kernel_rfl) ?_
    refine flow_move_out plainT_ok rfl rfl rfl ?_
    refine flow2 (r := .bool true) plainT_ok rfl (.inn rfl) (.const _) rfl (fun ev W he e1 e2 => by go_simp) ?_
    refine flow_move plainT_ok rfl (keeps_isV _) (.inr (keeps_isV _)) rfl ?_
    refine flow1h (r := rootV L P E) plainT_ok rfl (.out rfl rfl) rfl (fun ev W he hW e1 => by obtain ⟨c0, c1, c2, _, _, _⟩ := hld W hW; go_simp) ?_
    refine flow_move_out plainT_ok rfl rfl rfl ?_
    refine flow_callv (.int .i64 (s.V.length : Int)) (by kernel_rfl) rfl (.cons (.inn rfl) .nil) (fun W hW => (len_any (kd W hW)).mono ?_) ?_
    · rintro e w' ⟨rfl, rfl⟩; exact ⟨rfl, Chg.refl _ _⟩
    refine flow_callv (.bool true) (by kernel_rfl) rfl (.cons (.inn rfl) (.cons (.inn rfl) .nil)) (fun W hW => (rright_any _ _ _ _).mono ?_) ?_
    · rintro e w' ⟨rfl, hc⟩; exact ⟨by rw [hrr], hc⟩
    refine flow_and plainT_ok rfl rfl rfl ?_
    refine flow_move plainT_ok rfl (keeps_isV _) (.inr (keeps_isV _)) rfl ?_
    refine flow1h (r := rootV L P E) plainT_ok rfl (.out rfl rfl) rfl (fun ev W he hW e1 => by obtain ⟨c0, c1, c2, _, _, _⟩ := hld W hW; go_simp) ?_
    refine flow_move_out plainT_ok rfl rfl rfl ?_
    refine flow_callv (.int .i64 (homeI L P i)) (by kernel_rfl) rfl (.cons (.inn rfl) (.cons (.inn rfl) .nil)) (fun W hW => (home_any _ _ _ _).mono ?_) ?_
    · rintro e w' ⟨rfl, hc⟩; exact ⟨rfl, hc⟩
    refine flow2 (r := .bool (decide (0 ≤ homeI L P i))) plainT_ok rfl (.inn rfl) (.const _) rfl (fun ev W he e1 e2 => by go_simp) ?_
    refine flow_and plainT_ok rfl rfl rfl ?_
    refine flow_assign plainT_ok rfl (keeps_isV _) (.inr (keeps_isV _)) rfl ?_
    intro vs W hW hF
    have e40 : vs 6 = .bool (decide (0 ≤ homeI L P i)) := hF 6 _ rfl rfl
    simp only [putAll, Act.put, List.setIfInBounds_toArray, List.set_cons_zero, List.set_cons_succ, e40]
    have HCW := Lib.hid (hc1.drew.new hW)
    clear hW hF hld hR hc1 kd
    go_wp2_with fail
    go_ret
    exact ⟨by rw [HF.out]; rfl, HCW.out⟩
/-- What Page answers. -/
def PagePost (w : World) (s : St) (L P E i : Int) (e : Ending) (w' : World) : Prop :=
  (hasR L P E i s.V.length = true ∧ ∃ v, e = .returned (.tuple #[v, .bool true]) ∧ w'.ownsRow w.heap.size 5 1 v 64 (bts (sectL s.S s.V.length (homeI L P i).toNat)) ∧ Chg [] w w') ∨
  (hasR L P E i s.V.length = false ∧ e = .returned (.tuple #[.slice none 0 0, .bool false]) ∧ Chg [] w w')
theorem sectL_len {S : List UInt8} {n k : Nat} (h : S.length = 64 * n) (hk : k < n) : (sectL S n k).length = 64 := by
  unfold sectL
  rw [if_pos hk, List.length_take, List.length_drop]; omega
set_option maxHeartbeats 400000 in
set_option maxRecDepth 100000 in
theorem hpage_any (h : DskS w p bL bS bW s) (L P E i : Int) :
    Calls Try.prog 22 #[.pointer (some ⟨p, 0, none⟩), rootV L P E, .int .i64 i] w (PagePost w s L P E i) := by
  have hr0 : rootV L P E = .agg #[.int .i64 L, .int .i64 P, .int .u32 E] := rfl
  have H := Lib.hid h
  have hlS := h.lenS
  clear h
  rw [hr0]
  go_enter Try.func22, Try.ntmps22
  go_wp2_with fail
  have hR := Whole.new w 26 [.int .i64 L, .int .i64 P, .int .u32 E]
  have hc1 : Chg [] w (w.alloc (.cells #[.int .i64 L, .int .i64 P, .int .u32 E] 26)) := (Chg.refl [] w).alloc _
  obtain ⟨g, hg⟩ : ∃ g, g = w.heap.size := ⟨_, rfl⟩
  rw [← hg] at hR ⊢
  have hgw : w.heap.size ≤ g := by omega
  generalize w.alloc (.cells #[.int .i64 L, .int .i64 P, .int .u32 E] 26) = w1 at hc1 hR ⊢
  clear hg
  obtain ⟨c0, c1, c2, _, _, _⟩ := root_cells hR
  go_wp2_with fail
  refine (hhas_any (Dsk.keep H.out hc1) L P E i).mono ?_
  rintro e w2 ⟨rfl, hc2⟩
  have HC2 := Lib.hid (hc1.new hc2)
  have HR2 := Lib.hid (hR.keep hc2)
  clear hc1 hc2 hR c0 c1 c2
  cases hh : hasR L P E i s.V.length with
  | false =>
    go_wp2_with fail
    go_ret2
    exact .inr ⟨hh, rfl, HC2.out⟩
  | true =>
    obtain ⟨-, k, hk, hkn, -⟩ := hasR_yes hh
    obtain ⟨c0, c1, c2, _, _, _⟩ := root_cells HR2.out
    go_wp2_with fail
    refine (home_any L P E i).mono ?_
    rintro e w3 ⟨rfl, hc3⟩
    rw [hk]
    have HC3 := Lib.hid (HC2.out.new hc3)
    have HH := Lib.hid hk
    clear hc3 hk c0 c1 c2
    go_wp2_with fail
    refine (read_yes (Dsk.keep H.out HC3.out) k hkn).mono ?_
    rintro e w4 ⟨rfl, hW4, hc4⟩
    have hs : sectL s.S s.V.length k = (s.S.drop (k * 64)).take 64 := by unfold sectL; rw [if_pos hkn]
    rw [← hs] at hW4
    have hl := sectL_len (k := k) hlS hkn
    have ho := own_of_whole (B := w3.heap.size) (n := 64) (c := 64) hW4 (Nat.le_refl _) (by rw [bts_len]; exact hl) (by omega) (by unfold maxLen; omega)
    rw [List.take_of_length_le (by rw [bts_len]; omega)] at ho
    have HO := Lib.hid (own_more ho HC3.out.size)
    have HC4 := Lib.hid (HC3.out.new hc4)
    clear hW4 hc4 ho hs hl
    go_wp2_with fail
    go_ret2
    refine .inl ⟨hh, _, rfl, ?_, HC4.out⟩
    rw [HH.out, Int.toNat_natCast]
    exact HO.out
/-- What Put does. -/
def PutPost (w : World) (p bL bS bW : Nat) (s : St) (L P E i : Int) (x : List UInt8) (e : Ending) (w' : World) : Prop :=
  (hasR L P E i s.V.length = true ∧ x.length = 64 ∧ e = .returned (.bool true) ∧ DskS w' p bL bS bW (s.write (homeI L P i).toNat x) ∧ Chg [bS, bW] w w') ∨
  (¬ (hasR L P E i s.V.length = true ∧ x.length = 64) ∧ e = .returned (.bool false) ∧ Chg [] w w')
set_option maxHeartbeats 400000 in
set_option maxRecDepth 100000 in
theorem hput_any (h : DskS w p bL bS bW s) (L P E i : Int) {A : Option Addr} {n c : Nat} {x : List UInt8} (hx : Bs w A n c x) :
    Calls Try.prog 20 #[.pointer (some ⟨p, 0, none⟩), rootV L P E, .int .i64 i, .slice A n c] w (PutPost w p bL bS bW s L P E i x) := by
  have hr0 : rootV L P E = .agg #[.int .i64 L, .int .i64 P, .int .u32 E] := rfl
  have H := Lib.hid h
  have HX := Lib.hid hx
  clear h hx
  rw [hr0]
  go_enter Try.func20, Try.ntmps20
  go_wp2_with fail
  have hR := Whole.new w 26 [.int .i64 L, .int .i64 P, .int .u32 E]
  have hc1 : Chg [] w (w.alloc (.cells #[.int .i64 L, .int .i64 P, .int .u32 E] 26)) := (Chg.refl [] w).alloc _
  obtain ⟨g, hg⟩ : ∃ g, g = w.heap.size := ⟨_, rfl⟩
  rw [← hg] at hR ⊢
  generalize w.alloc (.cells #[.int .i64 L, .int .i64 P, .int .u32 E] 26) = w1 at hc1 hR ⊢
  clear hg
  obtain ⟨c0, c1, c2, _, _, _⟩ := root_cells hR
  go_wp2_with fail
  refine (hhas_any (Dsk.keep H.out hc1) L P E i).mono ?_
  rintro e w2 ⟨rfl, hc2⟩
  have HC2 := Lib.hid (hc1.new hc2)
  have HR2 := Lib.hid (hR.keep hc2)
  clear hc1 hc2 hR c0 c1 c2
  cases hh : hasR L P E i s.V.length with
  | false =>
    go_wp2_with fail
    go_ret
    exact .inr ⟨by rw [hh]; simp, rfl, HC2.out⟩
  | true =>
    obtain ⟨-, k, hk, hkn, -⟩ := hasR_yes hh
    obtain ⟨c0, c1, c2, _, _, _⟩ := root_cells HR2.out
    go_wp2_with fail
    refine (home_any L P E i).mono ?_
    rintro e w3 ⟨rfl, hc3⟩
    rw [hk]
    have HC3 := Lib.hid (HC2.out.new hc3)
    have HH := Lib.hid hk
    clear hc3 hk c0 c1 c2
    have hxl := HX.out.len
    by_cases hn : n = 64
    · subst hn
      go_wp2_with fail
      refine (write_yes (Dsk.keep H.out HC3.out) k hkn hxl (HX.out.src.keep HC3.out)).mono ?_
      rintro e w4 ⟨rfl, hD4, hc4⟩
      have HC4 := Lib.hid ((HC3.out.sub (T' := [bS, bW]) (by simp)).trans hc4)
      have HD := Lib.hid hD4
      clear hD4 hc4
      go_wp2_with fail
      go_ret
      refine .inl ⟨hh, hxl, rfl, ?_, ?_⟩
      · rw [HH.out, Int.toNat_natCast]; exact HD.out
      · exact HC4.out
    · go_wp2_with fail
      refine (write_no (Dsk.keep H.out HC3.out) k A n c (.inr (.inr hn))).mono ?_
      rintro e w4 ⟨rfl, rfl⟩
      go_wp2_with fail
      go_ret
      exact .inr ⟨by rw [hh]; simp; omega, rfl, HC3.out⟩
end
end Go.Proofs.Ytlhkmbcjgdjegaa
namespace Go.Proofs.Ytlhkmbcjgdjegaa
open Go.RowKit

/-- The reference's disk: struct in p; lasting bytes in gL, seen ones in gN (spare room rL, rN behind them), what waits in gW; how many deeds were done: m. -/
structure Rfd (w : World) (p gL gN gW : Nat) (rL rN : List Value) (m : Int) (s : St) : Prop where
  rec_ : Whole w p 143 [.slice (some ⟨gL, 0, none⟩) s.L.length (s.L.length + rL.length), .slice (some ⟨gN, 0, none⟩) s.S.length (s.S.length + rN.length), .slice (some ⟨gW, 0, none⟩) s.V.length s.V.length, .int .i64 (-1), .int .i64 m]
  last : Whole w gL 5 (bts s.L ++ rL)
  now : Whole w gN 5 (bts s.S ++ rN)
  wait : Whole w gW 4 (bls s.V)
  lenL : s.L.length = 64 * s.V.length
  lenS : s.S.length = 64 * s.V.length
  le : s.V.length ≤ 160
  ne : gL ≠ gN

section
variable {w w' : World} {p gL gN gW : Nat} {rL rN : List Value} {m : Int} {s : St}
theorem Rfd.keep (h : Rfd w p gL gN gW rL rN m s) (hc : Chg [] w w') : Rfd w' p gL gN gW rL rN m s :=
  ⟨h.rec_.keep hc, h.last.keep hc, h.now.keep hc, h.wait.keep hc, h.lenL, h.lenS, h.le, h.ne⟩
theorem Rfd.away {T : List Nat} (h : Rfd w p gL gN gW rL rN m s) (hc : Chg T w w') (h0 : p ∉ T) (h1 : gL ∉ T) (h2 : gN ∉ T) (h3 : gW ∉ T) : Rfd w' p gL gN gW rL rN m s :=
  ⟨h.rec_.chg hc h0, h.last.chg hc h1, h.now.chg hc h2, h.wait.chg hc h3, h.lenL, h.lenS, h.le, h.ne⟩

set_option maxHeartbeats 400000 in
theorem rlen_any (h : Rfd w p gL gN gW rL rN m s) : Calls Try.prog 50 #[.pointer (some ⟨p, 0, none⟩)] w fun e w' => e = .returned (.int .i64 (s.V.length : Int)) ∧ w = w' := by
  have c2 := h.rec_.cell 2
  go_enter Try.func50, Try.ntmps50
  go_wp2_with fail
  go_ret
  exact ⟨rfl, rfl⟩

set_option maxHeartbeats 1000000 in
theorem rdeed_any (h : Rfd w p gL gN gW rL rN m s) : Calls Try.prog 94 #[.pointer (some ⟨p, 0, none⟩)] w fun e w' => ∃ m', e = .returned (.bool true) ∧ Rfd w' p gL gN gW rL rN m' s ∧ Chg [p] w w' := by
  have c3 := h.rec_.cell 3
  have c4 := h.rec_.cell 4
  have f4 := h.rec_.frozen 4
  go_enter Try.func94, Try.ntmps94
  go_wp2_with fail
  go_ret
  refine ⟨_, rfl, ⟨h.rec_.set_ 4 _, h.last.far (h.last.ne_ h.rec_ (by decide)) _, h.now.far (h.now.ne_ h.rec_ (by decide)) _, h.wait.far (h.wait.ne_ h.rec_ (by decide)) _, h.lenL, h.lenS, h.le, h.ne⟩, (Chg.refl [p] w).setCell (by simp) _⟩
end
end Go.Proofs.Ytlhkmbcjgdjegaa
namespace Go.Proofs.Ytlhkmbcjgdjegaa
open Go.RowKit

theorem run_append_fresh {P : Program} (w : World) (t ty e : TypeId) (i : TypeInfo) (z : Value) (bytes : Nat) (ht : P.underlying t = some (.slice e)) (hi : P.info? e = some i) (hz : i.zero = some z) (hs : i.size = 1) (hby : i.bytes = bytes) (hz1 : z.cells.size = 1)
    (b : Addr) (sp : Option Addr) (m c : Nat) (news : List Value) (hl : news.length = m) (hm : 0 < m) (hsrc : Src w sp news) (hb : m * bytes ≤ 140737488355328) (h63 : m ≤ maxLen) :
    ∃ r : List Value, (Builtin.append_ #[t, t] ty #[.slice (some b) 0 0, .slice sp m c]).run P w = .ok (.slice (some ⟨w.heap.size, 0, none⟩) m (m + r.length)) (w.drew.alloc (.cells (news ++ r).toArray e)) := by
  subst hby
  obtain ⟨ad, rfl, _, hx⟩ := hsrc (by omega)
  have h63' : m ≤ 9223372036854775807 := by simpa [maxLen] using h63
  have h := run_append_grow (P := P) w t ty e i z ht hi hz b 0 0 [] (by simp) (by simp) ad m c news (by rw [hs, hl]; omega) hx (by omega) (by omega) (growslice_fits (by omega) (by simpa using hb))
  have hge := grownCap_ge w m 0 e
  simp only [Nat.zero_add] at h
  refine ⟨(Builtin.zeroCells z.cells (grownCap w m 0 e - m)).toList, ?_⟩
  have hlen : m + (Builtin.zeroCells z.cells (grownCap w m 0 e - m)).toList.length = grownCap w m 0 e := by
    rw [Array.length_toList, size_zeroCells, hz1]; omega
  rw [h, hlen]
  congr 3
  apply Array.ext'
  simp

theorem wpList_append_fresh {P : Program} {w : World} {ops : Array Oper} {rest : List Oper} {o : Oper} {a : Act} {Q : Exit → Act → World → Prop} (hgd : o.guard = none) (s x : Operand) (t : TypeId)
    (ho : o.op = .call { callee := .builtin .append, args := #[s, x], argTypes := #[t, t] })
    (e : TypeId) (i : TypeInfo) (z : Value) (bytes : Nat) (ht : P.underlying t = some (.slice e)) (hi : P.info? e = some i) (hz : i.zero = some z) (hs : i.size = 1) (hby : i.bytes = bytes) (hz1 : z.cells.size = 1)
    (b : Addr) (hse : a.eval s = .slice (some b) 0 0) (sp : Option Addr) (m c : Nat) (hxe : a.eval x = .slice sp m c) (news : List Value) (hl : news.length = m) (hm : 0 < m) (hsrc : Src w sp news) (hb : m * bytes ≤ 140737488355328) (h63 : m ≤ maxLen)
    (h : ∀ r : List Value, wpList P ops Q rest (a.put o.dst (.slice (some ⟨w.heap.size, 0, none⟩) m (m + r.length))) (w.drew.alloc (.cells (news ++ r).toArray e))) : wpList P ops Q (o :: rest) a w := by
  refine wpList_plain hgd fun K hK => ?_
  obtain ⟨r, hrun⟩ := run_append_fresh (P := P) w t o.type e i z bytes ht hi hz hs hby hz1 b sp m c news hl hm hsrc hb h63
  unfold Oper.wp execOp
  simp only [ho, resolve, invoke, builtin, Sem.run_bind, Sem.run_pure, Result.andThen_ok, List.map_toArray, List.map_cons, List.map_nil, hse, hxe, hrun]
  exact hK _ _ (h r)

theorem step_append_fresh {P : Program} {w : World} {ops : Array Oper} {o : Oper} {a : Act} {K : Act → World → Prop} {Q : Exit → Act → World → Prop} {E : Prop} (hgd : o.guard = none) (s x : Operand) (t : TypeId)
    (ho : o.op = .call { callee := .builtin .append, args := #[s, x], argTypes := #[t, t] })
    (e : TypeId) (i : TypeInfo) (z : Value) (bytes : Nat) (ht : P.underlying t = some (.slice e)) (hi : P.info? e = some i) (hz : i.zero = some z) (hs : i.size = 1) (hby : i.bytes = bytes) (hz1 : z.cells.size = 1)
    (b : Addr) (hse : a.eval s = .slice (some b) 0 0) (sp : Option Addr) (m c : Nat) (hxe : a.eval x = .slice sp m c) (news : List Value) (hl : news.length = m) (hm : 0 < m) (hsrc : Src w sp news) (hb : m * bytes ≤ 140737488355328) (h63 : m ≤ maxLen)
    (h : ∀ (r : List Value) (O : Obj), O = .cells (news ++ r).toArray e → K (a.put o.dst (.slice (some ⟨w.heap.size, 0, none⟩) m (m + r.length))) (w.drew.alloc O)) :
    if Region.wanted o (yielded ops a.tmps) = true then Oper.wp P o a w K Q else E := by
  have hw : Region.wanted o (yielded ops a.tmps) = true := by simp [Region.wanted, hgd]
  rw [if_pos hw]
  obtain ⟨r, hrun⟩ := run_append_fresh (P := P) w t o.type e i z bytes ht hi hz hs hby hz1 b sp m c news hl hm hsrc hb h63
  unfold Oper.wp execOp
  simp only [ho, resolve, invoke, builtin, Sem.run_bind, Sem.run_pure, Result.andThen_ok, List.map_toArray, List.map_cons, List.map_nil, hse, hxe, hrun]
  exact h r _ rfl

theorem splice_app {α : Type} (L r m : List α) (o : Nat) (h : o + m.length ≤ L.length) : splice (L ++ r) o m = splice L o m ++ r := by
  unfold splice
  rw [List.take_append_of_le_length (by omega), List.drop_append_of_le_length (by omega)]
  simp
end Go.Proofs.Ytlhkmbcjgdjegaa
namespace Go.Proofs.Ytlhkmbcjgdjegaa
open Go.RowKit

section
variable {w w' : World} {p gL gN gW : Nat} {rL rN : List Value} {m : Int} {s : St}

set_option maxHeartbeats 400000 in
theorem rwrite_no (h : Rfd w p gL gN gW rL rN m s) (i : Int) (A : Option Addr) (n c : Nat) (hi : i < 0 ∨ (s.V.length : Int) ≤ i ∨ n ≠ 64) :
    Calls Try.prog 53 #[.pointer (some ⟨p, 0, none⟩), .int .i64 i, .slice A n c] w fun e w' => e = .returned (.bool false) ∧ w = w' := by
  by_cases h0 : i < 0
  · have hd : decide (i < 0) = true := by simp; omega
    go_enter Try.func53, Try.ntmps53
    go_wp2_with fail
    go_ret
    exact ⟨rfl, rfl⟩
  · have hd : decide (i < 0) = false := by simp; omega
    by_cases h1 : (s.V.length : Int) ≤ i
    · have hd1 : decide ((s.V.length : Int) ≤ i) = true := by simp; omega
      go_enter Try.func53, Try.ntmps53
      go_wp2_with (go_at_call 50; refine (rlen_any h).mono ?_; rintro e w' ⟨rfl, rfl⟩)
      go_ret
      exact ⟨rfl, rfl⟩
    · have hd1 : decide ((s.V.length : Int) ≤ i) = false := by simp; omega
      have hd2 : ((n : Int) != 64) = true := by simp; omega
      clear hi
      go_enter Try.func53, Try.ntmps53
      go_wp2_with (go_at_call 50; refine (rlen_any h).mono ?_; rintro e w' ⟨rfl, rfl⟩)
      go_ret
      exact ⟨rfl, rfl⟩

set_option maxHeartbeats 1000000 in
theorem rwrite_yes (h : Rfd w p gL gN gW rL rN m s) (k : Nat) (hk : k < s.V.length) {A : Option Addr} {c : Nat} {x : List UInt8} (hx : x.length = 64) (hs : Src w A (bts x)) (hA : ∀ ad, A = some ad → ad.block ≠ p) :
    Calls Try.prog 53 #[.pointer (some ⟨p, 0, none⟩), .int .i64 (k : Int), .slice A 64 c] w fun e w' => ∃ m', e = .returned (.bool true) ∧
      Rfd w' p gL gN gW rL rN m' (s.write k x) ∧ Chg [p, gN, gW] w w' := by
  have hd : decide ((k : Int) < 0) = false := by simp
  have hd1 : decide ((s.V.length : Int) ≤ (k : Int)) = false := by simp; omega
  have hS := h.lenS
  have hv := h.le
  have s1 : 64 * (k + 1) ≤ s.S.length := by omega
  have s2 : s.S.length ≤ 1000000 := by omega
  have hne : ¬ (s.S.length + rN.length = k * 64) := by omega
  have hle : k * 64 ≤ s.S.length := by omega
  clear hS
  have hfit : k * 64 + (bts x).length ≤ (bts s.S ++ rN).length := by rw [List.length_append, bts_len, bts_len]; omega
  have Hn := Lib.hid (show (bts x).length = Nat.min 64 (s.S.length - k * 64) by rw [bts_len, hx]; exact (Nat.min_eq_left (by omega)).symm)
  have Hx := Lib.hid hx
  have b1 := bts_one x
  have HA := Lib.hid hA
  have n2 := Lib.hid (show p ∉ [gN] by simpa using h.rec_.ne_ h.now (by decide))
  have n3 := Lib.hid (show gW ∉ [gN] by simpa using h.wait.ne_ h.now (by decide))
  have HX := Lib.hid (show splice (bts s.S ++ rN) (k * 64) (bts x) = bts (splice s.S (k * 64) x) ++ rN by rw [splice_app _ _ _ _ (by rw [bts_len, bts_len]; omega), bts_splice])
  obtain ⟨Y, hY⟩ : ∃ Y, Y = bts x := ⟨_, rfl⟩
  rw [← hY] at hfit Hn b1 hs HX
  clear hx hY hA
  go_enter Try.func53, Try.ntmps53
  go_wp2_with (go_at_call 50; refine (rlen_any h).mono ?_; rintro e w' ⟨rfl, rfl⟩)
  refine (rdeed_any h).mono ?_
  rintro e w1 ⟨m1, rfl, h1, hc1⟩
  have c1 := h1.rec_.cell 1
  have hs1 : Src w1 A Y := hs.chg hc1 (fun _ ad e => by simpa using HA.out ad e)
  go_wp2_with (with_reducible refine wpList_copy_chg rfl (.tmp 28) (.tmp 29) _ _ rfl 5 Try.underlying22 size_u8 (some ⟨gN, k * 64, none⟩) A (s.S.length - k * 64) (s.S.length + rN.length - k * 64) 64 c rfl rfl gN (k * 64) 5 (bts s.S ++ rN) Y h1.now Hn.out (fun _ => rfl) hs1 hfit b1 ?_
               intro w2 HG HC
               have R2 := h1.rec_.chg HC n2.out
               have V2 := h1.wait.chg HC n3.out
               have c2 := R2.cell 2
               have c4 := (V2.cell k).trans (bls_get s.V k hk)
               have c5 := V2.frozen k)
  go_ret
  rw [HX.out] at HG
  have eS : (splice s.S (k * 64) x).length = s.S.length := length_splice _ _ _ (by rw [Hx.out]; omega)
  have d1 := h1.rec_.ne_ h1.wait (by decide)
  have d2 := h1.last.ne_ h1.wait (by decide)
  have d3 := h1.now.ne_ h1.wait (by decide)
  have hw : Whole (w2.setCell ⟨gW, k, none⟩ (.bool true)) gW 4 (bls (s.V.set k true)) := by
    have := V2.set_ k (.bool true)
    rwa [bls_set] at this
  refine ⟨m1, rfl, ⟨?_, (h1.last.chg HC (by simpa using h1.ne)).far d2 _, HG.far d3 _, hw, by simp only [St.write, List.length_set]; exact h.lenL, by simp only [St.write, List.length_set]; rw [eS]; exact h.lenS, by simp only [St.write, List.length_set]; exact h.le, h.ne⟩, ?_⟩
  · simp only [St.write, List.length_set]
    rw [eS]
    exact R2.far d1 _
  · exact (((hc1.sub (by simp)).trans (HC.sub (T' := [p, gN, gW]) (by simp)))).setCell (by simp) _

set_option maxHeartbeats 400000 in
theorem rread_no (h : Rfd w p gL gN gW rL rN m s) (i : Int) (hi : i < 0 ∨ (s.V.length : Int) ≤ i) :
    Calls Try.prog 52 #[.pointer (some ⟨p, 0, none⟩), .int .i64 i] w fun e w' => e = .returned (.tuple #[.slice none 0 0, .bool false]) ∧ w = w' := by
  by_cases h0 : i < 0
  · have hd : decide (i < 0) = true := by simp; omega
    go_enter Try.func52, Try.ntmps52
    go_wp2_with fail
    go_ret2
    exact ⟨rfl, rfl⟩
  · have hd : decide (i < 0) = false := by simp; omega
    have hd1 : decide ((s.V.length : Int) ≤ i) = true := by simp; omega
    go_enter Try.func52, Try.ntmps52
    go_wp2_with (go_at_call 50; refine (rlen_any h).mono ?_; rintro e w' ⟨rfl, rfl⟩)
    go_ret2
    exact ⟨rfl, rfl⟩

set_option maxHeartbeats 1000000 in
set_option maxRecDepth 100000 in
theorem rread_yes (h : Rfd w p gL gN gW rL rN m s) (k : Nat) (hk : k < s.V.length) :
    Calls Try.prog 52 #[.pointer (some ⟨p, 0, none⟩), .int .i64 (k : Int)] w fun e w' => ∃ g c, e = .returned (.tuple #[.slice (some ⟨g, 0, none⟩) 64 c, .bool true]) ∧
      (∃ r, Whole w' g 5 (bts ((s.S.drop (k * 64)).take 64) ++ r)) ∧ Chg [] w w' := by
  obtain ⟨i0, hi, hz0, hz1, hz2⟩ := info_parts info_u8
  have hd : decide ((k : Int) < 0) = false := by simp
  have hd1 : decide ((s.V.length : Int) ≤ (k : Int)) = false := by simp; omega
  have c1 := fun o => (h.keep ((Chg.refl [] w).alloc o)).rec_.cell 1
  have hS := h.lenS
  have hv := h.le
  have s1 : 64 * (k + 1) ≤ s.S.length := by omega
  have s2 : s.S.length ≤ 1000000 := by omega
  have hne : ¬ (s.S.length + rN.length = k * 64) := by omega
  have hu : (k + 1) * 64 ≤ s.S.length + rN.length := by omega
  clear hS
  have Hl := Lib.hid (show (bts ((s.S.drop (k * 64)).take 64)).length = 64 by rw [bts_len, List.length_take, List.length_drop]; omega)
  have hsr : Src w (some ⟨gN, k * 64, none⟩) (bts ((s.S.drop (k * 64)).take 64)) := by
    have := Src.of_whole h.now (k * 64) 64
    rwa [List.drop_append_of_le_length (by rw [bts_len]; omega), List.take_append_of_le_length (by rw [List.length_drop, bts_len]; omega), bts_cut] at this
  obtain ⟨Y, hY⟩ : ∃ Y, Y = bts ((s.S.drop (k * 64)).take 64) := ⟨_, rfl⟩
  rw [← hY] at Hl hsr
  rw [← hY]
  clear hY
  go_enter Try.func52, Try.ntmps52
  have Hm := Lib.hid (show Y.length = (k + 1) * 64 - k * 64 by rw [Hl.out]; omega)
  have Hpos : 0 < (k + 1) * 64 - k * 64 := by omega
  have Hb : ((k + 1) * 64 - k * 64) * 1 ≤ 140737488355328 := by omega
  have Hb2 : (k + 1) * 64 - k * 64 ≤ maxLen := by unfold maxLen; omega
  have H64 := Lib.hid (show (k + 1) * 64 - k * 64 = 64 by omega)
  go_wp2_with (first
    | (go_at_call 50; refine (rlen_any h).mono ?_; rintro e w' ⟨rfl, rfl⟩)
    | (at_builtin
       refine wpList_append_fresh rfl (.tmp 14) (.tmp 24) _ rfl 5 i0 (.int .u8 0) 1 Try.underlying22 hi hz0 hz1 hz2 rfl ⟨w.heap.size, 0, none⟩ rfl (some ⟨gN, k * 64, none⟩) ((k + 1) * 64 - k * 64) (s.S.length + rN.length - k * 64) rfl Y Hm.out Hpos (hsr.keep ((Chg.refl _ _).alloc _)) Hb Hb2 ?_
       intro r))
  go_ret2
  rw [H64.out]
  refine ⟨_, _, rfl, ⟨r, ?_⟩, (((Chg.refl [] w).alloc _).drew).alloc _⟩
  exact whole_at (Whole.new _ _ _) (by simp)
end
end Go.Proofs.Ytlhkmbcjgdjegaa
namespace Go.Proofs.Ytlhkmbcjgdjegaa
open Go.RowKit
section
variable {w : World} {p gL gN gW : Nat} {rL rN : List Value} {m : Int} {s : St}
set_option maxHeartbeats 1000000 in
set_option maxRecDepth 100000 in
theorem rread_own (h : Rfd w p gL gN gW rL rN m s) (k : Nat) (hk : k < s.V.length) :
    Calls Try.prog 52 #[.pointer (some ⟨p, 0, none⟩), .int .i64 (k : Int)] w fun e w' => ∃ v, e = .returned (.tuple #[v, .bool true]) ∧
      w'.ownsRow w.heap.size 5 1 v 64 (bts ((s.S.drop (k * 64)).take 64)) ∧ Chg [] w w' := by
  obtain ⟨i0, hi, hz0, hz1, hz2⟩ := info_parts info_u8
  have hd : decide ((k : Int) < 0) = false := by simp
  have hd1 : decide ((s.V.length : Int) ≤ (k : Int)) = false := by simp; omega
  have c1 := fun o => (h.keep ((Chg.refl [] w).alloc o)).rec_.cell 1
  have hS := h.lenS
  have hv := h.le
  have s1 : 64 * (k + 1) ≤ s.S.length := by omega
  have s2 : s.S.length ≤ 1000000 := by omega
  have hne : ¬ (s.S.length + rN.length = k * 64) := by omega
  have hu : (k + 1) * 64 ≤ s.S.length + rN.length := by omega
  clear hS
  have Hl := Lib.hid (show (bts ((s.S.drop (k * 64)).take 64)).length = 64 by rw [bts_len, List.length_take, List.length_drop]; omega)
  have hsr : Src w (some ⟨gN, k * 64, none⟩) (bts ((s.S.drop (k * 64)).take 64)) := by
    have := Src.of_whole h.now (k * 64) 64
    rwa [List.drop_append_of_le_length (by rw [bts_len]; omega), List.take_append_of_le_length (by rw [List.length_drop, bts_len]; omega), bts_cut] at this
  have h1 := bts_one ((s.S.drop (k * 64)).take 64)
  obtain ⟨Y, hY⟩ : ∃ Y, Y = bts ((s.S.drop (k * 64)).take 64) := ⟨_, rfl⟩
  rw [← hY] at Hl hsr h1
  rw [← hY]
  clear hY
  go_enter Try.func52, Try.ntmps52
  have Hm := Lib.hid (show Y.length = (k + 1) * 64 - k * 64 by rw [Hl.out]; omega)
  have Hb : (0 + ((k + 1) * 64 - k * 64)) * 1 ≤ 140737488355328 := by omega
  have Hb2 : 0 + ((k + 1) * 64 - k * 64) ≤ maxLen := by unfold maxLen; omega
  have H64 := Lib.hid (show 0 + ((k + 1) * 64 - k * 64) = 64 by omega)
  have ho0 : (w.alloc (.cells #[] 5)).ownsRow w.heap.size 5 1 (.slice (some ⟨w.heap.size, 0, none⟩) 0 0) 0 [] :=
    own_of_whole (B := w.heap.size) (n := 0) (c := 0) (Whole.new w 5 []) (Nat.le_refl _) rfl (by omega) (by unfold maxLen; omega)
  go_wp2_with (first
    | (go_at_call 50; refine (rlen_any h).mono ?_; rintro e w' ⟨rfl, rfl⟩)
    | (at_builtin
       refine wpList_append_src rfl (.tmp 14) (.tmp 24) 22 rfl w.heap.size 5 i0 (.int .u8 0) 1 Try.underlying22 hi hz0 hz1 hz2 rfl (.slice (some ⟨w.heap.size, 0, none⟩) 0 0) 0 [] rfl ho0 (some ⟨gN, k * 64, none⟩) ((k + 1) * 64 - k * 64) (s.S.length + rN.length - k * 64) Y rfl Hm.out (hsr.keep ((Chg.refl _ _).alloc _)) h1 Hb2 Hb (by simp) ?_
       intro v4 w4 ho4 hg4 _))
  go_ret2
  rw [H64.out] at ho4
  rw [List.nil_append] at ho4
  exact ⟨_, rfl, ho4, ((Chg.refl [] w).alloc _).own ho0 (Nat.le_refl _) hg4⟩
end
end Go.Proofs.Ytlhkmbcjgdjegaa
namespace Go.Proofs.Ytlhkmbcjgdjegaa
open Go.RowKit
/-- The first n pages. -/
def pagesL (s : St) (L : Int) (n : Nat) : List (List UInt8) := (List.range n).map fun i => sectL s.S s.V.length (2 + L.toNat + i)
/-- All pages, or none. -/
def allL (s : St) (L P E : Int) : List (List UInt8) := if rightR L P E s.V.length = true then pagesL s L P.toNat else []
theorem pagesL_next (s : St) (L : Int) (n : Nat) : pagesL s L (n + 1) = pagesL s L n ++ [sectL s.S s.V.length (2 + L.toNat + n)] := by
  unfold pagesL; rw [List.range_succ, List.map_append]; rfl
theorem pagesL_len (s : St) (L : Int) (n : Nat) : (pagesL s L n).length = n := by simp [pagesL]
theorem hasR_at {L P E : Int} {n k : Nat} (h : rightR L P E n = true) (hk : (k : Int) < P) : hasR L P E k n = true ∧ (homeI L P k).toNat = 2 + L.toNat + k ∧ 2 + L.toNat + k < n ∧ homeI L P k = ((2 + L.toNat + k : Nat) : Int) := by
  have h1 := hasR_in (i := k) h (by omega) hk
  obtain ⟨a, b, c, d, e, f⟩ := rightR_true.1 h
  have e1 := homeI_in (L := L) (P := P) (i := k) a b d (by omega) hk
  exact ⟨h1, by rw [e1]; omega, by omega, by rw [e1]; omega⟩
/-- Rows of the call's own. -/
def RowsPost (w : World) (ls : List (List UInt8)) (e : Ending) (w' : World) : Prop :=
  ∃ v vs, e = .returned v ∧ w'.ownsRow w.heap.size 22 1 v ls.length vs ∧ Rows w.heap.size w' vs ls ∧ Chg [] w w'
section
variable {w : World} {p bL bS bW : Nat} {s : St}
set_option maxHeartbeats 1000000 in
set_option maxRecDepth 100000 in
theorem hall_any (h : DskS w p bL bS bW s) (L P E : Int) :
    Calls Try.prog 21 #[.pointer (some ⟨p, 0, none⟩), rootV L P E] w (RowsPost w (allL s L P E)) := by
  obtain ⟨i0, hi, hz, hs1, hb⟩ := info_parts info_bytes
  have hr0 : rootV L P E = .agg #[.int .i64 L, .int .i64 P, .int .u32 E] := rfl
  have H := Lib.hid h
  clear h
  rw [hr0]
  go_enter Try.func21, Try.ntmps21
  go_wp2_with fail
  have hR := Whole.new w 26 [.int .i64 L, .int .i64 P, .int .u32 E]
  have hc1 : Chg [] w (w.alloc (.cells #[.int .i64 L, .int .i64 P, .int .u32 E] 26)) := (Chg.refl [] w).alloc _
  obtain ⟨g, hg⟩ : ∃ g, g = w.heap.size := ⟨_, rfl⟩
  rw [← hg] at hR ⊢
  generalize w.alloc (.cells #[.int .i64 L, .int .i64 P, .int .u32 E] 26) = w1 at hc1 hR ⊢
  clear hg
  obtain ⟨c0, c1, c2, _, _, _⟩ := root_cells hR
  go_wp2_with fail
  clear c0 c1 c2
  cases hrr : rightR L P E s.V.length with
  | false =>
    have HF := Lib.hid (show allL s L P E = [] by unfold allL; rw [if_neg (by rw [hrr]; simp)])
    go_loopw [5, 11] (fun v i wr => v = .slice none 0 0 ∧ i = .int .i64 0 ∧ Chg [] w1 wr) (fun _ _ _ => 0)
    case atStart => exact ⟨rfl, rfl, Chg.refl _ _⟩
    case round =>
      obtain ⟨rfl, rfl, hcr⟩ := hrel
      by_cases hP : 0 < P
      · obtain ⟨c0, c1, c2, _, _, _⟩ := root_cells (hR.keep hcr)
        go_wp2_with fail
        refine (hpage_any (Dsk.keep H.out (hc1.new hcr)) L P E 0).mono ?_
        rintro e w2 (⟨hyes, _⟩ | ⟨_, rfl, hc2⟩)
        · rw [hasR_wrong hrr] at hyes; cases hyes
        clear c0 c1 c2
        go_wp2_with fail
        go_ret
        rw [HF.out]
        exact ⟨_, [], rfl, own_nil _ _ _, Rows.nil _ _, (hc1.new hcr).new hc2⟩
      · go_wp2_with fail
        go_ret
        rw [HF.out]
        exact ⟨_, [], rfl, own_nil _ _ _, Rows.nil _ _, hc1.new hcr⟩
  | true =>
    have hP1 : 1 ≤ P := (rightR_true.1 hrr).2.2.1
    have hP64 : P ≤ 64 := (rightR_true.1 hrr).2.2.2.1
    have HF := Lib.hid (show allL s L P E = pagesL s L P.toNat by unfold allL; rw [if_pos hrr])
    go_loopw [5, 11] (fun v i wr => ∃ k : Nat, ∃ vs, (k : Int) ≤ P ∧ i = .int .i64 (k : Int) ∧ wr.ownsRow w1.heap.size 22 1 v k vs ∧ Rows w.heap.size wr vs (pagesL s L k) ∧ Chg [] w1 wr) (fun _ i _ => P.toNat - (intOf i).toNat)
    case atStart => exact ⟨0, [], by omega, rfl, own_nil _ _ _, Rows.nil _ _, Chg.refl _ _⟩
    case round =>
      obtain ⟨k, vs, hk, rfl, hown, hrows, hcr⟩ := hrel
      obtain ⟨Av, cv, rfl, hvl, hvc, _⟩ := own_slice hown
      have hcw := Lib.hid (hc1.new hcr)
      by_cases hlt : (k : Int) < P
      · obtain ⟨hh, hx, -, -⟩ := hasR_at hrr hlt
        have HX := Lib.hid hx
        clear hx
        obtain ⟨c0, c1, c2, _, _, _⟩ := root_cells (hR.keep hcr)
        go_wp2_with fail
        refine (hpage_any (Dsk.keep H.out hcw.out) L P E k).mono ?_
        rintro e w2 (⟨_, v2, rfl, ho2, hc2⟩ | ⟨hno, _⟩)
        rotate_left
        · rw [hh] at hno; cases hno
        rw [HX.out] at ho2
        obtain ⟨A2, c2', rfl, _⟩ := own_slice ho2
        have how := own_keep hown hc2
        have hrw := hrows.keep hc2
        have hb2 := Nat.le_trans hcr.size hc2.size
        have hx1 := Lib.hid (show k + 1 ≤ maxLen by unfold maxLen; omega)
        have hx2 := Lib.hid (show (k + 1) * 24 ≤ 140737488355328 by omega)
        have hx3 := Lib.hid hb2
        clear c0 c1 c2 hb2
        go_wp2_with (at_builtin
                     refine wpList_append_src rfl (.tmp 23) (.tmp 25) 30 rfl w1.heap.size 22 i0 _ 24 Try.underlying30 hi hz hs1 hb cells_slice (.slice Av k cv) k vs rfl (own_keep how ((Chg.refl _ _).alloc _)) (some ⟨w2.heap.size, 0, none⟩) 1 1 [.slice A2 64 c2'] rfl rfl (Src.of_all (Whole.new w2 22 [.slice A2 64 c2'])) (fun u hu => by simp at hu; rw [hu]; rfl) hx1.out hx2.out (by simp; have := hx3.out; omega) ?_
                     intro v4 w4 ho4 hg4 _)
        have hlen := sectL_len (k := 2 + L.toNat + k) H.out.lenS (hasR_at hrr hlt).2.2.1
        have hch1 : Chg [] w1 w4 := ((hcr.new hc2).alloc _).own (own_keep how ((Chg.refl _ _).alloc _)) (Nat.le_refl _) hg4
        go_roundw
        case rel =>
          refine ⟨k + 1, _, by omega, by go_num, ho4, ?_, hch1⟩
          rw [pagesL_next]
          exact ((hrw.keep ((Chg.refl _ _).alloc _)).snoc (by rw [hlen]; exact own_more (own_keep ho2 ((Chg.refl _ _).alloc _)) hcw.out.size)).grown (own_keep how ((Chg.refl _ _).alloc _)) hg4
        case measure => simp [intOf]; omega
      · go_wp2_with fail
        go_ret
        rw [HF.out]
        have hkP : P.toNat = k := by omega
        rw [hkP]
        exact ⟨_, vs, rfl, by rw [pagesL_len]; exact own_more hown hc1.size, hrows, hcw.out⟩
end
section
variable {w : World} {p gL gN gW : Nat} {rL rN : List Value} {m : Int} {s : St}
set_option maxHeartbeats 1000000 in
set_option maxRecDepth 100000 in
theorem rall_any (h : Rfd w p gL gN gW rL rN m s) (L P E : Int) :
    Calls Try.prog 55 #[.pointer (some ⟨p, 0, none⟩), rootV L P E] w (RowsPost w (allL s L P E)) := by
  obtain ⟨i0, hi, hz, hs1, hb⟩ := info_parts info_bytes
  have hr0 : rootV L P E = .agg #[.int .i64 L, .int .i64 P, .int .u32 E] := rfl
  have H := Lib.hid h
  clear h
  rw [hr0]
  go_enter Try.func55, Try.ntmps55
  go_wp2_with fail
  have hR := Whole.new w 26 [.int .i64 L, .int .i64 P, .int .u32 E]
  have hc1 : Chg [] w (w.alloc (.cells #[.int .i64 L, .int .i64 P, .int .u32 E] 26)) := (Chg.refl [] w).alloc _
  obtain ⟨g, hg⟩ : ∃ g, g = w.heap.size := ⟨_, rfl⟩
  rw [← hg] at hR ⊢
  generalize w.alloc (.cells #[.int .i64 L, .int .i64 P, .int .u32 E] 26) = w1 at hc1 hR ⊢
  clear hg
  have hld := fun (W : World) (hW : Chg [] w1.drew W) => root_cells (hR.drew.keep hW)
  cases hrr : rightR L P E s.V.length with
  | false =>
    have HF := Lib.hid (show allL s L P E = [] by unfold allL; rw [if_neg (by rw [hrr]; simp)])
    refine wp_flow (by kernel_rfl) plainT plainT_ok (by kernel_rfl) ?_
    refine flow1h (r := rootV L P E) plainT_ok rfl (.out rfl rfl) rfl (fun ev W he hW e1 => by obtain ⟨c0, c1, c2, _, _, _⟩ := hld W hW; go_simp) ?_
    refine flow_move_out plainT_ok rfl rfl rfl ?_
    refine flow_callv (.int .i64 (s.V.length : Int)) (by kernel_rfl) rfl (.cons (.inn rfl) .nil) (fun W hW => (rlen_any ((H.out.keep hc1.drew).keep hW)).mono ?_) ?_
    · rintro e w' ⟨rfl, rfl⟩; exact ⟨rfl, Chg.refl _ _⟩
    refine flow_callv (.bool false) (by kernel_rfl) rfl (.cons (.inn rfl) (.cons (.inn rfl) .nil)) (fun W hW => (rrright_any _ _ _ _).mono ?_) ?_
    · rintro e w' ⟨rfl, hc⟩; exact ⟨by rw [hrr], hc⟩
    refine flow1 (r := .bool true) plainT_ok rfl (.inn rfl) rfl (fun ev W he e1 => by go_simp) ?_
    intro vs W hW hF
    have e13 : vs 13 = .bool true := hF 13 _ rfl rfl
    simp only [putAll, Act.put, List.setIfInBounds_toArray, List.set_cons_zero, List.set_cons_succ, e13]
    have hRW := hR.drew.keep hW
    have hcW := hc1.drew.new hW
    clear hF hld hW
    go_wp2_with fail
    go_ret
    rw [HF.out]
    exact ⟨_, [], rfl, own_nil _ _ _, Rows.nil _ _, hcW⟩
  | true =>
    have hP1 : 1 ≤ P := (rightR_true.1 hrr).2.2.1
    have hP64 : P ≤ 64 := (rightR_true.1 hrr).2.2.2.1
    have HF := Lib.hid (show allL s L P E = pagesL s L P.toNat by unfold allL; rw [if_pos hrr])
    refine wp_flow (by kernel_rfl) plainT plainT_ok (by kernel_rfl) ?_
    refine flow1h (r := rootV L P E) plainT_ok rfl (.out rfl rfl) rfl (fun ev W he hW e1 => by obtain ⟨c0, c1, c2, _, _, _⟩ := hld W hW; go_simp) ?_
    refine flow_move_out plainT_ok rfl rfl rfl ?_
    refine flow_callv (.int .i64 (s.V.length : Int)) (by kernel_rfl) rfl (.cons (.inn rfl) .nil) (fun W hW => (rlen_any ((H.out.keep hc1.drew).keep hW)).mono ?_) ?_
    · rintro e w' ⟨rfl, rfl⟩; exact ⟨rfl, Chg.refl _ _⟩
    refine flow_callv (.bool true) (by kernel_rfl) rfl (.cons (.inn rfl) (.cons (.inn rfl) .nil)) (fun W hW => (rrright_any _ _ _ _).mono ?_) ?_
    · rintro e w' ⟨rfl, hc⟩; exact ⟨by rw [hrr], hc⟩
    refine flow1 (r := .bool false) plainT_ok rfl (.inn rfl) rfl (fun ev W he e1 => by go_simp) ?_
    intro vs W hW hF
    have e13 : vs 13 = .bool false := hF 13 _ rfl rfl
    simp only [putAll, Act.put, List.setIfInBounds_toArray, List.set_cons_zero, List.set_cons_succ, e13]
    have hRW := hR.drew.keep hW
    have hcW := hc1.drew.new hW
    clear hF hld hW
    go_wp2_with fail
    go_loopw [5, 6] (fun v i wr => ∃ k : Nat, ∃ vs, (k : Int) ≤ P ∧ i = .int .i64 (k : Int) ∧ wr.ownsRow W.heap.size 22 1 v k vs ∧ Rows w.heap.size wr vs (pagesL s L k) ∧ Chg [] W wr) (fun _ i _ => P.toNat - (intOf i).toNat)
    case atStart => exact ⟨0, [], by omega, rfl, own_nil _ _ _, Rows.nil _ _, Chg.refl _ _⟩
    case round =>
      obtain ⟨k, vs, hk, rfl, hown, hrows, hcr⟩ := hrel
      obtain ⟨Av, cv, rfl, hvl, hvc, _⟩ := own_slice hown
      have hcw := Lib.hid (hcW.new hcr)
      by_cases hlt : (k : Int) < P
      · obtain ⟨q, hq, hkn, hx⟩ : ∃ q, q = 2 + L.toNat + k ∧ q < s.V.length ∧ homeI L P k = (q : Int) := ⟨_, rfl, (hasR_at hrr hlt).2.2.1, (hasR_at hrr hlt).2.2.2⟩
        have HQ := Lib.hid hq
        have HS := Lib.hid (show sectL s.S s.V.length q = (s.S.drop (q * 64)).take 64 by unfold sectL; rw [if_pos hkn])
        clear hq
        have HX := Lib.hid hx
        clear hx
        obtain ⟨c0, c1, c2, _, _, _⟩ := root_cells (hRW.keep hcr)
        go_wp2_with fail
        refine (rhome_any L P E k).mono ?_
        rintro e wa ⟨rfl, hca⟩
        rw [HX.out]
        have HCA := Lib.hid hca
        clear hca
        go_wp2_with fail
        refine (rread_own ((H.out.keep hcw.out).keep HCA.out) q hkn).mono ?_
        rintro e w2 ⟨v2, rfl, ho2, hc2'⟩
        have hc2 : Chg [] wr w2 := HCA.out.new hc2'
        have ho2 := own_more ho2 HCA.out.size
        rw [← HS.out] at ho2
        clear hc2'
        obtain ⟨A2, c2', rfl, _⟩ := own_slice ho2
        have how := own_keep hown hc2
        have hrw := hrows.keep hc2
        have hb2 := Nat.le_trans hcr.size hc2.size
        have hx1 := Lib.hid (show k + 1 ≤ maxLen by unfold maxLen; omega)
        have hx2 := Lib.hid (show (k + 1) * 24 ≤ 140737488355328 by omega)
        have hx3 := Lib.hid hb2
        clear c0 c1 c2 hb2
        go_wp2_with (at_builtin
                     refine wpList_append_src rfl (.tmp 29) (.tmp 31) 30 rfl W.heap.size 22 i0 _ 24 Try.underlying30 hi hz hs1 hb cells_slice (.slice Av k cv) k vs rfl (own_keep how ((Chg.refl _ _).alloc _)) (some ⟨w2.heap.size, 0, none⟩) 1 1 [.slice A2 64 c2'] rfl rfl (Src.of_all (Whole.new w2 22 [.slice A2 64 c2'])) (fun u hu => by simp at hu; rw [hu]; rfl) hx1.out hx2.out (by simp; have := hx3.out; omega) ?_
                     intro v4 w4 ho4 hg4 _)
        have hlen := sectL_len (k := q) H.out.lenS hkn
        have hch1 : Chg [] W w4 := ((hcr.new hc2).alloc _).own (own_keep how ((Chg.refl _ _).alloc _)) (Nat.le_refl _) hg4
        go_roundw
        case rel =>
          refine ⟨k + 1, _, by omega, by go_num, ho4, ?_, hch1⟩
          rw [pagesL_next, ← HQ.out]
          exact ((hrw.keep ((Chg.refl _ _).alloc _)).snoc (by rw [hlen]; exact own_more (own_keep ho2 ((Chg.refl _ _).alloc _)) hcw.out.size)).grown (own_keep how ((Chg.refl _ _).alloc _)) hg4
        case measure => simp [intOf]; omega
      · obtain ⟨c0, c1, c2, _, _, _⟩ := root_cells (hRW.keep hcr)
        go_wp2_with fail
        go_ret
        rw [HF.out]
        have hkP : P.toNat = k := by omega
        rw [hkP]
        exact ⟨_, vs, rfl, by rw [pagesL_len]; exact own_more hown hcW.size, hrows, hcw.out⟩
end
end Go.Proofs.Ytlhkmbcjgdjegaa
namespace Go.Proofs.Ytlhkmbcjgdjegaa
open Go.RowKit
section
variable {w : World} {p gL gN gW : Nat} {rL rN : List Value} {m : Int} {s : St}
set_option maxHeartbeats 2000000 in
set_option maxRecDepth 100000 in
theorem rlog_nil (h : Rfd w p gL gN gW rL rN m s) (L P E : Int) :
    Calls Try.prog 103 #[.pointer (some ⟨p, 0, none⟩), rootV L P E] w fun e w' => BytesPost w (logL s L P E) e w' ∧ (rightR L P E s.V.length = false → e = .returned (.slice none 0 0)) := by
  obtain ⟨iu, hui, huz, hus, hub⟩ := info_parts info_byte
  have hr0 : rootV L P E = .agg #[.int .i64 L, .int .i64 P, .int .u32 E] := rfl
  have H := Lib.hid h
  clear h
  rw [hr0]
  go_enter Try.func103, Try.ntmps103
  go_wp2_with fail
  have hR := Whole.new w 26 [.int .i64 L, .int .i64 P, .int .u32 E]
  have hc1 : Chg [] w (w.alloc (.cells #[.int .i64 L, .int .i64 P, .int .u32 E] 26)) := (Chg.refl [] w).alloc _
  obtain ⟨g, hg⟩ : ∃ g, g = w.heap.size := ⟨_, rfl⟩
  rw [← hg] at hR ⊢
  generalize w.alloc (.cells #[.int .i64 L, .int .i64 P, .int .u32 E] 26) = w1 at hc1 hR ⊢
  clear hg
  have hld := fun (W : World) (hW : Chg [] w1.drew W) => root_cells (hR.drew.keep hW)
  cases hrr : rightR L P E s.V.length with
  | false =>
    have HF := Lib.hid (show logL s L P E = [] by unfold logL; rw [if_neg (by rw [hrr]; simp)])
    refine wp_flow (by kernel_rfl) plainT plainT_ok (by kernel_rfl) ?_
    refine flow1h (r := rootV L P E) plainT_ok rfl (.out rfl rfl) rfl (fun ev W he hW e1 => by obtain ⟨c0, c1, c2, _, _, _⟩ := hld W hW; go_simp) ?_
    refine flow_move_out plainT_ok rfl rfl rfl ?_
    refine flow_callv (.int .i64 (s.V.length : Int)) (by kernel_rfl) rfl (.cons (.inn rfl) .nil) (fun W hW => (rlen_any ((H.out.keep hc1.drew).keep hW)).mono ?_) ?_
    · rintro e w' ⟨rfl, rfl⟩; exact ⟨rfl, Chg.refl _ _⟩
    refine flow_callv (.bool false) (by kernel_rfl) rfl (.cons (.inn rfl) (.cons (.inn rfl) .nil)) (fun W hW => (rrright_any _ _ _ _).mono ?_) ?_
    · rintro e w' ⟨rfl, hc⟩; exact ⟨by rw [hrr], hc⟩
    refine flow1 (r := .bool true) plainT_ok rfl (.inn rfl) rfl (fun ev W he e1 => by go_simp) ?_
    intro vs W hW hF
    have e13 : vs 13 = .bool true := hF 13 _ rfl rfl
    simp only [putAll, Act.put, List.setIfInBounds_toArray, List.set_cons_zero, List.set_cons_succ, e13]
    have HCW := Lib.hid (hc1.drew.new hW)
    clear hF hld hW
    go_wp2_with fail
    go_ret
    rw [HF.out]
    exact ⟨⟨_, rfl, own_nil _ _ _, HCW.out⟩, fun _ => rfl⟩
  | true =>
    have hrt := rightR_true.1 hrr
    obtain ⟨l, rfl⟩ := Int.eq_ofNat_of_zero_le (show 0 ≤ L by omega)
    have hl1 : 1 ≤ l := by omega
    have hl64 : l ≤ 64 := by omega
    have hlV : 2 + l ≤ s.V.length := by omega
    have HF := Lib.hid (show logL s l P E = logB s l by unfold logL; rw [if_pos hrr, Int.toNat_natCast])
    have HS := Lib.hid H.out.lenS
    refine wp_flow (by kernel_rfl) plainT plainT_ok (by kernel_rfl) ?_
    refine flow1h (r := rootV l P E) plainT_ok rfl (.out rfl rfl) rfl (fun ev W he hW e1 => by obtain ⟨c0, c1, c2, _, _, _⟩ := hld W hW; go_simp) ?_
    refine flow_move_out plainT_ok rfl rfl rfl ?_
    refine flow_callv (.int .i64 (s.V.length : Int)) (by kernel_rfl) rfl (.cons (.inn rfl) .nil) (fun W hW => (rlen_any ((H.out.keep hc1.drew).keep hW)).mono ?_) ?_
    · rintro e w' ⟨rfl, rfl⟩; exact ⟨rfl, Chg.refl _ _⟩
    refine flow_callv (.bool true) (by kernel_rfl) rfl (.cons (.inn rfl) (.cons (.inn rfl) .nil)) (fun W hW => (rrright_any _ _ _ _).mono ?_) ?_
    · rintro e w' ⟨rfl, hc⟩; exact ⟨by rw [hrr], hc⟩
    refine flow1 (r := .bool false) plainT_ok rfl (.inn rfl) rfl (fun ev W he e1 => by go_simp) ?_
    intro vs W hW hF
    have e13 : vs 13 = .bool false := hF 13 _ rfl rfl
    simp only [putAll, Act.put, List.setIfInBounds_toArray, List.set_cons_zero, List.set_cons_succ, e13]
    have HRW := Lib.hid (hR.drew.keep hW)
    have HCW := Lib.hid (hc1.drew.new hW)
    clear hF hld hW hR hc1 hrt
    go_wp2_with fail
    go_loopw [5, 6] (fun v i wr => ∃ k : Nat, k ≤ l ∧ (∃ q : Nat, i = .int .i64 (q : Int) ∧ Hid (q = 2 + k)) ∧ (∃ n, Hid (n = k * 64) ∧ wr.ownsRow W.heap.size 5 1 v n (bts (logB s k))) ∧ Hid (Chg [] W wr)) (fun _ i _ => 2 + l - (intOf i).toNat)
    case atStart => exact ⟨0, by omega, ⟨2, rfl, Lib.hid rfl⟩, ⟨0, Lib.hid rfl, by unfold logB; simpa [bts] using own_nil _ _ _⟩, Lib.hid (Chg.refl _ _)⟩
    case round =>
      obtain ⟨k, hk, ⟨q, rfl, HQ⟩, ⟨n, Hn, hown⟩, HCr⟩ := hrel
      obtain ⟨Av, cv, rfl, hvl, hvc, _⟩ := own_slice hown
      have HCa := Lib.hid (HCW.out.new HCr.out)
      obtain ⟨c0, c1, c2, _, _, _⟩ := root_cells (HRW.out.keep HCr.out)
      by_cases hlt : k < l
      · have hkI : (q : Int) < 2 + (l : Int) := by have := HQ.out; omega
        have hqV : q < s.V.length := by have := HQ.out; omega
        have hq66 : q ≤ 66 := by have := HQ.out; omega
        go_wp2_with fail
        refine (rread_own (H.out.keep HCa.out) q hqV).mono ?_
        rintro e w5 ⟨v2, rfl, ho2, hc5⟩
        have hl5 : ((s.S.drop (q * 64)).take 64).length = 64 := by rw [List.length_take, List.length_drop, HS.out]; omega
        have HNX := Lib.hid (show logB s (k + 1) = logB s k ++ (s.S.drop (q * 64)).take 64 by rw [logB_next, HQ.out])
        obtain ⟨A2, c2', rfl, _, _, hs2, _⟩ := own_slice ho2
        have HS5 := Lib.hid hs2
        have hx1 := Lib.hid (show (bts ((s.S.drop (q * 64)).take 64)).length = 64 by rw [bts_len, hl5])
        have how := own_keep hown hc5
        have hn4 : n ≤ 4096 := by rw [Hn.out]; omega
        have hx2 := Lib.hid (show n + 64 ≤ maxLen by unfold maxLen; omega)
        have hx3 := Lib.hid (show (n + 64) * 1 ≤ 140737488355328 by omega)
        have hx4 := Lib.hid (show W.heap.size ≤ w5.heap.size from Nat.le_trans HCr.out.size hc5.size)
        have HC5 := Lib.hid (HCr.out.new hc5)
        have h1 := bts_one ((s.S.drop (q * 64)).take 64)
        generalize (s.S.drop (q * 64)).take 64 = Z at HNX HS5 hx1 h1
        clear hl5 hc5 hown hs2 ho2 c0 c1 c2
        go_wp2_with (at_builtin
                     refine wpList_append_src rfl (.tmp 27) (.tmp 28) 22 rfl W.heap.size 5 iu _ 1 Try.underlying22 hui huz hus hub cells_u8 (.slice Av n cv) n (bts (logB s k)) rfl how A2 64 c2' (bts Z) rfl hx1.out HS5.out h1 hx2.out hx3.out hx4.out ?_
                     intro v6 w6 ho6 hg6 _)
        have hc6 := HC5.out.own how (Nat.le_refl _) hg6
        go_roundw
        case rel => exact ⟨k + 1, by omega, ⟨q + 1, by go_num, Lib.hid (by have := HQ.out; omega)⟩, ⟨n + 64, Lib.hid (by rw [Hn.out]; omega), by rw [HNX.out, bts_app]; exact ho6⟩, Lib.hid hc6⟩
        case measure => have := HQ.out; simp [intOf]; omega
      · have hkI : ¬ (q : Int) < 2 + (l : Int) := by have := HQ.out; omega
        have HK := Lib.hid (show k = l by omega)
        have HLen := Lib.hid (show (logB s l).length = n by rw [logB_len (by rw [HS.out]; omega), Hn.out, HK.out])
        clear hlt hk
        go_wp2_with fail
        go_ret
        rw [HF.out]
        refine ⟨_, rfl, ?_, HCa.out⟩
        rw [HLen.out, ← HK.out]
        exact own_more hown HCW.out.size
theorem rlog_any (h : Rfd w p gL gN gW rL rN m s) (L P E : Int) :
    Calls Try.prog 103 #[.pointer (some ⟨p, 0, none⟩), rootV L P E] w (BytesPost w (logL s L P E)) := (rlog_nil h L P E).mono fun _ _ h => h.1
end
end Go.Proofs.Ytlhkmbcjgdjegaa
namespace Go.Proofs.Ytlhkmbcjgdjegaa
open Go.RowKit

section
variable (ep sq : Nat) (r m : List UInt8)
theorem frame_head (he : ep < 4294967296) (hs : sq < 4294967296) (hr : r.length < 4294967296) :
    getI (frameL ep sq r ++ m) ((0 : Nat) : Int) = ep ∧ getI (frameL ep sq r ++ m) ((4 : Nat) : Int) = sq ∧ getI (frameL ep sq r ++ m) ((8 : Nat) : Int) = r.length ∧
    getI (frameL ep sq r ++ m) ((12 + r.length : Nat) : Int) = sumK (headL ep sq r) ∧ (frameL ep sq r ++ m).take (12 + r.length) = headL ep sq r := by
  have hm : r.length % 4294967296 = r.length := Nat.mod_eq_of_lt hr
  refine ⟨?_, ?_, ?_, ?_, ?_⟩
  · have e : frameL ep sq r ++ m = [] ++ (be4 ep ++ (be4 sq ++ be4 (r.length % 4294967296) ++ r ++ be4 (sumK (headL ep sq r)) ++ m)) := by
      simp only [frameL, headL, List.append_assoc, List.nil_append]
    rw [e]; exact getI_put _ _ ep he _ rfl
  · have e : frameL ep sq r ++ m = be4 ep ++ (be4 sq ++ (be4 (r.length % 4294967296) ++ r ++ be4 (sumK (headL ep sq r)) ++ m)) := by
      simp only [frameL, headL, List.append_assoc]
    rw [e]; exact getI_put _ _ sq hs _ rfl
  · have e : frameL ep sq r ++ m = (be4 ep ++ be4 sq) ++ (be4 (r.length % 4294967296) ++ (r ++ be4 (sumK (headL ep sq r)) ++ m)) := by
      simp only [frameL, headL, List.append_assoc]
    rw [e, hm]; exact getI_put _ _ _ hr _ rfl
  · have e : frameL ep sq r ++ m = headL ep sq r ++ (be4 (sumK (headL ep sq r)) ++ m) := by
      simp only [frameL, List.append_assoc]
    rw [e]; exact getI_put _ _ _ (sumK_lt _) _ (by rw [headL_len])
  · have e : frameL ep sq r ++ m = headL ep sq r ++ (be4 (sumK (headL ep sq r)) ++ m) := by
      simp only [frameL, List.append_assoc]
    rw [e]; exact List.take_left' (headL_len _ _ _)
theorem frame_ok (he : ep < 4294967296) (hs : sq < 4294967296) (hr : r.length < 4294967296) : readOk (frameL ep sq r ++ m) ep sq := by
  obtain ⟨h0, h4, h8, h12, ht⟩ := frame_head ep sq r m he hs hr
  have e8 : getI (frameL ep sq r ++ m) 8 = r.length := h8
  refine ⟨by rw [List.length_append, frameL_len]; omega, h0, h4, ?_, ?_⟩
  · rw [e8, List.length_append, frameL_len]; omega
  · rw [e8, h12, ht]
theorem frame_len (he : ep < 4294967296) (hs : sq < 4294967296) (hr : r.length < 4294967296) : getI (frameL ep sq r ++ m) 8 = r.length := (frame_head ep sq r m he hs hr).2.2.1
theorem frame_rec (he : ep < 4294967296) (hs : sq < 4294967296) (hr : r.length < 4294967296) : recL (frameL ep sq r ++ m) = r := by
  unfold recL
  rw [frame_len ep sq r m he hs hr]
  have e : frameL ep sq r ++ m = (be4 ep ++ be4 sq ++ be4 (r.length % 4294967296)) ++ (r ++ (be4 (sumK (headL ep sq r)) ++ m)) := by
    simp only [frameL, headL, List.append_assoc]
  rw [e, List.drop_left' (by simp only [List.length_append, be4_len]), List.take_left' rfl]
theorem frame_short (he : ep < 4294967296) (hs : sq < 4294967296) (hr : r.length < 4294967296) (k : Nat) (hk : k < (frameL ep sq r).length) (ep' sq' : Nat) : ¬ readOk ((frameL ep sq r).take k) ep' sq' := by
  intro h
  have hl := frameL_len ep sq r
  have h16 := h.1
  rw [List.length_take] at h16
  have h8 := h.2.2.2.1
  have e : getI ((frameL ep sq r).take k) 8 = r.length := by
    have e1 := getI_take (l := frameL ep sq r) (i := 8) (k := k) (by omega) (by omega)
    have e2 := frame_len ep sq r [] he hs hr
    rw [List.append_nil] at e2
    exact e1.trans e2
  rw [e, List.length_take] at h8
  omega
theorem frame_other (he : ep < 4294967296) (hs : sq < 4294967296) (hr : r.length < 4294967296) (ep' sq' : Nat) (hne : ep ≠ ep' ∨ sq ≠ sq') : ¬ readOk (frameL ep sq r ++ m) ep' sq' := by
  intro h
  obtain ⟨h0, h4, _⟩ := frame_head ep sq r m he hs hr
  rcases hne with hn | hn
  · exact hn (h0.symm.trans h.2.1)
  · exact hn (h4.symm.trans h.2.2.1)
theorem frame_turned (he : ep < 4294967296) (hs : sq < 4294967296) (hr : r.length < 4294967296) (k : Nat) (hk : k < (frameL ep sq r).length) (h8 : ¬ (8 ≤ k ∧ k < 12)) (d : UInt8) (hd : d ≠ (frameL ep sq r)[k]) : ¬ readOk ((frameL ep sq r).set k d) ep sq := by
  intro h
  obtain ⟨f0, f4, f8, f12, ft⟩ := frame_head ep sq r [] he hs hr
  simp only [List.append_nil] at f0 f4 f8 f12 ft
  have hl := frameL_len ep sq r
  generalize frameL ep sq r = f at *
  have hne : (f.set k d)[k]? ≠ f[k]? := by
    rw [List.getElem?_set_self hk, List.getElem?_eq_getElem hk]
    intro hc
    injection hc with hc
    exact hd hc
  have hls : (f.set k d).length = f.length := List.length_set
  rcases Nat.lt_or_ge k 4 with h4 | h4
  · exact hne (getI_same (i := 0) (by omega) (by omega) (h.2.1.trans f0.symm) k (by omega) (by omega))
  rcases Nat.lt_or_ge k 8 with h5 | h5
  · exact hne (getI_same (i := 4) (by omega) (by omega) (h.2.2.1.trans f4.symm) k (by omega) (by omega))
  have g8 : getI (f.set k d) 8 = r.length := (getI_set (i := 8) (by omega) (by omega)).trans f8
  have hsum := h.2.2.2.2
  rw [g8] at hsum
  rcases Nat.lt_or_ge k (12 + r.length) with h6 | h6
  · have g12 : getI (f.set k d) ((12 + r.length : Nat) : Int) = getI f ((12 + r.length : Nat) : Int) := getI_set (by omega) (by omega)
    rw [g12, f12, List.take_set, ← ft] at hsum
    exact sumK_turn (f.take (12 + r.length)) k (by rw [List.length_take]; omega) d (by rw [List.getElem_take]; exact hd) hsum.symm
  · rw [List.take_set_of_le (by omega), ft] at hsum
    exact hne (getI_same (i := 12 + r.length) (by omega) (by omega) (hsum.trans f12.symm) k h6 (by omega))
end
end Go.Proofs.Ytlhkmbcjgdjegaa
namespace Go.Proofs.Ytlhkmbcjgdjegaa
open Go.RowKit
section
variable {w : World} {A : Option Addr} {n c : Nat} {l : List UInt8}
theorem fread_yes (L m : List UInt8) (ep sq : Nat) (he : ep < 4294967296) (hs : sq < 4294967296) (hr : L.length < 4294967296) (h : Bs w A n c (frameL ep sq L ++ m)) (hn : n ≤ 140737488355328) :
    Calls Try.prog 120 #[.slice A n c, .int .u32 (ep : Int), .int .u32 (sq : Int)] w fun e w' => ∃ A c, e = .returned (.tuple #[.slice A L.length c, .int .i64 ((16 + L.length : Nat) : Int), .bool true]) ∧ Bs w' A L.length c L ∧ Chg [] w w' := by
  refine (read_any' h ep sq hn).mono ?_
  rintro e w' (⟨_, v, rfl, ho, hc⟩ | ⟨hno, _⟩)
  · rw [frame_rec ep sq L m he hs hr] at ho
    rw [frame_len ep sq L m he hs hr]
    obtain ⟨A2, c2, rfl, hB, _⟩ := Bs.of_own ho
    exact ⟨A2, c2, rfl, hB, hc⟩
  · exact absurd (frame_ok ep sq L m he hs hr) hno
theorem fread_no (h : Bs w A n c l) (ep sq : Nat) (hno : ¬ readOk l ep sq) (hn : n ≤ 140737488355328) :
    Calls Try.prog 120 #[.slice A n c, .int .u32 (ep : Int), .int .u32 (sq : Int)] w fun e w' => e = .returned (.tuple #[.slice none 0 0, .int .i64 0, .bool false]) ∧ Chg [] w w' := by
  refine (read_any' h ep sq hn).mono ?_
  rintro e w' (⟨hyes, _⟩ | ⟨_, rfl, hc⟩)
  · exact absurd hyes hno
  · exact ⟨rfl, hc⟩
end
end Go.Proofs.Ytlhkmbcjgdjegaa
namespace Go.Proofs.Ytlhkmbcjgdjegaa
open Go.RowKit
section
variable {w : World} {A : Option Addr} {n c : Nat} {l : List UInt8}
set_option maxHeartbeats 1000000 in
theorem rframe_any (h : Bs w A n c l) (ep sq : Nat) (he : ep < 4294967296) (hs : sq < 4294967296) (hn : n + 16 ≤ 140737488355328) :
    Calls Try.prog 75 #[.int .u32 (ep : Int), .int .u32 (sq : Int), .slice A n c] w (BytesPost w (frameL ep sq l)) := by
  obtain ⟨i, hi, hz, hs1, hb⟩ := info_parts info_byte
  obtain ⟨q, hqe, hmi, hm32⟩ : ∃ q : Nat, q = n % 4294967296 ∧ (n : Int) % 4294967296 = (q : Int) ∧ q < 4294967296 := ⟨n % 4294967296, rfl, by omega, by omega⟩
  have HQ := Lib.hid hqe
  clear hqe
  go_enter Try.func75, Try.ntmps75
  go_wp2_with fail
  refine (rput_b (Bs.nil w) ep he (by omega)).mono ?_
  rintro e w1 ⟨v1, rfl, ho1, hc1⟩
  obtain ⟨A1, c1, rfl, hB1, _⟩ := Bs.of_own ho1
  go_wp2_with fail
  refine (rput_b hB1 sq hs (by simp [be4_len])).mono ?_
  rintro e w2 ⟨v2, rfl, ho2, hc2⟩
  obtain ⟨A2, c2, rfl, hB2, _⟩ := Bs.of_own ho2
  go_wp2_with fail
  refine (rput_b hB2 q hm32 (by simp [be4_len])).mono ?_
  rintro e w3 ⟨v3, rfl, ho3, hc3⟩
  have e3 : ([] ++ be4 ep ++ be4 sq ++ be4 q) ++ l = headL ep sq l := by rw [headL, h.len, HQ.out]; rfl
  generalize hP : [] ++ be4 ep ++ be4 sq ++ be4 q = P3 at ho3 e3
  have hPl : P3.length = 12 := by rw [← hP]; rfl
  clear hP
  rw [hPl] at ho3
  have hc03 : Chg [] w w3 := (hc1.new hc2).new hc3
  obtain ⟨A3, c3, rfl, hB3, _⟩ := Bs.of_own ho3
  have hl3 := h.keep hc03
  have ho3' := own_more ho3 (hc1.new hc2).size
  have hlb := Lib.hid (show (bts l).length = n by rw [bts_len, h.len])
  have hx1 := Lib.hid (show 12 + n ≤ maxLen by unfold maxLen; omega)
  have hx2 := Lib.hid (show (12 + n) * 1 ≤ 140737488355328 by omega)
  have HE3 := Lib.hid e3
  clear e3
  go_wp2_with (at_builtin
               refine wpList_append_src rfl (.tmp 15) (.tmp 16) 22 rfl w.heap.size 5 i _ 1 Try.underlying22 hi hz hs1 hb cells_u8 (.slice A3 12 c3) 12 (bts P3) rfl ho3' A n c (bts l) rfl hlb.out hl3.src (bts_one l) hx1.out hx2.out hc03.size ?_
               intro v4 w4 ho4 hg4 _
               have hc4 : Chg [] w w4 := hc03.own ho3' (Nat.le_refl _) hg4
               clear hg4
               rw [← bts_app, HE3.out] at ho4
               obtain ⟨A4, c4, rfl, hB4, _⟩ := Bs.of_own ho4)
  refine (rsumk_b hB4).mono ?_
  rintro e w' ⟨rfl, rfl⟩
  go_wp2_with fail
  refine (rput_b hB4 (sumK (headL ep sq l)) (sumK_lt _) (by omega)).mono ?_
  rintro e w5 ⟨v5, rfl, ho5, hc5⟩
  go_wp2_with fail
  go_ret
  exact ⟨v5, rfl, own_more ho5 hc4.size, hc4.new hc5⟩

set_option maxHeartbeats 2000000 in
theorem rread_any' (h : Bs w A n c l) (ep sq : Nat) (hn : n ≤ 140737488355328) :
    Calls Try.prog 131 #[.slice A n c, .int .u32 (ep : Int), .int .u32 (sq : Int)] w (ReadPost w l ep sq) := by
  have hl := h.len
  by_cases h16 : n < 16
  · have hno : ¬ readOk l ep sq := fun hr => by have := hr.1; omega
    have HNO := Lib.hid hno
    clear hno hl
    go_enter Try.func131, Try.ntmps131
    go_wp2_with fail
    go_ret3
    exact .inr ⟨HNO.out, rfl, Chg.refl _ _⟩
  have hd16 : decide ((n : Int) < 16) = false := by simp; omega
  have HL := Lib.hid hl
  clear hl
  by_cases h0 : getI l 0 = ep
  rotate_left
  · have HNO := Lib.hid (show ¬ readOk l ep sq from fun hr => h0 hr.2.1)
    have hb := bne_t (show ((getI l 0 : Nat) : Int) ≠ (ep : Int) by omega)
    clear h0
    go_enter Try.func131, Try.ntmps131
    go_wp2_with fail
    refine (rget_b h 0 (by omega)).mono ?_
    rintro e w1 ⟨rfl, hc1⟩
    go_wp2_with fail
    go_ret3
    exact .inr ⟨HNO.out, rfl, hc1⟩
  by_cases h4 : getI l 4 = sq
  rotate_left
  · have HNO := Lib.hid (show ¬ readOk l ep sq from fun hr => h4 hr.2.2.1)
    have hb := bne_t (show ((getI l 4 : Nat) : Int) ≠ (sq : Int) by omega)
    have hb0 := bne_f (show ((getI l 0 : Nat) : Int) = (ep : Int) by omega)
    clear h4 h0
    go_enter Try.func131, Try.ntmps131
    go_wp2_with fail
    refine (rget_b h 0 (by omega)).mono ?_
    rintro e w1 ⟨rfl, hc1⟩
    go_wp2_with fail
    refine (rget_b (h.keep hc1) 4 (by omega)).mono ?_
    rintro e w2 ⟨rfl, hc2⟩
    go_wp2_with fail
    go_ret3
    exact .inr ⟨HNO.out, rfl, hc1.new hc2⟩
  have hb0 := bne_f (show ((getI l 0 : Nat) : Int) = (ep : Int) by omega)
  have hb4 := bne_f (show ((getI l 4 : Nat) : Int) = (sq : Int) by omega)
  have H0 := Lib.hid h0
  have H4 := Lib.hid h4
  clear h0 h4
  have hq := getI_lt l 8
  by_cases h8 : getI l 8 ≤ n - 16
  rotate_left
  · have HNO := Lib.hid (show ¬ readOk l ep sq from fun hr => h8 (by have := hr.2.2.2.1; rw [HL.out] at this; exact this))
    have hgt : (n : Int) - 16 < ((getI l 8 : Nat) : Int) := by omega
    go_enter Try.func131, Try.ntmps131
    go_wp2_with fail
    refine (rget_b h 0 (by omega)).mono ?_
    rintro e w1 ⟨rfl, hc1⟩
    go_wp2_with fail
    refine (rget_b (h.keep hc1) 4 (by omega)).mono ?_
    rintro e w2 ⟨rfl, hc2⟩
    go_wp2_with fail
    refine (rget_b ((h.keep hc1).keep hc2) 8 (by omega)).mono ?_
    rintro e w3 ⟨rfl, hc3⟩
    go_wp2_with fail
    go_ret3
    exact .inr ⟨HNO.out, rfl, (hc1.new hc2).new hc3⟩
  have hle : ((getI l 8 : Nat) : Int) ≤ (n : Int) - 16 := by omega
  go_enter Try.func131, Try.ntmps131
  go_wp2_with fail
  refine (rget_b h 0 (by omega)).mono ?_
  rintro e w1 ⟨rfl, hc1⟩
  go_wp2_with fail
  refine (rget_b (h.keep hc1) 4 (by omega)).mono ?_
  rintro e w2 ⟨rfl, hc2⟩
  go_wp2_with fail
  refine (rget_b ((h.keep hc1).keep hc2) 8 (by omega)).mono ?_
  rintro e w3 ⟨rfl, hc3⟩
  go_wp2_with fail
  refine (rget_b (((h.keep hc1).keep hc2).keep hc3) 8 (by omega)).mono ?_
  rintro e w4 ⟨rfl, hc4⟩
  go_wp2_with fail
  have h5 := (((h.keep hc1).keep hc2).keep hc3).keep hc4
  have hc14 : Chg [] w w4 := ((hc1.new hc2).new hc3).new hc4
  clear hc1 hc2 hc3 hc4
  obtain ⟨i0, hi, hz, hs1, hb⟩ := info_parts info_byte
  obtain ⟨q, hqe⟩ : ∃ q, q = getI l 8 := ⟨_, rfl⟩
  rw [← hqe] at hq h8 hle ⊢
  have ECAST := Lib.hid (show (12 : Int) + (q : Int) = ((12 + q : Nat) : Int) by omega)
  have e1 : ((12 : Int) + (q : Int)).toNat = 12 + q := by omega
  have e2 : (0 : Int) ≤ 12 + (q : Int) := by omega
  have hcap := h.cap
  have e3 : ¬ (c : Int) < 12 + (q : Int) := by omega
  have e4 : ¬ c < 12 + q := by omega
  have hA0 : Option.map (fun x : Addr => x.add 0) A = A := by cases A <;> simp [Addr.add]
  have HE := Lib.hid hqe
  have hT := h5.take (m := 12 + q) (by omega)
  have hwr : IntKind.i64.wrap (12 + (q : Int)) = 12 + (q : Int) := by rw [IntKind.wrap_i64]; omega
  clear hqe
  have kp : ∀ W, Chg [] w4.drew W → Chg [] w4 W := fun W hW => (Chg.refl [] w4).drew.new hW
  obtain ⟨b, hbt⟩ : ∃ b : Bool, b = (((getI l (12 + (q : Int)) : Nat) : Int) != ((sumK (l.take (12 + q)) : Nat) : Int)) := ⟨_, rfl⟩
  refine wp_flow (by kernel_rfl) plainT plainT_ok (by kernel_rfl) ?_
  refine flow_move_out plainT_ok rfl rfl rfl ?_
  refine flow_move_out plainT_ok rfl rfl rfl ?_
  refine flow2 (r := .int .i64 (12 + (q : Int))) plainT_ok rfl (.const _) (.inn rfl) rfl (fun ev W he e1 e2 => by go_simp) ?_
  refine flow_callv (.int .u32 ((getI l (12 + (q : Int)) : Nat) : Int)) (by kernel_rfl) rfl (.cons (.inn rfl) (.cons (.inn rfl) .nil)) (fun W hW => (rget_b (h5.keep (kp W hW)) (12 + (q : Int)) (by omega)).mono ?_) ?_
  · rintro e w' ⟨rfl, hc⟩; exact ⟨rfl, hc⟩
  refine flow_move_out plainT_ok rfl rfl rfl ?_
  refine flow_move_out plainT_ok rfl rfl rfl ?_
  refine flow2 (r := .int .i64 (12 + (q : Int))) plainT_ok rfl (.const _) (.inn rfl) rfl (fun ev W he e1 e2 => by go_simp) ?_
  refine flow_slice_hi (r := .slice A (12 + q) c) plainT_ok (.inn rfl) (.inn rfl) (fun ev W he e1 e2 => by go_simp) rfl ?_
  refine flow_callv (.int .u32 ((sumK (l.take (12 + q)) : Nat) : Int)) (by kernel_rfl) rfl (.cons (.inn rfl) .nil) (fun W hW => (rsumk_b (hT.keep (kp W hW))).mono ?_) ?_
  · rintro e w' ⟨rfl, rfl⟩; exact ⟨rfl, Chg.refl _ _⟩
  refine flow2 (r := .bool b) plainT_ok rfl (.inn rfl) (.inn rfl) rfl (fun ev W he e1 e2 => by rw [hbt]; go_simp) ?_
  intro vs W hW hF
  have e46 : vs 47 = .bool b := hF 47 _ rfl rfl
  have hcW := kp W hW
  simp only [putAll, Act.put, List.setIfInBounds_toArray, List.set_cons_zero, List.set_cons_succ, e46]
  cases b with
  | true =>
    have hne : getI l (12 + (q : Int)) ≠ sumK (l.take (12 + q)) := fun hc => by rw [hc] at hbt; simp at hbt
    have HNO := Lib.hid (show ¬ readOk l ep sq from fun hr => hne (by have := hr.2.2.2.2; rw [← HE.out, ← ECAST.out] at this; exact this))
    clear hbt hne
    go_wp2_with fail
    go_ret3
    exact .inr ⟨HNO.out, rfl, hc14.new hcW⟩
  | false =>
    have heq : getI l (12 + (q : Int)) = sumK (l.take (12 + q)) := by
      have h2 := hbt.symm
      simp only [bne_eq_false_iff_eq] at h2
      omega
    have HOK := Lib.hid (show readOk l ep sq from ⟨by rw [HL.out]; omega, H0.out, H4.out, by rw [← HE.out, HL.out]; exact h8, by rw [← HE.out, ← ECAST.out]; exact heq⟩)
    clear hbt heq
    have hC := (h5.keep hcW).cut (lo := 12) (hi := 12 + q) (by omega) (by omega)
    have hc12 : ¬ c = 12 := by omega
    rw [if_neg hc12, show 12 + q - 12 = q by omega] at hC
    have e5 : ¬ 12 + q < 12 := by omega
    have e6 : 12 + q - 12 = q := by omega
    obtain ⟨⟨b0, o0, s0⟩, rfl, _, _⟩ := h.src (by rw [bts_len, HL.out]; omega)
    obtain rfl : s0 = none := h.spot (by omega) _ rfl
    simp only [Option.map_some, add_plain] at hC
    obtain ⟨X, hX⟩ : ∃ X, X = (l.drop 12).take q := ⟨_, rfl⟩
    rw [← hX] at hC
    have HX := Lib.hid hX
    have hXq := Lib.hid hC.len
    clear hX
    have hlb := Lib.hid (show (bts X).length = q by rw [bts_len, hXq.out])
    have hx1 := Lib.hid (show 0 + q ≤ maxLen by unfold maxLen; omega)
    have hx2 := Lib.hid (show (0 + q) * 1 ≤ 140737488355328 by omega)
    have hsX := hC.src
    clear hC
    have ho0 : (W.alloc (.cells #[] 5)).ownsRow W.heap.size 5 1 (.slice (some ⟨W.heap.size, 0, none⟩) 0 0) 0 [] :=
      own_of_whole (B := W.heap.size) (n := 0) (c := 0) (Whole.new W 5 []) (Nat.le_refl _) rfl (by omega) (by unfold maxLen; omega)
    go_wp2_with (at_builtin
                 refine wpList_append_src rfl (.tmp 48) (.tmp 52) 22 rfl W.heap.size 5 i0 _ 1 Try.underlying22 hi hz hs1 hb cells_u8 (.slice (some ⟨W.heap.size, 0, none⟩) 0 0) 0 [] rfl ho0 (some ⟨b0, o0 + 12, none⟩) q (c - 12) (bts X) rfl hlb.out (hsX.keep ((Chg.refl _ _).alloc _)) (bts_one X) hx1.out hx2.out (by simp) ?_
                 intro v6 w6 ho6 hg6 _
                 have hc6 : Chg [] W w6 := ((Chg.refl [] W).alloc _).own ho0 (Nat.le_refl _) hg6
                 clear hg6
                 simp only [Nat.zero_add, List.nil_append] at ho6
                 obtain ⟨A6, c6, rfl, _⟩ := own_slice ho6)
    go_ret3
    refine .inl ⟨HOK.out, .slice A6 q c6, ?_, ?_, ?_⟩
    · rw [← HE.out]
      have e7 : (16 : Int) + (q : Int) = ((16 + q : Nat) : Int) := by omega
      rw [← e7]; rfl
    · have hr : recL l = X := by rw [recL, ← HE.out, HX.out]
      rw [hr, hXq.out]
      exact own_more ho6 ((hc14.new hcW).size)
    · exact (hc14.new hcW).new hc6
end
end Go.Proofs.Ytlhkmbcjgdjegaa
namespace Go.Proofs.Ytlhkmbcjgdjegaa
open Go.RowKit
section
variable {w : World} {A : Option Addr} {n c : Nat} {l : List UInt8}
set_option maxHeartbeats 1000000 in
theorem rscan_any (h : Bs w A n c l) (ep : Nat) (hn : n ≤ 2147483648) :
    Calls Try.prog 117 #[.slice A n c, .int .u32 (ep : Int)] w (ScanPost w l ep) := by
  obtain ⟨i, hi, hz, hs1, hb⟩ := info_parts info_bytes
  go_enter Try.func117, Try.ntmps117
  go_wp2_with fail
  go_loopw [6, 7] (fun v a wr => ∃ k : Nat, ∃ m : Nat, ∃ rs vs, At l ep k rs m ∧ a = .int .i64 (m : Int) ∧ wr.ownsRow w.heap.size 22 1 v k vs ∧ Rows w.heap.size wr vs rs ∧ Chg [] w wr) (fun _ a _ => n - (intOf a).toNat)
  case atStart => exact ⟨0, 0, [], [], At.zero l ep, rfl, own_nil _ _ _, Rows.nil _ _, Chg.refl _ _⟩
  case round =>
    obtain ⟨k, m, rs, vs, hat, rfl, hown, hrows, hcr⟩ := hrel
    obtain ⟨Av, cv, rfl, hvl, hvc, _⟩ := own_slice hown
    have hm := hat.top
    have hk := hat.low
    have hl := h.len
    have hcap := h.cap
    rw [hl] at hm
    have hB := (h.keep hcr).cut (lo := m) (hi := n) hm (Nat.le_refl _)
    have hdr : (l.drop m).take (n - m) = l.drop m := List.take_of_length_le (by rw [List.length_drop]; omega)
    rw [hdr] at hB
    have e1 : (k : Int) % 4294967296 = (k : Int) := by omega
    have e2 : ¬ n < m := by omega
    have e3 : ¬ c < n := by omega
    have hnx : readOk (l.drop m) ep k → m + (16 + getI (l.drop m) 8) ≤ n := fun hr => by have := (hat.next hr).top; omega
    clear hdr hl
    rcases Decidable.em (m = c) with hcm | hcm
    · have hok : ¬ readOk (l.drop m) ep k := fun hr => by have := hnx hr; omega
      have hnm : n = m := by omega
      rw [if_pos hcm.symm] at hB
      subst hcm
      subst hnm
      rw [Nat.sub_self] at hB
      clear hnx
      go_wp2_with fail
      refine (rread_any' hB ep k (by omega)).mono ?_
      rintro e w2 (⟨hyes, _⟩ | ⟨_, rfl, hc2⟩)
      · exact absurd hyes hok
      go_wp2_with fail
      go_ret2
      rw [ScanPost, hat.last hok]
      exact ⟨_, vs, rfl, by rw [hat.len]; exact own_keep hown hc2, hrows.keep hc2, hcr.new hc2⟩
    · rw [if_neg (Ne.symm hcm)] at hB
      have e4 : ¬ c = m := Ne.symm hcm
      by_cases hok : readOk (l.drop m) ep k
      · have hnk := hnx hok
        go_wp2_with fail
        refine (rread_any' hB ep k (by omega)).mono ?_
        rintro e w2 (⟨_, v2, rfl, ho2, hc2⟩ | ⟨hno, _⟩)
        rotate_left
        · exact absurd hok hno
        obtain ⟨A2, c2, rfl, _⟩ := own_slice ho2
        have how := own_keep hown hc2
        have hrw := hrows.keep hc2
        have hx1 := Lib.hid (show k + 1 ≤ maxLen by unfold maxLen; omega)
        have hx2 := Lib.hid (show (k + 1) * 24 ≤ 140737488355328 by omega)
        have hx3 := Lib.hid (show w.heap.size ≤ w2.heap.size from Nat.le_trans hcr.size hc2.size)
        go_wp2_with (at_builtin
                     refine wpList_append_src rfl (.tmp 27) (.tmp 29) 30 rfl w.heap.size 22 i _ 24 Try.underlying30 hi hz hs1 hb cells_slice (.slice Av k cv) k vs rfl (own_keep how ((Chg.refl _ _).alloc _)) (some ⟨w2.heap.size, 0, none⟩) 1 1 [.slice A2 (recL (l.drop m)).length c2] rfl rfl (Src.of_all (Whole.new w2 22 [.slice A2 (recL (l.drop m)).length c2])) (fun u hu => by simp at hu; rw [hu]; rfl) hx1.out hx2.out (by simp; have := hx3.out; omega) ?_
                     intro v4 w4 ho4 hg4 _)
        have hch4 : Chg [] w w4 := ((hcr.new hc2).alloc _).own (own_keep how ((Chg.refl _ _).alloc _)) (Nat.le_refl _) hg4
        go_roundw
        case rel =>
          refine ⟨k + 1, m + (16 + getI (l.drop m) 8), _, _, hat.next hok, by go_num, ho4, ?_, hch4⟩
          exact ((hrw.keep ((Chg.refl _ _).alloc _)).snoc (own_more (own_keep ho2 ((Chg.refl _ _).alloc _)) hcr.size)).grown (own_keep how ((Chg.refl _ _).alloc _)) hg4
        case measure => simp [intOf]; omega
      · go_wp2_with fail
        refine (rread_any' hB ep k (by omega)).mono ?_
        rintro e w2 (⟨hyes, _⟩ | ⟨_, rfl, hc2⟩)
        · exact absurd hyes hok
        go_wp2_with fail
        go_ret2
        rw [ScanPost, hat.last hok]
        exact ⟨_, vs, rfl, by rw [hat.len]; exact own_keep hown hc2, hrows.keep hc2, hcr.new hc2⟩
end
end Go.Proofs.Ytlhkmbcjgdjegaa
namespace Go.Proofs.Ytlhkmbcjgdjegaa
open Go.RowKit
/-- A change that is a page. -/
def Page (a : ChV) : Prop := Small a ∧ a.B.length = 64
theorem be2_len (k : Nat) : (be2 k).length = 2 := rfl
theorem num2_be2 (k : Nat) (h : k < 65536) (x : List UInt8) : num2 (be2 k ++ x) = k := by
  show (UInt8.ofNat (k / 256)).toNat * 256 + (UInt8.ofNat k).toNat = k
  rw [UInt8.toNat_ofNat', UInt8.toNat_ofNat']
  omega
theorem chB_len {a : ChV} (h : Page a) : (chB a).length = 66 := by unfold chB; rw [List.length_append, be2_len, h.2]
theorem chsB_len : ∀ {l : List ChV}, (∀ a ∈ l, Page a) → (chsB l).length = l.length * 66
  | [], _ => rfl
  | a :: l, h => by
    rw [chsB, List.length_append, chB_len (h a (List.mem_cons_self ..)), chsB_len (fun b hb => h b (List.mem_cons_of_mem _ hb)), List.length_cons]
    omega
theorem chsB_drop : ∀ {l : List ChV}, (∀ a ∈ l, Page a) → ∀ k, k ≤ l.length → (chsB l).drop (k * 66) = chsB (l.drop k)
  | l, _, 0, _ => by simp
  | [], _, k + 1, h => by simp at h
  | a :: l, h, k + 1, hk => by
    rw [chsB, show (k + 1) * 66 = (chB a).length + k * 66 by rw [chB_len (h a (List.mem_cons_self ..))]; omega, ← List.drop_drop, List.drop_left, List.drop_succ_cons]
    exact chsB_drop (fun b hb => h b (List.mem_cons_of_mem _ hb)) k (by simpa using hk)
section
variable {l : List ChV}
theorem back_num (hn : l.length < 65536) : num2 (bytesD l) = l.length := num2_be2 _ hn _
theorem back_len (h : ∀ a ∈ l, Page a) : (bytesD l).length = 2 + l.length * 66 := by unfold bytesD; rw [List.length_append, be2_len, chsB_len h]
theorem back_at (h : ∀ a ∈ l, Page a) (k : Nat) (a : ChV) (ha : l[k]? = some a) : keyC (chOf (bytesD l) k) = keyC a := by
  obtain ⟨hk, rfl⟩ := List.getElem?_eq_some_iff.1 ha
  have hp := h _ (List.getElem_mem hk)
  have e0 : (bytesD l).drop (2 + k * 66) = chB l[k] ++ chsB (l.drop (k + 1)) := by
    unfold bytesD
    rw [← List.drop_drop, List.drop_left' (be2_len _), chsB_drop h k (by omega), List.drop_eq_getElem_cons hk]
    rfl
  have e1 : (bytesD l).drop (2 + k * 66 + 2) = l[k].B ++ chsB (l.drop (k + 1)) := by
    rw [← List.drop_drop, e0]
    unfold chB
    rw [List.append_assoc, List.drop_left' (be2_len _)]
  unfold keyC chOf
  rw [e0, e1]
  unfold chB
  rw [List.append_assoc, num2_be2 _ (by have := hp.1; have := this.2.1; have := hp.1.1; omega), List.take_left' hp.2]
  have := hp.1.1
  simp only [Prod.mk.injEq, and_true]
  omega
theorem back_as (h : ∀ a ∈ l, Page a) (hn : l.length < 65536) : asC (chsOf (bytesD l) (num2 (bytesD l))) l := by
  rw [back_num hn]
  refine ⟨?_, fun i a b ha hb => ?_⟩
  · apply List.ext_getElem?
    intro i
    simp only [List.getElem?_map, chsOf]
    rcases Nat.lt_or_ge i l.length with hi | hi
    · rw [List.getElem?_range hi, List.getElem?_eq_getElem hi]
      simp only [Option.map_some]
      rw [back_at h i _ (List.getElem?_eq_getElem hi)]
    · rw [List.getElem?_eq_none (by simpa using hi), List.getElem?_eq_none hi]
      rfl
  · have hi := (List.getElem?_eq_some_iff.1 hb).1
    simp [chsOf, List.getElem?_range hi] at ha
    subst ha
    have := back_at h i b hb
    exact ⟨by injection this, ((h b (List.mem_of_getElem? hb)).1.2.2).symm⟩
theorem asC_same {l m : List ChV} (h : asC l m) : sameC l m = true := by unfold sameC; rw [decide_eq_true_iff]; exact h.1
theorem asC_trans {l m q : List ChV} (h : asC l m) (k : asC m q) : asC l q := by
  have e1 : l.length = m.length := by have := congrArg List.length h.1; simpa using this
  refine ⟨h.1.trans k.1, fun i a b ha hb => ?_⟩
  have hi := (List.getElem?_eq_some_iff.1 ha).1
  have hm : m[i]? = some (m[i]'(by omega)) := List.getElem?_eq_getElem (by omega)
  obtain ⟨h1, h2⟩ := h.2 i a _ ha hm
  obtain ⟨k1, k2⟩ := k.2 i _ b hm hb
  exact ⟨h1.trans k1, h2.trans k2⟩
/-- What Read says of what Bytes wrote. -/
theorem read_back {w w' : World} {e : Ending} {P : Int} (h : ∀ a ∈ l, Page a) (hn : l.length < 65536) (hr : rightB P l = true) (hp : DReadPost (bytesD l) P w e w') :
    ∃ A c ls, e = .returned (.tuple #[.slice A l.length c, .bool true]) ∧ Chs w' A ls ∧ ls.length = l.length ∧ asC ls l ∧ Chg [] w w' := by
  have hb := back_as h hn
  rcases hp with ⟨_, _, _, A, c, ls, he, hch, hl, has, hc⟩ | ⟨hno, _⟩
  · rw [back_num hn] at he hl
    exact ⟨A, c, ls, he, hch, hl, asC_trans has hb, hc⟩
  · exact absurd ⟨by rw [back_len h]; omega, by rw [back_len h, back_num hn], by rw [asC_rightB hb P]; exact hr⟩ hno
end
end Go.Proofs.Ytlhkmbcjgdjegaa
namespace Go.Proofs.Ytlhkmbcjgdjegaa
open Go.RowKit
section
variable {w : World} {A : Option Addr} {n c : Nat}
/-- The page ahead of the k-th. -/
def LastIs (l : List ChV) (k : Nat) (last : Int) : Prop := (k = 0 ∧ last = -1) ∨ (∃ a, 0 < k ∧ l[k - 1]? = some a ∧ last = a.page ∧ 0 ≤ last)
set_option maxHeartbeats 8000000 in
set_option maxRecDepth 100000 in
theorem rchanges_any {l : List ChV} (h : Chs w A l) (hl : l.length = n) (hn : n ≤ 9223372036854775807) (pages : Int) :
    Calls Try.prog 132 #[.slice A n c, .int .i64 pages] w (BoolPost (rightB pages l) w) := by
  have H := Lib.hid h
  have HL := Lib.hid hl
  clear h hl
  go_enter Try.func132, Try.ntmps132
  go_wp2_with fail
  go_loopw [8] (fun i wr => ∃ k : Nat, k ≤ n ∧ i = .int .i64 (k : Int) ∧ (∃ last : Int, Hid (LastIs l k last) ∧ Hid (rightS (-1) pages l = rightS last pages (l.drop k))) ∧ Chg [] w wr) (fun i _ => n - (intOf i).toNat)
  case atStart => exact ⟨0, Nat.zero_le _, rfl, ⟨-1, Lib.hid (.inl ⟨rfl, rfl⟩), Lib.hid (by rw [List.drop_zero])⟩, Chg.refl _ _⟩
  case round =>
    obtain ⟨k, hk, rfl, ⟨last, HLA, HK⟩, hcr⟩ := hrel
    by_cases hlt : k < n
    · obtain ⟨a, ha⟩ : ∃ a, l[k]? = some a := ⟨_, List.getElem?_eq_getElem (by have := HL.out; omega)⟩
      obtain ⟨g, o, rfl, hg, hce⟩ := (H.out.keep hcr).cells (by have := HL.out; omega)
      obtain ⟨c0, c1⟩ := hce k a ha
      have hbn := (H.out.ok a (List.mem_of_getElem? ha)).bs.len
      have HD := Lib.hid (show l.drop k = a :: l.drop (k + 1) by rw [List.drop_eq_getElem_cons (by have := HL.out; omega)]; congr 1; have := List.getElem?_eq_getElem (l := l) (i := k) (by have := HL.out; omega); rw [this] at ha; injection ha)
      have HC := Lib.hid hcr
      have hkI : (k : Int) < (n : Int) := by omega
      have HN1 := Lib.hid (show ∀ (hp : last < a.page) (hq : a.page < pages) (hr : a.bn = 64), LastIs l (k + 1) a.page ∧ rightS (-1) pages l = rightS a.page pages (l.drop (k + 1)) from fun hp hq hr => by
        refine ⟨.inr ⟨a, by omega, by simpa using ha, rfl, ?_⟩, ?_⟩
        · rcases HLA.out with ⟨_, h2⟩ | ⟨_, _, _, _, h2⟩ <;> omega
        · rw [HK.out, HD.out]
          simp only [rightS]
          rw [decide_eq_false (by omega), decide_eq_false (by omega), decide_eq_false (by simpa using hr)]
          rfl)
      have HF1 := Lib.hid (show ∀ (hp : a.page ≤ last ∨ pages ≤ a.page ∨ a.bn ≠ 64), rightB pages l = false from fun hp => by
        unfold rightB
        rw [HK.out, HD.out]
        simp only [rightS]
        rcases hp with h | h | h <;> simp [h])
      clear ha hcr hbn
      obtain ⟨page, bA, bn, bc, Bb⟩ := a
      simp only at c0 c1 HN1 HF1
      by_cases h1 : page < 0
      · have hd1 : decide (page < 0) = true := by simpa using h1
        have HF := Lib.hid (HF1.out (.inl (by rcases HLA.out with ⟨_, h2⟩ | ⟨_, _, _, _, h2⟩ <;> omega)))
        clear hce h1
        go_wp2_with fail
        go_quiet (fail)
        go_wp2_with fail
        go_ret
        exact ⟨by rw [HF.out]; rfl, HC.out.drewN _⟩
      · have hd1 : decide (page < 0) = false := by simpa using h1
        by_cases h2 : pages ≤ page
        · have hd2 : decide (pages ≤ page) = true := by simpa using h2
          have HF := Lib.hid (HF1.out (.inr (.inl h2)))
          clear hce h2
          go_wp2_with fail
          go_quiet (fail)
          go_wp2_with fail
          go_ret
          exact ⟨by rw [HF.out]; rfl, HC.out.drewN _⟩
        · have hd2 : decide (pages ≤ page) = false := by simpa using h2
          by_cases hk0 : k = 0
          · have hk1 : decide ((0 : Int) < (k : Int)) = false := by simp; omega
            have hk2 : decide (0 < k) = false := by simp; omega
            have hla : last < page := by rcases HLA.out with ⟨_, h3⟩ | ⟨_, h3, _⟩ <;> omega
            by_cases h3 : bn = 64
            · obtain ⟨hLN, hRN⟩ := HN1.out hla (by omega) h3
              have HLN := Lib.hid hLN
              have HRN := Lib.hid hRN
              have hb3 : ((bn : Int) == 64) = true := by simp; omega
              have hb4 : ((bn : Int) != 64) = false := by simp; omega
              have hb5 : (!((bn : Int) == 64)) = false := by simp; omega
              clear hce hLN hRN h3 hk0 hla h2 h1
              go_wp2_with fail
              go_quiet (fail)
              go_wp2_with fail
              go_roundw
              case rel => exact ⟨k + 1, by omega, by go_num, ⟨page, HLN, HRN⟩, HC.out.drewN _⟩
              case measure => simp [intOf]; omega
            · have HF := Lib.hid (HF1.out (.inr (.inr h3)))
              have hb3 : ((bn : Int) == 64) = false := by simp; omega
              have hb4 : ((bn : Int) != 64) = true := by simp; omega
              have hb5 : (!((bn : Int) == 64)) = true := by simp; omega
              clear hce h3 hk0 hla h2 h1
              go_wp2_with fail
              go_quiet (fail)
              go_wp2_with fail
              go_ret
              exact ⟨by rw [HF.out]; rfl, HC.out.drewN _⟩
          · have hk1 : decide ((0 : Int) < (k : Int)) = true := by simp; omega
            have hk2 : decide (0 < k) = true := by simp; omega
            obtain ⟨pv, hpv, hpl⟩ : ∃ a, l[k - 1]? = some a ∧ last = a.page := by
              rcases HLA.out with ⟨h3, _⟩ | ⟨a, _, h3, h4, _⟩
              · exact absurd h3 hk0
              · exact ⟨a, h3, h4⟩
            obtain ⟨d0, _⟩ := hce (k - 1) pv hpv
            rw [← hpl] at d0
            have m1 : IntKind.i64.wrap ((k : Int) - 1) = (k : Int) - 1 := IntWalk.i64_in _ (by omega)
            have m2 : (0 : Int) ≤ (k : Int) - 1 := by omega
            have m3 : (k : Int) - 1 < (n : Int) := by omega
            have m4 : ((k : Int) - 1).toNat = k - 1 := by omega
            have m5 : (1 : Int) ≤ (k : Int) := by omega
            by_cases h4 : page ≤ last
            · have hd4 : decide (page ≤ last) = true := by simpa using h4
              have HF := Lib.hid (HF1.out (.inl h4))
              clear hce hpv hpl h4 hk0 h2 h1
              go_wp2_with fail
              go_quiet (fail)
              go_wp2_with fail
              go_ret
              exact ⟨by rw [HF.out]; rfl, HC.out.drewN _⟩
            · have hd4 : decide (page ≤ last) = false := by simpa using h4
              by_cases h3 : bn = 64
              · obtain ⟨hLN, hRN⟩ := HN1.out (by omega) (by omega) h3
                have HLN := Lib.hid hLN
                have HRN := Lib.hid hRN
                have hb3 : ((bn : Int) == 64) = true := by simp; omega
                have hb4 : ((bn : Int) != 64) = false := by simp; omega
                have hb5 : (!((bn : Int) == 64)) = false := by simp; omega
                clear hce hLN hRN h3 hk0 h2 h1 h4 hpv hpl
                go_wp2_with fail
                go_quiet (fail)
                go_wp2_with fail
                go_roundw
                case rel => exact ⟨k + 1, by omega, by go_num, ⟨page, HLN, HRN⟩, HC.out.drewN _⟩
                case measure => simp [intOf]; omega
              · have HF := Lib.hid (HF1.out (.inr (.inr h3)))
                have hb3 : ((bn : Int) == 64) = false := by simp; omega
                have hb4 : ((bn : Int) != 64) = true := by simp; omega
                have hb5 : (!((bn : Int) == 64)) = true := by simp; omega
                clear hce h3 hk0 h2 h1 h4 hpv hpl
                go_wp2_with fail
                go_quiet (fail)
                go_wp2_with fail
                go_ret
                exact ⟨by rw [HF.out]; rfl, HC.out.drewN _⟩
    · have HF := Lib.hid (show rightB pages l = decide (pages ≤ 64) by
        unfold rightB
        rw [HK.out, List.drop_eq_nil_of_le (by have := HL.out; omega)]
        simp [rightS])
      have hkI : (n : Int) ≤ (k : Int) := by omega
      go_wp2_with fail
      go_ret
      exact ⟨by rw [HF.out]; rfl, hcr⟩
end
end Go.Proofs.Ytlhkmbcjgdjegaa
