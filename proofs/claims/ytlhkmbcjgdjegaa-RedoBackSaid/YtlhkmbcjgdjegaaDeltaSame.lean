/-
  Layer 4: Same, the code's and the reference's.
-/
import Derived.Test.YtlhkmbcjgdjegaaBEq
import Derived.Test.YtlhkmbcjgdjegaaKeepCh
namespace Go.Proofs.Ytlhkmbcjgdjegaa
open Go.RowKit
/-- The same pages, with the same bytes. -/
def keyC (a : ChV) : Int × List UInt8 := (a.page, a.B)
def sameC (l m : List ChV) : Bool := decide (l.map keyC = m.map keyC)
theorem sameC_len {l m : List ChV} (h : l.length ≠ m.length) : sameC l m = false := by
  unfold sameC
  rw [decide_eq_false_iff_not]
  intro e
  have := congrArg List.length e
  simp at this
  exact h this
theorem sameC_at {l m : List ChV} {k : Nat} {a b : ChV} (ha : l[k]? = some a) (hb : m[k]? = some b) (h : keyC a ≠ keyC b) : sameC l m = false := by
  unfold sameC
  rw [decide_eq_false_iff_not]
  intro e
  have := congrArg (fun (x : List (Int × List UInt8)) => x[k]?) e
  simp [ha, hb] at this
  exact h this
theorem sameC_all {l m : List ChV} (hl : l.length = m.length) (h : ∀ (i : Nat) (a b : ChV), l[i]? = some a → m[i]? = some b → keyC a = keyC b) : sameC l m = true := by
  unfold sameC
  rw [decide_eq_true_iff]
  apply List.ext_getElem?
  intro i
  simp only [List.getElem?_map]
  rcases Nat.lt_or_ge i l.length with hi | hi
  · have hj : i < m.length := by omega
    rw [List.getElem?_eq_getElem hi, List.getElem?_eq_getElem hj]
    simp only [Option.map_some]
    rw [h i _ _ (List.getElem?_eq_getElem hi) (List.getElem?_eq_getElem hj)]
  · rw [List.getElem?_eq_none hi, List.getElem?_eq_none (by omega)]
section
variable {w : World} {A A2 : Option Addr} {n c n2 c2 : Nat}
set_option maxHeartbeats 4000000 in
set_option maxRecDepth 100000 in
theorem rsame_any {l m : List ChV} (h : Chs w A l) (hl : l.length = n) (h2 : Chs w A2 m) (hl2 : m.length = n2) (hn : n ≤ 9223372036854775807) (hn2 : n2 ≤ 9223372036854775807) :
    Calls Try.prog 105 #[.slice A n c, .slice A2 n2 c2] w (BoolPost (sameC l m) w) := by
  have H := Lib.hid h
  have H2 := Lib.hid h2
  have HL := Lib.hid hl
  have HL2 := Lib.hid hl2
  clear h h2 hl hl2
  by_cases hnn : n = n2
  · subst hnn
    go_enter Try.func105, Try.ntmps105
    go_wp2_with fail
    go_loopw [13] (fun i wr => ∃ k : Nat, k ≤ n ∧ i = .int .i64 (k : Int) ∧ Hid (∀ (j : Nat) (a b : ChV), j < k → l[j]? = some a → m[j]? = some b → keyC a = keyC b) ∧ Chg [] w wr) (fun i _ => n - (intOf i).toNat)
    case atStart => exact ⟨0, Nat.zero_le _, rfl, Lib.hid (fun j a b h => absurd h (by omega)), Chg.refl _ _⟩
    case round =>
      obtain ⟨k, hk, rfl, HK, hcr⟩ := hrel
      by_cases hlt : k < n
      · obtain ⟨a, ha⟩ : ∃ a, l[k]? = some a := ⟨_, List.getElem?_eq_getElem (by have := HL.out; omega)⟩
        obtain ⟨b, hb⟩ : ∃ b, m[k]? = some b := ⟨_, List.getElem?_eq_getElem (by have := HL2.out; omega)⟩
        have hba := ((H.out.keep hcr).ok a (List.mem_of_getElem? ha)).bs
        have hbb := ((H2.out.keep hcr).ok b (List.mem_of_getElem? hb)).bs
        obtain ⟨g, o, rfl, hg, hce⟩ := (H.out.keep hcr).cells (by have := HL.out; omega)
        obtain ⟨g2, o2, rfl, hg2, hce2⟩ := (H2.out.keep hcr).cells (by have := HL2.out; omega)
        obtain ⟨c0, c1⟩ := hce k a ha
        obtain ⟨d0, d1⟩ := hce2 k b hb
        have HKN := Lib.hid (fun (e : keyC a = keyC b) => (show ∀ (j : Nat) (x y : ChV), j < k + 1 → l[j]? = some x → m[j]? = some y → keyC x = keyC y from fun j x y hj hx hy => by
          rcases Nat.lt_or_ge j k with hjk | hjk
          · exact HK.out j x y hjk hx hy
          · obtain rfl : j = k := by omega
            rw [ha] at hx
            rw [hb] at hy
            injection hx with hx
            injection hy with hy
            subst hx
            subst hy
            exact e))
        have HNE := Lib.hid (fun (e : keyC a ≠ keyC b) => sameC_at ha hb e)
        have HC := Lib.hid hcr
        clear hce hce2 ha hb hcr
        obtain ⟨page, bA, bn, bc, Bb⟩ := a
        obtain ⟨page2, bA2, bn2, bc2, Bb2⟩ := b
        simp only at c0 c1 d0 d1 hba hbb
        have hkI : (k : Int) < (n : Int) := by omega
        by_cases hp : page = page2
        · subst hp
          have HPP := Lib.hid (show Bb = Bb2 → keyC ⟨page, bA, bn, bc, Bb⟩ = keyC ⟨page, bA2, bn2, bc2, Bb2⟩ from fun e => by subst e; rfl)
          have HPN := Lib.hid (show Bb ≠ Bb2 → keyC ⟨page, bA, bn, bc, Bb⟩ ≠ keyC ⟨page, bA2, bn2, bc2, Bb2⟩ from fun e h => by injection h with _ h; exact e h)
          have v1 : ∀ k, (convert 22 9 (.slice bA bn bc)).run Try.prog (wr.drewN k) = .ok (.string (strOf Bb)) (wr.drewN k) := fun k => (hba.keep ((Chg.refl [] wr).drewN k)).str (P := Try.prog) 22 5 9 Try.underlying22 Try.underlying5 Try.underlying9
          have v2 : ∀ k, (convert 22 9 (.slice bA2 bn2 bc2)).run Try.prog (wr.drewN k) = .ok (.string (strOf Bb2)) (wr.drewN k) := fun k => (hbb.keep ((Chg.refl [] wr).drewN k)).str (P := Try.prog) 22 5 9 Try.underlying22 Try.underlying5 Try.underlying9
          clear hba hbb
          by_cases hB : Bb = Bb2
          · have HR := Lib.hid (HKN.out (HPP.out hB))
            subst hB
            go_wp2_with fail
            go_quiet (fail)
            go_wp2_with fail
            go_roundw
            case rel => exact ⟨k + 1, by omega, by go_num, HR, HC.out.drewN _⟩
            case measure => simp [intOf]; omega
          · have HF := Lib.hid (HNE.out (HPN.out hB))
            have hs1 : ((strOf Bb).toList == (strOf Bb2).toList) = false := by rw [str_ne]; simpa using hB
            have hs2 : (!((strOf Bb).toList == (strOf Bb2).toList)) = true := by rw [hs1]; rfl
            clear hB
            go_wp2_with fail
            go_quiet (fail)
            go_wp2_with fail
            go_ret
            exact ⟨by rw [HF.out]; rfl, HC.out.drewN _⟩
        · have hpb : (page == page2) = false := by simpa using hp
          have hpb2 : (!(page == page2)) = true := by simpa using hp
          have HF := Lib.hid (HNE.out (fun e => by injection e with e; exact hp e))
          clear hba hbb
          go_wp2_with fail
          go_quiet (fail)
          go_wp2_with fail
          go_ret
          exact ⟨by rw [HF.out]; rfl, HC.out.drewN _⟩
      · have HF := Lib.hid (show sameC l m = true from sameC_all (by rw [HL.out, HL2.out]) fun i a b ha hb => HK.out i a b (by have := (List.getElem?_eq_some_iff.1 ha).1; have := HL.out; omega) ha hb)
        have hkI : (n : Int) ≤ (k : Int) := by omega
        go_wp2_with fail
        go_ret
        exact ⟨by rw [HF.out]; rfl, hcr⟩
  · have HF := Lib.hid (show sameC l m = false from sameC_len (by rw [HL.out, HL2.out]; exact hnn))
    have hb1 : ((n : Int) == (n2 : Int)) = false := by simp; omega
    have hb2 : (!((n : Int) == (n2 : Int))) = true := by simp; omega
    have hb3 : (n == n2) = false := by simpa using hnn
    go_enter Try.func105, Try.ntmps105
    go_wp2_with fail
    go_ret
    exact ⟨by rw [HF.out]; rfl, Chg.refl _ _⟩
end
end Go.Proofs.Ytlhkmbcjgdjegaa
