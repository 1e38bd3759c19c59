/-
  Layer 4: the reference's Changes, Need.
-/
import Derived.Test.YteodadngnlekfaaDeltaPure
namespace Go.Proofs.Yteodadngnlekfaa
open Go.RowKit
def needI (n : Int) : Int := if n < 0 ∨ 64 < n then 0 else 18 + n * 66
theorem ret_int' {k : IntKind} {a b : Int} (h : a = b) : Ending.returned (.int k a) = .returned (.int k b) := by rw [h]
theorem ret_bool {a b : Bool} (h : a = b) : Ending.returned (.bool a) = .returned (.bool b) := by rw [h]
section
variable {w : World} {A : Option Addr} {n c : Nat}
theorem need_any (n : Int) : Calls Try.prog 12 #[.int .i64 n] w fun e w' => e = .returned (.int .i64 (needI n)) ∧ w = w' := by
  unfold needI
  split
  · rename_i h; exact need_no n h
  · rename_i h
    obtain ⟨k, rfl⟩ := Int.eq_ofNat_of_zero_le (show 0 ≤ n by omega)
    exact need_yes k (by omega)
set_option maxHeartbeats 400000 in
theorem rneed_any (n : Int) : Calls Try.prog 13 #[.int .i64 n] w fun e w' => e = .returned (.int .i64 (needI n)) ∧ w = w' := by
  by_cases h0 : n < 0
  · go_enter Try.func13, Try.ntmps13
    go_wp2_with fail
    go_ret
    exact ⟨ret_int' (by unfold needI; rw [if_pos (.inl h0)]), rfl⟩
  · have hd : decide (n < 0) = false := by simpa using h0
    by_cases h1 : 64 < n
    · go_enter Try.func13, Try.ntmps13
      go_wp2_with fail
      go_ret
      exact ⟨ret_int' (by unfold needI; rw [if_pos (.inr h1)]), rfl⟩
    · have h2 : 0 ≤ n := by omega
      have h3 : n ≤ 64 := by omega
      go_enter Try.func13, Try.ntmps13
      go_wp2_with fail
      go_ret
      exact ⟨ret_int' (by unfold needI; rw [if_neg (by omega)]), rfl⟩
/-- The page ahead of the k-th. -/
def LastIs (l : List ChV) (k : Nat) (last : Int) : Prop := (k = 0 ∧ last = -1) ∨ (∃ a, 0 < k ∧ l[k - 1]? = some a ∧ last = a.page ∧ 0 ≤ last)
set_option maxHeartbeats 8000000 in
set_option maxRecDepth 100000 in
theorem rchanges_any {l : List ChV} (h : Chs w A l) (hl : l.length = n) (hn : n ≤ 9223372036854775807) (pages : Int) :
    Calls Try.prog 32 #[.slice A n c, .int .i64 pages] w (BoolPost (rightB pages l) w) := by
  have H := Lib.hid h
  have HL := Lib.hid hl
  clear h hl
  go_enter Try.func32, Try.ntmps32
  go_wp2_with fail
  go_loopw [8] (fun i wr => ∃ k : Nat, k ≤ n ∧ i = .int .i64 (k : Int) ∧ (∃ last : Int, Hid (LastIs l k last) ∧ Hid (rightS (-1) pages l = rightS last pages (l.drop k))) ∧ Chg [] w wr) (fun i _ => n - (intOf i).toNat)
  case atStart => exact ⟨0, Nat.zero_le _, rfl, ⟨-1, Lib.hid (.inl ⟨rfl, rfl⟩), Lib.hid (by rw [List.drop_zero])⟩, Chg.refl _ _⟩
  case round =>
    obtain ⟨k, hk, rfl, ⟨last, HLA, HK⟩, hcr⟩ := hrel
    by_cases hlt : k < n
    · obtain ⟨a, ha⟩ : ∃ a, l[k]? = some a := ⟨_, List.getElem?_eq_getElem (by have := HL.out; omega)⟩
      obtain ⟨g, o, rfl, hg, hce⟩ := (H.out.keep hcr).cells (by have := HL.out; omega)
      obtain ⟨c0, c1⟩ := hce k a ha
      have hbn := (H.out.ok a (List.mem_of_getElem? ha)).bs.len
      have HD := Lib.hid (show l.drop k = a :: l.drop (k + 1) by rw [List.drop_eq_getElem_cons (by have := HL.out; omega)]; congr 1; have := List.getElem?_eq_getElem (l := l) (i := k) (by have := HL.out; omega); rw [this] at ha; injection ha)
      have HC := Lib.hid hcr
      have hkI : (k : Int) < (n : Int) := by omega
      have HN1 := Lib.hid (show ∀ (hp : last < a.page) (hq : a.page < pages) (hr : a.bn = 64), LastIs l (k + 1) a.page ∧ rightS (-1) pages l = rightS a.page pages (l.drop (k + 1)) from fun hp hq hr => by
        refine ⟨.inr ⟨a, by omega, by simpa using ha, rfl, ?_⟩, ?_⟩
        · rcases HLA.out with ⟨_, h2⟩ | ⟨_, _, _, _, h2⟩ <;> omega
        · rw [HK.out, HD.out]
          simp only [rightS]
          rw [decide_eq_false (by omega), decide_eq_false (by omega), decide_eq_false (by simpa using hr)]
          rfl)
      have HF1 := Lib.hid (show ∀ (hp : a.page ≤ last ∨ pages ≤ a.page ∨ a.bn ≠ 64), rightB pages l = false from fun hp => by
        unfold rightB
        rw [HK.out, HD.out]
        simp only [rightS]
        rcases hp with h | h | h <;> simp [h])
      clear ha hcr hbn
      obtain ⟨page, bA, bn, bc, Bb⟩ := a
      simp only at c0 c1 HN1 HF1
      by_cases h1 : page < 0
      · have hd1 : decide (page < 0) = true := by simpa using h1
        have HF := Lib.hid (HF1.out (.inl (by rcases HLA.out with ⟨_, h2⟩ | ⟨_, _, _, _, h2⟩ <;> omega)))
        clear hce h1
        go_wp2_with fail
        go_quiet (fail)
        go_wp2_with fail
        go_ret
        exact ⟨by rw [HF.out]; rfl, HC.out.drewN _⟩
      · have hd1 : decide (page < 0) = false := by simpa using h1
        by_cases h2 : pages ≤ page
        · have hd2 : decide (pages ≤ page) = true := by simpa using h2
          have HF := Lib.hid (HF1.out (.inr (.inl h2)))
          clear hce h2
          go_wp2_with fail
          go_quiet (fail)
          go_wp2_with fail
          go_ret
          exact ⟨by rw [HF.out]; rfl, HC.out.drewN _⟩
        · have hd2 : decide (pages ≤ page) = false := by simpa using h2
          by_cases hk0 : k = 0
          · have hk1 : decide ((0 : Int) < (k : Int)) = false := by simp; omega
            have hk2 : decide (0 < k) = false := by simp; omega
            have hla : last < page := by rcases HLA.out with ⟨_, h3⟩ | ⟨_, h3, _⟩ <;> omega
            by_cases h3 : bn = 64
            · obtain ⟨hLN, hRN⟩ := HN1.out hla (by omega) h3
              have HLN := Lib.hid hLN
              have HRN := Lib.hid hRN
              have hb3 : ((bn : Int) == 64) = true := by simp; omega
              have hb4 : ((bn : Int) != 64) = false := by simp; omega
              have hb5 : (!((bn : Int) == 64)) = false := by simp; omega
              clear hce hLN hRN h3 hk0 hla h2 h1
              go_wp2_with fail
              go_quiet (fail)
              go_wp2_with fail
              go_roundw
              case rel => exact ⟨k + 1, by omega, by go_num, ⟨page, HLN, HRN⟩, HC.out.drewN _⟩
              case measure => simp [intOf]; omega
            · have HF := Lib.hid (HF1.out (.inr (.inr h3)))
              have hb3 : ((bn : Int) == 64) = false := by simp; omega
              have hb4 : ((bn : Int) != 64) = true := by simp; omega
              have hb5 : (!((bn : Int) == 64)) = true := by simp; omega
              clear hce h3 hk0 hla h2 h1
              go_wp2_with fail
              go_quiet (fail)
              go_wp2_with fail
              go_ret
              exact ⟨by rw [HF.out]; rfl, HC.out.drewN _⟩
          · have hk1 : decide ((0 : Int) < (k : Int)) = true := by simp; omega
            have hk2 : decide (0 < k) = true := by simp; omega
            obtain ⟨pv, hpv, hpl⟩ : ∃ a, l[k - 1]? = some a ∧ last = a.page := by
              rcases HLA.out with ⟨h3, _⟩ | ⟨a, _, h3, h4, _⟩
              · exact absurd h3 hk0
              · exact ⟨a, h3, h4⟩
            obtain ⟨d0, _⟩ := hce (k - 1) pv hpv
            rw [← hpl] at d0
            have m1 : IntKind.i64.wrap ((k : Int) - 1) = (k : Int) - 1 := IntWalk.i64_in _ (by omega)
            have m2 : (0 : Int) ≤ (k : Int) - 1 := by omega
            have m3 : (k : Int) - 1 < (n : Int) := by omega
            have m4 : ((k : Int) - 1).toNat = k - 1 := by omega
            have m5 : (1 : Int) ≤ (k : Int) := by omega
            by_cases h4 : page ≤ last
            · have hd4 : decide (page ≤ last) = true := by simpa using h4
              have HF := Lib.hid (HF1.out (.inl h4))
              clear hce hpv hpl h4 hk0 h2 h1
              go_wp2_with fail
              go_quiet (fail)
              go_wp2_with fail
              go_ret
              exact ⟨by rw [HF.out]; rfl, HC.out.drewN _⟩
            · have hd4 : decide (page ≤ last) = false := by simpa using h4
              by_cases h3 : bn = 64
              · obtain ⟨hLN, hRN⟩ := HN1.out (by omega) (by omega) h3
                have HLN := Lib.hid hLN
                have HRN := Lib.hid hRN
                have hb3 : ((bn : Int) == 64) = true := by simp; omega
                have hb4 : ((bn : Int) != 64) = false := by simp; omega
                have hb5 : (!((bn : Int) == 64)) = false := by simp; omega
                clear hce hLN hRN h3 hk0 h2 h1 h4 hpv hpl
                go_wp2_with fail
                go_quiet (fail)
                go_wp2_with fail
                go_roundw
                case rel => exact ⟨k + 1, by omega, by go_num, ⟨page, HLN, HRN⟩, HC.out.drewN _⟩
                case measure => simp [intOf]; omega
              · have HF := Lib.hid (HF1.out (.inr (.inr h3)))
                have hb3 : ((bn : Int) == 64) = false := by simp; omega
                have hb4 : ((bn : Int) != 64) = true := by simp; omega
                have hb5 : (!((bn : Int) == 64)) = true := by simp; omega
                clear hce h3 hk0 h2 h1 h4 hpv hpl
                go_wp2_with fail
                go_quiet (fail)
                go_wp2_with fail
                go_ret
                exact ⟨by rw [HF.out]; rfl, HC.out.drewN _⟩
    · have HF := Lib.hid (show rightB pages l = decide (pages ≤ 64) by
        unfold rightB
        rw [HK.out, List.drop_eq_nil_of_le (by have := HL.out; omega)]
        simp [rightS])
      have hkI : (n : Int) ≤ (k : Int) := by omega
      go_wp2_with fail
      go_ret
      exact ⟨by rw [HF.out]; rfl, hcr⟩
end
end Go.Proofs.Yteodadngnlekfaa
