/-
  TopRun, part 3: Tokens, RowE, Digits, Get, DeltaGet, DeltaBytes, KeepCh, TapeFlow, Txt, FnRow, StPure, Find, Takes, CTakes, StMem.
-/
import Derived.Test.YtnohfdojcdhfoaaZTopRun1
import Derived.Test.YtnohfdojcdhfoaaZTopRun2
import Derived.Laws.Cover4
import Derived.Test.YtnohfdojcdhfoaaChecked
import Derived.Laws.BitsAllLaws
import Derived.Deep.RegionLaw
namespace Go.Proofs.Ytnohfdojcdhfoaa
open Go.RowKit
/-- Digits from place j on. -/
def numAt (L : List Nat) : Nat → Nat → Nat → Option (Nat × Nat)
  | 0, j, m => some (m, j)
  | f + 1, j, m => match L[j]? with
    | some x => if 48 ≤ x ∧ x ≤ 57 then (if (9223372036854775807 - (x - 48)) / 10 < m then none else numAt L f (j + 1) (m * 10 + (x - 48))) else some (m, j)
    | none => some (m, j)
def tokAt (L : List Nat) : Nat → Nat → List TkV → Option (List TkV)
  | 0, _, ts => some ts
  | f + 1, i, ts => match L[i]? with
    | none => some ts
    | some r => if r = 32 then tokAt L f (i + 1) ts
      else if 48 ≤ r ∧ r ≤ 57 then (match numAt L L.length i 0 with
        | none => none
        | some (m, j) => tokAt L f j (ts ++ [⟨48, (m : Int), 0⟩]))
      else if r = 955 ∨ r = 960 then (match L[i + 1]? with
        | none => none
        | some x => if nameB (x : Int) = true then tokAt L f (i + 2) (ts ++ [⟨(r : Int), 0, (x : Int)⟩]) else none)
      else if knownB (r : Int) = true then tokAt L f (i + 1) (ts ++ [⟨(r : Int), 0, 0⟩]) else none
def tokR (s : ByteArray) : Option (List TkV) := if 512 < s.size then none else tokAt (runesL s) ((runesL s).length + 1) 0 []
def tokE (s : ByteArray) : Int := if 512 < s.size then 3 else 12
def TokPost (s : ByteArray) (w : World) (e : Ending) (w' : World) : Prop :=
  Chg [] w w' ∧ ((∃ ts v, tokR s = some ts ∧ ts.length ≤ 512 ∧ e = .returned (.tuple #[v, .int .i64 0]) ∧ w'.ownsRow w.heap.size 121 3 v ts.length (tkCs ts)) ∨
    (tokR s = none ∧ e = .returned (.tuple #[.slice none 0 0, .int .i64 (tokE s)])))
theorem runesL_len (s : ByteArray) : (runesL s).length ≤ s.size := runesAt_len s s.size 0
theorem own_more_n {w : World} {B B' e k n : Nat} {v : Value} {xs : List Value} (h : w.ownsRow B e k v n xs) (hB : B' ≤ B) : w.ownsRow B' e k v n xs := by
  refine ⟨h.1, h.2.imp id ?_⟩
  rintro ⟨g, cap, cur, rfl, hb, r⟩
  exact ⟨g, cap, cur, rfl, Nat.le_trans hB hb, r⟩
section
variable {w : World}
set_option maxHeartbeats 4000000 in
set_option maxRecDepth 100000 in
theorem tokens_any (s : ByteArray) (hs : s.size ≤ 9223372036854775807) : Calls Try.prog 75 #[.string s] w (TokPost s w) := by
  obtain ⟨i0, hi0, hz0, hz1, hz2⟩ := info_parts info_token
  by_cases hlong : 512 < s.size
  · have hlI : (512 : Int) < (s.size : Int) := by omega
    have HPO := Lib.hid (show TokPost s w (.returned (.tuple #[.slice none 0 0, .int .i64 3])) w from ⟨Chg.refl _ _, .inr ⟨by unfold tokR; rw [if_pos hlong], by unfold tokE; rw [if_pos hlong]⟩⟩)
    go_enter Try.func75, Try.ntmps75
    go_wp2_with fail
    go_ret2
    exact HPO.out
  have hlI : ¬ (512 : Int) < (s.size : Int) := by omega
  have HT := Lib.hid (show tokR s = tokAt (runesL s) ((runesL s).length + 1) 0 [] from by unfold tokR; rw [if_neg hlong])
  have HE := Lib.hid (show tokE s = 12 from by unfold tokE; rw [if_neg hlong])
  have HRUN := Lib.hid (runes_any s w (by omega))
  have hLs := runesL_len s
  have hLr := runesAt_le s s.size 0
  go_enter Try.func75, Try.ntmps75
  go_wp2_with fail
  refine HRUN.out.mono ?_
  rintro e w1 ⟨v1, rfl, ho1, hc1⟩
  obtain ⟨L, hL⟩ : ∃ L, L = runesL s := ⟨_, rfl⟩
  have hLr' : ∀ r ∈ L, r ≤ 2147483647 := by rw [hL]; exact hLr
  rw [← hL] at ho1 hLs HT
  have HLR := Lib.hid hLr'
  have HC1 := Lib.hid hc1
  obtain ⟨A1, c1, rfl, hl1, _, hs1, hp1⟩ := own_slice ho1
  obtain ⟨n, hn⟩ : ∃ n, n = L.length := ⟨_, rfl⟩
  rw [← hn] at hLs HT ⊢
  have HN := Lib.hid hn
  have hn512 : n ≤ 512 := by omega
  have HS1 := Lib.hid (show ∀ (W : World), Chg [] w1 W → ∀ (j : Nat) (r : Nat), L[j]? = some r → ∃ g, A1 = some ⟨g, 0, none⟩ ∧ W.cell? ⟨g, j, none⟩ = some (.int .i32 (r : Int)) from fun W hW j r hj => by
    obtain ⟨⟨g, o, sp⟩, e, hb, hx⟩ := (hs1.keep hW) (by rw [r32_len]; have := (List.getElem?_eq_some_iff.1 hj).1; omega)
    obtain ⟨h1, _, h3, _⟩ := hp1 _ e
    simp only at h1 h3
    subst h1 h3
    refine ⟨g, e, ?_⟩
    have := hx j (.int .i32 (r : Int)) (by simp [r32, hj])
    rwa [add_plain, Nat.zero_add] at this)
  obtain ⟨B, hB⟩ : ∃ b, b = w1.heap.size := ⟨_, rfl⟩
  have HB := Lib.hid hB
  clear ho1 hc1 hl1 hs1 hp1 hL hLr hLr' hn hB hlong hLs HRUN
  go_wp2_with fail
  go_loopw [5, 6, 7, 8] (fun v x _ _ wr => ∃ i : Nat, i ≤ n ∧ x = .int .i64 (i : Int) ∧ (∃ ts f, wr.ownsRow B 121 3 v ts.length (tkCs ts) ∧ ts.length ≤ i ∧ n < i + f ∧ Hid (tokR s = tokAt L f i ts)) ∧ Hid (Chg [] w1 wr)) (fun _ x _ _ _ => n - (intOf x).toNat)
  case atStart => exact ⟨0, Nat.zero_le _, rfl, ⟨[], n + 1, World.ownsRow_nil _ _ _ _, by simp, by omega, HT⟩, Lib.hid (Chg.refl _ _)⟩
  case round =>
    obtain ⟨i, hin, rfl, ⟨ts, f, ho, htl, hf, HTi⟩, HCr⟩ := hrel
    have HO := Lib.hid ho
    clear ho
    have HCW := Lib.hid (show Chg [] w wr from HC1.out.new HCr.out)
    have HNO := Lib.hid (show ∀ W, Chg [] w W → tokR s = none → TokPost s w (.returned (.tuple #[.slice none 0 0, .int .i64 12])) W from fun W hW h => ⟨hW, .inr ⟨h, by rw [HE.out]⟩⟩)
    by_cases hlt : i < n
    · have hltI : (i : Int) < (n : Int) := by omega
      have hi0' : (0 : Int) ≤ (i : Int) := by omega
      have hil : i < L.length := by rw [← HN.out]; exact hlt
      obtain ⟨f', rfl⟩ : ∃ f', f = f' + 1 := ⟨f - 1, by omega⟩
      obtain ⟨r, hr⟩ : ∃ r, L[i]? = some r := ⟨_, List.getElem?_eq_getElem hil⟩
      obtain ⟨g4, rfl, t0⟩ := HS1.out wr HCr.out i r hr
      have hr2 := HLR.out r (List.mem_of_getElem? hr)
      have HR := Lib.hid hr
      have HU := Lib.hid (show tokR s = _ from HTi.out.trans (by rw [tokAt, hr]))
      clear hr
      by_cases h32 : r = 32
      · subst h32
        have HT2 := Lib.hid (show tokR s = tokAt L f' (i + 1) ts from by rw [HU.out]; simp)
        go_wp2_with fail
        go_roundw
        case rel => exact ⟨i + 1, by omega, by go_num, ⟨ts, f', HO.out, by omega, by omega, HT2⟩, HCr⟩
        case measure => simp [intOf]; omega
      have h32d : ((r : Int) == 32) = false := by simp; omega
      by_cases hdg : 48 ≤ r ∧ r ≤ 57
      · obtain ⟨h48, h57⟩ := hdg
        have h48I : (48 : Int) ≤ (r : Int) := by omega
        have h57I : (r : Int) ≤ 57 := by omega
        have HU2 := Lib.hid (show tokR s = (match numAt L L.length i 0 with
          | none => none
          | some (m, j) => tokAt L f' j (ts ++ [⟨48, (m : Int), 0⟩])) from by rw [HU.out]; simp only [h32, h48, h57, if_false, if_true, and_self])
        have HRD := Lib.hid (And.intro h48 h57)
        have HBW := Lib.hid (show B ≤ wr.heap.size from by rw [HB.out]; exact HCr.out.size)
        clear HU h48 h57 h32
        go_wp2_with fail
        go_loop [6, 8] (fun x y => ∃ j m f2 : Nat, i ≤ j ∧ j ≤ n ∧ x = .int .i64 (j : Int) ∧ y = .int .u64 (m : Int) ∧ m ≤ 9223372036854775807 ∧ n ≤ j + f2 ∧ (i < j ∨ j = i) ∧ Hid (numAt L L.length i 0 = numAt L f2 j m)) (fun x _ => n - (intOf x).toNat)
        case atStart => exact ⟨i, 0, L.length, Nat.le_refl _, by omega, rfl, rfl, by omega, by have := HN.out; omega, .inr rfl, Lib.hid rfl⟩
        case round =>
          obtain ⟨j, m, f2, hij, hjn, rfl, rfl, hm, hf2, hdis, HQ⟩ := hrel
          have hj0 : (0 : Int) ≤ (j : Int) := by omega
          have hm0 : (0 : Int) ≤ (m : Int) := by omega
          have hstop : ∀ _ : numAt L L.length i 0 = some (m, j), i < j → tokR s = tokAt L f' j (ts ++ [⟨48, (m : Int), 0⟩]) := fun h _ => by rw [HU2.out, h]
          have HST := Lib.hid hstop
          clear hstop
          by_cases hltj : j < n
          · have hltjI : (j : Int) < (n : Int) := by omega
            obtain ⟨f3, rfl⟩ : ∃ f3, f2 = f3 + 1 := ⟨f2 - 1, by omega⟩
            obtain ⟨x, hx⟩ : ∃ x, L[j]? = some x := ⟨_, List.getElem?_eq_getElem (by rw [← HN.out]; exact hltj)⟩
            obtain ⟨g4', e, t1⟩ := HS1.out wr HCr.out j x hx
            injection e with e
            injection e with e
            subst e
            have hx2 := HLR.out x (List.mem_of_getElem? hx)
            have HX := Lib.hid hx
            clear hx
            by_cases hxd : 48 ≤ x ∧ x ≤ 57
            · have HXD := Lib.hid hxd
              have hx1 : (48 : Int) ≤ (x : Int) := by omega
              have hx3 : (x : Int) ≤ 57 := by omega
              have HHM := Lib.hid (And.intro hm (And.intro hdis hf2))
              have HHI := Lib.hid hij
              clear hxd hm hdis hf2 hij
              by_cases hov : (9223372036854775807 - ((x : Int) - 48)) / 10 < (m : Int)
              · have hnum : numAt L (f3 + 1) j m = none := by
                  rw [numAt, HX.out]
                  show (if 48 ≤ x ∧ x ≤ 57 then _ else _) = none
                  rw [if_pos HXD.out, if_pos (by have := HXD.out; omega)]
                have HPO := Lib.hid (HNO.out wr HCW.out (by rw [HU2.out, HQ.out, hnum]))
                clear hnum
                go_wp2_with fail
                go_ret2
                exact HPO.out
              · have hovJ : (m : Int) ≤ (9223372036854775807 - ((x : Int) - 48)) / 10 := by omega
                have HQ2 := Lib.hid (show numAt L L.length i 0 = numAt L f3 (j + 1) (m * 10 + (x - 48)) from HQ.out.trans (by
                  rw [numAt, HX.out]
                  show (if 48 ≤ x ∧ x ≤ 57 then _ else _) = _
                  rw [if_pos HXD.out, if_neg (by have := HXD.out; omega)]))
                clear hov
                go_wp2_with fail
                go_round
                case rel => exact ⟨j + 1, m * 10 + (x - 48), f3, by have := HHI.out; omega, by omega, by go_num, by rw [show ((m * 10 + (x - 48) : Nat) : Int) = (m : Int) * 10 + ((x : Int) - 48) by have := HXD.out; omega], by have := HXD.out; omega, by have := HHM.out.2.2; omega, .inl (by have := HHI.out; omega), HQ2⟩
                case measure => simp [intOf]; omega
            · have HSS := Lib.hid (HST.out (by rw [HQ.out, numAt, HX.out]; simp only; rw [if_neg hxd]) (by
                rcases hdis with h | h
                · exact h
                · exfalso
                  subst h
                  have := HX.out
                  rw [HR.out] at this
                  injection this with this
                  subst this
                  exact hxd HRD.out))
              have hij1 : i < j := by
                rcases hdis with h | h
                · exact h
                · exfalso
                  subst h
                  have := HX.out
                  rw [HR.out] at this
                  injection this with this
                  subst this
                  exact hxd HRD.out
              have hnd : ((48 : Int) ≤ (x : Int) ∧ decide ((x : Int) ≤ 57) = false) ∨ decide ((48 : Int) ≤ (x : Int)) = false := by
                by_cases h : 48 ≤ x
                · exact .inl ⟨by omega, by simp; omega⟩
                · exact .inr (by simp; omega)
              have HHM := Lib.hid (And.intro hm hij)
              clear hxd hdis hf2 hm hij
              rcases hnd with ⟨hx48, hx57⟩ | hx48
              all_goals
                have hjm : (j : Int) - 1 + 1 = ((j : Nat) : Int) := by omega
                have HJM := Lib.hid hjm
                have hm64 : (m : Int) ≤ 9223372036854775807 := by have := HHM.out.1; omega
                clear hjm
                go_wp2_with (at_builtin
                             refine wpList_append_own _ rfl (.tmp 75) (.tmp 79) _ rfl B 121 i0 _ 3 24 Try.underlying106 hi0 hz0 hz1 hz2 rfl (by decide) _ ts.length (tkCs ts) rfl (rown_keep HO.out ((Chg.refl [] wr).alloc _)) ⟨wr.heap.size, 0, none⟩ 1 1 [.int .i32 48, .int .i64 (m : Int), .int .i32 0] rfl rfl (cells_page _ _ _) (by simp [Value.oneCell']) (by simp only [maxLen]; omega) (by omega) (by have := HBW.out; simp; omega) ?_
                             intro v' w6 ho6 hg6 _
                             have HO6 := Lib.hid ho6
                             have HG6 := Lib.hid hg6
                             clear ho6 hg6)
                have HC6 := Lib.hid (show Chg [] w1 w6 from chg_grown2 (HCr.out.alloc _) HG6.out (fun g hg => by have := ((rown_keep HO.out ((Chg.refl [] wr).alloc (.cells #[] 121))).lt g hg).1; have := HB.out; omega))
                go_roundw
                case rel => exact ⟨j, hjn, by rw [← HJM.out], ⟨ts ++ [⟨48, (m : Int), 0⟩], f', by rw [List.length_append, tkCs_app, tkCs_one]; exact HO6.out, by simp; omega, by omega, HSS⟩, HC6⟩
                case measure => simp [intOf]; omega
          · have hltjI : ¬ (j : Int) < (n : Int) := by omega
            have HSS := Lib.hid (HST.out (by rw [HQ.out]; cases f2 with
              | zero => rfl
              | succ f2 => rw [numAt, List.getElem?_eq_none (by rw [← HN.out]; omega)]) (by omega))
            have hij1 : i < j := by omega
            have HHM := Lib.hid (And.intro hm hij)
            clear hdis hf2 hm hij
            have hjm : (j : Int) - 1 + 1 = ((j : Nat) : Int) := by omega
            have HJM := Lib.hid hjm
            have hm64 : (m : Int) ≤ 9223372036854775807 := by have := HHM.out.1; omega
            clear hjm
            go_wp2_with (at_builtin
                         refine wpList_append_own _ rfl (.tmp 75) (.tmp 79) _ rfl B 121 i0 _ 3 24 Try.underlying106 hi0 hz0 hz1 hz2 rfl (by decide) _ ts.length (tkCs ts) rfl (rown_keep HO.out ((Chg.refl [] wr).alloc _)) ⟨wr.heap.size, 0, none⟩ 1 1 [.int .i32 48, .int .i64 (m : Int), .int .i32 0] rfl rfl (cells_page _ _ _) (by simp [Value.oneCell']) (by simp only [maxLen]; omega) (by omega) (by have := HBW.out; simp; omega) ?_
                         intro v' w6 ho6 hg6 _
                         have HO6 := Lib.hid ho6
                         have HG6 := Lib.hid hg6
                         clear ho6 hg6)
            have HC6 := Lib.hid (show Chg [] w1 w6 from chg_grown2 (HCr.out.alloc _) HG6.out (fun g hg => by have := ((rown_keep HO.out ((Chg.refl [] wr).alloc (.cells #[] 121))).lt g hg).1; have := HB.out; omega))
            go_roundw
            case rel => exact ⟨j, hjn, by rw [← HJM.out], ⟨ts ++ [⟨48, (m : Int), 0⟩], f', by rw [List.length_append, tkCs_app, tkCs_one]; exact HO6.out, by simp; omega, by omega, HSS⟩, HC6⟩
            case measure => simp [intOf]; omega
      · by_cases hnm : r = 955 ∨ r = 960
        · by_cases hi1 : i + 1 < n
          · obtain ⟨x, hx⟩ : ∃ x, L[i + 1]? = some x := ⟨_, List.getElem?_eq_getElem (by rw [← HN.out]; exact hi1)⟩
            obtain ⟨g4', e, t1⟩ := HS1.out wr HCr.out (i + 1) x hx
            injection e with e
            injection e with e
            subst e
            have hx2 := HLR.out x (List.mem_of_getElem? hx)
            have HU2 := Lib.hid (show tokR s = (if nameB (x : Int) = true then tokAt L f' (i + 2) (ts ++ [⟨(r : Int), 0, (x : Int)⟩]) else none) from by rw [HU.out]; simp only [h32, hdg, hnm, if_false, if_true, hx])
            have hi1I : ¬ (n : Int) ≤ (i : Int) + 1 := by omega
            have hi1J : (i : Int) + 1 < (n : Int) := by omega
            have hi1K : (0 : Int) ≤ (i : Int) + 1 := by omega
            have hi1d : decide ((n : Int) ≤ (i : Int) + 1) = false := by simp; omega
            have HBW := Lib.hid (show B ≤ wr.heap.size from by rw [HB.out]; exact HCr.out.size)
            clear HU hdg hx
            rcases hnm with rfl | rfl
            all_goals
              by_cases hk : nameB (x : Int) = true
              · have HT2 := Lib.hid (HU2.out.trans (if_pos hk))
                have HKK := Lib.hid hk
                clear hk h32
                go_wp2_with (first
                  | (go_at_call 92; refine (name_any (x : Int) _).mono ?_; rintro e w' ⟨rfl, rfl⟩; rw [HKK.out])
                  | (at_builtin
                     refine wpList_append_own _ rfl (.tmp 102) (.tmp 110) _ rfl B 121 i0 _ 3 24 Try.underlying106 hi0 hz0 hz1 hz2 rfl (by decide) _ ts.length (tkCs ts) rfl (rown_keep HO.out ((Chg.refl [] wr).alloc _)) ⟨wr.heap.size, 0, none⟩ 1 1 [.int .i32 _, .int .i64 0, .int .i32 (x : Int)] rfl rfl (cells_page _ _ _) (by simp [Value.oneCell']) (by simp only [maxLen]; omega) (by omega) (by have := HBW.out; simp; omega) ?_
                     intro v' w6 ho6 hg6 _
                     have HO6 := Lib.hid ho6
                     have HG6 := Lib.hid hg6
                     clear ho6 hg6))
                have HC6 := Lib.hid (show Chg [] w1 w6 from chg_grown2 (HCr.out.alloc _) HG6.out (fun g hg => by have := ((rown_keep HO.out ((Chg.refl [] wr).alloc (.cells #[] 121))).lt g hg).1; have := HB.out; omega))
                go_roundw
                case rel => exact ⟨i + 2, by omega, by go_num, ⟨ts ++ [⟨_, 0, (x : Int)⟩], f', by rw [List.length_append, tkCs_app, tkCs_one]; exact HO6.out, by simp; omega, by omega, HT2⟩, HC6⟩
                case measure => simp [intOf]; omega
              · have hkf : nameB (x : Int) = false := by simpa using hk
                have HKK := Lib.hid hkf
                have HPO := Lib.hid (HNO.out wr HCW.out (HU2.out.trans (if_neg hk)))
                clear hk hkf h32
                go_wp2_with (go_at_call 92; refine (name_any (x : Int) _).mono ?_; rintro e w' ⟨rfl, rfl⟩; rw [HKK.out])
                go_ret2
                exact HPO.out
          · have hi1I : (n : Int) ≤ (i : Int) + 1 := by omega
            have HPO := Lib.hid (HNO.out wr HCW.out (by rw [HU.out]; simp only [h32, hdg, hnm, if_false, if_true]; rw [List.getElem?_eq_none (by rw [← HN.out]; omega)]))
            clear HU hdg
            rcases hnm with rfl | rfl
            all_goals
              clear h32
              go_wp2_with fail
              go_ret2
              exact HPO.out
        · have h955 : ((r : Int) == 955) = false := by simp; omega
          have h960 : ((r : Int) == 960) = false := by simp; omega
          have HU2 := Lib.hid (show tokR s = (if knownB (r : Int) = true then tokAt L f' (i + 1) (ts ++ [⟨(r : Int), 0, 0⟩]) else none) from by rw [HU.out]; simp only [h32, hdg, hnm, if_false])
          have hnd : ((48 : Int) ≤ (r : Int) ∧ decide ((r : Int) ≤ 57) = false) ∨ decide ((48 : Int) ≤ (r : Int)) = false := by
            by_cases h : 48 ≤ r
            · exact .inl ⟨by omega, by simp; omega⟩
            · exact .inr (by simp; omega)
          clear HU hdg hnm h32
          rcases hnd with ⟨h48, h57⟩ | h48
          all_goals
            go_wp2_with fail
            refine (known_any (r : Int) wr).mono ?_
            rintro e w3 ⟨rfl, hc3⟩
            have HC3 := Lib.hid (HCr.out.new hc3)
            have HO3 := Lib.hid (rown_keep HO.out hc3)
            have HB3 := Lib.hid (show B ≤ w3.heap.size from by rw [HB.out]; exact HC3.out.size)
            clear hc3
            by_cases hk : knownB (r : Int) = true
            · have HT2 := Lib.hid (show tokR s = tokAt L f' (i + 1) (ts ++ [⟨(r : Int), 0, 0⟩]) from by rw [HU2.out, if_pos hk])
              rw [hk]
              clear hk
              go_wp2_with (at_builtin
                           refine wpList_append_own _ rfl (.tmp 117) (.tmp 120) _ rfl B 121 i0 _ 3 24 Try.underlying106 hi0 hz0 hz1 hz2 rfl (by decide) _ ts.length (tkCs ts) rfl (rown_keep HO3.out ((Chg.refl [] w3).alloc _)) ⟨w3.heap.size, 0, none⟩ 1 1 [.int .i32 (r : Int), .int .i64 0, .int .i32 0] rfl rfl (cells_page _ _ _) (by simp [Value.oneCell']) (by simp only [maxLen]; omega) (by omega) (by have := HB3.out; simp; omega) ?_
                           intro v' w6 ho6 hg6 _
                           have HO6 := Lib.hid ho6
                           have HG6 := Lib.hid hg6
                           clear ho6 hg6)
              have HC6 := Lib.hid (show Chg [] w1 w6 from chg_grown2 (HC3.out.alloc _) HG6.out (fun g hg => by have := ((rown_keep HO3.out ((Chg.refl [] w3).alloc (.cells #[.int .i32 (r : Int), .int .i64 0, .int .i32 0] 121))).lt g hg).1; have := HB.out; omega))
              go_roundw
              case rel => exact ⟨i + 1, by omega, by go_num, ⟨ts ++ [⟨(r : Int), 0, 0⟩], f', by rw [List.length_append, tkCs_app, tkCs_one]; exact HO6.out, by simp; omega, by omega, HT2⟩, HC6⟩
              case measure => simp [intOf]; omega
            · have hkf : knownB (r : Int) = false := by simpa using hk
              have HPO := Lib.hid (HNO.out w3 (HC1.out.new HC3.out) (by rw [HU2.out, if_neg hk]))
              rw [hkf]
              clear hk hkf
              go_wp2_with fail
              go_ret2
              exact HPO.out
    · have hltI : ¬ (i : Int) < (n : Int) := by omega
      have HZ := Lib.hid (show tokR s = some ts from by
        rw [HTi.out]
        cases f with
        | zero => rfl
        | succ f => rw [tokAt, List.getElem?_eq_none (by rw [← HN.out]; omega)])
      obtain ⟨B0, hB0⟩ : ∃ b, b = w.heap.size := ⟨_, rfl⟩
      have HOW := Lib.hid (own_more_n HO.out (show w.heap.size ≤ B from by rw [HB.out]; exact HC1.out.size))
      have HPO := Lib.hid (show TokPost s w (.returned (.tuple #[u5, .int .i64 0])) wr from ⟨HCW.out, .inl ⟨ts, _, HZ.out, by omega, rfl, HOW.out⟩⟩)
      clear hB0
      go_wp2_with fail
      go_ret2
      exact HPO.out
end
end Go.Proofs.Ytnohfdojcdhfoaa
namespace Go.Proofs.Ytnohfdojcdhfoaa
open Go.RowKit
theorem cells_new (w : World) (xs : List Value) (t : Nat) : ∀ (j : Nat) (u : Value), xs[j]? = some u → (w.alloc (.cells xs.toArray t)).cell? ((⟨w.heap.size, 0, none⟩ : Addr).add j) = some u := fun j u hj => by
  rw [add_plain, Nat.zero_add, (Whole.new w t xs).cell]; exact hj
/-- append, elements of any size: where the row lies then is told. -/
theorem wpList_append_n {P : Program} {w : World} {ops : Array Oper} {rest : List Oper} {o : Oper} {a : Act} {Q : Exit → Act → World → Prop} (hgd : o.guard = none) (s x : Operand) (t : TypeId)
    (ho : o.op = .call { callee := .builtin .append, args := #[s, x], argTypes := #[t, t] })
    (base : Nat) (e : TypeId) (i : TypeInfo) (z : Value) (size bytes : Nat) (ht : P.underlying t = some (.slice e)) (hi : P.info? e = some i) (hz : i.zero = some z)
    (hsize : i.size = size) (hby : i.bytes = bytes) (hzs : z.cells.size = size) (hsz : 0 < size)
    (v : Value) (n : Nat) (xs : List Value) (hse : a.eval s = v) (hown : w.ownsRow base e size v n xs)
    (ad : Addr) (m c : Nat) (news : List Value) (hxe : a.eval x = .slice (some ad) m c) (hl : news.length = m * size) (hnews : ∀ j u, news[j]? = some u → w.cell? (ad.add j) = some u) (h1 : ∀ u ∈ news, u.oneCell' = true)
    (h63 : n + m ≤ maxLen) (hbytes : (n + m) * bytes ≤ 140737488355328) (hbase : base ≤ w.heap.size)
    (h : ∀ v' w', w'.ownsRow base e size v' (n + m) (xs ++ news) → w.grownBy w' v.ownBlock → (v'.ownBlock = v.ownBlock ∨ v'.ownBlock = some w.heap.size) → wpList P ops Q rest (a.put o.dst v') w') : wpList P ops Q (o :: rest) a w := by
  refine wpList_plain hgd fun K hK => ?_
  obtain ⟨v', w', hrun, h2, h3, _, h5⟩ := run_append_own_at (P := P) w base t o.type e i z size bytes ht hi hz hsize hby hzs hsz v n xs hown ad m c news hl hnews h1 h63 hbytes hbase
  unfold Oper.wp execOp
  simp only [ho, resolve, invoke, builtin, Sem.run_bind, Sem.run_pure, Result.andThen_ok, List.map_toArray, List.map_cons, List.map_nil, hse, hxe, hrun]
  exact hK _ _ (h v' w' h2 h3 h5)
/-- Answers, asks, as cells hold them. -/
def ansC (rs : List (Option Int)) : List Value := rs.flatMap fun r => [.int .i64 (r.getD 0), .bool r.isSome]
def qsC (qs : List (Int × Int)) : List Value := qs.flatMap fun q => [.int .i32 q.1, .int .i64 q.2]
theorem pair_get {α : Type} (f g : α → Value) : ∀ (l : List α) (k : Nat) (a : α), l[k]? = some a → (l.flatMap fun a => [f a, g a])[k * 2]? = some (f a) ∧ (l.flatMap fun a => [f a, g a])[k * 2 + 1]? = some (g a)
  | [], k, a, h => by simp at h
  | b :: l, 0, a, h => by simp at h; subst h; exact ⟨rfl, rfl⟩
  | b :: l, k + 1, a, h => by
    simp at h
    have := pair_get f g l k a h
    rw [List.flatMap_cons, show (k + 1) * 2 = k * 2 + 2 by omega, show k * 2 + 2 + 1 = k * 2 + 1 + 2 by omega]
    exact this
theorem ans_get {rs : List (Option Int)} {k : Nat} {r : Option Int} (h : rs[k]? = some r) : (ansC rs)[k * 2]? = some (.int .i64 (r.getD 0)) ∧ (ansC rs)[k * 2 + 1]? = some (.bool r.isSome) := pair_get _ _ rs k r h
theorem qs_get {qs : List (Int × Int)} {k : Nat} {q : Int × Int} (h : qs[k]? = some q) : (qsC qs)[k * 2]? = some (.int .i32 q.1) ∧ (qsC qs)[k * 2 + 1]? = some (.int .i64 q.2) := pair_get _ _ qs k q h
theorem info_ans : (Try.prog.info? 80).map (fun i => (i.zero, i.size, i.bytes)) = some (some (.agg #[.int .i64 0, .bool false]), 2, 16) := by kernel_rfl
theorem info_rask : (Try.prog.info? 39).map (fun i => (i.zero, i.size, i.bytes)) = some (some (.agg #[.int .i32 0, .int .i64 0]), 2, 16) := by kernel_rfl
/-- What the next ask is answered. -/
def nextR (rs : List (Option Int)) (k : Nat) : Option Int := if k < rs.length then rs.getD k none else some 0
/-- A row of answers rs that was asked qs. -/
structure Rq (w : World) (p : Nat) (rs : List (Option Int)) (qs : List (Int × Int)) (a q : Value) : Prop where
  rec_ : Whole w p 77 [a, q]
  ans : w.ownsRow 0 80 2 a rs.length (ansC rs)
  asks : w.ownsRow 0 39 2 q qs.length (qsC qs)
abbrev rqT : List TypeId := [77, 39]
section
variable {w w' : World} {p : Nat} {rs : List (Option Int)} {qs : List (Int × Int)} {a q : Value} {K : Nat → Prop}
theorem Rq.keep (h : Rq w p rs qs a q) (hc : Chg [] w w') : Rq w' p rs qs a q := ⟨h.rec_.keep hc, rown_keep h.ans hc, rown_keep h.asks hc⟩
theorem Rq.fe {TS : List TypeId} (h : Rq w p rs qs a q) (hf : Fe K TS w w') (h1 : 77 ∉ TS) (h2 : 80 ∉ TS) (h3 : 39 ∉ TS) : Rq w' p rs qs a q := ⟨hf.whole h.rec_ h1, hf.own h.ans h2, hf.own h.asks h3⟩
/-- The row's struct is written. -/
theorem rown_lay {B n k : Nat} {e t : TypeId} {v u : Value} {xs cs : List Value} {j : Nat} (h : w.ownsRow B e k v n xs) (hp : Whole w p t cs) (hne : e ≠ t) : (w.setCell ⟨p, j, none⟩ u).ownsRow B e k v n xs := by
  refine ⟨h.1, h.2.imp id ?_⟩
  rintro ⟨g, cap, cur, rfl, hb, hh, r⟩
  refine ⟨g, cap, cur, rfl, hb, ?_, r⟩
  rw [Below.heap_setCell w ⟨p, j, none⟩ u g ?_]
  · exact hh
  · rintro rfl
    unfold Whole at hp
    rw [hh] at hp
    simp at hp
    exact hne hp.2
/-- An ask more. -/
theorem Rq.more (h : Rq w p rs qs a q) (hp : K p) (hq : ∀ i, q.ownBlock = some i → K i) (hnew : ∀ i, w.heap.size ≤ i → K i) {W2 w3 : World} (hc : Chg [] w W2) {x y : Int} {q' : Value} {n1 : Nat} (hn1 : n1 = qs.length + 1)
    (ho : w3.ownsRow 0 39 2 q' n1 (qsC qs ++ [.int .i32 x, .int .i64 y])) (hg : W2.grownBy w3 q.ownBlock) (hb : q'.ownBlock = q.ownBlock ∨ q'.ownBlock = some W2.heap.size) :
    Rq (w3.setCell ⟨p, 1, none⟩ q') p rs (qs ++ [(x, y)]) a q' ∧ Fe K rqT w (w3.setCell ⟨p, 1, none⟩ q') ∧ (∀ i, q'.ownBlock = some i → K i) ∧ Whole w3 p 77 [a, q] := by
  subst hn1
  have h2 := h.keep hc
  have hr3 := whole_grown h2.rec_ h2.asks (by decide) hg
  have ha3 := rown_grown h2.ans h2.asks (by decide) hg
  refine ⟨⟨hr3.set_ 1 _, rown_lay ha3 hr3 (by decide), ?_⟩, ((Fe.of_chg hc).grown h2.asks hq (by simp [rqT]) hg).setw hr3 hp (by simp [rqT]) _, fun i hi => ?_, hr3⟩
  · have := rown_lay (j := 1) (u := q') ho hr3 (by decide)
    rw [List.length_append, List.length_singleton, show qsC (qs ++ [(x, y)]) = qsC qs ++ [.int .i32 x, .int .i64 y] by simp [qsC]]
    exact this
  · rcases hb with hb | hb
    · exact hq i (hb.symm.trans hi)
    · rw [hb] at hi
      injection hi with hi
      exact hnew i (by have := hc.size; omega)
/-- New's answer. -/
def NewRq (w : World) (rs : List (Option Int)) (e : Ending) (w' : World) : Prop := ∃ p a, e = .returned (.pointer (some ⟨p, 0, none⟩)) ∧ Rq w' p rs [] a (.slice none 0 0) ∧ w.heap.size ≤ p ∧ Chg [] w w'
theorem qsC_cells (qs : List (Int × Int)) : ∀ v ∈ qsC qs, v.oneCell' = true := by
  intro v hv
  simp only [qsC, List.mem_flatMap, List.mem_cons, List.not_mem_nil, or_false] at hv
  obtain ⟨q, _, rfl | rfl⟩ := hv <;> rfl
theorem qsC_len (qs : List (Int × Int)) : (qsC qs).length = qs.length * 2 := by
  induction qs with
  | nil => rfl
  | cons q qs ih => simp only [qsC, List.flatMap_cons, List.length_append, List.length_cons, List.length_nil] at ih ⊢; omega
theorem Low.of_rown {B n k : Nat} {e : TypeId} {v : Value} {xs : List Value} (ho : w.ownsRow B e k v n xs) (hg : w.grownBy w' v.ownBlock) : Low B w w' :=
  ⟨hg.os, hg.tape, hg.output, hg.size, fun i hi hB => hg.block i hB fun hc => by
    rcases ho.2 with ⟨rfl, _⟩ | ⟨g, cap, cur, rfl, hb, _⟩
    · simp [Value.ownBlock] at hc
    · simp [Value.ownBlock] at hc; omega⟩
/-- A row, from block B on. -/
structure RwB (w : World) (B p : Nat) (rs : List (Option Int)) (a : Value) : Prop where
  rec_ : Whole w p 77 [a, .slice none 0 0]
  ans : w.ownsRow B 80 2 a rs.length (ansC rs)
  low : B ≤ p
theorem RwB.keep {w w' : World} {B p : Nat} {rs : List (Option Int)} {a : Value} (h : RwB w B p rs a) (hc : Chg [] w w') : RwB w' B p rs a := ⟨h.rec_.keep hc, rown_keep h.ans hc, h.low⟩
def AskPost (w : World) (K : Nat → Prop) (p : Nat) (rs : List (Option Int)) (qs : List (Int × Int)) (x y : Int) (e : Ending) (w' : World) : Prop :=
  ∃ a q, e = .returned (.tuple #[.int .i64 ((nextR rs qs.length).getD 0), .bool (nextR rs qs.length).isSome]) ∧ Rq w' p rs (qs ++ [(x, y)]) a q ∧ Fe K rqT w w' ∧ (∀ i, q.ownBlock = some i → K i)
set_option maxHeartbeats 2000000 in
set_option maxRecDepth 100000 in
theorem ask_any (h : Rq w p rs qs a q) (hp : K p) (hqK : ∀ i, q.ownBlock = some i → K i) (hnew : ∀ i, w.heap.size ≤ i → K i) (hq : qs.length ≤ 1000000000) (x y : Int) :
    Calls Try.prog 109 #[.pointer (some ⟨p, 0, none⟩), .int .i32 x, .int .i64 y] w (AskPost w K p rs qs x y) := by
  obtain ⟨i0, hi, hz0, hz1, hz2⟩ := info_parts info_rask
  obtain ⟨A1, c1, rfl, _, hcm1, hA1⟩ := rown_slice h.ans
  obtain ⟨A2, c2, rfl, _, hcm2, _⟩ := rown_slice h.asks
  have e0 := h.rec_.cell 0
  have e1 := h.rec_.cell 1
  have f1 := h.rec_.frozen 1
  have hal : Chg [] w (w.alloc (.cells #[.int .i32 x, .int .i64 y] 39)) := (Chg.refl [] w).alloc _
  have hown := rown_keep h.asks hal
  have fin : ∀ (v' : Value) (w3 : World), w3.ownsRow 0 39 2 v' (qs.length + 1) (qsC qs ++ [.int .i32 x, .int .i64 y]) → (w.alloc (.cells #[.int .i32 x, .int .i64 y] 39)).grownBy w3 (Value.slice A2 qs.length c2).ownBlock → (v'.ownBlock = (Value.slice A2 qs.length c2).ownBlock ∨ v'.ownBlock = some (w.alloc (.cells #[.int .i32 x, .int .i64 y] 39)).heap.size) →
      Hid (Rq (w3.setCell ⟨p, 1, none⟩ v') p rs (qs ++ [(x, y)]) (.slice A1 rs.length c1) v') ∧ Hid (Fe K rqT w (w3.setCell ⟨p, 1, none⟩ v')) ∧ Hid (∀ i, v'.ownBlock = some i → K i) ∧ Hid (Whole w3 p 77 [.slice A1 rs.length c1, .slice A2 qs.length c2]) := by
    intro v' w3 h1 h2 h3
    obtain ⟨r1, r2, r3, r4⟩ := h.more (K := K) hp hqK hnew hal rfl h1 h2 h3
    exact ⟨Lib.hid r1, Lib.hid r2, Lib.hid r3, Lib.hid r4⟩
  obtain ⟨N, hN⟩ : ∃ N, N = qs.length := ⟨_, rfl⟩
  obtain ⟨M, hM⟩ : ∃ M, M = rs.length := ⟨_, rfl⟩
  have HN := Lib.hid hN
  have HM := Lib.hid hM
  rw [← hN] at e1 hq hown fin
  rw [← hM] at e0 fin
  have FIN := Lib.hid fin
  have HOW := Lib.hid hown
  clear h hp hqK hnew hal hown fin hN hM
  by_cases hlt : N < M
  · have hltI : (N : Int) < (M : Int) := by omega
    go_enter Try.func109, Try.ntmps109
    go_wp2_with (at_builtin
                 refine wpList_append_n rfl (.tmp 18) (.tmp 22) _ rfl 0 39 i0 _ 2 16 Try.underlying32 hi hz0 hz1 hz2 rfl (by decide) (.slice A2 N c2) N (qsC qs) rfl HOW.out ⟨w.heap.size, 0, none⟩ 1 1 [.int .i32 x, .int .i64 y] rfl rfl (cells_new _ _ _) (by simp [Value.oneCell']) (by simp only [maxLen]; omega) (by omega) (Nat.zero_le _) ?_
                 intro v' w3 hown' hg' hb'
                 obtain ⟨HR3, HF3, HK3, HW3⟩ := FIN.out v' w3 hown' hg' hb'
                 obtain ⟨A3, c3, rfl, _, _, _⟩ := rown_slice hown'
                 have d0 := HW3.out.cell 0
                 have d1 := HW3.out.cell 1
                 have g1 := HW3.out.frozen 1
                 clear hown' hg' hb')
    generalize w3.setCell ⟨p, 1, none⟩ (.slice A3 (N + 1) c3) = w4 at HR3 HF3 ⊢
    clear d0 d1 g1
    have d0 := HR3.out.rec_.cell 0
    obtain ⟨r, hr⟩ : ∃ r, rs[N]? = some r := ⟨_, List.getElem?_eq_getElem (by have := HM.out; omega)⟩
    have ha3 := HR3.out.ans
    rw [← HM.out] at ha3
    obtain ⟨g, rfl, k1⟩ := rown_cell ha3 rfl (ans_get hr).1
    obtain ⟨g', hg', k2⟩ := rown_cell ha3 rfl (ans_get hr).2
    injection hg' with hg'
    injection hg' with hg'
    subst hg'
    clear ha3
    have HNX := Lib.hid (show nextR rs qs.length = r by unfold nextR; rw [← HN.out, if_pos (by rw [← HM.out]; exact hlt)]; simp [List.getD, hr])
    clear hr
    have HP := Lib.hid (show ∀ k, AskPost w K p rs qs x y (.returned (.tuple #[.int .i64 (r.getD 0), .bool r.isSome])) (w4.drewN k) from fun k =>
      ⟨_, _, by rw [HNX.out], HR3.out.keep ((Chg.refl [] w4).drewN k), HF3.out.new ((Chg.refl [] w4).drewN k), HK3.out⟩)
    go_quiet (fail)
    go_wp2_with fail
    go_ret2
    exact HP.out _
  · have hltI : (M : Int) ≤ (N : Int) := by omega
    go_enter Try.func109, Try.ntmps109
    go_wp2_with (at_builtin
                 refine wpList_append_n rfl (.tmp 18) (.tmp 22) _ rfl 0 39 i0 _ 2 16 Try.underlying32 hi hz0 hz1 hz2 rfl (by decide) (.slice A2 N c2) N (qsC qs) rfl HOW.out ⟨w.heap.size, 0, none⟩ 1 1 [.int .i32 x, .int .i64 y] rfl rfl (cells_new _ _ _) (by simp [Value.oneCell']) (by simp only [maxLen]; omega) (by omega) (Nat.zero_le _) ?_
                 intro v' w3 hown' hg' hb'
                 obtain ⟨HR3, HF3, HK3, HW3⟩ := FIN.out v' w3 hown' hg' hb'
                 obtain ⟨A3, c3, rfl, _, _, _⟩ := rown_slice hown'
                 have d0 := HW3.out.cell 0
                 have d1 := HW3.out.cell 1
                 have g1 := HW3.out.frozen 1
                 clear hown' hg' hb')
    go_ret2
    have HNX : nextR rs qs.length = some 0 := by unfold nextR; rw [← HN.out, if_neg (by rw [← HM.out]; exact hlt)]
    have HP : AskPost w K p rs qs x y (.returned (.tuple #[.int .i64 0, .bool true])) (w3.setCell ⟨p, 1, none⟩ (.slice A3 (N + 1) c3)) :=
      ⟨_, _, by rw [HNX]; rfl, HR3.out, HF3.out, HK3.out⟩
    exact HP
set_option maxHeartbeats 2000000 in
set_option maxRecDepth 100000 in
theorem rnew_any {vs : List Value} {A : Option Addr} {n c : Nat} (hN : Nums vs rs) (hs : Src w A vs) (hA : ∀ ad, A = some ad → ad.spot = none) (hn : vs.length = n) (hc : n ≤ c) (m : Nat) (hm : (m : Int) = min (n : Int) 64) :
    Calls Try.prog 30 #[.slice A n c] w (NewRq w (rs.take m)) := by
  have hmn : m ≤ n ∧ m ≤ 64 := by omega
  obtain ⟨i0, hi, hz0, hz1, hz2⟩ := info_parts info_ans
  have HVS := Lib.hid hn
  have HA := Lib.hid hA
  have HN := Lib.hid hN
  have HM := Lib.hid hm
  clear hn hA hN hm
  go_enter Try.func30, Try.ntmps30
  go_wp2_with fail
  rw [show min (n : Int) 64 = (m : Int) from HM.out.symm, Int.toNat_natCast, show max (m : Int) 0 = (m : Int) by omega]
  obtain ⟨p, hp⟩ : ∃ p, p = w.heap.size := ⟨_, rfl⟩
  have hR0 : RwB (w.alloc (.cells #[.slice none 0 0, .slice none 0 0] 77)) w.heap.size p (rs.take 0) (.slice none 0 0) :=
    ⟨by rw [hp]; exact Whole.new w 77 [.slice none 0 0, .slice none 0 0], World.ownsRow_nil _ _ _ _, Nat.le_of_eq hp.symm⟩
  have hc0 : Chg [] w (w.alloc (.cells #[.slice none 0 0, .slice none 0 0] 77)) := (Chg.refl _ _).alloc _
  rw [← hp]
  go_loopw [14] (fun i wr => ∃ k : Nat, k ≤ m ∧ i = .int .i64 (k : Int) ∧ (∃ a, RwB wr w.heap.size p (rs.take k) a) ∧ Chg [] w wr) (fun i _ => m - (intOf i).toNat)
  case atStart => exact ⟨0, Nat.zero_le _, rfl, ⟨_, hR0⟩, hc0⟩
  case round =>
    obtain ⟨k, hk, rfl, ⟨a, hR⟩, hcg⟩ := hrel
    have hwr := hcg.size
    have hpl : w.heap.size ≤ p := by omega
    have HC := Lib.hid hcg
    clear hR0 hc0 hp hcg
    by_cases hlt : k < m
    · have hlv : k < vs.length := by rw [HVS.out]; omega
      have hlr : k < rs.length := by have := HN.out.1; omega
      obtain ⟨ad, rfl, _, hx⟩ := (hs.keep HC.out) (by omega)
      have hx1 := hx k _ (List.getElem?_eq_getElem hlv)
      obtain ⟨b1, o1, s1⟩ := ad
      obtain rfl : s1 = none := HA.out _ rfl
      rw [add_plain] at hx1
      have hnum : Num vs[k] rs[k] := HN.out.2 k _ _ (List.getElem?_eq_getElem hlv) (List.getElem?_eq_getElem hlr)
      have HT := Lib.hid (show ansC (rs.take (k + 1)) = ansC (rs.take k) ++ [.int .i64 (rs[k].getD 0), .bool rs[k].isSome] by rw [List.take_succ_eq_append_getElem hlr]; unfold ansC; rw [List.flatMap_append]; rfl)
      have HTL := Lib.hid (show (rs.take (k + 1)).length = k + 1 by rw [List.length_take]; omega)
      have hTK : (rs.take k).length = k := by rw [List.length_take]; omega
      generalize vs[k] = u at hx1 hnum
      generalize rs[k] = r at hnum HT
      clear hx
      have HR := Lib.hid hR
      have hTK2 := Lib.hid hTK
      clear hR hTK
      have hkm : (k : Int) < (m : Int) := by omega
      go_wp2_with fail
      refine (vof_any hnum).mono ?_
      rintro e w1 ⟨rfl, hc1⟩
      have hR1 := HR.out.keep hc1
      have hwn : w.heap.size ≤ w1.heap.size := Nat.le_trans hwr hc1.size
      obtain ⟨A1, c1, rfl, _, _, _⟩ := rown_slice hR1.ans
      have hO1 := hR1.ans
      have e0 := hR1.rec_.cell 0
      rw [hTK2.out] at hO1 e0
      obtain ⟨X, hX⟩ : ∃ X, X = ansC (rs.take k) := ⟨_, rfl⟩
      rw [← hX] at hO1
      have HX := Lib.hid hX
      have HR1 := Lib.hid hR1
      have HC1 := Lib.hid hc1
      clear hX hR1 hc1
      go_wp2_with (first
        | (at_builtin
           refine wpList_append_own _ rfl (.tmp 24) (.tmp 28) _ rfl w.heap.size 80 i0 _ 2 16 Try.underlying75 hi hz0 hz1 hz2 rfl (by decide) _ k X rfl (rown_keep hO1 ((Chg.refl _ _).alloc _)) ⟨w1.heap.size, 0, none⟩ 1 1 [.int .i64 (r.getD 0), .bool r.isSome] rfl rfl ?c1 ?c2 ?c3 ?c4 ?c5 ?_
           case c1 => exact cells_new _ _ _
           case c2 => simp [Value.oneCell']
           case c3 => simp only [maxLen]; omega
           case c4 => omega
           case c5 => simp; omega
           intro v' w2 hown' hg' _
           have hal := rown_keep hO1 ((Chg.refl [] w1).alloc (.cells #[.int .i64 (r.getD 0), .bool r.isSome] 80))
           have hR2 := whole_grown (HR1.out.rec_.keep ((Chg.refl [] w1).alloc (.cells #[.int .i64 (r.getD 0), .bool r.isSome] 80))) hal (by decide) hg'
           have hL2 := (Low.of_chg (B := w.heap.size) ((Chg.refl [] w1).alloc (.cells #[.int .i64 (r.getD 0), .bool r.isSome] 80))).trans (Low.of_rown hal hg')
           obtain ⟨A3, c3, rfl, _, _, _⟩ := rown_slice hown'
           have d0 := hR2.cell 0
           have g0 := hR2.frozen 0
           have hR3 := hR2.set_ 0 (.slice A3 (k + 1) c3)
           have hO3 := rown_lay (j := 0) (u := .slice A3 (k + 1) c3) hown' hR2 (by decide)
           have hL3 : Low w.heap.size w1 (w2.setCell ⟨p, 0, none⟩ (.slice A3 (k + 1) c3)) := hL2.trans ⟨rfl, rfl, rfl, by simp [World.setCell], fun k hk hl => Below.heap_setCell w2 _ _ k (by simp only; omega)⟩
           clear hal hR2 hL2 hown' hg'))
      go_roundw
      case rel =>
        refine ⟨k + 1, by omega, by go_num, ⟨.slice A3 (k + 1) c3, hR3, ?_, hpl⟩, ((Low.of_chg (HC.out.new HC1.out)).trans hL3).chg (Nat.le_refl _)⟩
        rw [HTL.out, HT.out, ← HX.out]
        exact hO3
      case measure => simp [intOf]; omega
    · obtain rfl : k = m := by omega
      go_wp2_with fail
      go_ret
      exact ⟨p, _, rfl, ⟨hR.rec_, own_more_n hR.ans (Nat.zero_le _), World.ownsRow_nil _ _ _ _⟩, hR.low, HC.out⟩
/-- Asks' answer. -/
def AsksPost (w : World) (qs : List (Int × Int)) (e : Ending) (w' : World) : Prop := ∃ v, e = .returned v ∧ w'.ownsRow w.heap.size 39 2 v qs.length (qsC qs) ∧ Chg [] w w'
set_option maxHeartbeats 2000000 in
set_option maxRecDepth 100000 in
theorem asks_any (h : Rq w p rs qs a q) (hq : qs.length ≤ 1000000000) (h0 : 0 < qs.length) :
    Calls Try.prog 33 #[.pointer (some ⟨p, 0, none⟩)] w (AsksPost w qs) := by
  obtain ⟨i0, hi, hz0, hz1, hz2⟩ := info_parts info_rask
  obtain ⟨A2, c2, rfl, _, hcm2, _⟩ := rown_slice h.asks
  have e1 := h.rec_.cell 1
  obtain ⟨g, rfl, _⟩ := rown_cell h.asks rfl (qs_get (List.getElem?_eq_getElem h0)).1
  have hcells : ∀ (j : Nat) (u : Value), (qsC qs)[j]? = some u → w.cell? ((⟨g, 0, none⟩ : Addr).add j) = some u := h.asks.cells rfl
  have HL := Lib.hid (qsC_len qs)
  have HO := Lib.hid hcells
  clear hcells h
  obtain ⟨N, hN⟩ : ∃ N, N = qs.length := ⟨_, rfl⟩
  have HN := Lib.hid hN
  rw [← hN] at e1 hq h0 HL
  clear hN
  go_enter Try.func33, Try.ntmps33
  go_wp2_with (first
    | (at_builtin
       refine wpList_append_own _ rfl (.const (.slice none 0 0)) (.tmp 6) _ rfl w.heap.size 39 i0 _ 2 16 Try.underlying32 hi hz0 hz1 hz2 rfl (by decide) _ 0 [] rfl (World.ownsRow_nil w w.heap.size 39 2) ⟨g, 0, none⟩ N c2 (qsC qs) rfl HL.out HO.out (qsC_cells qs) ?c3 ?c4 ?c5 ?_
       case c3 => simp only [maxLen]; omega
       case c4 => omega
       case c5 => exact Nat.le_refl _
       intro v' w2 hown' hg' _))
  go_ret
  rw [HN.out, Nat.zero_add, List.nil_append] at hown'
  have hg2 : w.grownBy w2 none := hg'
  exact ⟨_, rfl, hown', Chg.of_grown hg2 fun g hr _ => by cases hr⟩
end
end Go.Proofs.Ytnohfdojcdhfoaa
namespace Go.Proofs.Ytnohfdojcdhfoaa
open Go.RowKit
/-- Some text of at most so many bytes. -/
def TxtPost (m : Nat) (w : World) (e : Ending) (w' : World) : Prop := ∃ s : ByteArray, e = .returned (.string s) ∧ s.size ≤ m ∧ Chg [] w w'
theorem encode_le4 (i : Int) : (Utf8.encode i).size ≤ 4 := encode_size_le i
set_option maxHeartbeats 1000000 in
theorem digits_any : ∀ (k n : Nat), n < 10 ^ (k + 1) → k ≤ 10 → ∀ w : World, Calls Try.prog 73 #[.int .i64 (n : Int)] w (TxtPost (4 * (k + 1)) w)
  | k, n, hn, hk, w => by
    have hp : 10 ^ (k + 1) ≤ 10 ^ 11 := Nat.pow_le_pow_right (by omega) (by omega)
    have hn2 : n < 100000000000 := Nat.lt_of_lt_of_le hn hp
    clear hp
    by_cases h10 : 10 ≤ n
    · match k, hn, hk with
      | 0, hn, hk => omega
      | k + 1, hn, hk =>
        have IH := Lib.hid (fun W => digits_any k (n / 10) (by rw [Nat.pow_succ] at hn; omega) (by omega) W)
        have hq : (n : Int).tdiv 10 = ((n / 10 : Nat) : Int) := rfl
        have hr : (n : Int).tmod 10 = ((n % 10 : Nat) : Int) := rfl
        generalize hgr : n % 10 = r at hr
        have hr9 : r < 10 := by omega
        have hq9 : n / 10 < 100000000000 := by omega
        generalize n / 10 = q at *
        clear hn hgr
        go_enter Try.func73, Try.ntmps73
        go_wp2_with fail
        refine (IH.out _).mono ?_
        rintro e w1 ⟨s, rfl, hs, hc⟩
        obtain ⟨y, hy⟩ : ∃ y, s ++ Utf8.encode (48 + (r : Int)) = y := ⟨_, rfl⟩
        have hys : y.size ≤ 4 * (k + 1 + 1) := by rw [← hy, ByteArray.size_append']; have := encode_le4 (48 + (r : Int)); omega
        have hadd : (Op.stringOp .add s (Utf8.encode (48 + (r : Int)))).run Try.prog w1 = .ok (.string y) w1 := by
          rw [← hy]; exact run_string_add_sum _ _ _ (by have := encode_le4 (48 + (r : Int)); omega)
        clear hy
        go_wp2_with fail
        go_ret
        exact ⟨y, rfl, hys, hc⟩
    · go_enter Try.func73, Try.ntmps73
      go_wp2_with fail
      go_ret
      exact ⟨_, rfl, by have := encode_le4 (48 + (n : Int)); omega, Chg.refl _ _⟩
/-- Yes or no. -/
def AnyB (w : World) (e : Ending) (w' : World) : Prop := ∃ b : Bool, e = .returned (.bool b) ∧ w = w'
set_option maxHeartbeats 1000000 in
theorem halts_any (s : ByteArray) (w : World) (hs : s.size ≤ 1000000) : Calls Try.prog 59 #[.string s] w (AnyB w) := by
  by_cases h : 2 < s.size
  · have hd : decide (2 < s.size) = true := by simpa using h
    go_enter Try.func59, Try.ntmps59
    go_wp2_with fail
    go_ret
    exact ⟨_, rfl, rfl⟩
  · have hd : decide (2 < s.size) = false := by simpa using h
    go_enter Try.func59, Try.ntmps59
    go_wp2_with fail
    go_ret
    exact ⟨_, rfl, rfl⟩
set_option maxHeartbeats 1000000 in
theorem live_any (s : ByteArray) (w : World) (hs : s.size ≤ 1000000) : Calls Try.prog 74 #[.string s] w fun e w' => ∃ t : ByteArray, e = .returned (.string t) ∧ t.size ≤ s.size ∧ w = w' := by
  have HH := Lib.hid (halts_any s w hs)
  go_enter Try.func74, Try.ntmps74
  go_wp2_with fail
  refine HH.out.mono ?_
  rintro e w1 ⟨b, rfl, hw⟩
  cases b
  · go_wp2_with fail
    go_ret
    exact ⟨_, rfl, by first | exact Nat.le_refl _ | exact Nat.zero_le _, hw⟩
  · go_wp2_with fail
    go_ret
    exact ⟨_, rfl, by first | exact Nat.le_refl _ | exact Nat.zero_le _, hw⟩
end Go.Proofs.Ytnohfdojcdhfoaa
namespace Go.Proofs.Ytnohfdojcdhfoaa
open Go.RowKit

/-- Bytes as a number, the highest first. -/
def numB (l : List UInt8) : Nat := l.foldl (fun g b => g * 256 + b.toNat) 0
theorem numB_snoc (l : List UInt8) (b : UInt8) : numB (l ++ [b]) = numB l * 256 + b.toNat := by simp [numB]
theorem fold_lt : ∀ (l : List UInt8) (g : Nat), l.foldl (fun g b => g * 256 + b.toNat) g < (g + 1) * 256 ^ l.length
  | [], g => by simp
  | b :: l, g => by
    have h := fold_lt l (g * 256 + b.toNat)
    have hb := b.toNat_lt
    have h2 : (g * 256 + b.toNat + 1) * 256 ^ l.length ≤ ((g + 1) * 256) * 256 ^ l.length := Nat.mul_le_mul_right _ (by omega)
    rw [List.foldl_cons, List.length_cons, Nat.pow_succ, Nat.mul_comm (256 ^ l.length) 256, ← Nat.mul_assoc]
    omega
theorem numB_lt (l : List UInt8) : numB l < 256 ^ l.length := by
  have := fold_lt l 0
  simpa [numB] using this
theorem numB_lt4 (l : List UInt8) (k : Nat) : numB ((l.drop k).take 4) < 4294967296 := by
  have h := numB_lt ((l.drop k).take 4)
  have h2 : ((l.drop k).take 4).length ≤ 4 := by rw [List.length_take]; omega
  have : 256 ^ ((l.drop k).take 4).length ≤ 256 ^ 4 := Nat.pow_le_pow_right (by omega) h2
  omega
theorem numB_next (l : List UInt8) (k j : Nat) (h : k + j < l.length) : numB ((l.drop k).take (j + 1)) = numB ((l.drop k).take j) * 256 + (l[k + j]).toNat := by
  rw [List.take_succ_eq_append_getElem (by rw [List.length_drop]; omega), numB_snoc, List.getElem_drop]
theorem numB_ltj (l : List UInt8) (k j : Nat) (hj : j < 4) : numB ((l.drop k).take j) < 16777216 := by
  have h := numB_lt ((l.drop k).take j)
  have h2 : ((l.drop k).take j).length ≤ 3 := by rw [List.length_take]; omega
  have : 256 ^ ((l.drop k).take j).length ≤ 256 ^ 3 := Nat.pow_le_pow_right (by omega) h2
  omega
theorem or_byte (g : Nat) (q : UInt8) (hg : g < 16777216) : bits .or .u32 ((g : Int) * 256 % 4294967296) ((q.toNat : Int) % 4294967296) = ((g * 256 + q.toNat : Nat) : Int) := by
  have hq := q.toNat_lt
  have e1 : (g : Int) * 256 % 4294967296 = ((g * 256 : Nat) : Int) := by omega
  have e2 : (q.toNat : Int) % 4294967296 = ((q.toNat : Nat) : Int) := by omega
  rw [e1, e2, u32_or_nat _ _ (by omega) (by omega), nat_join 8 (g * 256) q.toNat (by omega) (by omega)]
theorem or_sum (i x y : Nat) (hx : x < 4294967296) (hy : y < 2 ^ i) (hy2 : y < 4294967296) (h0 : x % 2 ^ i = 0) : bits .or .u32 (x : Int) (y : Int) = ((x + y : Nat) : Int) := by
  rw [u32_or_nat x y hx hy2, nat_join i x y h0 hy]
def K24 : Nat := 16777216
theorem or_four (a b c d : UInt8) : bits .or .u32 (bits .or .u32 (bits .or .u32 ((a.toNat : Int) % 4294967296 * 16777216 % 4294967296) ((b.toNat : Int) % 4294967296 * 65536 % 4294967296)) ((c.toNat : Int) % 4294967296 * 256 % 4294967296)) ((d.toNat : Int) % 4294967296) =
    ((((a.toNat * 256 + b.toNat) * 256 + c.toNat) * 256 + d.toNat : Nat) : Int) := by
  have h1 := a.toNat_lt
  have h2 := b.toNat_lt
  have h3 := c.toNat_lt
  have h4 := d.toNat_lt
  generalize a.toNat = a at *
  generalize b.toNat = b at *
  generalize c.toNat = c at *
  generalize d.toNat = d at *
  obtain ⟨A, hA⟩ : ∃ A, A = a * 16777216 := ⟨_, rfl⟩
  have e1 : (a : Int) % 4294967296 * 16777216 % 4294967296 = (A : Int) := by omega
  have e2 : (b : Int) % 4294967296 * 65536 % 4294967296 = ((b * 65536 : Nat) : Int) := by omega
  have e3 : (c : Int) % 4294967296 * 256 % 4294967296 = ((c * 256 : Nat) : Int) := by omega
  have e4 : (d : Int) % 4294967296 = (d : Int) := by omega
  rw [e1, e2, e3, e4, or_sum 24 A (b * 65536) (by omega) (by omega) (by omega) (by omega), or_sum 16 (A + b * 65536) (c * 256) (by omega) (by omega) (by omega) (by omega), or_sum 8 (A + b * 65536 + c * 256) d (by omega) (by omega) (by omega) (by omega)]
  congr 1
  omega

/-- What Get answers. -/
def getI (l : List UInt8) (at_ : Int) : Nat := if 0 ≤ at_ ∧ at_ + 4 ≤ l.length then numB ((l.drop at_.toNat).take 4) else 0
theorem getI_lt (l : List UInt8) (i : Int) : getI l i < 4294967296 := by
  unfold getI
  split
  · exact numB_lt4 _ _
  · omega

section
variable {w : World} {A : Option Addr} {n c : Nat} {l : List UInt8}
end
end Go.Proofs.Ytnohfdojcdhfoaa
namespace Go.Proofs.Ytnohfdojcdhfoaa
open Go.RowKit
/-- The number of two bytes. -/
def num2 (l : List UInt8) : Nat := (l.getD 0 0).toNat * 256 + (l.getD 1 0).toNat
theorem ofInt_small (a : Nat) (h : a < 65536) : (BitVec.ofInt 64 (a : Int)).toNat = a := by
  rw [BitVec.toNat_ofInt]
  omega
theorem or_two (x y : UInt8) : bits .or .i64 ((x.toNat : Int) * 256) (y.toNat : Int) = ((x.toNat * 256 + y.toNat : Nat) : Int) := by
  have hx := x.toNat_lt
  have hy := y.toNat_lt
  have e1 : (x.toNat : Int) * 256 = ((x.toNat * 256 : Nat) : Int) := by omega
  rw [e1]
  show IntKind.i64.wrap ((BitVec.ofInt 64 ((x.toNat * 256 : Nat) : Int) ||| BitVec.ofInt 64 (y.toNat : Int)).toNat : Int) = _
  rw [BitVec.toNat_or, ofInt_small _ (by omega), ofInt_small _ (by omega), nat_join 8 (x.toNat * 256) y.toNat (by omega) (by omega)]
  exact IntWalk.i64_in _ (by omega)
theorem ret_word {a b : Int} (h : a = b) : Ending.returned (.int .i64 a) = .returned (.int .i64 b) := by rw [h]
section
variable {w : World} {A : Option Addr} {n c : Nat} {l : List UInt8}
end
end Go.Proofs.Ytnohfdojcdhfoaa
namespace Go.Proofs.Ytnohfdojcdhfoaa
open Go.RowKit
def chB (a : ChV) : List UInt8 := be2 a.page.toNat ++ a.B
/-- Changes as bytes. -/
def chsB : List ChV → List UInt8
  | [] => []
  | a :: l => chB a ++ chsB l
theorem chsB_app : ∀ l m, chsB (l ++ m) = chsB l ++ chsB m
  | [], _ => rfl
  | a :: l, m => by rw [List.cons_append, chsB, chsB, chsB_app l m, List.append_assoc]
theorem chsB_next (l : List ChV) (k : Nat) (a : ChV) (h : l[k]? = some a) : chsB (l.take (k + 1)) = chsB (l.take k) ++ chB a := by
  obtain ⟨hk, rfl⟩ := List.getElem?_eq_some_iff.1 h
  rw [List.take_succ_eq_append_getElem hk, chsB_app]
  simp [chsB]
def bytesD (l : List ChV) : List UInt8 := be2 l.length ++ chsB l
section
variable {w : World} {A : Option Addr} {n c : Nat}
end
end Go.Proofs.Ytnohfdojcdhfoaa
namespace Go.Proofs.Ytnohfdojcdhfoaa
open Go.RowKit
theorem rightS_snoc : ∀ (l : List ChV) (last P : Int) (a : ChV), rightS last P l = true → (∀ b ∈ l, b.page < a.page) → last < a.page → a.page < P → a.bn = 64 → rightS last P (l ++ [a]) = true
  | [], last, P, a, _, _, h1, h2, h3 => by
    simp only [List.nil_append, rightS]
    rw [decide_eq_false (by omega), decide_eq_false (by omega), decide_eq_false (by simpa using h3)]
    rfl
  | b :: l, last, P, a, h, hb, h1, h2, h3 => by
    simp only [rightS, List.cons_append, Bool.and_eq_true] at h ⊢
    exact ⟨h.1, rightS_snoc l b.page P a h.2 (fun c hc => hb c (List.mem_cons_of_mem _ hc)) (hb b (List.mem_cons_self ..)) h2 h3⟩
theorem make_page (W : World) : (Instr.makeSlice 51 (.int .i64 64) (.int .i64 64)).run Try.prog W = .ok (.slice (some ⟨W.heap.size, 0, none⟩) 64 64) (W.alloc (.cells (bts (zeros 64)).toArray 5)) := by
  obtain ⟨i, hi, hz, hs1, hb⟩ := info_parts info_byte
  rw [bts_zeros]
  exact run_make1 51 5 i (.int .u8 0) rfl Try.underlying51 hi hz hs1 64 (by rw [hb]; omega) (by omega) W
section
variable {w : World} {p nt ct at_ : Nat} {At : Option Addr} {lt : List Int}
end
end Go.Proofs.Ytnohfdojcdhfoaa
namespace Go.Proofs.Ytnohfdojcdhfoaa
open Go.RowKit
def nochg : List UInt8 := [110, 111, 32, 99, 104, 97, 110, 103, 101, 115]
/-- The tape goes on, rows of that constant are marked from B on, all else stays. -/
structure TapeR (p B : Nat) (A : Option Addr) (n c : Nat) (l : List Int) (a b : World) : Prop where
  os : b.os = a.os
  tape : b.tape = a.tape
  output : b.output = a.output
  size : a.heap.size ≤ b.heap.size
  block : ∀ k, k < a.heap.size → k ≠ p → b.heap[k]? = a.heap[k]? ∨ (B ≤ k ∧ ∃ fz fz', a.heap[k]? = some (.cells (bts nochg).toArray 5 fz) ∧ b.heap[k]? = some (.cells (bts nochg).toArray 5 fz'))
  tp : ∀ i, Tp a p A n c l i → ∃ j, Tp b p A n c l j
/-- What lies below B stays, but for the tape. -/
structure TapeH (p B : Nat) (A : Option Addr) (n c : Nat) (l : List Int) (a b : World) : Prop where
  os : b.os = a.os
  tape : b.tape = a.tape
  output : b.output = a.output
  size : a.heap.size ≤ b.heap.size
  block : ∀ k, k < B → k < a.heap.size → k ≠ p → b.heap[k]? = a.heap[k]?
  tp : ∀ i, Tp a p A n c l i → ∃ j, Tp b p A n c l j
section
variable {p B B3 n c : Nat} {A : Option Addr} {l : List Int}
theorem TapeR.of_chg {a b : World} (h : Chg [] a b) : TapeR p B A n c l a b := ⟨h.os, h.tape, h.output, h.size, fun k hk _ => .inl (h.block k hk (by simp)), fun i hi => ⟨i, hi.keep h⟩⟩
theorem TapeR.next {a b : World} (h : Chg [p] a b) {j : Nat} (ht : Tp b p A n c l j) : TapeR p B A n c l a b := ⟨h.os, h.tape, h.output, h.size, fun k hk hp => .inl (h.block k hk (by simpa using hp)), fun _ _ => ⟨j, ht⟩⟩
theorem TapeR.refl (a : World) : TapeR p B A n c l a a := .of_chg (Chg.refl _ _)
theorem TapeR.trans {a b d : World} (h : TapeR p B A n c l a b) (k : TapeR p B A n c l b d) : TapeR p B A n c l a d := by
  refine ⟨k.os.trans h.os, k.tape.trans h.tape, k.output.trans h.output, Nat.le_trans h.size k.size, fun i hi hp => ?_, fun i hi => by obtain ⟨j, hj⟩ := h.tp i hi; exact k.tp j hj⟩
  rcases h.block i hi hp with h1 | ⟨hB, fz, fz', h1, h2⟩
  · rcases k.block i (Nat.lt_of_lt_of_le hi h.size) hp with k1 | ⟨hB, fz, fz', k1, k2⟩
    · exact .inl (k1.trans h1)
    · exact .inr ⟨hB, fz, fz', by rw [← h1]; exact k1, k2⟩
  · rcases k.block i (Nat.lt_of_lt_of_le hi h.size) hp with k1 | ⟨_, fz2, fz3, k1, k2⟩
    · exact .inr ⟨hB, fz, fz', h1, k1.trans h2⟩
    · exact .inr ⟨hB, fz, fz3, h1, k2⟩
theorem TapeR.h {a b : World} (h : TapeR p B A n c l a b) (hB : B3 ≤ B) : TapeH p B3 A n c l a b :=
  ⟨h.os, h.tape, h.output, h.size, fun k h3 hk hp => (h.block k hk hp).elim id fun ⟨hb, _⟩ => by omega, h.tp⟩
theorem TapeH.trans {a b d : World} (h : TapeH p B A n c l a b) (k : TapeH p B A n c l b d) : TapeH p B A n c l a d :=
  ⟨k.os.trans h.os, k.tape.trans h.tape, k.output.trans h.output, Nat.le_trans h.size k.size, fun i hB hi hp => (k.block i hB (Nat.lt_of_lt_of_le hi h.size) hp).trans (h.block i hB hi hp), fun i hi => by obtain ⟨j, hj⟩ := h.tp i hi; exact k.tp j hj⟩
theorem TapeH.whole {a b : World} (h : TapeH p B A n c l a b) {g t : Nat} {cs : List Value} (hW : Whole a g t cs) (hg : g < B) (hp : g ≠ p) : Whole b g t cs := (h.block g hg hW.lt hp).trans hW
theorem TapeH.chg {a b : World} (h : TapeH p B A n c l a b) (hB : a.heap.size ≤ B) : Chg [p] a b := ⟨h.os, h.tape, h.output, h.size, fun k hk hn => h.block k (by omega) hk (by simpa using hn)⟩
theorem TapeH.after {a b W : World} (h1 : Chg [p] a b) (h2 : TapeH p B A n c l b W) (hB : a.heap.size ≤ B) : Chg [p] a W :=
  ⟨h2.os.trans h1.os, h2.tape.trans h1.tape, h2.output.trans h1.output, Nat.le_trans h1.size h2.size, fun k hk hn => (h2.block k (by omega) (Nat.lt_of_lt_of_le hk h1.size) (by simpa using hn)).trans (h1.block k hk hn)⟩
def tapeT (p B B3 : Nat) (A : Option Addr) (n c : Nat) (l : List Int) (hard soft : List Nat) : Turns := ⟨TapeR p B A n c l, TapeH p B3 A n c l, hard, soft⟩
theorem tapeT_ok (hB : B3 ≤ B) (hard soft : List Nat) : (tapeT p B B3 A n c l hard soft).Ok := ⟨TapeR.refl, fun _ _ h => h.h hB, fun _ _ _ h h2 => h.trans h2⟩
theorem tape_by {hard soft : List Nat} (hB : B3 ≤ B) (k : Nat) {W W' : World} (h : TapeR p B A n c l W W') : (tapeT p B B3 A n c l hard soft).by_ k W W' := by
  unfold Turns.by_
  split
  · exact h.h hB
  · exact h
theorem tape_hard {hard soft : List Nat} {k : Nat} (hk : hard.contains k = true) {W W' : World} (h : TapeH p B3 A n c l W W') : (tapeT p B B3 A n c l hard soft).by_ k W W' := by
  unfold Turns.by_
  rw [if_pos (show (tapeT p B B3 A n c l hard soft).hard.contains k = true from hk)]
  exact h
theorem tape_star {a b : World} (h : Star (TapeR p B A n c l) a b) : TapeR p B A n c l a b := h.fold TapeR.refl fun _ _ _ h k => h.trans k
theorem tf_lt {W : World} {g : Nat} {o : Obj} (h : W.heap[g]? = some o) : g < W.heap.size := by
  rcases Nat.lt_or_ge g W.heap.size with hlt | hge
  · exact hlt
  · rw [Array.getElem?_eq_none hge] at h; cases h
/-- The constant's row. -/
def noF (B : Nat) : Fact := fun v W => ∃ g fz, v = .slice (some ⟨g, 0, none⟩) 10 10 ∧ B ≤ g ∧ W.heap[g]? = some (.cells (bts nochg).toArray 5 fz)
theorem keeps_noF (hpB : p < B) : Keeps (TapeR p B A n c l) (noF B) := fun v W W' ⟨g, fz, e, hB, hg⟩ hR => by
  rcases hR.block g (tf_lt hg) (by omega) with h | ⟨_, f1, f2, h1, h2⟩
  · exact ⟨g, fz, e, hB, h.trans hg⟩
  · exact ⟨g, f2, e, hB, h2⟩
theorem noF_bs {W : World} {v : Value} (h : noF B v W) : ∃ g, v = .slice (some ⟨g, 0, none⟩) 10 10 ∧ Bs W (some ⟨g, 0, none⟩) 10 10 nochg := by
  obtain ⟨g, fz, rfl, _, hg⟩ := h
  refine ⟨g, rfl, rfl, fun _ => ⟨_, rfl, tf_lt hg, fun j v hj => ?_⟩, Nat.le_refl _, by omega, fun _ ad e => by injection e with e; subst e; rfl⟩
  rw [add_plain, Nat.zero_add, cell_of_row _ _ _ _ _ _ hg]
  simpa using hj
/-- A longer row of the call's own. -/
def bigF (B : Nat) (X : List UInt8) : Fact := fun v W => 11 ≤ X.length ∧ W.ownsRow B 5 1 v X.length (bts X)
theorem keeps_bigF {B' : Nat} (hpB : p < B') (X : List UInt8) : Keeps (TapeR p B A n c l) (bigF B' X) := fun v W W' ⟨h8, h⟩ hR => by
  refine ⟨h8, h.1, h.2.imp id ?_⟩
  rintro ⟨g, cap, cur, rfl, hb, hg, hn, hc, hs, ht⟩
  refine ⟨g, cap, cur, rfl, hb, ?_, hn, hc, hs, ht⟩
  rcases hR.block g (tf_lt hg) (by omega) with h | ⟨_, f1, f2, h1, h2⟩
  · exact h.trans hg
  · exfalso
    rw [hg] at h1
    injection h1 with h1
    injection h1 with h3 _ _
    rw [h3] at hs
    have : (bts nochg).toArray.size = 10 := rfl
    omega
theorem run_convert_no {P : Program} (W : World) (t e : TypeId) (C : Array Value) (fz : Nat × Nat) (g n c : Nat) (ht : P.underlying t = some (.slice e)) (he : P.underlying e = some (.int .u8)) (hg : W.heap[g]? = some (.cells C e fz)) :
    ∃ fz', (convert t t (.slice (some ⟨g, 0, none⟩) n c)).run P W = .ok (.slice (some ⟨g, 0, none⟩) n c) { W with heap := W.heap.modify g fun _ => .cells C e fz' } := by
  have hsh : W.shape? g = some (e, C.size) := by
    unfold World.shape?
    rw [hg]
  obtain ⟨lo, hi⟩ := fz
  refine ⟨if lo = hi then (C.size, C.size + 1) else (min lo C.size, max hi (C.size + 1)), ?_⟩
  have hfr : W.freeze ⟨g, C.size, none⟩ 1 = { W with heap := W.heap.modify g fun _ => .cells C e (if lo = hi then (C.size, C.size + 1) else (min lo C.size, max hi (C.size + 1))) } := by
    unfold World.freeze
    rw [if_neg (by decide)]
    congr 1
    apply Array.ext
    · simp
    · intro i h1 h2
      simp only [Array.getElem_modify]
      by_cases h : g = i
      · subst h
        have hgl := tf_lt hg
        rw [Array.getElem?_eq_getElem hgl] at hg
        injection hg with hg
        simp [hg]
      · simp [h]
  simp [convert, run_underlying ht, run_underlying he, markStringish, hsh]
  exact hfr
end
section
variable {w0 : World} {a0 : Act} {ops : List Oper} {Q : Exit → Act → World → Prop} {F : Said} {k : Nat} {rest : List Oper}
  {d : Option Tmp} {ty : TypeId} {pos : String} {af : Array Edge} {g : Option (Nat × Bool)} {p B B3 n c : Nat} {A : Option Addr} {l : List Int} {hard soft : List Nat}
set_option maxRecDepth 100000 in
theorem flow_build_no {t : TypeId} {m : Nat} {xs : Array (Nat × Operand)} (h3 : B3 ≤ B) (hpB : p < B) (hB : B ≤ w0.heap.size) (hs : soft.contains k = true) (hrun : ∀ ev W, EvOk ev → (execOp ev ⟨d, .buildSlice t m xs, ty, pos, af, g⟩).run Try.prog W = .ok (.value (.slice (some ⟨W.heap.size, 0, none⟩) 10 10)) (W.alloc (.cells (bts nochg).toArray 5)))
    (hg : guardIs ops F true ⟨d, .buildSlice t m xs, ty, pos, af, g⟩) (h : Flow Try.prog (tapeT p B B3 A n c l hard soft) w0 a0 ops Q ((d, noF B) :: F) (k + 1) rest) : Flow Try.prog (tapeT p B B3 A n c l hard soft) w0 a0 ops Q F k (⟨d, .buildSlice t m xs, ty, pos, af, g⟩ :: rest) := by
  refine flow_op (noF B) (keeps_noF hpB) (.inl hs) hg (fun ev W he hW _ => ?_) h
  rw [hrun ev W he]
  have hs : w0.heap.size ≤ W.heap.size := TapeH.size hW
  exact ⟨tape_by h3 k (.of_chg ((Chg.refl _ _).alloc _)), _, _, rfl, Nat.le_trans hB hs, heap_alloc_new W _⟩
set_option maxRecDepth 100000 in
theorem flow_convert_no {st : Tmp} (hst : look F st = some (noF B)) (h3 : B3 ≤ B) (hpB : p < B) (hs : soft.contains k = true)
    (hg : guardIs ops F true ⟨d, .convert 51 51 (.tmp st), ty, pos, af, g⟩) (h : Flow Try.prog (tapeT p B B3 A n c l hard soft) w0 a0 ops Q ((d, noF B) :: F) (k + 1) rest) : Flow Try.prog (tapeT p B B3 A n c l hard soft) w0 a0 ops Q F k (⟨d, .convert 51 51 (.tmp st), ty, pos, af, g⟩ :: rest) := by
  refine flow_op (noF B) (keeps_noF hpB) (.inl hs) hg (fun ev W he hW hf => ?_) h
  have hf1 : factOf a0 F (.tmp st) (ev (.tmp st)) W := hf.1
  simp only [factOf, hst] at hf1
  obtain ⟨b, fz, e1, hB, hb⟩ := hf1
  obtain ⟨fz', hr⟩ := run_convert_no (P := Try.prog) W 51 5 _ fz b 10 10 Try.underlying51 Try.underlying5 hb
  have hbl := tf_lt hb
  have hnew : (W.heap.modify b fun _ => Obj.cells (bts nochg).toArray 5 fz')[b]? = some (.cells (bts nochg).toArray 5 fz') := by
    rw [Array.getElem?_modify, if_pos rfl, hb]; rfl
  have hoth : ∀ i, b ≠ i → (W.heap.modify b fun _ => Obj.cells (bts nochg).toArray 5 fz')[i]? = W.heap[i]? := fun i hib => by rw [Array.getElem?_modify, if_neg hib]
  simp only [execOp, e1, Sem.run_bind, hr, Result.andThen_ok, Sem.run_pure]
  refine ⟨tape_by h3 k ⟨rfl, rfl, rfl, by simp, fun i hi _ => ?_, fun i hi => ⟨i, ?_⟩⟩, b, fz', rfl, hB, hnew⟩
  · by_cases hib : b = i
    · subst hib
      exact .inr ⟨hB, fz, fz', hb, hnew⟩
    · exact .inl (hoth i hib)
  · have hbp : b ≠ p := by omega
    refine ⟨(hoth p hbp).trans hi.rec_, hi.len, fun hp => ?_, hi.spot, hi.rng, hi.le, hi.max⟩
    obtain ⟨ad, e, hbk, hx⟩ := hi.src hp
    refine ⟨ad, e, by simpa using hbk, fun j v hj => ?_⟩
    have h1 := hx j v hj
    rw [← h1]
    have hn : 0 < n := by have := hi.len; simp [nms] at hp; omega
    refine World.cell?_of_block (w := W) (hoth _ ?_)
    have e2 : (ad.add j).block = ad.block := by unfold Addr.add; split <;> rfl
    rw [e2]
    have := (hi.spot hn ad e).2
    omega
end
end Go.Proofs.Ytnohfdojcdhfoaa
namespace Go.Proofs.Ytnohfdojcdhfoaa
open Go.RowKit
/-- The tape goes on, all else stays. -/
structure TapeQ (p : Nat) (A : Option Addr) (n c : Nat) (l : List Int) (a b : World) : Prop where
  chg : Chg [p] a b
  tp : ∀ i, Tp a p A n c l i → ∃ j, Tp b p A n c l j
section
variable {p n c : Nat} {A : Option Addr} {l : List Int}
theorem TapeQ.refl (a : World) : TapeQ p A n c l a a := ⟨Chg.refl _ _, fun i h => ⟨i, h⟩⟩
theorem TapeQ.trans {a b d : World} (h : TapeQ p A n c l a b) (k : TapeQ p A n c l b d) : TapeQ p A n c l a d := ⟨h.chg.trans k.chg, fun i hi => by obtain ⟨j, hj⟩ := h.tp i hi; exact k.tp j hj⟩
theorem TapeQ.of_chg {a b : World} (h : Chg [] a b) : TapeQ p A n c l a b := ⟨h.sub (by simp), fun i hi => ⟨i, hi.keep h⟩⟩
theorem TapeQ.of_next {a b : World} (h : Chg [p] a b) {j : Nat} (ht : Tp b p A n c l j) : TapeQ p A n c l a b := ⟨h, fun _ _ => ⟨j, ht⟩⟩
def txtT (p : Nat) (A : Option Addr) (n c : Nat) (l : List Int) : Turns := ⟨TapeQ p A n c l, TapeQ p A n c l, [], []⟩
theorem txtT_ok : (txtT p A n c l).Ok := ⟨TapeQ.refl, fun _ _ h => h, fun _ _ _ h k => h.trans k⟩
theorem txt_by (k : Nat) {a b : World} (h : TapeQ p A n c l a b) : (txtT p A n c l).by_ k a b := h
/-- Some value of a kind. -/
def valF (φ : Value → Prop) : Fact := fun v _ => φ v
theorem keeps_valF {R : World → World → Prop} (φ : Value → Prop) : Keeps R (valF φ) := fun _ _ _ h _ => h
def IsTxt (m : Nat) (v : Value) : Prop := ∃ s : ByteArray, v = .string s ∧ s.size ≤ m
def IsNum (m : Nat) (v : Value) : Prop := ∃ r : Nat, v = .int .i64 (r : Int) ∧ r < m
def IsRune (v : Value) : Prop := ∃ r : Int, v = .int .i32 r
/-- A row of values of a kind. -/
def rowF (p m : Nat) (φ : Value → Prop) : Fact := fun v W => ∃ g t fz, ∃ cs : List Value, v = .slice (some ⟨g, 0, none⟩) m m ∧ g ≠ p ∧ W.heap[g]? = some (.cells cs.toArray t fz) ∧ cs.length = m ∧ ∀ x ∈ cs, φ x
def cellF (p : Nat) (φ : Value → Prop) : Fact := fun v W => ∃ g i u, v = .pointer (some ⟨g, i, none⟩) ∧ g ≠ p ∧ g < W.heap.size ∧ W.cell? ⟨g, i, none⟩ = some u ∧ φ u
theorem keeps_rowF (m : Nat) (φ : Value → Prop) : Keeps (TapeQ p A n c l) (rowF p m φ) := fun v W W' ⟨g, t, fz, cs, e, hg, hh, h2, h3⟩ hR =>
  ⟨g, t, fz, cs, e, hg, (hR.chg.block g (tf_lt hh) (by simpa using hg)).trans hh, h2, h3⟩
theorem keeps_cellF (φ : Value → Prop) : Keeps (TapeQ p A n c l) (cellF p φ) := fun v W W' ⟨g, i, u, e, hg, hl, h2, h3⟩ hR =>
  ⟨g, i, u, e, hg, Nat.lt_of_lt_of_le hl hR.chg.size, by rw [← h2]; exact World.cell?_of_block (w := W) (hR.chg.block g hl (by simpa using hg)), h3⟩
end
section
variable {w0 : World} {a0 : Act} {ops : List Oper} {Q : Exit → Act → World → Prop} {F : Said} {k : Nat} {rest : List Oper}
  {d : Option Tmp} {ty : TypeId} {pos : String} {af : Array Edge} {g : Option (Nat × Bool)} {p n c : Nat} {A : Option Addr} {l : List Int}
theorem txt_move {t : Tmp} {φ : Fact} (hs : look F t = some φ) (hk : Keeps (TapeQ p A n c l) φ)
    (hg : guardIs ops F true ⟨d, .move (.tmp t), ty, pos, af, g⟩) (h : Flow Try.prog (txtT p A n c l) w0 a0 ops Q ((d, φ) :: F) (k + 1) rest) : Flow Try.prog (txtT p A n c l) w0 a0 ops Q F k (⟨d, .move (.tmp t), ty, pos, af, g⟩ :: rest) :=
  flow_move txtT_ok hs hk (.inr hk) hg h
theorem txt_assign {t : Tmp} {φ : Fact} (hs : look F t = some φ) (hk : Keeps (TapeQ p A n c l) φ)
    (hg : guardIs ops F true ⟨d, .assign (.tmp t), ty, pos, af, g⟩) (h : Flow Try.prog (txtT p A n c l) w0 a0 ops Q ((d, φ) :: F) (k + 1) rest) : Flow Try.prog (txtT p A n c l) w0 a0 ops Q F k (⟨d, .assign (.tmp t), ty, pos, af, g⟩ :: rest) :=
  flow_assign txtT_ok hs hk (.inr hk) hg h
/-- A number of 0 .. m - 1 off the tape. -/
theorem txt_next {i m : Nat} {t : Tmp} (hm : 0 < m) (hm2 : m ≤ 1000000) (hi : Tp w0 p A n c l i) (ht : look F t = some (isV (.pointer (some ⟨p, 0, none⟩)))) {ats : Array TypeId}
    (hg : guardIs ops F true ⟨d, .call { callee := .value (.func 56), args := #[.tmp t, .const (.int .i64 (m : Int))], argTypes := ats }, ty, pos, af, g⟩)
    (h : Flow Try.prog (txtT p A n c l) w0 a0 ops Q ((d, valF (IsNum m)) :: F) (k + 1) rest) : Flow Try.prog (txtT p A n c l) w0 a0 ops Q F k (⟨d, .call { callee := .value (.func 56), args := #[.tmp t, .const (.int .i64 (m : Int))], argTypes := ats }, ty, pos, af, g⟩ :: rest) :=
  flow_calld (valF (IsNum m)) (keeps_valF _) (.inr (keeps_valF _)) (by kernel_rfl) hg (.cons (.inn ht) (.cons (.const _) .nil)) (fun W hW => by
    obtain ⟨j, hj⟩ := TapeQ.tp hW i hi
    refine (next_any hj m hm hm2).mono ?_
    rintro e w1 ⟨r, a', hr, rfl, hT, hc⟩
    exact ⟨_, rfl, txt_by k (.of_next hc hT), r, rfl, hr⟩) h
/-- An operation over one or two values of a kind that leaves the world alone. -/
theorem txt1 {o : Oper} {x : Tmp} {φ ψ : Value → Prop} (hop : o.op.operands = #[.tmp x]) (hx : look F x = some (valF φ)) (hg : guardIs ops F true o) (hrun : ∀ ev W v, EvOk ev → ev (.tmp x) = v → φ v → ∃ r, (execOp ev o).run Try.prog W = .ok (.value r) W ∧ ψ r)
    (h : Flow Try.prog (txtT p A n c l) w0 a0 ops Q ((o.dst, valF ψ) :: F) (k + 1) rest) : Flow Try.prog (txtT p A n c l) w0 a0 ops Q F k (o :: rest) :=
  flow_op (valF ψ) (keeps_valF _) (.inr (keeps_valF _)) hg (fun ev W he _ hf => by
    rw [hop] at hf
    have h1 : factOf a0 F (.tmp x) (ev (.tmp x)) W := hf.1
    simp only [factOf, hx] at h1
    obtain ⟨r, hr, hps⟩ := hrun ev W _ he rfl h1
    rw [hr]
    exact ⟨txt_by k (.refl W), hps⟩) h
theorem txt2 {o : Oper} {x y : Operand} {φ χ ψ : Value → Prop} (hop : o.op.operands = #[x, y]) (hx : (∃ t, x = .tmp t ∧ look F t = some (valF φ)) ∨ (∃ u, x = .const u ∧ φ u)) (hy : (∃ t, y = .tmp t ∧ look F t = some (valF χ)) ∨ (∃ u, y = .const u ∧ χ u)) (hg : guardIs ops F true o)
    (hrun : ∀ ev W v u, EvOk ev → ev x = v → ev y = u → φ v → χ u → ∃ r, (execOp ev o).run Try.prog W = .ok (.value r) W ∧ ψ r)
    (h : Flow Try.prog (txtT p A n c l) w0 a0 ops Q ((o.dst, valF ψ) :: F) (k + 1) rest) : Flow Try.prog (txtT p A n c l) w0 a0 ops Q F k (o :: rest) :=
  flow_op (valF ψ) (keeps_valF _) (.inr (keeps_valF _)) hg (fun ev W he _ hf => by
    rw [hop] at hf
    have h1 : φ (ev x) := by
      rcases hx with ⟨t, rfl, ht⟩ | ⟨u, rfl, hu⟩
      · have h1 : factOf a0 F (.tmp t) (ev (.tmp t)) W := hf.1
        simp only [factOf, ht] at h1
        exact h1
      · rw [he.const]; exact hu
    have h2 : χ (ev y) := by
      rcases hy with ⟨t, rfl, ht⟩ | ⟨u, rfl, hu⟩
      · have h1 : factOf a0 F (.tmp t) (ev (.tmp t)) W := hf.2.1
        simp only [factOf, ht] at h1
        exact h1
      · rw [he.const]; exact hu
    obtain ⟨r, hr, hps⟩ := hrun ev W _ _ he rfl rfl h1 h2
    rw [hr]
    exact ⟨txt_by k (.refl W), hps⟩) h
/-- '+' of two texts. -/
theorem txt_add {x y : Operand} {a b : Nat} (hab : a + b ≤ 1000000) (hx : (∃ t, x = .tmp t ∧ look F t = some (valF (IsTxt a))) ∨ (∃ u, x = .const u ∧ IsTxt a u)) (hy : (∃ t, y = .tmp t ∧ look F t = some (valF (IsTxt b))) ∨ (∃ u, y = .const u ∧ IsTxt b u))
    (hg : guardIs ops F true ⟨d, .binOp .add 9 x y 9, ty, pos, af, g⟩)
    (h : Flow Try.prog (txtT p A n c l) w0 a0 ops Q ((d, valF (IsTxt (a + b))) :: F) (k + 1) rest) : Flow Try.prog (txtT p A n c l) w0 a0 ops Q F k (⟨d, .binOp .add 9 x y 9, ty, pos, af, g⟩ :: rest) :=
  txt2 (φ := IsTxt a) (χ := IsTxt b) (ψ := IsTxt (a + b)) rfl hx hy hg (fun ev W v u he e1 e2 ⟨s, hs, hsl⟩ ⟨t, ht, htl⟩ => by
    subst hs; subst ht
    refine ⟨.string (s ++ t), ?_, s ++ t, rfl, by rw [ByteArray.size_append']; omega⟩
    have hadd := run_string_add_sum (P := Try.prog) W s t (by omega)
    simp only [execOp, e1, e2, Sem.run_bind, Sem.run_pure]
    simp [eqGuard, binOp, hadd]) h
/-- A number and a constant. -/
theorem txt_num_add {y : Tmp} {b m : Nat} (hb : b + m ≤ 1000000) (hy : look F y = some (valF (IsNum m)))
    (hg : guardIs ops F true ⟨d, .binOp .add 3 (.const (.int .i64 (b : Int))) (.tmp y) 3, ty, pos, af, g⟩)
    (h : Flow Try.prog (txtT p A n c l) w0 a0 ops Q ((d, valF (IsNum (b + m))) :: F) (k + 1) rest) : Flow Try.prog (txtT p A n c l) w0 a0 ops Q F k (⟨d, .binOp .add 3 (.const (.int .i64 (b : Int))) (.tmp y) 3, ty, pos, af, g⟩ :: rest) :=
  txt2 (φ := fun v => v = .int .i64 (b : Int)) (χ := IsNum m) (ψ := IsNum (b + m)) rfl (.inr ⟨_, rfl, rfl⟩) (.inl ⟨_, rfl, hy⟩) hg (fun ev W v u he e1 e2 h1 ⟨r, hr, hrm⟩ => by
    subst h1; subst hr
    refine ⟨.int .i64 ((b + r : Nat) : Int), ?_, b + r, rfl, by omega⟩
    go_simp
    exact IntWalk.i64_in _ (by omega)) h
/-- A number as a rune. -/
theorem txt_rune {y : Tmp} {m : Nat} (hb : m ≤ 1000000) (hy : look F y = some (valF (IsNum m)))
    (hg : guardIs ops F true ⟨d, .convert 3 21 (.tmp y), ty, pos, af, g⟩)
    (h : Flow Try.prog (txtT p A n c l) w0 a0 ops Q ((d, valF IsRune) :: F) (k + 1) rest) : Flow Try.prog (txtT p A n c l) w0 a0 ops Q F k (⟨d, .convert 3 21 (.tmp y), ty, pos, af, g⟩ :: rest) :=
  txt1 (x := y) (φ := IsNum m) (ψ := IsRune) rfl hy hg (fun ev W v he e1 ⟨r, hr, hrm⟩ => by
    subst hr
    refine ⟨.int .i32 (r : Int), ?_, _, rfl⟩
    go_simp
    exact IntWalk.i32_in _ (by omega)) h
theorem txt_str {y : Tmp} (hy : look F y = some (valF IsRune))
    (hg : guardIs ops F true ⟨d, .convert 21 9 (.tmp y), ty, pos, af, g⟩)
    (h : Flow Try.prog (txtT p A n c l) w0 a0 ops Q ((d, valF (IsTxt 4)) :: F) (k + 1) rest) : Flow Try.prog (txtT p A n c l) w0 a0 ops Q F k (⟨d, .convert 21 9 (.tmp y), ty, pos, af, g⟩ :: rest) :=
  txt1 (x := y) (φ := IsRune) (ψ := IsTxt 4) rfl hy hg (fun ev W v he e1 ⟨r, hr⟩ => by
    subst hr
    refine ⟨.string (Utf8.encode r), ?_, _, rfl, encode_le4 _⟩
    go_simp) h
/-- digits of a number. -/
theorem txt_digits {t : Tmp} {m q : Nat} (hm : m ≤ 10 ^ (q + 1)) (hq : q ≤ 10) (ht : look F t = some (valF (IsNum m))) {ats : Array TypeId}
    (hg : guardIs ops F true ⟨d, .call { callee := .value (.func 73), args := #[.tmp t], argTypes := ats }, ty, pos, af, g⟩)
    (h : Flow Try.prog (txtT p A n c l) w0 a0 ops Q ((d, valF (IsTxt (4 * (q + 1)))) :: F) (k + 1) rest) : Flow Try.prog (txtT p A n c l) w0 a0 ops Q F k (⟨d, .call { callee := .value (.func 73), args := #[.tmp t], argTypes := ats }, ty, pos, af, g⟩ :: rest) :=
  flow_call (valF (IsTxt (4 * (q + 1)))) (keeps_valF _) (.inr (keeps_valF _)) (by kernel_rfl) hg (fun ev W he hW hf => by
    have h1 : factOf a0 F (.tmp t) (ev (.tmp t)) W := hf.1
    simp only [factOf, ht] at h1
    obtain ⟨r, hr, hrm⟩ := h1
    simp only [List.map_cons, List.map_nil, hr]
    refine (digits_any q r (by omega) hq W).mono ?_
    rintro e w1 ⟨s, rfl, hs, hc⟩
    exact ⟨_, rfl, txt_by k (.of_chg hc), s, rfl, hs⟩) h
/-- A row of constants. -/
theorem txt_build {T m : Nat} {xs : Array (Nat × Operand)} {t : TypeId} {cs : List Value} {φ : Value → Prop} (hp : p < w0.heap.size) (hm : cs.length = m) (hφ : ∀ x ∈ cs, φ x)
    (hrun : ∀ ev W, EvOk ev → (execOp ev ⟨d, .buildSlice T m xs, ty, pos, af, g⟩).run Try.prog W = .ok (.value (.slice (some ⟨W.heap.size, 0, none⟩) m m)) (W.alloc (.cells cs.toArray t)))
    (hg : guardIs ops F true ⟨d, .buildSlice T m xs, ty, pos, af, g⟩) (h : Flow Try.prog (txtT p A n c l) w0 a0 ops Q ((d, rowF p m φ) :: F) (k + 1) rest) : Flow Try.prog (txtT p A n c l) w0 a0 ops Q F k (⟨d, .buildSlice T m xs, ty, pos, af, g⟩ :: rest) := by
  refine flow_op (rowF p m φ) (keeps_rowF m φ) (.inr (keeps_rowF m φ)) hg (fun ev W he hW _ => ?_) h
  rw [hrun ev W he]
  have hs : w0.heap.size ≤ W.heap.size := (TapeQ.chg hW).size
  exact ⟨txt_by k (.of_chg ((Chg.refl [] W).alloc _)), _, _, _, cs, rfl, by omega, heap_alloc_new W _, hm, hφ⟩
/-- A place in such a row, and what lies there. -/
theorem txt_at {x y : Tmp} {T m q : Nat} {φ : Value → Prop} (hix : ∀ (W : World) (b m r : Nat), r < m → (Instr.indexAt T (.slice (some ⟨b, 0, none⟩) m m) (.int .i64 (r : Int))).run Try.prog W = .ok (.pointer (some ⟨b, r, none⟩)) W) (hmq : q ≤ m) (hx : look F x = some (rowF p m φ)) (hy : look F y = some (valF (IsNum q)))
    (hg : guardIs ops F true ⟨d, .indexAddr T (.tmp x) (.tmp y), ty, pos, af, g⟩)
    (h : Flow Try.prog (txtT p A n c l) w0 a0 ops Q ((d, cellF p φ) :: F) (k + 1) rest) : Flow Try.prog (txtT p A n c l) w0 a0 ops Q F k (⟨d, .indexAddr T (.tmp x) (.tmp y), ty, pos, af, g⟩ :: rest) := by
  refine flow_op (cellF p φ) (keeps_cellF φ) (.inr (keeps_cellF φ)) hg (fun ev W he hW hf => ?_) h
  have h1 : factOf a0 F (.tmp x) (ev (.tmp x)) W := hf.1
  have h2 : factOf a0 F (.tmp y) (ev (.tmp y)) W := hf.2.1
  simp only [factOf, hx] at h1
  simp only [factOf, hy] at h2
  obtain ⟨b, t, fz, cs, e1, hbp, hb, hl, hφ⟩ := h1
  obtain ⟨r, e2, hr⟩ := h2
  have hrun : (execOp ev ⟨d, .indexAddr T (.tmp x) (.tmp y), ty, pos, af, g⟩).run Try.prog W = .ok (.value (.pointer (some ⟨b, r, none⟩))) W := by
    simp only [execOp, e1, e2, Sem.run_bind, Sem.run_pure, hix W b m r (by omega), Result.andThen_ok]
  rw [hrun]
  have hrl : r < cs.length := by omega
  exact ⟨txt_by k (.refl W), b, r, cs[r], rfl, hbp, tf_lt hb, by rw [cell_of_row _ _ _ _ _ _ hb]; simp [hrl], hφ _ (List.getElem_mem hrl)⟩
theorem txt_load {x : Tmp} {T : TypeId} {φ : Value → Prop} (hld : ∀ (W : World) (b i : Nat) (u : Value), W.cell? ⟨b, i, none⟩ = some u → φ u → (Instr.loadAt T (.pointer (some ⟨b, i, none⟩))).run Try.prog W = .ok u W) (hx : look F x = some (cellF p φ))
    (hg : guardIs ops F true ⟨d, .load T (.tmp x), ty, pos, af, g⟩)
    (h : Flow Try.prog (txtT p A n c l) w0 a0 ops Q ((d, valF φ) :: F) (k + 1) rest) : Flow Try.prog (txtT p A n c l) w0 a0 ops Q F k (⟨d, .load T (.tmp x), ty, pos, af, g⟩ :: rest) := by
  refine flow_op (valF φ) (keeps_valF φ) (.inr (keeps_valF φ)) hg (fun ev W he hW hf => ?_) h
  have h1 : factOf a0 F (.tmp x) (ev (.tmp x)) W := hf.1
  simp only [factOf, hx] at h1
  obtain ⟨b, i, u, e1, hbp, hbl, hu, hφ⟩ := h1
  have hrun : (execOp ev ⟨d, .load T (.tmp x), ty, pos, af, g⟩).run Try.prog W = .ok (.value u) W := by
    simp only [execOp, e1, Sem.run_bind, Sem.run_pure, hld W b i u hu hφ, Result.andThen_ok]
  rw [hrun]
  exact ⟨txt_by k (.refl W), hφ⟩
theorem ix_str (W : World) (b m r : Nat) (h : r < m) : (Instr.indexAt 64 (.slice (some ⟨b, 0, none⟩) m m) (.int .i64 (r : Int))).run Try.prog W = .ok (.pointer (some ⟨b, r, none⟩)) W := by
  have h1 : (r : Int) < (m : Int) := by omega
  go_simp
theorem ix_int (W : World) (b m r : Nat) (h : r < m) : (Instr.indexAt 43 (.slice (some ⟨b, 0, none⟩) m m) (.int .i64 (r : Int))).run Try.prog W = .ok (.pointer (some ⟨b, r, none⟩)) W := by
  have h1 : (r : Int) < (m : Int) := by omega
  go_simp
theorem ld_str (m : Nat) (W : World) (b i : Nat) (u : Value) (h : W.cell? ⟨b, i, none⟩ = some u) (hu : IsTxt m u) : (Instr.loadAt 9 (.pointer (some ⟨b, i, none⟩))).run Try.prog W = .ok u W := by
  obtain ⟨s, rfl, _⟩ := hu
  go_simp
theorem ld_int (m : Nat) (W : World) (b i : Nat) (u : Value) (h : W.cell? ⟨b, i, none⟩ = some u) (hu : IsNum m u) : (Instr.loadAt 3 (.pointer (some ⟨b, i, none⟩))).run Try.prog W = .ok u W := by
  obtain ⟨s, rfl, _⟩ := hu
  go_simp
end
end Go.Proofs.Ytnohfdojcdhfoaa
namespace Go.Proofs.Ytnohfdojcdhfoaa
open Go.RowKit
structure FnV where
  name : Int
  args : Int
  code : ByteArray
def fnC (t : FnV) : List Value := [.int .i32 t.name, .int .i64 t.args, .string t.code]
def fnCs : List FnV → List Value
  | [] => []
  | t :: l => fnC t ++ fnCs l
theorem fnCs_len : ∀ l, (fnCs l).length = l.length * 3
  | [] => rfl
  | t :: l => by rw [fnCs, List.length_append, fnCs_len l]; simp [fnC]; omega
theorem fnCs_app : ∀ l m, fnCs (l ++ m) = fnCs l ++ fnCs m
  | [], _ => rfl
  | t :: l, m => by rw [List.cons_append, fnCs, fnCs, fnCs_app l m, List.append_assoc]
theorem fnCs_one (t : FnV) : fnCs [t] = fnC t := by simp [fnCs]
theorem fnCs_get : ∀ (l : List FnV) (k : Nat) (t : FnV) (j : Nat), l[k]? = some t → j < 3 → (fnCs l)[k * 3 + j]? = (fnC t)[j]?
  | [], k, t, j, h, hj => by simp at h
  | u :: l, 0, t, j, h, hj => by
    simp at h; subst h
    rw [fnCs, List.getElem?_append_left (by simp [fnC]; omega)]
    congr 1; omega
  | u :: l, k + 1, t, j, h, hj => by
    simp at h
    rw [fnCs, List.getElem?_append_right (by simp [fnC]; omega)]
    rw [← fnCs_get l k t j h hj]
    congr 1; simp [fnC]; omega
theorem info_func : (Try.prog.info? 28).map (fun i => (i.zero, i.size, i.bytes)) = some (some (.agg #[.int .i32 0, .int .i64 0, .string ⟨#[]⟩]), 3, 32) := by kernel_rfl
/-- The slice value '.slice A n c' is the functions l; they do not lie in block p. -/
structure Fns (W : World) (p : Nat) (A : Option Addr) (n c : Nat) (l : List FnV) : Prop where
  len : l.length = n
  src : Src W A (fnCs l)
  cap : n ≤ c
  max : n ≤ 1000
  spot : 0 < n → ∀ ad, A = some ad → ad.spot = none ∧ ad.block ≠ p
  args : ∀ f ∈ l, 0 ≤ f.args ∧ f.args ≤ 2
section
variable {W W' : World} {p : Nat} {A : Option Addr} {n c : Nat} {l : List FnV}
theorem Fns.keep (h : Fns W p A n c l) (hc : Chg [p] W W') : Fns W' p A n c l := by
  refine ⟨h.len, fun hp => ?_, h.cap, h.max, h.spot, h.args⟩
  obtain ⟨ad, e, hb, hx⟩ := h.src hp
  have hn : 0 < n := by have := h.len; rw [fnCs_len] at hp; omega
  refine ⟨ad, e, Nat.lt_of_lt_of_le hb hc.size, fun j v hj => ?_⟩
  have h1 := hx j v hj
  rw [← h1]
  have e2 : (ad.add j).block = ad.block := by unfold Addr.add; split <;> rfl
  refine World.cell?_of_block (w := W) (hc.block _ (by rw [e2]; exact hb) ?_)
  rw [e2]
  have := (h.spot hn ad e).2
  simpa using this
theorem Fns.cell (h : Fns W p A n c l) {k : Nat} {t : FnV} (hk : l[k]? = some t) : ∃ b o, A = some ⟨b, o, none⟩ ∧ b ≠ p ∧ b < W.heap.size ∧ W.cell? ⟨b, o + k * 3, none⟩ = some (.int .i32 t.name) ∧ W.cell? ⟨b, o + k * 3 + 1, none⟩ = some (.int .i64 t.args) ∧ W.cell? ⟨b, o + k * 3 + 2, none⟩ = some (.string t.code) := by
  have hkl := (List.getElem?_eq_some_iff.1 hk).1
  obtain ⟨⟨b, o, s⟩, e, hb, hx⟩ := h.src (by rw [fnCs_len]; omega)
  obtain ⟨hs, hbp⟩ := h.spot (by have := h.len; omega) _ e
  simp only at hs hbp
  subst hs
  refine ⟨b, o, e, hbp, hb, ?_, ?_, ?_⟩
  · have := hx _ _ ((fnCs_get l k t 0 hk (by omega)).trans rfl); rwa [add_plain] at this
  · have := hx _ _ ((fnCs_get l k t 1 hk (by omega)).trans rfl); rwa [add_plain] at this
  · have := hx _ _ ((fnCs_get l k t 2 hk (by omega)).trans rfl); rwa [add_plain] at this
end
end Go.Proofs.Ytnohfdojcdhfoaa
namespace Go.Proofs.Ytnohfdojcdhfoaa
open Go.RowKit
structure BkV where
  sign : Int
  base : Int
  other : Int
  left : Bool
/-- The place of the first function of a name. -/
def findK (name : Int) : List FnV → Nat → Option Nat
  | [], _ => none
  | f :: l, k => if f.name = name then some k else findK name l (k + 1)
def findI (l : List FnV) (name : Int) : Int := match findK name l 0 with | some k => (k : Int) | none => -1
theorem findK_at {name : Int} : ∀ {l : List FnV} {k j : Nat}, findK name l k = some j → ∃ f, k ≤ j ∧ l[j - k]? = some f ∧ f.name = name
  | [], k, j, h => by simp [findK] at h
  | f :: l, k, j, h => by
    rw [findK] at h
    by_cases hn : f.name = name
    · rw [if_pos hn] at h; injection h with h; subst h; exact ⟨f, Nat.le_refl _, by simp, hn⟩
    · rw [if_neg hn] at h
      obtain ⟨g, h1, h2, h3⟩ := findK_at h
      refine ⟨g, by omega, ?_, h3⟩
      rw [show j - k = (j - (k + 1)) + 1 from by omega]
      simpa using h2
theorem findK_add {name : Int} : ∀ (l m : List FnV) (k j : Nat), findK name l k = some j → findK name (l ++ m) k = some j
  | [], m, k, j, h => by simp [findK] at h
  | f :: l, m, k, j, h => by
    rw [List.cons_append, findK]
    rw [findK] at h
    by_cases hn : f.name = name
    · rw [if_pos hn] at h ⊢; exact h
    · rw [if_neg hn] at h ⊢; exact findK_add l m (k + 1) j h
def binL : List Nat := [43, 45, 42, 47, 37, 38, 124, 94, 60, 61, 171, 187]
def unL : List Nat := [33, 64, 169, 164, 960]
def zeL : List Nat := [58, 59, 91, 93, 126, 161]
def inL (l : List Nat) (r : Int) : Bool := l.any fun x => (x : Int) == r
/-- What a call takes. -/
def callA (l : List FnV) (name : Int) : Int × Int × Bool :=
  match findK name l 0 with
  | none => (0, 0, false)
  | some k => match l[k]? with
    | none => (0, 0, false)
    | some f => if 0 ≤ f.args ∧ f.args ≤ 4 then (f.args, 1, true) else (0, 0, false)
def rTakes (l : List FnV) (s name : Int) : Int × Int × Bool :=
  if (s = 48 ∨ (97 ≤ s ∧ s ≤ 122)) ∨ s = 35 then (0, 1, true)
  else if (65 ≤ s ∧ s ≤ 90) ∨ s = 44 then (1, 0, true)
  else if s = 46 then (1, 2, true)
  else if inL binL s = true then (2, 1, true)
  else if inL unL s = true then (1, 1, true)
  else if s = 36 ∨ s = 174 then (2, 0, true)
  else if s = 63 then (1, 0, true)
  else if inL zeL s = true then (0, 0, true)
  else if s = 955 then callA l name
  else (0, 0, false)
theorem callA_in (l : List FnV) (name : Int) : 0 ≤ (callA l name).1 ∧ (callA l name).1 ≤ 4 ∧ 0 ≤ (callA l name).2.1 ∧ (callA l name).2.1 ≤ 2 := by
  unfold callA
  split
  · simp
  · split
    · simp
    · split
      · rename_i h; simp; omega
      · simp
theorem rTakes_in (l : List FnV) (s name : Int) : 0 ≤ (rTakes l s name).1 ∧ (rTakes l s name).1 ≤ 4 ∧ 0 ≤ (rTakes l s name).2.1 ∧ (rTakes l s name).2.1 ≤ 2 := by
  unfold rTakes
  repeat' split
  all_goals first | exact callA_in l name | simp
def baseOf (bs : List BkV) : Int := match bs.getLast? with | none => 0 | some b => b.base
/-- : ; ] -/
def rEnds (h : Int) (ys : List BkV) (x : BkV) (r : Int) : Bool × Int × List BkV :=
  if r = 58 then (true, x.base, ys ++ [⟨58, x.base, h, x.left⟩])
  else if x.sign = 58 then (if 0 ≤ x.other ∧ 0 ≤ h ∧ x.other ≠ h then (false, h, ys) else (true, max h x.other, ys))
  else if 0 ≤ h ∧ h ≠ x.base then (false, h, ys)
  else (true, (if x.sign = 91 ∧ x.left = false then -1 else x.base), ys)
/-- ~ -/
def rLeave (h : Int) (bs : List BkV) : Nat → Bool × Int × List BkV
  | 0 => (false, h, bs)
  | k + 1 => match bs[k]? with
    | none => (false, h, bs)
    | some x => if x.sign = 91 then (h == x.base, -1, bs.set k ⟨x.sign, x.base, x.other, true⟩) else rLeave h bs k
def isEnd (s : Int) : Prop := s = 58 ∨ s = 59 ∨ s = 93
instance (s : Int) : Decidable (isEnd s) := by unfold isEnd; exact inferInstance
/-- A token: the fault's number, or the height and the blocks behind it. -/
def rTok (l : List FnV) (h : Int) (bs : List BkV) (s name : Int) : Int × Int × List BkV :=
  if isEnd s then (match bs.getLast? with
    | none => (14, h, bs)
    | some x => match rEnds h bs.dropLast x s with | (true, h', bs') => (0, h', bs') | (false, h', bs') => (14, h', bs'))
  else if h < 0 then (15, h, bs)
  else match rTakes l s name with
    | (_, _, false) => (22, h, bs)
    | (p, g, true) =>
      if h - baseOf bs < p ∨ 64 < h - p + g then (14, h, bs)
      else if s = 63 ∨ s = 91 then (0, h - p + g, bs ++ [⟨s, h - p + g, 0, false⟩])
      else if s = 126 then (match rLeave (h - p + g) bs bs.length with | (true, h', bs') => (0, h', bs') | (false, h', bs') => (14, h', bs'))
      else if s = 161 then (0, -1, bs)
      else (0, h - p + g, bs)
/-- The tokens from one on. -/
def rWalk (l : List FnV) : List TkV → Int → List BkV → List Int → Int × List Int
  | [], h, _, out => if h ≠ 1 ∧ 0 ≤ h then (14, []) else (0, out)
  | t :: ts, h, bs, out => match rTok l h bs t.sign t.name with
    | (e, h', bs') => if e = 0 then rWalk l ts h' bs' (out ++ [h]) else (e, [])
def rFunc (l : List FnV) (code : ByteArray) : Int × List Int :=
  match tokR code with
  | none => (tokE code, [])
  | some ts => match rNest (signs ts) with
    | none => (13, [])
    | some _ => rWalk l ts 0 [] []
/-- How many blocks are open behind a sign. -/
def tokLen (s : Int) (n : Nat) : Nat := if s = 63 ∨ s = 91 then n + 1 else if s = 59 ∨ s = 93 then n - 1 else n
theorem rLeave_len (h : Int) (bs : List BkV) : ∀ k, (rLeave h bs k).2.2.length = bs.length
  | 0 => rfl
  | k + 1 => by
    rw [rLeave]
    split
    · rfl
    · split
      · simp
      · exact rLeave_len h bs k
theorem rTok_len {l : List FnV} {h : Int} {bs : List BkV} {s name : Int} (he : (rTok l h bs s name).1 = 0) : (rTok l h bs s name).2.2.length = tokLen s bs.length := by
  unfold rTok at he ⊢
  by_cases hs : isEnd s
  · rw [if_pos hs] at he ⊢
    rcases List.eq_nil_or_concat bs with rfl | ⟨ys, x, rfl⟩
    · simp at he
    · rw [List.concat_eq_append] at he ⊢
      simp only [List.getLast?_append, List.getLast?_singleton, Option.some_or, List.dropLast_concat, List.length_append, List.length_singleton] at he ⊢
      unfold rEnds at he ⊢
      rcases hs with rfl | rfl | rfl
      · simp [tokLen]
      · simp only [tokLen] at he ⊢
        split <;> simp_all
        all_goals (repeat' split at *) <;> simp_all
      · simp only [tokLen] at he ⊢
        split <;> simp_all
        all_goals (repeat' split at *) <;> simp_all
  · rw [if_neg hs] at he ⊢
    have hn : ¬ s = 59 ∧ ¬ s = 93 := by unfold isEnd at hs; omega
    by_cases hh : h < 0
    · rw [if_pos hh] at he; simp at he
    · rw [if_neg hh] at he ⊢
      rcases hT : rTakes l s name with ⟨p, g, ok⟩
      rw [hT] at he
      cases ok
      · simp at he
      · simp only at he ⊢
        by_cases hb : h - baseOf bs < p ∨ 64 < h - p + g
        · rw [if_pos hb] at he; simp at he
        · rw [if_neg hb] at he ⊢
          by_cases h6 : s = 63 ∨ s = 91
          · rw [if_pos h6]; simp [tokLen, h6]
          · rw [if_neg h6] at he ⊢
            have e : tokLen s bs.length = bs.length := by unfold tokLen; rw [if_neg h6, if_neg (by omega)]
            rw [e]
            by_cases h7 : s = 126
            · rw [if_pos h7] at he ⊢
              have := rLeave_len (h - p + g) bs bs.length
              rcases hR : rLeave (h - p + g) bs bs.length with ⟨b, h', bs'⟩
              rw [hR] at this
              cases b <;> exact this
            · rw [if_neg h7]
              split <;> rfl
end Go.Proofs.Ytnohfdojcdhfoaa
namespace Go.Proofs.Ytnohfdojcdhfoaa
open Go.RowKit
/-- A unit, as an argument. -/
def unitV (pages most : Int) (A : Option Addr) (n c : Nat) : Value := .agg #[.int .i64 pages, .int .i64 most, .slice A n c]
/-- The slice value '.slice A n c' is the functions l, whatever they are. -/
structure Fnr (W : World) (A : Option Addr) (n c : Nat) (l : List FnV) : Prop where
  len : l.length = n
  src : Src W A (fnCs l)
  cap : n ≤ c
  max : n ≤ 1000
  spot : 0 < n → ∀ ad, A = some ad → ad.spot = none
  args : ∀ f ∈ l, -9223372036854775808 ≤ f.args ∧ f.args ≤ 9223372036854775807
section
variable {W W' : World} {p : Nat} {A : Option Addr} {n c : Nat} {l : List FnV}
theorem Fnr.keep (h : Fnr W A n c l) (hc : Chg [] W W') : Fnr W' A n c l := ⟨h.len, h.src.keep hc, h.cap, h.max, h.spot, h.args⟩
theorem Fns.raw (h : Fns W p A n c l) : Fnr W A n c l := ⟨h.len, h.src, h.cap, h.max, fun hn ad e => (h.spot hn ad e).1, fun f hf => by have := h.args f hf; omega⟩
theorem Fnr.cell (h : Fnr W A n c l) {k : Nat} {t : FnV} (hk : l[k]? = some t) : ∃ b o, A = some ⟨b, o, none⟩ ∧ b < W.heap.size ∧ W.cell? ⟨b, o + k * 3, none⟩ = some (.int .i32 t.name) ∧ W.cell? ⟨b, o + k * 3 + 1, none⟩ = some (.int .i64 t.args) ∧ W.cell? ⟨b, o + k * 3 + 2, none⟩ = some (.string t.code) := by
  have hkl := (List.getElem?_eq_some_iff.1 hk).1
  obtain ⟨⟨b, o, s⟩, e, hb, hx⟩ := h.src (by rw [fnCs_len]; omega)
  obtain rfl : s = none := h.spot (by have := h.len; omega) _ e
  refine ⟨b, o, e, hb, ?_, ?_, ?_⟩
  · have := hx _ _ ((fnCs_get l k t 0 hk (by omega)).trans rfl); rwa [add_plain] at this
  · have := hx _ _ ((fnCs_get l k t 1 hk (by omega)).trans rfl); rwa [add_plain] at this
  · have := hx _ _ ((fnCs_get l k t 2 hk (by omega)).trans rfl); rwa [add_plain] at this
end
section
variable {w : World} {A : Option Addr} {n c : Nat} {l : List FnV} {pages most : Int}
def FindPost (i : Int) (w : World) (e : Ending) (w' : World) : Prop := e = .returned (.int .i64 i) ∧ Chg [] w w'
set_option maxHeartbeats 2000000 in
set_option maxRecDepth 100000 in
theorem find_any (h : Fnr w A n c l) (name : Int) : Calls Try.prog 112 #[unitV pages most A n c, .int .i32 name] w (FindPost (findI l name) w) := by
  unfold unitV
  have hmax := h.max
  have H := Lib.hid h
  have HL := Lib.hid h.len
  have HI := Lib.hid (show findK name l 0 = findK name (l.drop 0) 0 from rfl)
  have HN := Lib.hid (show findI l name = match findK name l 0 with | some k => (k : Int) | none => -1 from rfl)
  generalize findI l name = fi at HN ⊢
  clear h
  go_enter Try.func112, Try.ntmps112
  go_upto_region 1 with fail
  have hN := Whole.new w 31 [.int .i64 pages, .int .i64 most, .slice A n c]
  have hal : Chg [] w (w.alloc (.cells #[.int .i64 pages, .int .i64 most, .slice A n c] 31)) := (Chg.refl [] w).alloc _
  have c2 := hN.cell 2
  have HN := Lib.hid hN
  have HC := Lib.hid hal
  have HF := Lib.hid (H.out.keep hal)
  obtain ⟨g, hg⟩ : ∃ g, g = w.heap.size := ⟨_, rfl⟩
  rw [← hg] at c2 ⊢
  generalize w.alloc (.cells #[.int .i64 pages, .int .i64 most, .slice A n c] 31) = w1 at c2 HC HF ⊢
  clear hN hal hg HN
  go_wp2_with fail
  go_loopw [9] (fun i wr => ∃ k : Nat, i = .int .i64 (k : Int) ∧ k ≤ n ∧ Hid (findK name l 0 = findK name (l.drop k) k) ∧ wr = w1) (fun i _ => n - (intOf i).toNat)
  case atStart => exact ⟨0, rfl, by omega, HI, rfl⟩
  case round =>
    obtain ⟨k, rfl, hk, HK, hwr⟩ := hrel
    subst hwr
    by_cases hkn : k < n
    · have hkI : (k : Int) < (n : Int) := by omega
      obtain ⟨t, htk⟩ : ∃ t, l[k]? = some t := ⟨l[k]'(by rw [HF.out.len]; exact hkn), by simp⟩
      have HD := Lib.hid (show l.drop k = t :: l.drop (k + 1) from List.drop_eq_getElem?_toList_append.trans (by rw [htk]; rfl))
      obtain ⟨fb, fo, rfl, hfbl, e0, e1, e2⟩ := HF.out.cell htk
      clear htk e1 e2
      by_cases hnm : t.name = name
      · have hq : (t.name == name) = true := by simpa using hnm
        have HP := Lib.hid (show FindPost fi w (.returned (.int .i64 (k : Int))) wr from ⟨by rw [HN.out, HK.out, HD.out, findK, if_pos hnm], HC.out⟩)
        clear hnm
        go_wp2_with fail
        go_ret
        exact HP.out
      · have hq : (t.name == name) = false := by simpa using hnm
        have HK2 := Lib.hid (show findK name l 0 = findK name (l.drop (k + 1)) (k + 1) from by rw [HK.out, HD.out, findK, if_neg hnm])
        go_wp2_with fail
        go_roundw
        case rel => exact ⟨k + 1, by go_num, by omega, HK2, by first | rfl | trivial⟩
        case measure => simp [intOf]; omega
    · have hkI : (n : Int) ≤ (k : Int) := by omega
      have HP := Lib.hid (show FindPost fi w (.returned (.int .i64 (-1))) wr from ⟨by rw [HN.out, HK.out, List.drop_eq_nil_of_le (by rw [HL.out]; omega)]; rfl, HC.out⟩)
      go_wp2_with fail
      go_ret
      exact HP.out
end
end Go.Proofs.Ytnohfdojcdhfoaa
namespace Go.Proofs.Ytnohfdojcdhfoaa
open Go.RowKit
section
variable {w : World} {A : Option Addr} {n c : Nat} {l : List FnV} {pages most : Int}
def TakesPost (r : Int × Int × Bool) (w : World) (e : Ending) (w' : World) : Prop := e = .returned (.tuple #[.int .i64 r.1, .int .i64 r.2.1, .bool r.2.2]) ∧ Chg [] w w'
theorem takes_ok {R : Int × Int × Bool} {w' : World} (a b : Nat) (ok : Bool) (hR : R = ((a : Int), (b : Int), ok)) (h : Chg [] w w') : TakesPost R w (.returned (.tuple #[.int .i64 (a : Int), .int .i64 (b : Int), .bool ok])) w' := by subst hR; exact ⟨rfl, h⟩
theorem has_bin (r : Int) (w : World) : Calls Try.prog 111 #[.string ⟨#[43, 45, 42, 47, 37, 38, 124, 94, 60, 61, 194, 171, 194, 187]⟩, .int .i32 r] w (BoolPost (inL binL r) w) :=
  (has_any _ r w (by decide)).mono fun _ _ h => by
    unfold hasB at h
    rw [show runesL ⟨#[43, 45, 42, 47, 37, 38, 124, 94, 60, 61, 194, 171, 194, 187]⟩ = binL from by decide +kernel] at h
    exact h
theorem has_un (r : Int) (w : World) : Calls Try.prog 111 #[.string ⟨#[33, 64, 194, 169, 194, 164, 207, 128]⟩, .int .i32 r] w (BoolPost (inL unL r) w) :=
  (has_any _ r w (by decide)).mono fun _ _ h => by
    unfold hasB at h
    rw [show runesL ⟨#[33, 64, 194, 169, 194, 164, 207, 128]⟩ = unL from by decide +kernel] at h
    exact h
theorem has_ze (r : Int) (w : World) : Calls Try.prog 111 #[.string ⟨#[58, 59, 91, 93, 126, 194, 161]⟩, .int .i32 r] w (BoolPost (inL zeL r) w) :=
  (has_any _ r w (by decide)).mono fun _ _ h => by
    unfold hasB at h
    rw [show runesL ⟨#[58, 59, 91, 93, 126, 194, 161]⟩ = zeL from by decide +kernel] at h
    exact h
set_option maxHeartbeats 4000000 in
set_option maxRecDepth 100000 in
theorem takes_any (h : Fnr w A n c l) (t : TkV) : Calls Try.prog 95 #[unitV pages most A n c, .agg (tkC t).toArray] w (TakesPost (rTakes l t.sign t.name) w) := by
  unfold unitV
  obtain ⟨r, tn, nm⟩ := t
  simp only [tkC]
  have hmax := h.max
  have H := Lib.hid h
  clear h
  obtain ⟨R, hR⟩ : ∃ R, R = rTakes l r nm := ⟨_, rfl⟩
  rw [← hR]
  have HR := Lib.hid hR
  clear hR
  go_enter Try.func95, Try.ntmps95
  go_upto_region 1 with fail
  have hN := Whole.new w 31 [.int .i64 pages, .int .i64 most, .slice A n c]
  have hal : Chg [] w (w.alloc (.cells #[.int .i64 pages, .int .i64 most, .slice A n c] 31)) := (Chg.refl [] w).alloc _
  have hsz : (w.alloc (.cells #[.int .i64 pages, .int .i64 most, .slice A n c] 31)).heap.size = w.heap.size + 1 := Array.size_push _
  obtain ⟨w1, hw1⟩ : ∃ w1, w1 = w.alloc (.cells #[.int .i64 pages, .int .i64 most, .slice A n c] 31) := ⟨_, rfl⟩
  rw [← hw1] at hN hal hsz ⊢
  have hN2 := Whole.new w1 121 [.int .i32 r, .int .i64 tn, .int .i32 nm]
  have hal2 : Chg [] w1 (w1.alloc (.cells #[.int .i32 r, .int .i64 tn, .int .i32 nm] 121)) := (Chg.refl [] w1).alloc _
  rw [hsz] at hN2
  have hU2 := hN.keep hal2
  have hc := hal.trans hal2
  generalize w1.alloc (.cells #[.int .i32 r, .int .i64 tn, .int .i32 nm] 121) = w2 at hN2 hU2 hc ⊢
  have HF2 := Lib.hid (H.out.keep hc)
  generalize w.heap.size = g at hU2 hN2 ⊢
  have HU2 := Lib.hid hU2
  have HT2 := Lib.hid hN2
  have HC2 := Lib.hid hc
  clear hN hal hsz hw1 hN2 hal2 hU2 hc
  have t0 := HT2.out.cell 0
  go_upto_region 2 with fail
  go_cut [11] (fun s wx => s = .bool (decide ((r = 48 ∨ (97 ≤ r ∧ r ≤ 122)) ∨ r = 35)) ∧ wx = w2)
  case first =>
    by_cases h48 : r = 48
    · have q1 : (r == 48) = true := by simpa using h48
      have HALL := Lib.hid (show (r = 48 ∨ (97 ≤ r ∧ r ≤ 122)) ∨ r = 35 from .inl (.inl h48))
      clear h48
      go_wp2_with fail
      go_meet
      exact ⟨congrArg Value.bool (decide_eq_true HALL.out).symm, rfl⟩
    · have q1 : (r == 48) = false := by simpa using h48
      by_cases h97 : 97 ≤ r
      · have q2 : decide (97 ≤ r) = true := by simpa using h97
        by_cases h122 : r ≤ 122
        · have q3 : decide (r ≤ 122) = true := by simpa using h122
          have HALL := Lib.hid (show (r = 48 ∨ (97 ≤ r ∧ r ≤ 122)) ∨ r = 35 from .inl (.inr ⟨h97, h122⟩))
          clear h48
          go_wp2_with fail
          go_meet
          exact ⟨congrArg Value.bool (decide_eq_true HALL.out).symm, rfl⟩
        · have q3 : decide (r ≤ 122) = false := by simpa using h122
          by_cases h9 : r = 35
          · have q9 : (r == 35) = true := by simpa using h9
            have HALL := Lib.hid (show (r = 48 ∨ (97 ≤ r ∧ r ≤ 122)) ∨ r = 35 from .inr h9)
            clear h9 h48 h97 h122
            go_wp2_with fail
            go_meet
            exact ⟨congrArg Value.bool (decide_eq_true HALL.out).symm, rfl⟩
          · have q9 : (r == 35) = false := by simpa using h9
            have HALL := Lib.hid (show ¬ ((r = 48 ∨ (97 ≤ r ∧ r ≤ 122)) ∨ r = 35) from by omega)
            clear h9 h48 h97 h122
            go_wp2_with fail
            go_meet
            exact ⟨congrArg Value.bool (decide_eq_false HALL.out).symm, rfl⟩
      · have q2 : decide (97 ≤ r) = false := by simpa using h97
        by_cases h9 : r = 35
        · have q9 : (r == 35) = true := by simpa using h9
          have HALL := Lib.hid (show (r = 48 ∨ (97 ≤ r ∧ r ≤ 122)) ∨ r = 35 from .inr h9)
          clear h9 h48 h97
          go_wp2_with fail
          go_meet
          exact ⟨congrArg Value.bool (decide_eq_true HALL.out).symm, rfl⟩
        · have q9 : (r == 35) = false := by simpa using h9
          have HALL := Lib.hid (show ¬ ((r = 48 ∨ (97 ≤ r ∧ r ≤ 122)) ∨ r = 35) from by omega)
          clear h9 h48 h97
          go_wp2_with fail
          go_meet
          exact ⟨congrArg Value.bool (decide_eq_false HALL.out).symm, rfl⟩
  case rest =>
    obtain ⟨hs, hcw⟩ := hcut
    rw [hcw]
    clear hcw
    by_cases hP : (r = 48 ∨ (97 ≤ r ∧ r ≤ 122)) ∨ r = 35
    · rw [decide_eq_true hP] at hs
      subst hs
      have H1 := Lib.hid hP
      clear hP
      have HP := Lib.hid (takes_ok (R := R) 0 1 true (by rw [HR.out]; unfold rTakes; rw [if_pos H1.out]; rfl) HC2.out)
      go_wp2_with fail
      exact bodyPost_ret (v := .tuple #[.int .i64 ((0 : Nat) : Int), .int .i64 ((1 : Nat) : Int), .bool true]) (by simp [results, Try.results95, go_sem]) rfl HP.out
    rw [decide_eq_false hP] at hs
    subst hs
    have H1 := Lib.hid hP
    clear hP
    go_upto_region 4 with fail
    go_cut [26] (fun s wx => s = .bool (decide ((65 ≤ r ∧ r ≤ 90) ∨ r = 44)) ∧ wx = w2)
    case first =>
      by_cases h65 : 65 ≤ r
      · have q2 : decide (65 ≤ r) = true := by simpa using h65
        by_cases h90 : r ≤ 90
        · have q3 : decide (r ≤ 90) = true := by simpa using h90
          have HALL := Lib.hid (show (65 ≤ r ∧ r ≤ 90) ∨ r = 44 from .inl ⟨h65, h90⟩)
          go_wp2_with fail
          go_meet
          exact ⟨congrArg Value.bool (decide_eq_true HALL.out).symm, rfl⟩
        · have q3 : decide (r ≤ 90) = false := by simpa using h90
          by_cases h9 : r = 44
          · have q9 : (r == 44) = true := by simpa using h9
            have HALL := Lib.hid (show (65 ≤ r ∧ r ≤ 90) ∨ r = 44 from .inr h9)
            clear h9 h65 h90
            go_wp2_with fail
            go_meet
            exact ⟨congrArg Value.bool (decide_eq_true HALL.out).symm, rfl⟩
          · have q9 : (r == 44) = false := by simpa using h9
            have HALL := Lib.hid (show ¬ ((65 ≤ r ∧ r ≤ 90) ∨ r = 44) from by omega)
            clear h9 h65 h90
            go_wp2_with fail
            go_meet
            exact ⟨congrArg Value.bool (decide_eq_false HALL.out).symm, rfl⟩
      · have q2 : decide (65 ≤ r) = false := by simpa using h65
        by_cases h9 : r = 44
        · have q9 : (r == 44) = true := by simpa using h9
          have HALL := Lib.hid (show (65 ≤ r ∧ r ≤ 90) ∨ r = 44 from .inr h9)
          clear h9 h65
          go_wp2_with fail
          go_meet
          exact ⟨congrArg Value.bool (decide_eq_true HALL.out).symm, rfl⟩
        · have q9 : (r == 44) = false := by simpa using h9
          have HALL := Lib.hid (show ¬ ((65 ≤ r ∧ r ≤ 90) ∨ r = 44) from by omega)
          clear h9 h65
          go_wp2_with fail
          go_meet
          exact ⟨congrArg Value.bool (decide_eq_false HALL.out).symm, rfl⟩
    case rest =>
      obtain ⟨hs, hcw⟩ := hcut
      rw [hcw]
      clear hcw
      by_cases hP : (65 ≤ r ∧ r ≤ 90) ∨ r = 44
      · rw [decide_eq_true hP] at hs
        subst hs
        have H2 := Lib.hid hP
        clear hP
        have HP := Lib.hid (takes_ok (R := R) 1 0 true (by rw [HR.out]; unfold rTakes; rw [if_neg H1.out, if_pos H2.out]; rfl) HC2.out)
        go_wp2_with fail
        exact bodyPost_ret (v := .tuple #[.int .i64 ((1 : Nat) : Int), .int .i64 ((0 : Nat) : Int), .bool true]) (by simp [results, Try.results95, go_sem]) rfl HP.out
      rw [decide_eq_false hP] at hs
      subst hs
      have H2 := Lib.hid hP
      clear hP
      by_cases h46 : r = 46
      · have q1 : (r == 46) = true := by simpa using h46
        have H3 := Lib.hid h46
        clear h46
        have HP := Lib.hid (takes_ok (R := R) 1 2 true (by rw [HR.out]; unfold rTakes; rw [if_neg H1.out, if_neg H2.out, if_pos H3.out]; rfl) HC2.out)
        go_wp2_with fail
        exact bodyPost_ret (v := .tuple #[.int .i64 ((1 : Nat) : Int), .int .i64 ((2 : Nat) : Int), .bool true]) (by simp [results, Try.results95, go_sem]) rfl HP.out
      have q46 : (r == 46) = false := by simpa using h46
      have H3 := Lib.hid h46
      clear h46
      go_wp2_with fail
      refine (has_bin r w2).mono ?_
      rintro e w3 ⟨rfl, hc3⟩
      have HU3 := Lib.hid (HU2.out.keep hc3)
      have HT3 := Lib.hid (HT2.out.keep hc3)
      have HF3 := Lib.hid (HF2.out.keep hc3)
      have HC3 := Lib.hid (HC2.out.trans hc3)
      clear hc3
      by_cases hb : inL binL r = true
      · rw [hb]
        have H4 := Lib.hid hb
        clear hb
        have HP := Lib.hid (takes_ok (R := R) 2 1 true (by rw [HR.out]; unfold rTakes; rw [if_neg H1.out, if_neg H2.out, if_neg H3.out, if_pos H4.out]; rfl) HC3.out)
        go_wp2_with fail
        exact bodyPost_ret (v := .tuple #[.int .i64 ((2 : Nat) : Int), .int .i64 ((1 : Nat) : Int), .bool true]) (by simp [results, Try.results95, go_sem]) rfl HP.out
      have H4 := Lib.hid hb
      rw [eq_false_of_ne_true hb]
      clear hb
      go_wp2_with fail
      refine (has_un r w3).mono ?_
      rintro e w4 ⟨rfl, hc4⟩
      have HU4 := Lib.hid (HU3.out.keep hc4)
      have HT4 := Lib.hid (HT3.out.keep hc4)
      have HF4 := Lib.hid (HF3.out.keep hc4)
      have HC4 := Lib.hid (HC3.out.trans hc4)
      clear hc4
      by_cases hb : inL unL r = true
      · rw [hb]
        have H5 := Lib.hid hb
        clear hb
        have HP := Lib.hid (takes_ok (R := R) 1 1 true (by rw [HR.out]; unfold rTakes; rw [if_neg H1.out, if_neg H2.out, if_neg H3.out, if_neg H4.out, if_pos H5.out]; rfl) HC4.out)
        go_wp2_with fail
        exact bodyPost_ret (v := .tuple #[.int .i64 ((1 : Nat) : Int), .int .i64 ((1 : Nat) : Int), .bool true]) (by simp [results, Try.results95, go_sem]) rfl HP.out
      have H5 := Lib.hid hb
      rw [eq_false_of_ne_true hb]
      clear hb
      go_upto_region 12 with fail
      go_cut [46] (fun s wx => s = .bool (decide (r = 36 ∨ r = 174)) ∧ wx = w4)
      case first =>
        by_cases h36 : r = 36
        · have q1 : (r == 36) = true := by simpa using h36
          have HALL := Lib.hid (show r = 36 ∨ r = 174 from .inl h36)
          clear h36
          go_wp2_with fail
          go_meet
          exact ⟨congrArg Value.bool (decide_eq_true HALL.out).symm, rfl⟩
        · have q1 : (r == 36) = false := by simpa using h36
          by_cases h9 : r = 174
          · have q9 : (r == 174) = true := by simpa using h9
            have HALL := Lib.hid (show r = 36 ∨ r = 174 from .inr h9)
            clear h9 h36
            go_wp2_with fail
            go_meet
            exact ⟨congrArg Value.bool (decide_eq_true HALL.out).symm, rfl⟩
          · have q9 : (r == 174) = false := by simpa using h9
            have HALL := Lib.hid (show ¬ (r = 36 ∨ r = 174) from by omega)
            clear h9 h36
            go_wp2_with fail
            go_meet
            exact ⟨congrArg Value.bool (decide_eq_false HALL.out).symm, rfl⟩
      case rest =>
        obtain ⟨hs, hcw⟩ := hcut
        rw [hcw]
        clear hcw
        by_cases hP : r = 36 ∨ r = 174
        · rw [decide_eq_true hP] at hs
          subst hs
          have H6 := Lib.hid hP
          clear hP
          have HP := Lib.hid (takes_ok (R := R) 2 0 true (by rw [HR.out]; unfold rTakes; rw [if_neg H1.out, if_neg H2.out, if_neg H3.out, if_neg H4.out, if_neg H5.out, if_pos H6.out]; rfl) HC4.out)
          go_wp2_with fail
          exact bodyPost_ret (v := .tuple #[.int .i64 ((2 : Nat) : Int), .int .i64 ((0 : Nat) : Int), .bool true]) (by simp [results, Try.results95, go_sem]) rfl HP.out
        rw [decide_eq_false hP] at hs
        subst hs
        have H6 := Lib.hid hP
        clear hP
        by_cases h63 : r = 63
        · have q1 : (r == 63) = true := by simpa using h63
          have H7 := Lib.hid h63
          clear h63
          have HP := Lib.hid (takes_ok (R := R) 1 0 true (by rw [HR.out]; unfold rTakes; rw [if_neg H1.out, if_neg H2.out, if_neg H3.out, if_neg H4.out, if_neg H5.out, if_neg H6.out, if_pos H7.out]; rfl) HC4.out)
          go_wp2_with fail
          exact bodyPost_ret (v := .tuple #[.int .i64 ((1 : Nat) : Int), .int .i64 ((0 : Nat) : Int), .bool true]) (by simp [results, Try.results95, go_sem]) rfl HP.out
        have q63 : (r == 63) = false := by simpa using h63
        have H7 := Lib.hid h63
        clear h63
        go_wp2_with fail
        refine (has_ze r w4).mono ?_
        rintro e w5 ⟨rfl, hc5⟩
        have HU5 := Lib.hid (HU4.out.keep hc5)
        have HT5 := Lib.hid (HT4.out.keep hc5)
        have HF5 := Lib.hid (HF4.out.keep hc5)
        have HC5 := Lib.hid (HC4.out.trans hc5)
        clear hc5
        by_cases hb : inL zeL r = true
        · rw [hb]
          have H8 := Lib.hid hb
          clear hb
          have HP := Lib.hid (takes_ok (R := R) 0 0 true (by rw [HR.out]; unfold rTakes; rw [if_neg H1.out, if_neg H2.out, if_neg H3.out, if_neg H4.out, if_neg H5.out, if_neg H6.out, if_neg H7.out, if_pos H8.out]; rfl) HC5.out)
          go_wp2_with fail
          exact bodyPost_ret (v := .tuple #[.int .i64 ((0 : Nat) : Int), .int .i64 ((0 : Nat) : Int), .bool true]) (by simp [results, Try.results95, go_sem]) rfl HP.out
        have H8 := Lib.hid hb
        rw [eq_false_of_ne_true hb]
        clear hb
        by_cases h955 : r = 955
        · have q1 : (r == 955) = true := by simpa using h955
          have H9 := Lib.hid h955
          clear h955
          have u0 := HU5.out.cell 0
          have u1 := HU5.out.cell 1
          have u2 := HU5.out.cell 2
          have t2 := HT5.out.cell 2
          go_wp2_with fail
          refine (find_any HF5.out nm).mono ?_
          rintro e w9 ⟨rfl, hc9⟩
          have HF9 := Lib.hid (HF5.out.keep hc9)
          have HC9 := Lib.hid (HC5.out.trans hc9)
          have v2 := (HU5.out.keep hc9).cell 2
          clear hc9 u0 u1 u2 t2
          have HRC := Lib.hid (show R = callA l nm from by rw [HR.out]; unfold rTakes; rw [if_neg H1.out, if_neg H2.out, if_neg H3.out, if_neg H4.out, if_neg H5.out, if_neg H6.out, if_neg H7.out, if_neg H8.out, if_pos H9.out])
          unfold findI
          cases hk : findK nm l 0 with
          | none =>
            have HKN := Lib.hid hk
            clear hk
            simp only
            have HP := Lib.hid (takes_ok (R := R) 0 0 false (by rw [HRC.out]; unfold callA; rw [HKN.out]; rfl) HC9.out)
            go_wp2_with fail
            exact bodyPost_ret (v := .tuple #[.int .i64 ((0 : Nat) : Int), .int .i64 ((0 : Nat) : Int), .bool false]) (by simp [results, Try.results95, go_sem]) rfl HP.out
          | some k =>
            obtain ⟨f, _, hfk, _⟩ := findK_at hk
            rw [Nat.sub_zero] at hfk
            have HKS := Lib.hid hk
            have HFK := Lib.hid hfk
            clear hk
            simp only
            obtain ⟨fb, fo, rfl, hfbl, e0, e1, e2⟩ := HF9.out.cell hfk
            have hkn : k < n := by rw [← HF9.out.len]; exact (List.getElem?_eq_some_iff.1 hfk).1
            have hmaxk := HF9.out.max
            have har := HF9.out.args f (List.mem_of_getElem? hfk)
            have hkI : (k : Int) < (n : Int) := by omega
            clear hfk e0 e2
            by_cases ha0 : 0 ≤ f.args
            · have qa0 : decide (0 ≤ f.args) = true := by simpa using ha0
              by_cases ha4 : f.args ≤ 4
              · have qa4 : decide (f.args ≤ 4) = true := by simpa using ha4
                have HRD := Lib.hid (show R = (f.args, 1, true) from by rw [HRC.out]; unfold callA; rw [HKS.out]; simp only; rw [HFK.out]; simp only; rw [if_pos ⟨ha0, ha4⟩])
                obtain ⟨q, hq⟩ : ∃ q : Nat, f.args = (q : Int) := ⟨f.args.toNat, by omega⟩
                rw [hq] at e1 qa0 qa4
                have hq4 : q ≤ 4 := by omega
                have HRE := Lib.hid (show R = ((q : Int), ((1 : Nat) : Int), true) from by rw [HRD.out, hq]; rfl)
                clear hq ha0 ha4 har
                have HP := Lib.hid (takes_ok (R := R) q 1 true (HRE.out) HC9.out)
                go_wp2_with fail
                exact bodyPost_ret (v := .tuple #[.int .i64 ((q : Nat) : Int), .int .i64 ((1 : Nat) : Int), .bool true]) (by simp [results, Try.results95, go_sem]) rfl HP.out
              · have qa4 : decide (f.args ≤ 4) = false := by simpa using ha4
                have HRE := Lib.hid (show R = (((0 : Nat) : Int), ((0 : Nat) : Int), false) from by rw [HRC.out]; unfold callA; rw [HKS.out]; simp only; rw [HFK.out]; simp only; rw [if_neg (by omega)]; rfl)
                have HP := Lib.hid (takes_ok (R := R) 0 0 false (HRE.out) HC9.out)
                go_wp2_with fail
                exact bodyPost_ret (v := .tuple #[.int .i64 ((0 : Nat) : Int), .int .i64 ((0 : Nat) : Int), .bool false]) (by simp [results, Try.results95, go_sem]) rfl HP.out
            · have qa0 : decide (0 ≤ f.args) = false := by simpa using ha0
              have HRE := Lib.hid (show R = (((0 : Nat) : Int), ((0 : Nat) : Int), false) from by rw [HRC.out]; unfold callA; rw [HKS.out]; simp only; rw [HFK.out]; simp only; rw [if_neg (by omega)]; rfl)
              have HP := Lib.hid (takes_ok (R := R) 0 0 false (HRE.out) HC9.out)
              go_wp2_with fail
              exact bodyPost_ret (v := .tuple #[.int .i64 ((0 : Nat) : Int), .int .i64 ((0 : Nat) : Int), .bool false]) (by simp [results, Try.results95, go_sem]) rfl HP.out
        have q955 : (r == 955) = false := by simpa using h955
        have H9 := Lib.hid h955
        clear h955
        have HP := Lib.hid (takes_ok (R := R) 0 0 false (by rw [HR.out]; unfold rTakes; rw [if_neg H1.out, if_neg H2.out, if_neg H3.out, if_neg H4.out, if_neg H5.out, if_neg H6.out, if_neg H7.out, if_neg H8.out, if_neg H9.out]; rfl) HC5.out)
        go_wp2_with fail
        exact bodyPost_ret (v := .tuple #[.int .i64 ((0 : Nat) : Int), .int .i64 ((0 : Nat) : Int), .bool false]) (by simp [results, Try.results95, go_sem]) rfl HP.out
end
end Go.Proofs.Ytnohfdojcdhfoaa
namespace Go.Proofs.Ytnohfdojcdhfoaa
open Go.RowKit
section
variable {w : World} {A : Option Addr} {n c : Nat} {l : List FnV} {pages most : Int}
set_option maxHeartbeats 2000000 in
set_option maxRecDepth 100000 in
theorem cfind_any (h : Fnr w A n c l) (name : Int) : Calls Try.prog 49 #[unitV pages most A n c, .int .i32 name] w (FindPost (findI l name) w) := by
  unfold unitV
  have hmax := h.max
  have H := Lib.hid h
  have HL := Lib.hid h.len
  have HI := Lib.hid (show findK name l 0 = findK name (l.drop 0) 0 from rfl)
  have HN := Lib.hid (show findI l name = match findK name l 0 with | some k => (k : Int) | none => -1 from rfl)
  generalize findI l name = fi at HN ⊢
  clear h
  go_enter Try.func49, Try.ntmps49
  go_upto_region 1 with fail
  have hN := Whole.new w 31 [.int .i64 pages, .int .i64 most, .slice A n c]
  have hal : Chg [] w (w.alloc (.cells #[.int .i64 pages, .int .i64 most, .slice A n c] 31)) := (Chg.refl [] w).alloc _
  have c2 := hN.cell 2
  have HC := Lib.hid hal
  have HF := Lib.hid (H.out.keep hal)
  obtain ⟨g, hg⟩ : ∃ g, g = w.heap.size := ⟨_, rfl⟩
  rw [← hg] at c2 ⊢
  generalize w.alloc (.cells #[.int .i64 pages, .int .i64 most, .slice A n c] 31) = w1 at c2 HC HF ⊢
  clear hN hal hg
  go_wp2_with fail
  go_loopw [10] (fun i wr => ∃ k : Nat, i = .int .i64 (k : Int) ∧ k ≤ n ∧ Hid (findK name l 0 = findK name (l.drop k) k) ∧ Hid (Chg [] w1 wr)) (fun i _ => n - (intOf i).toNat)
  case atStart => exact ⟨0, rfl, by omega, HI, Lib.hid (Chg.refl [] _)⟩
  case round =>
    obtain ⟨k, rfl, hk, HK, HCr⟩ := hrel
    by_cases hkn : k < n
    · have hkI : (k : Int) < (n : Int) := by omega
      obtain ⟨t, htk⟩ : ∃ t, l[k]? = some t := ⟨l[k]'(by rw [HF.out.len]; exact hkn), by simp⟩
      have HD := Lib.hid (show l.drop k = t :: l.drop (k + 1) from List.drop_eq_getElem?_toList_append.trans (by rw [htk]; rfl))
      obtain ⟨fb, fo, rfl, hfbl, e0, e1, e2⟩ := (HF.out.keep HCr.out).cell htk
      obtain ⟨tn, ta, tc⟩ := t
      simp only at e0 e1 e2
      clear htk
      go_upto_region 4 with fail
      have hX := Whole.new wr 28 [.int .i32 tn, .int .i64 ta, .string tc]
      have x0 := hX.cell 0
      have HC2 := Lib.hid (HCr.out.new ((Chg.refl [] wr).alloc (.cells #[.int .i32 tn, .int .i64 ta, .string tc] 28)))
      generalize wr.heap.size = gx at x0 ⊢
      generalize wr.alloc (.cells #[.int .i32 tn, .int .i64 ta, .string tc] 28) = w3 at x0 HC2 ⊢
      clear hX e0 e1 e2 hfbl HCr
      by_cases hnm : tn = name
      · have hq : (tn == name) = true := by simpa using hnm
        have HP := Lib.hid (show FindPost fi w (.returned (.int .i64 (k : Int))) w3 from ⟨by rw [HN.out, HK.out, HD.out, findK, if_pos hnm], HC.out.new HC2.out⟩)
        clear hnm
        go_wp2_with fail
        go_ret
        exact HP.out
      · have hq : (tn == name) = false := by simpa using hnm
        have HK2 := Lib.hid (show findK name l 0 = findK name (l.drop (k + 1)) (k + 1) from by rw [HK.out, HD.out, findK, if_neg hnm])
        go_wp2_with fail
        go_roundw
        case rel => exact ⟨k + 1, by go_num, by omega, HK2, HC2⟩
        case measure => simp [intOf]; omega
    · have hkI : (n : Int) ≤ (k : Int) := by omega
      have HP := Lib.hid (show FindPost fi w (.returned (.int .i64 (-1))) wr from ⟨by rw [HN.out, HK.out, List.drop_eq_nil_of_le (by rw [HL.out]; omega)]; rfl, HC.out.new HCr.out⟩)
      go_wp2_with fail
      go_ret
      exact HP.out
set_option maxHeartbeats 4000000 in
set_option maxRecDepth 100000 in
theorem ctcall_any (h : Fnr w A n c l) (name : Int) : Calls Try.prog 121 #[unitV pages most A n c, .int .i32 name] w (TakesPost (callA l name) w) := by
  unfold unitV
  have hmax := h.max
  have H := Lib.hid h
  clear h
  go_enter Try.func121, Try.ntmps121
  go_upto_region 1 with fail
  have hN := Whole.new w 31 [.int .i64 pages, .int .i64 most, .slice A n c]
  have hal : Chg [] w (w.alloc (.cells #[.int .i64 pages, .int .i64 most, .slice A n c] 31)) := (Chg.refl [] w).alloc _
  obtain ⟨g, hg⟩ : ∃ g, g = w.heap.size := ⟨_, rfl⟩
  rw [← hg] at hN ⊢
  have HU := Lib.hid hN
  have HC := Lib.hid hal
  have HF := Lib.hid (H.out.keep hal)
  generalize w.alloc (.cells #[.int .i64 pages, .int .i64 most, .slice A n c] 31) = w1 at HU HC HF ⊢
  clear hN hal hg
  have c0 := HU.out.cell 0
  have c1 := HU.out.cell 1
  have c2 := HU.out.cell 2
  go_wp2_with fail
  refine (cfind_any HF.out name).mono ?_
  rintro e w2 ⟨rfl, hc2⟩
  have HU2 := Lib.hid (HU.out.keep hc2)
  have HF2 := Lib.hid (HF.out.keep hc2)
  have HC2 := Lib.hid (HC.out.new hc2)
  clear hc2 c0 c1 c2
  have c2 := HU2.out.cell 2
  cases hk : findK name l 0 with
  | none =>
    have HP := Lib.hid (show TakesPost (callA l name) w (.returned (.tuple #[.int .i64 ((0 : Nat) : Int), .int .i64 ((0 : Nat) : Int), .bool false])) w2 from takes_ok 0 0 false (by unfold callA; rw [hk]; rfl) HC2.out)
    rw [show findI l name = -1 from by unfold findI; rw [hk]]
    clear hk
    go_wp2_with fail
    go_ret3
    exact HP.out
  | some k =>
    rw [show findI l name = (k : Int) from by unfold findI; rw [hk]]
    obtain ⟨f, _, hf, hfn⟩ := findK_at hk
    rw [Nat.sub_zero] at hf
    have hkn : k < n := by have := (List.getElem?_eq_some_iff.1 hf).1; have := HF2.out.len; omega
    have hkI : (k : Int) < (n : Int) := by omega
    have hk0 : ¬ (k : Int) < 0 := by omega
    have hk0d : decide ((k : Int) < 0) = false := by simp
    obtain ⟨fb, fo, rfl, hfbl, e0, e1, e2⟩ := HF2.out.cell hf
    obtain ⟨fn, fa, fc⟩ := f
    simp only at e0 e1 e2
    have HCA := Lib.hid (show callA l name = if 0 ≤ fa ∧ fa ≤ 4 then (fa, 1, true) else (0, 0, false) from by unfold callA; rw [hk]; simp only; rw [hf])
    clear hk hf hfn e0 e2
    by_cases h0 : 0 ≤ fa
    · by_cases h4 : fa ≤ 4
      · obtain ⟨a, rfl⟩ : ∃ a : Nat, fa = (a : Int) := ⟨fa.toNat, by omega⟩
        have d0 : decide ((a : Int) < 0) = false := by simp
        have d4 : decide (4 < (a : Int)) = false := by simp; omega
        have HP := Lib.hid (show TakesPost (callA l name) w (.returned (.tuple #[.int .i64 ((a : Nat) : Int), .int .i64 ((1 : Nat) : Int), .bool true])) w2 from takes_ok a 1 true (by rw [HCA.out, if_pos ⟨h0, h4⟩]; rfl) HC2.out)
        clear h0
        go_wp2_with fail
        go_ret3
        exact HP.out
      · have d0 : decide (fa < 0) = false := by simp; omega
        have d4 : decide (4 < fa) = true := by simp; omega
        have h4' : 4 < fa := by omega
        have HP := Lib.hid (show TakesPost (callA l name) w (.returned (.tuple #[.int .i64 ((0 : Nat) : Int), .int .i64 ((0 : Nat) : Int), .bool false])) w2 from takes_ok 0 0 false (by rw [HCA.out, if_neg (fun h => h4 h.2)]; rfl) HC2.out)
        clear h4
        go_wp2_with fail
        go_ret3
        exact HP.out
    · have d0 : decide (fa < 0) = true := by simp; omega
      have h0' : fa < 0 := by omega
      have HP := Lib.hid (show TakesPost (callA l name) w (.returned (.tuple #[.int .i64 ((0 : Nat) : Int), .int .i64 ((0 : Nat) : Int), .bool false])) w2 from takes_ok 0 0 false (by rw [HCA.out, if_neg (fun h => h0 h.1)]; rfl) HC2.out)
      clear h0
      go_wp2_with fail
      go_ret3
      exact HP.out
theorem inL_not {l : List Nat} {r : Int} (h : ∀ x ∈ l, r ≠ (x : Int)) : inL l r = false := by
  unfold inL
  rw [Bool.eq_false_iff]
  intro ht
  obtain ⟨x, hx, e⟩ := List.any_eq_true.1 ht
  exact h x hx (by have := of_decide_eq_true e; exact this.symm)
set_option maxHeartbeats 16000000 in
set_option maxRecDepth 100000 in
theorem ctakes_any (h : Fnr w A n c l) (t : TkV) : Calls Try.prog 105 #[unitV pages most A n c, .agg (tkC t).toArray] w (TakesPost (rTakes l t.sign t.name) w) := by
  unfold unitV
  obtain ⟨r, tn, nm⟩ := t
  simp only [tkC]
  have H := Lib.hid h
  clear h
  obtain ⟨R, hR⟩ : ∃ R, R = rTakes l r nm := ⟨_, rfl⟩
  rw [← hR]
  have HR := Lib.hid hR
  clear hR
  go_enter Try.func105, Try.ntmps105
  go_upto_region 1 with fail
  have hN := Whole.new w 31 [.int .i64 pages, .int .i64 most, .slice A n c]
  have hal : Chg [] w (w.alloc (.cells #[.int .i64 pages, .int .i64 most, .slice A n c] 31)) := (Chg.refl [] w).alloc _
  have hsz : (w.alloc (.cells #[.int .i64 pages, .int .i64 most, .slice A n c] 31)).heap.size = w.heap.size + 1 := Array.size_push _
  obtain ⟨w1, hw1⟩ : ∃ w1, w1 = w.alloc (.cells #[.int .i64 pages, .int .i64 most, .slice A n c] 31) := ⟨_, rfl⟩
  rw [← hw1] at hN hal hsz ⊢
  have hN2 := Whole.new w1 121 [.int .i32 r, .int .i64 tn, .int .i32 nm]
  have hal2 : Chg [] w1 (w1.alloc (.cells #[.int .i32 r, .int .i64 tn, .int .i32 nm] 121)) := (Chg.refl [] w1).alloc _
  rw [hsz] at hN2
  have hU2 := hN.keep hal2
  have hc := hal.trans hal2
  generalize w1.alloc (.cells #[.int .i32 r, .int .i64 tn, .int .i32 nm] 121) = w2 at hN2 hU2 hc ⊢
  have HF2 := Lib.hid (H.out.keep hc)
  generalize w.heap.size = g at hU2 hN2 ⊢
  have HU2 := Lib.hid hU2
  have HT2 := Lib.hid hN2
  have HC2 := Lib.hid hc
  clear hN hal hsz hw1 hN2 hal2 hU2 hc
  have t0 := HT2.out.cell 0
  have t2 := HT2.out.cell 2
  have u0 := HU2.out.cell 0
  have u1 := HU2.out.cell 1
  have u2 := HU2.out.cell 2
  go_upto_region 2 with fail
  by_cases h33 : r = 33
  · subst h33
    have HP := Lib.hid (show TakesPost R w (.returned (.tuple #[.int .i64 ((1 : Nat) : Int), .int .i64 ((1 : Nat) : Int), .bool true])) w2 from takes_ok 1 1 true (by rw [HR.out]; rfl) HC2.out)
    go_wp2_with fail
    go_ret3
    exact HP.out
  have q33 : (r == 33) = false := by simpa using h33
  by_cases h35 : r = 35
  · subst h35
    have HP := Lib.hid (show TakesPost R w (.returned (.tuple #[.int .i64 ((0 : Nat) : Int), .int .i64 ((1 : Nat) : Int), .bool true])) w2 from takes_ok 0 1 true (by rw [HR.out]; rfl) HC2.out)
    go_wp2_with fail
    go_ret3
    exact HP.out
  have q35 : (r == 35) = false := by simpa using h35
  by_cases h36 : r = 36
  · subst h36
    have HP := Lib.hid (show TakesPost R w (.returned (.tuple #[.int .i64 ((2 : Nat) : Int), .int .i64 ((0 : Nat) : Int), .bool true])) w2 from takes_ok 2 0 true (by rw [HR.out]; rfl) HC2.out)
    go_wp2_with fail
    go_ret3
    exact HP.out
  have q36 : (r == 36) = false := by simpa using h36
  by_cases h37 : r = 37
  · subst h37
    have HP := Lib.hid (show TakesPost R w (.returned (.tuple #[.int .i64 ((2 : Nat) : Int), .int .i64 ((1 : Nat) : Int), .bool true])) w2 from takes_ok 2 1 true (by rw [HR.out]; rfl) HC2.out)
    go_wp2_with fail
    go_ret3
    exact HP.out
  have q37 : (r == 37) = false := by simpa using h37
  by_cases h38 : r = 38
  · subst h38
    have HP := Lib.hid (show TakesPost R w (.returned (.tuple #[.int .i64 ((2 : Nat) : Int), .int .i64 ((1 : Nat) : Int), .bool true])) w2 from takes_ok 2 1 true (by rw [HR.out]; rfl) HC2.out)
    go_wp2_with fail
    go_ret3
    exact HP.out
  have q38 : (r == 38) = false := by simpa using h38
  by_cases h42 : r = 42
  · subst h42
    have HP := Lib.hid (show TakesPost R w (.returned (.tuple #[.int .i64 ((2 : Nat) : Int), .int .i64 ((1 : Nat) : Int), .bool true])) w2 from takes_ok 2 1 true (by rw [HR.out]; rfl) HC2.out)
    go_wp2_with fail
    go_ret3
    exact HP.out
  have q42 : (r == 42) = false := by simpa using h42
  by_cases h43 : r = 43
  · subst h43
    have HP := Lib.hid (show TakesPost R w (.returned (.tuple #[.int .i64 ((2 : Nat) : Int), .int .i64 ((1 : Nat) : Int), .bool true])) w2 from takes_ok 2 1 true (by rw [HR.out]; rfl) HC2.out)
    go_wp2_with fail
    go_ret3
    exact HP.out
  have q43 : (r == 43) = false := by simpa using h43
  by_cases h44 : r = 44
  · subst h44
    have HP := Lib.hid (show TakesPost R w (.returned (.tuple #[.int .i64 ((1 : Nat) : Int), .int .i64 ((0 : Nat) : Int), .bool true])) w2 from takes_ok 1 0 true (by rw [HR.out]; rfl) HC2.out)
    go_wp2_with fail
    go_ret3
    exact HP.out
  have q44 : (r == 44) = false := by simpa using h44
  by_cases h45 : r = 45
  · subst h45
    have HP := Lib.hid (show TakesPost R w (.returned (.tuple #[.int .i64 ((2 : Nat) : Int), .int .i64 ((1 : Nat) : Int), .bool true])) w2 from takes_ok 2 1 true (by rw [HR.out]; rfl) HC2.out)
    go_wp2_with fail
    go_ret3
    exact HP.out
  have q45 : (r == 45) = false := by simpa using h45
  by_cases h46 : r = 46
  · subst h46
    have HP := Lib.hid (show TakesPost R w (.returned (.tuple #[.int .i64 ((1 : Nat) : Int), .int .i64 ((2 : Nat) : Int), .bool true])) w2 from takes_ok 1 2 true (by rw [HR.out]; rfl) HC2.out)
    go_wp2_with fail
    go_ret3
    exact HP.out
  have q46 : (r == 46) = false := by simpa using h46
  by_cases h47 : r = 47
  · subst h47
    have HP := Lib.hid (show TakesPost R w (.returned (.tuple #[.int .i64 ((2 : Nat) : Int), .int .i64 ((1 : Nat) : Int), .bool true])) w2 from takes_ok 2 1 true (by rw [HR.out]; rfl) HC2.out)
    go_wp2_with fail
    go_ret3
    exact HP.out
  have q47 : (r == 47) = false := by simpa using h47
  by_cases h48 : r = 48
  · subst h48
    have HP := Lib.hid (show TakesPost R w (.returned (.tuple #[.int .i64 ((0 : Nat) : Int), .int .i64 ((1 : Nat) : Int), .bool true])) w2 from takes_ok 0 1 true (by rw [HR.out]; rfl) HC2.out)
    go_wp2_with fail
    go_ret3
    exact HP.out
  have q48 : (r == 48) = false := by simpa using h48
  by_cases h58 : r = 58
  · subst h58
    have HP := Lib.hid (show TakesPost R w (.returned (.tuple #[.int .i64 ((0 : Nat) : Int), .int .i64 ((0 : Nat) : Int), .bool true])) w2 from takes_ok 0 0 true (by rw [HR.out]; rfl) HC2.out)
    go_wp2_with fail
    go_ret3
    exact HP.out
  have q58 : (r == 58) = false := by simpa using h58
  by_cases h59 : r = 59
  · subst h59
    have HP := Lib.hid (show TakesPost R w (.returned (.tuple #[.int .i64 ((0 : Nat) : Int), .int .i64 ((0 : Nat) : Int), .bool true])) w2 from takes_ok 0 0 true (by rw [HR.out]; rfl) HC2.out)
    go_wp2_with fail
    go_ret3
    exact HP.out
  have q59 : (r == 59) = false := by simpa using h59
  by_cases h60 : r = 60
  · subst h60
    have HP := Lib.hid (show TakesPost R w (.returned (.tuple #[.int .i64 ((2 : Nat) : Int), .int .i64 ((1 : Nat) : Int), .bool true])) w2 from takes_ok 2 1 true (by rw [HR.out]; rfl) HC2.out)
    go_wp2_with fail
    go_ret3
    exact HP.out
  have q60 : (r == 60) = false := by simpa using h60
  by_cases h61 : r = 61
  · subst h61
    have HP := Lib.hid (show TakesPost R w (.returned (.tuple #[.int .i64 ((2 : Nat) : Int), .int .i64 ((1 : Nat) : Int), .bool true])) w2 from takes_ok 2 1 true (by rw [HR.out]; rfl) HC2.out)
    go_wp2_with fail
    go_ret3
    exact HP.out
  have q61 : (r == 61) = false := by simpa using h61
  by_cases h63 : r = 63
  · subst h63
    have HP := Lib.hid (show TakesPost R w (.returned (.tuple #[.int .i64 ((1 : Nat) : Int), .int .i64 ((0 : Nat) : Int), .bool true])) w2 from takes_ok 1 0 true (by rw [HR.out]; rfl) HC2.out)
    go_wp2_with fail
    go_ret3
    exact HP.out
  have q63 : (r == 63) = false := by simpa using h63
  by_cases h64 : r = 64
  · subst h64
    have HP := Lib.hid (show TakesPost R w (.returned (.tuple #[.int .i64 ((1 : Nat) : Int), .int .i64 ((1 : Nat) : Int), .bool true])) w2 from takes_ok 1 1 true (by rw [HR.out]; rfl) HC2.out)
    go_wp2_with fail
    go_ret3
    exact HP.out
  have q64 : (r == 64) = false := by simpa using h64
  by_cases h91 : r = 91
  · subst h91
    have HP := Lib.hid (show TakesPost R w (.returned (.tuple #[.int .i64 ((0 : Nat) : Int), .int .i64 ((0 : Nat) : Int), .bool true])) w2 from takes_ok 0 0 true (by rw [HR.out]; rfl) HC2.out)
    go_wp2_with fail
    go_ret3
    exact HP.out
  have q91 : (r == 91) = false := by simpa using h91
  by_cases h93 : r = 93
  · subst h93
    have HP := Lib.hid (show TakesPost R w (.returned (.tuple #[.int .i64 ((0 : Nat) : Int), .int .i64 ((0 : Nat) : Int), .bool true])) w2 from takes_ok 0 0 true (by rw [HR.out]; rfl) HC2.out)
    go_wp2_with fail
    go_ret3
    exact HP.out
  have q93 : (r == 93) = false := by simpa using h93
  by_cases h94 : r = 94
  · subst h94
    have HP := Lib.hid (show TakesPost R w (.returned (.tuple #[.int .i64 ((2 : Nat) : Int), .int .i64 ((1 : Nat) : Int), .bool true])) w2 from takes_ok 2 1 true (by rw [HR.out]; rfl) HC2.out)
    go_wp2_with fail
    go_ret3
    exact HP.out
  have q94 : (r == 94) = false := by simpa using h94
  by_cases h124 : r = 124
  · subst h124
    have HP := Lib.hid (show TakesPost R w (.returned (.tuple #[.int .i64 ((2 : Nat) : Int), .int .i64 ((1 : Nat) : Int), .bool true])) w2 from takes_ok 2 1 true (by rw [HR.out]; rfl) HC2.out)
    go_wp2_with fail
    go_ret3
    exact HP.out
  have q124 : (r == 124) = false := by simpa using h124
  by_cases h126 : r = 126
  · subst h126
    have HP := Lib.hid (show TakesPost R w (.returned (.tuple #[.int .i64 ((0 : Nat) : Int), .int .i64 ((0 : Nat) : Int), .bool true])) w2 from takes_ok 0 0 true (by rw [HR.out]; rfl) HC2.out)
    go_wp2_with fail
    go_ret3
    exact HP.out
  have q126 : (r == 126) = false := by simpa using h126
  by_cases h161 : r = 161
  · subst h161
    have HP := Lib.hid (show TakesPost R w (.returned (.tuple #[.int .i64 ((0 : Nat) : Int), .int .i64 ((0 : Nat) : Int), .bool true])) w2 from takes_ok 0 0 true (by rw [HR.out]; rfl) HC2.out)
    go_wp2_with fail
    go_ret3
    exact HP.out
  have q161 : (r == 161) = false := by simpa using h161
  by_cases h164 : r = 164
  · subst h164
    have HP := Lib.hid (show TakesPost R w (.returned (.tuple #[.int .i64 ((1 : Nat) : Int), .int .i64 ((1 : Nat) : Int), .bool true])) w2 from takes_ok 1 1 true (by rw [HR.out]; rfl) HC2.out)
    go_wp2_with fail
    go_ret3
    exact HP.out
  have q164 : (r == 164) = false := by simpa using h164
  by_cases h169 : r = 169
  · subst h169
    have HP := Lib.hid (show TakesPost R w (.returned (.tuple #[.int .i64 ((1 : Nat) : Int), .int .i64 ((1 : Nat) : Int), .bool true])) w2 from takes_ok 1 1 true (by rw [HR.out]; rfl) HC2.out)
    go_wp2_with fail
    go_ret3
    exact HP.out
  have q169 : (r == 169) = false := by simpa using h169
  by_cases h171 : r = 171
  · subst h171
    have HP := Lib.hid (show TakesPost R w (.returned (.tuple #[.int .i64 ((2 : Nat) : Int), .int .i64 ((1 : Nat) : Int), .bool true])) w2 from takes_ok 2 1 true (by rw [HR.out]; rfl) HC2.out)
    go_wp2_with fail
    go_ret3
    exact HP.out
  have q171 : (r == 171) = false := by simpa using h171
  by_cases h174 : r = 174
  · subst h174
    have HP := Lib.hid (show TakesPost R w (.returned (.tuple #[.int .i64 ((2 : Nat) : Int), .int .i64 ((0 : Nat) : Int), .bool true])) w2 from takes_ok 2 0 true (by rw [HR.out]; rfl) HC2.out)
    go_wp2_with fail
    go_ret3
    exact HP.out
  have q174 : (r == 174) = false := by simpa using h174
  by_cases h187 : r = 187
  · subst h187
    have HP := Lib.hid (show TakesPost R w (.returned (.tuple #[.int .i64 ((2 : Nat) : Int), .int .i64 ((1 : Nat) : Int), .bool true])) w2 from takes_ok 2 1 true (by rw [HR.out]; rfl) HC2.out)
    go_wp2_with fail
    go_ret3
    exact HP.out
  have q187 : (r == 187) = false := by simpa using h187
  by_cases h960 : r = 960
  · subst h960
    have HP := Lib.hid (show TakesPost R w (.returned (.tuple #[.int .i64 ((1 : Nat) : Int), .int .i64 ((1 : Nat) : Int), .bool true])) w2 from takes_ok 1 1 true (by rw [HR.out]; rfl) HC2.out)
    go_wp2_with fail
    go_ret3
    exact HP.out
  have q960 : (r == 960) = false := by simpa using h960
  by_cases h955 : r = 955
  · subst h955
    have HE := Lib.hid (show R = callA l nm from by rw [HR.out]; rfl)
    go_wp2_with fail
    refine (ctcall_any HF2.out nm).mono ?_
    rw [← HE.out]
    obtain ⟨a, b, ok⟩ := R
    rintro e w3 ⟨rfl, hc3⟩
    have HP := Lib.hid (show TakesPost (a, b, ok) w (.returned (.tuple #[.int .i64 a, .int .i64 b, .bool ok])) w3 from ⟨rfl, HC2.out.new hc3⟩)
    clear hc3
    go_wp2_with fail
    go_ret3
    exact HP.out
  have q955 : (r == 955) = false := by simpa using h955
  have hb : inL binL r = false := inL_not (by intro x hx; simp [binL] at hx; omega)
  have hu : inL unL r = false := inL_not (by intro x hx; simp [unL] at hx; omega)
  have hz : inL zeL r = false := inL_not (by intro x hx; simp [zeL] at hx; omega)
  have HE := Lib.hid (show R = if 97 ≤ r ∧ r ≤ 122 then (0, 1, true) else if 65 ≤ r ∧ r ≤ 90 then (1, 0, true) else (0, 0, false) from by
    rw [HR.out]
    unfold rTakes
    rw [hb, hu, hz]
    by_cases c1 : 97 ≤ r ∧ r ≤ 122
    · rw [if_pos (.inl (.inr c1)), if_pos c1]
    · rw [if_neg (by omega), if_neg c1]
      by_cases c2 : 65 ≤ r ∧ r ≤ 90
      · rw [if_pos (.inl c2), if_pos c2]
      · rw [if_neg (by omega), if_neg c2, if_neg (by omega), if_neg (by decide), if_neg (by decide), if_neg (by omega), if_neg (by omega), if_neg (by decide), if_neg (by omega)])
  clear hb hu hz
  clear h33 h35 h36 h37 h38 h42 h43 h44 h45 h46 h47 h48 h58 h59 h60 h61 h63 h64 h91 h93 h94 h124 h126 h161 h164 h169 h171 h174 h187 h960 h955
  by_cases a1 : 97 ≤ r
  · have d1 : decide (97 ≤ r) = true := by simpa using a1
    by_cases a2 : r ≤ 122
    · have d2 : decide (r ≤ 122) = true := by simpa using a2
      have HP := Lib.hid (show TakesPost R w (.returned (.tuple #[.int .i64 ((0 : Nat) : Int), .int .i64 ((1 : Nat) : Int), .bool true])) w2 from takes_ok 0 1 true (by rw [HE.out, if_pos ⟨a1, a2⟩]; rfl) HC2.out)
      go_wp2_with fail
      go_ret3
      exact HP.out
    · have d2 : decide (r ≤ 122) = false := by simpa using a2
      have d3 : decide (65 ≤ r) = true := by simp; omega
      have d4 : decide (r ≤ 90) = false := by simp; omega
      have HP := Lib.hid (show TakesPost R w (.returned (.tuple #[.int .i64 ((0 : Nat) : Int), .int .i64 ((0 : Nat) : Int), .bool false])) w2 from takes_ok 0 0 false (by rw [HE.out, if_neg (by omega), if_neg (by omega)]; rfl) HC2.out)
      go_wp2_with fail
      go_ret3
      exact HP.out
  · have d1 : decide (97 ≤ r) = false := by simpa using a1
    by_cases a3 : 65 ≤ r
    · have d3 : decide (65 ≤ r) = true := by simpa using a3
      by_cases a4 : r ≤ 90
      · have d4 : decide (r ≤ 90) = true := by simpa using a4
        have HP := Lib.hid (show TakesPost R w (.returned (.tuple #[.int .i64 ((1 : Nat) : Int), .int .i64 ((0 : Nat) : Int), .bool true])) w2 from takes_ok 1 0 true (by rw [HE.out, if_neg (by omega), if_pos ⟨a3, a4⟩]; rfl) HC2.out)
        go_wp2_with fail
        go_ret3
        exact HP.out
      · have d4 : decide (r ≤ 90) = false := by simpa using a4
        have HP := Lib.hid (show TakesPost R w (.returned (.tuple #[.int .i64 ((0 : Nat) : Int), .int .i64 ((0 : Nat) : Int), .bool false])) w2 from takes_ok 0 0 false (by rw [HE.out, if_neg (by omega), if_neg (by omega)]; rfl) HC2.out)
        go_wp2_with fail
        go_ret3
        exact HP.out
    · have d3 : decide (65 ≤ r) = false := by simpa using a3
      have HP := Lib.hid (show TakesPost R w (.returned (.tuple #[.int .i64 ((0 : Nat) : Int), .int .i64 ((0 : Nat) : Int), .bool false])) w2 from takes_ok 0 0 false (by rw [HE.out, if_neg (by omega), if_neg (by omega)]; rfl) HC2.out)
      go_wp2_with fail
      go_ret3
      exact HP.out
end
end Go.Proofs.Ytnohfdojcdhfoaa
namespace Go.Proofs.Ytnohfdojcdhfoaa
open Go.RowKit
def bkC (x : BkV) : List Value := [.int .i32 x.sign, .int .i64 x.base, .int .i64 x.other, .bool x.left]
def bkCs : List BkV → List Value
  | [] => []
  | x :: l => bkC x ++ bkCs l
theorem bkCs_len : ∀ l, (bkCs l).length = l.length * 4
  | [] => rfl
  | x :: l => by rw [bkCs, List.length_append, bkCs_len l]; simp [bkC]; omega
theorem bkCs_app : ∀ l m, bkCs (l ++ m) = bkCs l ++ bkCs m
  | [], _ => rfl
  | x :: l, m => by rw [List.cons_append, bkCs, bkCs, bkCs_app l m, List.append_assoc]
theorem bkCs_one (x : BkV) : bkCs [x] = bkC x := by simp [bkCs]
theorem bkCs_get : ∀ (l : List BkV) (k : Nat) (x : BkV) (j : Nat), l[k]? = some x → j < 4 → (bkCs l)[k * 4 + j]? = (bkC x)[j]?
  | [], k, x, j, h, hj => by simp at h
  | y :: l, 0, x, j, h, hj => by
    simp at h; subst h
    rw [bkCs, List.getElem?_append_left (by simp [bkC]; omega)]
    congr 1; omega
  | y :: l, k + 1, x, j, h, hj => by
    simp at h
    rw [bkCs, List.getElem?_append_right (by simp [bkC]; omega)]
    rw [← bkCs_get l k x j h hj]
    congr 1; simp [bkC]; omega
theorem bkCs_set : ∀ (l : List BkV) (k : Nat) (x y : BkV) (j : Nat) (u : Value), l[k]? = some x → j < 4 → (bkC x).set j u = bkC y → (bkCs l).set (k * 4 + j) u = bkCs (l.set k y)
  | [], k, x, y, j, u, h, hj, hu => by simp at h
  | z :: l, 0, x, y, j, u, h, hj, hu => by
    simp at h; subst h
    rw [bkCs, List.set_append_left _ _ (by simp [bkC]; omega), List.set_cons_zero, bkCs, ← hu]
    congr 2; omega
  | z :: l, k + 1, x, y, j, u, h, hj, hu => by
    simp at h
    rw [bkCs, List.set_append_right _ _ (by simp [bkC]; omega), List.set_cons_succ, bkCs, ← bkCs_set l k x y j u h hj hu]
    congr 2; simp [bkC]; omega
/-- What going through has in memory: a height, the blocks, the outer ones first. -/
structure St (W : World) (gs B : Nat) (h : Int) (vo : Value) (bs : List BkV) : Prop where
  rec_ : Whole W gs 130 [.int .i64 h, vo]
  own : W.ownsRow B 153 4 vo bs.length (bkCs bs)
  lo : gs < B
  few : bs.length ≤ 1000
  hr : -1 ≤ h ∧ h ≤ 64
  wf : ∀ b ∈ bs, 0 ≤ b.base ∧ b.base ≤ 64 ∧ -1 ≤ b.other ∧ b.other ≤ 64
  room : B ≤ W.heap.size
/-- What such a step may write. -/
def stT (gs : Nat) (vo : Value) : List Nat := gs :: vo.ownBlock.toList
section
variable {W W' : World} {gs B : Nat} {h : Int} {vo : Value} {bs : List BkV}
theorem St.keep (s : St W gs B h vo bs) (hc : Chg [] W W') : St W' gs B h vo bs :=
  { s with rec_ := s.rec_.keep hc, own := rown_keep s.own hc, room := Nat.le_trans s.room hc.size }
theorem St.away (s : St W gs B h vo bs) : vo.ownBlock ≠ some gs := fun hc => by
  have := (s.own.lt gs hc).1; have := s.lo; omega
theorem St.high (s : St W gs B h vo bs) (h' : Int) (hr : -1 ≤ h' ∧ h' ≤ 64) : St (W.setCell ⟨gs, 0, none⟩ (.int .i64 h')) gs B h' vo bs :=
  { s with rec_ := s.rec_.set_ 0 (.int .i64 h'), own := rown_far s.own s.away, hr := hr, room := by rw [size_set]; exact s.room }
theorem St.slice (s : St W gs B h vo bs) : ∃ A c, vo = .slice A bs.length c ∧ bs.length ≤ c ∧ c ≤ 9223372036854775807 ∧ (∀ ad, A = some ad → ad.spot = none ∧ B ≤ ad.block ∧ ad.off = 0 ∧ ad.block < W.heap.size) := rown_slice s.own
/-- One cell of one block is written. -/
theorem St.poke {g c q i j : Nat} {x y : BkV} {u : Value} (s : St W gs B h vo bs) (hv : vo = .slice (some ⟨g, 0, none⟩) q c) (hx : bs[i]? = some x) (hj : j < 4) (hu : (bkC x).set j u = bkC y) (hy : 0 ≤ y.base ∧ y.base ≤ 64 ∧ -1 ≤ y.other ∧ y.other ≤ 64) :
    St (W.setCell ⟨g, i * 4 + j, none⟩ u) gs B h vo (bs.set i y) := by
  subst hv
  have hq : q = bs.length := by
    rcases s.own.2 with ⟨e, _⟩ | ⟨_, _, _, e, _⟩
    · cases e
    · injection e
  subst hq
  have hB := (s.own.lt g rfl).1
  have hlo := s.lo
  refine ⟨s.rec_.far (by simp only; omega) _, ?_, s.lo, by rw [List.length_set]; exact s.few, s.hr, fun b hb => ?_, by rw [size_set]; exact s.room⟩
  · have ho := rown_set (j := i * 4 + j) (u := u) s.own
    rw [bkCs_set bs i x y j u hx hj hu] at ho
    rw [List.length_set]
    exact ho
  · rcases List.mem_or_eq_of_mem_set hb with hb | rfl
    · exact s.wf b hb
    · exact hy
/-- The innermost block is taken away. -/
theorem St.drop {ys : List BkV} {x : BkV} {A : Option Addr} {c q : Nat} (s : St W gs B h vo (ys ++ [x])) (hv : vo = .slice A q c) :
    St (W.setCell ⟨gs, 1, none⟩ (.slice A ys.length c)) gs B h (.slice A ys.length c) ys := by
  subst hv
  have hq : q = (ys ++ [x]).length := by
    rcases s.own.2 with ⟨e, e2⟩ | ⟨_, _, _, e, _⟩
    · injection e with _ e _; rw [e2, e]
    · injection e
  subst hq
  have hA : A ≠ none := by
    rintro rfl
    rcases s.own.2 with ⟨e, _⟩ | ⟨_, _, _, e, _⟩
    · injection e with _ e _; simp at e
    · injection e with e _; cases e
  have ht := rown_take (q' := ys.length) s.own (by simp) hA
  have e2 : (bkCs (ys ++ [x])).take (ys.length * 4) = bkCs ys := by rw [bkCs_app, ← bkCs_len, List.take_left]
  rw [e2] at ht
  have haw : (Value.slice A ys.length c).ownBlock ≠ some gs := fun hc => by have := (ht.lt gs hc).1; have := s.lo; omega
  refine ⟨?_, rown_far ht haw, s.lo, by have := s.few; simp at this; omega, s.hr, fun b hb => s.wf b (List.mem_append_left _ hb), by rw [size_set]; exact s.room⟩
  have := s.rec_.set_ 1 (.slice A ys.length c)
  simpa using this
theorem St.cell (s : St W gs B h vo bs) {i : Nat} {x : BkV} (hx : bs[i]? = some x) : ∃ g c, vo = .slice (some ⟨g, 0, none⟩) bs.length c ∧ B ≤ g ∧ W.cell? ⟨g, i * 4, none⟩ = some (.int .i32 x.sign) ∧ W.cell? ⟨g, i * 4 + 1, none⟩ = some (.int .i64 x.base) ∧ W.cell? ⟨g, i * 4 + 2, none⟩ = some (.int .i64 x.other) ∧ W.cell? ⟨g, i * 4 + 3, none⟩ = some (.bool x.left) := by
  obtain ⟨A, c, rfl, _, _, hA⟩ := s.slice
  obtain ⟨g, rfl, j0⟩ := rown_cell s.own rfl ((bkCs_get bs i x 0 hx (by omega)).trans rfl)
  obtain ⟨g', e, j1⟩ := rown_cell s.own rfl ((bkCs_get bs i x 1 hx (by omega)).trans rfl)
  injection e with e; injection e with e; subst e
  obtain ⟨g', e, j2⟩ := rown_cell s.own rfl ((bkCs_get bs i x 2 hx (by omega)).trans rfl)
  injection e with e; injection e with e; subst e
  obtain ⟨g', e, j3⟩ := rown_cell s.own rfl ((bkCs_get bs i x 3 hx (by omega)).trans rfl)
  injection e with e; injection e with e; subst e
  exact ⟨g, c, rfl, (hA _ rfl).2.1, j0, j1, j2, j3⟩
def BasePost (b : Int) (W : World) (e : Ending) (w' : World) : Prop := e = .returned (.int .i64 b) ∧ Chg [] W w'
theorem base_in (s : St W gs B h vo bs) : 0 ≤ baseOf bs ∧ baseOf bs ≤ 64 := by
  unfold baseOf
  split
  · omega
  · rename_i b hb
    have := s.wf b (List.mem_of_getLast? hb)
    exact ⟨this.1, this.2.1⟩
set_option maxHeartbeats 1000000 in
theorem base_any (s : St W gs B h vo bs) : Calls Try.prog 97 #[.pointer (some ⟨gs, 0, none⟩)] W (BasePost (baseOf bs) W) := by
  obtain ⟨b0, hb0⟩ : ∃ b, b = baseOf bs := ⟨_, rfl⟩
  rw [← hb0]
  rcases List.eq_nil_or_concat bs with rfl | ⟨ys, x, rfl⟩
  · obtain ⟨A, c, rfl, _, _, _⟩ := s.slice
    have c1 := s.rec_.cell 1
    simp only [List.length_nil] at c1
    have HC := Lib.hid (show BasePost b0 W (.returned (.int .i64 0)) W from ⟨by rw [hb0]; rfl, Chg.refl [] W⟩)
    clear s hb0
    go_enter Try.func97, Try.ntmps97
    go_wp2_with fail
    go_ret
    exact HC.out
  · rw [List.concat_eq_append] at s
    obtain ⟨g, c, hvo, hg, j0, j1, j2, j3⟩ := s.cell (i := ys.length) (x := x) (by simp)
    have hl : (ys ++ [x]).length = ys.length + 1 := by simp
    have c1 := s.rec_.cell 1
    rw [hvo, hl] at c1
    have hf := s.few
    rw [hl] at hf
    have HB := Lib.hid (show b0 = x.base by rw [hb0]; simp [baseOf])
    clear hvo s hl j0 j2 j3 hb0
    generalize ys.length = q at *
    have hsub : IntKind.i64.wrap (((q + 1 : Nat) : Int) - 1) = (q : Int) := by rw [IntWalk.i64_in _ (by omega)]; omega
    have hne : (((q + 1 : Nat) : Int) == 0) = false := by simp; omega
    have hq0 : (0 : Int) ≤ (q : Int) := by omega
    have hq1 : (q : Int) < ((q + 1 : Nat) : Int) := by omega
    go_enter Try.func97, Try.ntmps97
    go_wp2_with fail
    go_quiet (fail)
    have HP := Lib.hid (show BasePost b0 W (.returned (.int .i64 x.base)) (W.drewN nq) from ⟨by rw [HB.out], (Chg.refl [] W).drewN nq⟩)
    go_wp2_with fail
    go_ret
    exact HP.out
end
end Go.Proofs.Ytnohfdojcdhfoaa
