/-
  NestNumbers, part 3: Tokens, NestSame, NestKnown, LawNestN.
-/
import Derived.Test.YtlhkmbcjgdjegaaZNestNumbers1
import Derived.Test.YtlhkmbcjgdjegaaZNestNumbers2
import Derived.Deep.QuietTactic
import Derived.BigQuiet
namespace Go.Proofs.Ytlhkmbcjgdjegaa
open Go.RowKit
/-- Digits from place j on. -/
def numAt (L : List Nat) : Nat → Nat → Nat → Option (Nat × Nat)
  | 0, j, m => some (m, j)
  | f + 1, j, m => match L[j]? with
    | some x => if 48 ≤ x ∧ x ≤ 57 then (if (9223372036854775807 - (x - 48)) / 10 < m then none else numAt L f (j + 1) (m * 10 + (x - 48))) else some (m, j)
    | none => some (m, j)
def tokAt (L : List Nat) : Nat → Nat → List TkV → Option (List TkV)
  | 0, _, ts => some ts
  | f + 1, i, ts => match L[i]? with
    | none => some ts
    | some r => if r = 32 then tokAt L f (i + 1) ts
      else if 48 ≤ r ∧ r ≤ 57 then (match numAt L L.length i 0 with
        | none => none
        | some (m, j) => tokAt L f j (ts ++ [⟨48, (m : Int), 0⟩]))
      else if r = 955 ∨ r = 960 then (match L[i + 1]? with
        | none => none
        | some x => if nameB (x : Int) = true then tokAt L f (i + 2) (ts ++ [⟨(r : Int), 0, (x : Int)⟩]) else none)
      else if knownB (r : Int) = true then tokAt L f (i + 1) (ts ++ [⟨(r : Int), 0, 0⟩]) else none
def tokR (s : ByteArray) : Option (List TkV) := if 512 < s.size then none else tokAt (runesL s) ((runesL s).length + 1) 0 []
def tokE (s : ByteArray) : Int := if 512 < s.size then 3 else 12
def TokPost (s : ByteArray) (w : World) (e : Ending) (w' : World) : Prop :=
  Chg [] w w' ∧ ((∃ ts v, tokR s = some ts ∧ ts.length ≤ 512 ∧ e = .returned (.tuple #[v, .int .i64 0]) ∧ w'.ownsRow w.heap.size 82 3 v ts.length (tkCs ts)) ∨
    (tokR s = none ∧ e = .returned (.tuple #[.slice none 0 0, .int .i64 (tokE s)])))
theorem runesL_len (s : ByteArray) : (runesL s).length ≤ s.size := runesAt_len s s.size 0
theorem own_more_n {w : World} {B B' e k n : Nat} {v : Value} {xs : List Value} (h : w.ownsRow B e k v n xs) (hB : B' ≤ B) : w.ownsRow B' e k v n xs := by
  refine ⟨h.1, h.2.imp id ?_⟩
  rintro ⟨g, cap, cur, rfl, hb, r⟩
  exact ⟨g, cap, cur, rfl, Nat.le_trans hB hb, r⟩
section
variable {w : World}
set_option maxHeartbeats 4000000 in
set_option maxRecDepth 100000 in
theorem tokens_any (s : ByteArray) (hs : s.size ≤ 9223372036854775807) : Calls Try.prog 45 #[.string s] w (TokPost s w) := by
  obtain ⟨i0, hi0, hz0, hz1, hz2⟩ := info_parts info_token
  by_cases hlong : 512 < s.size
  · have hlI : (512 : Int) < (s.size : Int) := by omega
    have HPO := Lib.hid (show TokPost s w (.returned (.tuple #[.slice none 0 0, .int .i64 3])) w from ⟨Chg.refl _ _, .inr ⟨by unfold tokR; rw [if_pos hlong], by unfold tokE; rw [if_pos hlong]⟩⟩)
    go_enter Try.func45, Try.ntmps45
    go_wp2_with fail
    go_ret2
    exact HPO.out
  have hlI : ¬ (512 : Int) < (s.size : Int) := by omega
  have HT := Lib.hid (show tokR s = tokAt (runesL s) ((runesL s).length + 1) 0 [] from by unfold tokR; rw [if_neg hlong])
  have HE := Lib.hid (show tokE s = 12 from by unfold tokE; rw [if_neg hlong])
  have HRUN := Lib.hid (runes_any s w (by omega))
  have hLs := runesL_len s
  have hLr := runesAt_le s s.size 0
  go_enter Try.func45, Try.ntmps45
  go_wp2_with fail
  refine HRUN.out.mono ?_
  rintro e w1 ⟨v1, rfl, ho1, hc1⟩
  obtain ⟨L, hL⟩ : ∃ L, L = runesL s := ⟨_, rfl⟩
  have hLr' : ∀ r ∈ L, r ≤ 2147483647 := by rw [hL]; exact hLr
  rw [← hL] at ho1 hLs HT
  have HLR := Lib.hid hLr'
  have HC1 := Lib.hid hc1
  obtain ⟨A1, c1, rfl, hl1, _, hs1, hp1⟩ := own_slice ho1
  obtain ⟨n, hn⟩ : ∃ n, n = L.length := ⟨_, rfl⟩
  rw [← hn] at hLs HT ⊢
  have HN := Lib.hid hn
  have hn512 : n ≤ 512 := by omega
  have HS1 := Lib.hid (show ∀ (W : World), Chg [] w1 W → ∀ (j : Nat) (r : Nat), L[j]? = some r → ∃ g, A1 = some ⟨g, 0, none⟩ ∧ W.cell? ⟨g, j, none⟩ = some (.int .i32 (r : Int)) from fun W hW j r hj => by
    obtain ⟨⟨g, o, sp⟩, e, hb, hx⟩ := (hs1.keep hW) (by rw [r32_len]; have := (List.getElem?_eq_some_iff.1 hj).1; omega)
    obtain ⟨h1, _, h3, _⟩ := hp1 _ e
    simp only at h1 h3
    subst h1 h3
    refine ⟨g, e, ?_⟩
    have := hx j (.int .i32 (r : Int)) (by simp [r32, hj])
    rwa [add_plain, Nat.zero_add] at this)
  obtain ⟨B, hB⟩ : ∃ b, b = w1.heap.size := ⟨_, rfl⟩
  have HB := Lib.hid hB
  clear ho1 hc1 hl1 hs1 hp1 hL hLr hLr' hn hB hlong hLs HRUN
  go_wp2_with fail
  go_loopw [5, 6, 7, 8] (fun v x _ _ wr => ∃ i : Nat, i ≤ n ∧ x = .int .i64 (i : Int) ∧ (∃ ts f, wr.ownsRow B 82 3 v ts.length (tkCs ts) ∧ ts.length ≤ i ∧ n < i + f ∧ Hid (tokR s = tokAt L f i ts)) ∧ Hid (Chg [] w1 wr)) (fun _ x _ _ _ => n - (intOf x).toNat)
  case atStart => exact ⟨0, Nat.zero_le _, rfl, ⟨[], n + 1, World.ownsRow_nil _ _ _ _, by simp, by omega, HT⟩, Lib.hid (Chg.refl _ _)⟩
  case round =>
    obtain ⟨i, hin, rfl, ⟨ts, f, ho, htl, hf, HTi⟩, HCr⟩ := hrel
    have HO := Lib.hid ho
    clear ho
    have HCW := Lib.hid (show Chg [] w wr from HC1.out.new HCr.out)
    have HNO := Lib.hid (show ∀ W, Chg [] w W → tokR s = none → TokPost s w (.returned (.tuple #[.slice none 0 0, .int .i64 12])) W from fun W hW h => ⟨hW, .inr ⟨h, by rw [HE.out]⟩⟩)
    by_cases hlt : i < n
    · have hltI : (i : Int) < (n : Int) := by omega
      have hi0' : (0 : Int) ≤ (i : Int) := by omega
      have hil : i < L.length := by rw [← HN.out]; exact hlt
      obtain ⟨f', rfl⟩ : ∃ f', f = f' + 1 := ⟨f - 1, by omega⟩
      obtain ⟨r, hr⟩ : ∃ r, L[i]? = some r := ⟨_, List.getElem?_eq_getElem hil⟩
      obtain ⟨g4, rfl, t0⟩ := HS1.out wr HCr.out i r hr
      have hr2 := HLR.out r (List.mem_of_getElem? hr)
      have HR := Lib.hid hr
      have HU := Lib.hid (show tokR s = _ from HTi.out.trans (by rw [tokAt, hr]))
      clear hr
      by_cases h32 : r = 32
      · subst h32
        have HT2 := Lib.hid (show tokR s = tokAt L f' (i + 1) ts from by rw [HU.out]; simp)
        go_wp2_with fail
        go_roundw
        case rel => exact ⟨i + 1, by omega, by go_num, ⟨ts, f', HO.out, by omega, by omega, HT2⟩, HCr⟩
        case measure => simp [intOf]; omega
      have h32d : ((r : Int) == 32) = false := by simp; omega
      by_cases hdg : 48 ≤ r ∧ r ≤ 57
      · obtain ⟨h48, h57⟩ := hdg
        have h48I : (48 : Int) ≤ (r : Int) := by omega
        have h57I : (r : Int) ≤ 57 := by omega
        have HU2 := Lib.hid (show tokR s = (match numAt L L.length i 0 with
          | none => none
          | some (m, j) => tokAt L f' j (ts ++ [⟨48, (m : Int), 0⟩])) from by rw [HU.out]; simp only [h32, h48, h57, if_false, if_true, and_self])
        have HRD := Lib.hid (And.intro h48 h57)
        have HBW := Lib.hid (show B ≤ wr.heap.size from by rw [HB.out]; exact HCr.out.size)
        clear HU h48 h57 h32
        go_wp2_with fail
        go_loop [6, 8] (fun x y => ∃ j m f2 : Nat, i ≤ j ∧ j ≤ n ∧ x = .int .i64 (j : Int) ∧ y = .int .u64 (m : Int) ∧ m ≤ 9223372036854775807 ∧ n ≤ j + f2 ∧ (i < j ∨ j = i) ∧ Hid (numAt L L.length i 0 = numAt L f2 j m)) (fun x _ => n - (intOf x).toNat)
        case atStart => exact ⟨i, 0, L.length, Nat.le_refl _, by omega, rfl, rfl, by omega, by have := HN.out; omega, .inr rfl, Lib.hid rfl⟩
        case round =>
          obtain ⟨j, m, f2, hij, hjn, rfl, rfl, hm, hf2, hdis, HQ⟩ := hrel
          have hj0 : (0 : Int) ≤ (j : Int) := by omega
          have hm0 : (0 : Int) ≤ (m : Int) := by omega
          have hstop : ∀ _ : numAt L L.length i 0 = some (m, j), i < j → tokR s = tokAt L f' j (ts ++ [⟨48, (m : Int), 0⟩]) := fun h _ => by rw [HU2.out, h]
          have HST := Lib.hid hstop
          clear hstop
          by_cases hltj : j < n
          · have hltjI : (j : Int) < (n : Int) := by omega
            obtain ⟨f3, rfl⟩ : ∃ f3, f2 = f3 + 1 := ⟨f2 - 1, by omega⟩
            obtain ⟨x, hx⟩ : ∃ x, L[j]? = some x := ⟨_, List.getElem?_eq_getElem (by rw [← HN.out]; exact hltj)⟩
            obtain ⟨g4', e, t1⟩ := HS1.out wr HCr.out j x hx
            injection e with e
            injection e with e
            subst e
            have hx2 := HLR.out x (List.mem_of_getElem? hx)
            have HX := Lib.hid hx
            clear hx
            by_cases hxd : 48 ≤ x ∧ x ≤ 57
            · have HXD := Lib.hid hxd
              have hx1 : (48 : Int) ≤ (x : Int) := by omega
              have hx3 : (x : Int) ≤ 57 := by omega
              have HHM := Lib.hid (And.intro hm (And.intro hdis hf2))
              have HHI := Lib.hid hij
              clear hxd hm hdis hf2 hij
              by_cases hov : (9223372036854775807 - ((x : Int) - 48)) / 10 < (m : Int)
              · have hnum : numAt L (f3 + 1) j m = none := by
                  rw [numAt, HX.out]
                  show (if 48 ≤ x ∧ x ≤ 57 then _ else _) = none
                  rw [if_pos HXD.out, if_pos (by have := HXD.out; omega)]
                have HPO := Lib.hid (HNO.out wr HCW.out (by rw [HU2.out, HQ.out, hnum]))
                clear hnum
                go_wp2_with fail
                go_ret2
                exact HPO.out
              · have hovJ : (m : Int) ≤ (9223372036854775807 - ((x : Int) - 48)) / 10 := by omega
                have HQ2 := Lib.hid (show numAt L L.length i 0 = numAt L f3 (j + 1) (m * 10 + (x - 48)) from HQ.out.trans (by
                  rw [numAt, HX.out]
                  show (if 48 ≤ x ∧ x ≤ 57 then _ else _) = _
                  rw [if_pos HXD.out, if_neg (by have := HXD.out; omega)]))
                clear hov
                go_wp2_with fail
                go_round
                case rel => exact ⟨j + 1, m * 10 + (x - 48), f3, by have := HHI.out; omega, by omega, by go_num, by rw [show ((m * 10 + (x - 48) : Nat) : Int) = (m : Int) * 10 + ((x : Int) - 48) by have := HXD.out; omega], by have := HXD.out; omega, by have := HHM.out.2.2; omega, .inl (by have := HHI.out; omega), HQ2⟩
                case measure => simp [intOf]; omega
            · have HSS := Lib.hid (HST.out (by rw [HQ.out, numAt, HX.out]; simp only; rw [if_neg hxd]) (by
                rcases hdis with h | h
                · exact h
                · exfalso
                  subst h
                  have := HX.out
                  rw [HR.out] at this
                  injection this with this
                  subst this
                  exact hxd HRD.out))
              have hij1 : i < j := by
                rcases hdis with h | h
                · exact h
                · exfalso
                  subst h
                  have := HX.out
                  rw [HR.out] at this
                  injection this with this
                  subst this
                  exact hxd HRD.out
              have hnd : ((48 : Int) ≤ (x : Int) ∧ decide ((x : Int) ≤ 57) = false) ∨ decide ((48 : Int) ≤ (x : Int)) = false := by
                by_cases h : 48 ≤ x
                · exact .inl ⟨by omega, by simp; omega⟩
                · exact .inr (by simp; omega)
              have HHM := Lib.hid (And.intro hm hij)
              clear hxd hdis hf2 hm hij
              rcases hnd with ⟨hx48, hx57⟩ | hx48
              all_goals
                have hjm : (j : Int) - 1 + 1 = ((j : Nat) : Int) := by omega
                have HJM := Lib.hid hjm
                have hm64 : (m : Int) ≤ 9223372036854775807 := by have := HHM.out.1; omega
                clear hjm
                go_wp2_with (at_builtin
                             refine wpList_append_own _ rfl (.tmp 75) (.tmp 79) _ rfl B 82 i0 _ 3 24 Try.underlying65 hi0 hz0 hz1 hz2 rfl (by decide) _ ts.length (tkCs ts) rfl (rown_keep HO.out ((Chg.refl [] wr).alloc _)) ⟨wr.heap.size, 0, none⟩ 1 1 [.int .i32 48, .int .i64 (m : Int), .int .i32 0] rfl rfl (cells_page _ _ _) (by simp [Value.oneCell']) (by simp only [maxLen]; omega) (by omega) (by have := HBW.out; simp; omega) ?_
                             intro v' w6 ho6 hg6 _
                             have HO6 := Lib.hid ho6
                             have HG6 := Lib.hid hg6
                             clear ho6 hg6)
                have HC6 := Lib.hid (show Chg [] w1 w6 from chg_grown2 (HCr.out.alloc _) HG6.out (fun g hg => by have := ((rown_keep HO.out ((Chg.refl [] wr).alloc (.cells #[] 82))).lt g hg).1; have := HB.out; omega))
                go_roundw
                case rel => exact ⟨j, hjn, by rw [← HJM.out], ⟨ts ++ [⟨48, (m : Int), 0⟩], f', by rw [List.length_append, tkCs_app, tkCs_one]; exact HO6.out, by simp; omega, by omega, HSS⟩, HC6⟩
                case measure => simp [intOf]; omega
          · have hltjI : ¬ (j : Int) < (n : Int) := by omega
            have HSS := Lib.hid (HST.out (by rw [HQ.out]; cases f2 with
              | zero => rfl
              | succ f2 => rw [numAt, List.getElem?_eq_none (by rw [← HN.out]; omega)]) (by omega))
            have hij1 : i < j := by omega
            have HHM := Lib.hid (And.intro hm hij)
            clear hdis hf2 hm hij
            have hjm : (j : Int) - 1 + 1 = ((j : Nat) : Int) := by omega
            have HJM := Lib.hid hjm
            have hm64 : (m : Int) ≤ 9223372036854775807 := by have := HHM.out.1; omega
            clear hjm
            go_wp2_with (at_builtin
                         refine wpList_append_own _ rfl (.tmp 75) (.tmp 79) _ rfl B 82 i0 _ 3 24 Try.underlying65 hi0 hz0 hz1 hz2 rfl (by decide) _ ts.length (tkCs ts) rfl (rown_keep HO.out ((Chg.refl [] wr).alloc _)) ⟨wr.heap.size, 0, none⟩ 1 1 [.int .i32 48, .int .i64 (m : Int), .int .i32 0] rfl rfl (cells_page _ _ _) (by simp [Value.oneCell']) (by simp only [maxLen]; omega) (by omega) (by have := HBW.out; simp; omega) ?_
                         intro v' w6 ho6 hg6 _
                         have HO6 := Lib.hid ho6
                         have HG6 := Lib.hid hg6
                         clear ho6 hg6)
            have HC6 := Lib.hid (show Chg [] w1 w6 from chg_grown2 (HCr.out.alloc _) HG6.out (fun g hg => by have := ((rown_keep HO.out ((Chg.refl [] wr).alloc (.cells #[] 82))).lt g hg).1; have := HB.out; omega))
            go_roundw
            case rel => exact ⟨j, hjn, by rw [← HJM.out], ⟨ts ++ [⟨48, (m : Int), 0⟩], f', by rw [List.length_append, tkCs_app, tkCs_one]; exact HO6.out, by simp; omega, by omega, HSS⟩, HC6⟩
            case measure => simp [intOf]; omega
      · by_cases hnm : r = 955 ∨ r = 960
        · by_cases hi1 : i + 1 < n
          · obtain ⟨x, hx⟩ : ∃ x, L[i + 1]? = some x := ⟨_, List.getElem?_eq_getElem (by rw [← HN.out]; exact hi1)⟩
            obtain ⟨g4', e, t1⟩ := HS1.out wr HCr.out (i + 1) x hx
            injection e with e
            injection e with e
            subst e
            have hx2 := HLR.out x (List.mem_of_getElem? hx)
            have HU2 := Lib.hid (show tokR s = (if nameB (x : Int) = true then tokAt L f' (i + 2) (ts ++ [⟨(r : Int), 0, (x : Int)⟩]) else none) from by rw [HU.out]; simp only [h32, hdg, hnm, if_false, if_true, hx])
            have hi1I : ¬ (n : Int) ≤ (i : Int) + 1 := by omega
            have hi1J : (i : Int) + 1 < (n : Int) := by omega
            have hi1K : (0 : Int) ≤ (i : Int) + 1 := by omega
            have hi1d : decide ((n : Int) ≤ (i : Int) + 1) = false := by simp; omega
            have HBW := Lib.hid (show B ≤ wr.heap.size from by rw [HB.out]; exact HCr.out.size)
            clear HU hdg hx
            rcases hnm with rfl | rfl
            all_goals
              by_cases hk : nameB (x : Int) = true
              · have HT2 := Lib.hid (HU2.out.trans (if_pos hk))
                have HKK := Lib.hid hk
                clear hk h32
                go_wp2_with (first
                  | (go_at_call 90; refine (name_any (x : Int) _).mono ?_; rintro e w' ⟨rfl, rfl⟩; rw [HKK.out])
                  | (at_builtin
                     refine wpList_append_own _ rfl (.tmp 102) (.tmp 110) _ rfl B 82 i0 _ 3 24 Try.underlying65 hi0 hz0 hz1 hz2 rfl (by decide) _ ts.length (tkCs ts) rfl (rown_keep HO.out ((Chg.refl [] wr).alloc _)) ⟨wr.heap.size, 0, none⟩ 1 1 [.int .i32 _, .int .i64 0, .int .i32 (x : Int)] rfl rfl (cells_page _ _ _) (by simp [Value.oneCell']) (by simp only [maxLen]; omega) (by omega) (by have := HBW.out; simp; omega) ?_
                     intro v' w6 ho6 hg6 _
                     have HO6 := Lib.hid ho6
                     have HG6 := Lib.hid hg6
                     clear ho6 hg6))
                have HC6 := Lib.hid (show Chg [] w1 w6 from chg_grown2 (HCr.out.alloc _) HG6.out (fun g hg => by have := ((rown_keep HO.out ((Chg.refl [] wr).alloc (.cells #[] 82))).lt g hg).1; have := HB.out; omega))
                go_roundw
                case rel => exact ⟨i + 2, by omega, by go_num, ⟨ts ++ [⟨_, 0, (x : Int)⟩], f', by rw [List.length_append, tkCs_app, tkCs_one]; exact HO6.out, by simp; omega, by omega, HT2⟩, HC6⟩
                case measure => simp [intOf]; omega
              · have hkf : nameB (x : Int) = false := by simpa using hk
                have HKK := Lib.hid hkf
                have HPO := Lib.hid (HNO.out wr HCW.out (HU2.out.trans (if_neg hk)))
                clear hk hkf h32
                go_wp2_with (go_at_call 90; refine (name_any (x : Int) _).mono ?_; rintro e w' ⟨rfl, rfl⟩; rw [HKK.out])
                go_ret2
                exact HPO.out
          · have hi1I : (n : Int) ≤ (i : Int) + 1 := by omega
            have HPO := Lib.hid (HNO.out wr HCW.out (by rw [HU.out]; simp only [h32, hdg, hnm, if_false, if_true]; rw [List.getElem?_eq_none (by rw [← HN.out]; omega)]))
            clear HU hdg
            rcases hnm with rfl | rfl
            all_goals
              clear h32
              go_wp2_with fail
              go_ret2
              exact HPO.out
        · have h955 : ((r : Int) == 955) = false := by simp; omega
          have h960 : ((r : Int) == 960) = false := by simp; omega
          have HU2 := Lib.hid (show tokR s = (if knownB (r : Int) = true then tokAt L f' (i + 1) (ts ++ [⟨(r : Int), 0, 0⟩]) else none) from by rw [HU.out]; simp only [h32, hdg, hnm, if_false])
          have hnd : ((48 : Int) ≤ (r : Int) ∧ decide ((r : Int) ≤ 57) = false) ∨ decide ((48 : Int) ≤ (r : Int)) = false := by
            by_cases h : 48 ≤ r
            · exact .inl ⟨by omega, by simp; omega⟩
            · exact .inr (by simp; omega)
          clear HU hdg hnm h32
          rcases hnd with ⟨h48, h57⟩ | h48
          all_goals
            go_wp2_with fail
            refine (known_any (r : Int) wr).mono ?_
            rintro e w3 ⟨rfl, hc3⟩
            have HC3 := Lib.hid (HCr.out.new hc3)
            have HO3 := Lib.hid (rown_keep HO.out hc3)
            have HB3 := Lib.hid (show B ≤ w3.heap.size from by rw [HB.out]; exact HC3.out.size)
            clear hc3
            by_cases hk : knownB (r : Int) = true
            · have HT2 := Lib.hid (show tokR s = tokAt L f' (i + 1) (ts ++ [⟨(r : Int), 0, 0⟩]) from by rw [HU2.out, if_pos hk])
              rw [hk]
              clear hk
              go_wp2_with (at_builtin
                           refine wpList_append_own _ rfl (.tmp 117) (.tmp 120) _ rfl B 82 i0 _ 3 24 Try.underlying65 hi0 hz0 hz1 hz2 rfl (by decide) _ ts.length (tkCs ts) rfl (rown_keep HO3.out ((Chg.refl [] w3).alloc _)) ⟨w3.heap.size, 0, none⟩ 1 1 [.int .i32 (r : Int), .int .i64 0, .int .i32 0] rfl rfl (cells_page _ _ _) (by simp [Value.oneCell']) (by simp only [maxLen]; omega) (by omega) (by have := HB3.out; simp; omega) ?_
                           intro v' w6 ho6 hg6 _
                           have HO6 := Lib.hid ho6
                           have HG6 := Lib.hid hg6
                           clear ho6 hg6)
              have HC6 := Lib.hid (show Chg [] w1 w6 from chg_grown2 (HC3.out.alloc _) HG6.out (fun g hg => by have := ((rown_keep HO3.out ((Chg.refl [] w3).alloc (.cells #[.int .i32 (r : Int), .int .i64 0, .int .i32 0] 82))).lt g hg).1; have := HB.out; omega))
              go_roundw
              case rel => exact ⟨i + 1, by omega, by go_num, ⟨ts ++ [⟨(r : Int), 0, 0⟩], f', by rw [List.length_append, tkCs_app, tkCs_one]; exact HO6.out, by simp; omega, by omega, HT2⟩, HC6⟩
              case measure => simp [intOf]; omega
            · have hkf : knownB (r : Int) = false := by simpa using hk
              have HPO := Lib.hid (HNO.out w3 (HC1.out.new HC3.out) (by rw [HU2.out, if_neg hk]))
              rw [hkf]
              clear hk hkf
              go_wp2_with fail
              go_ret2
              exact HPO.out
    · have hltI : ¬ (i : Int) < (n : Int) := by omega
      have HZ := Lib.hid (show tokR s = some ts from by
        rw [HTi.out]
        cases f with
        | zero => rfl
        | succ f => rw [tokAt, List.getElem?_eq_none (by rw [← HN.out]; omega)])
      obtain ⟨B0, hB0⟩ : ∃ b, b = w.heap.size := ⟨_, rfl⟩
      have HOW := Lib.hid (own_more_n HO.out (show w.heap.size ≤ B from by rw [HB.out]; exact HC1.out.size))
      have HPO := Lib.hid (show TokPost s w (.returned (.tuple #[u5, .int .i64 0])) wr from ⟨HCW.out, .inl ⟨ts, _, HZ.out, by omega, rfl, HOW.out⟩⟩)
      clear hB0
      go_wp2_with fail
      go_ret2
      exact HPO.out
end
end Go.Proofs.Ytlhkmbcjgdjegaa
namespace Go.Proofs.Ytlhkmbcjgdjegaa
open Go.RowKit
section
variable {w : World}
set_option maxHeartbeats 1000000 in
theorem same_nums {A B : Option Addr} {n c d : Nat} {l : List Int} (hl : l.length = n) (hn : n ≤ 1000000) (ha : Src w A (nms l)) (hb : Src w B (nms l)) (hA : ∀ ad, A = some ad → ad.spot = none) (hB : ∀ ad, B = some ad → ad.spot = none) :
    Calls Try.prog 79 #[.slice A n c, .slice B n d] w (LawPost w) := by
  have HL := Lib.hid hl
  have HA := Lib.hid hA
  have HB := Lib.hid hB
  clear hl hA hB
  go_enter Try.func79, Try.ntmps79
  go_wp2_with fail
  go_loopw [5] (fun i wr => ∃ k : Nat, k ≤ n ∧ i = .int .i64 (k : Int) ∧ Chg [] w wr) (fun i _ => n - (intOf i).toNat)
  case atStart => exact ⟨0, Nat.zero_le _, rfl, Chg.refl _ _⟩
  case round =>
    obtain ⟨k, hk, rfl, hc⟩ := hrel
    by_cases hlt : k < n
    · have ha2 := ha.keep hc
      have hb2 := hb.keep hc
      obtain ⟨a1, rfl, _, hx⟩ := ha2 (by rw [nms_len, HL.out]; omega)
      obtain ⟨a2, rfl, _, hy⟩ := hb2 (by rw [nms_len, HL.out]; omega)
      have hx1 := hx k _ (nms_get l k (by rw [HL.out]; exact hlt))
      have hy1 := hy k _ (nms_get l k (by rw [HL.out]; exact hlt))
      clear hx hy
      obtain ⟨b1, o1, s1⟩ := a1
      obtain rfl : s1 = none := HA.out _ rfl
      obtain ⟨b2, o2, s2⟩ := a2
      obtain rfl : s2 = none := HB.out _ rfl
      rw [add_plain] at hx1 hy1
      generalize l[k]'(by rw [HL.out]; exact hlt) = q at hx1 hy1
      have hki : (k : Int) < (n : Int) := by omega
      go_wp2_with fail
      go_quiet (fail)
      go_wp2_with fail
      go_roundw
      case rel => exact ⟨k + 1, by omega, by go_num, hc.drewN _⟩
      case measure => simp [intOf]; omega
    · go_wp2_with fail
      go_ret
      exact ⟨rfl, hc⟩
end
section
variable {W : World} {A : Option Addr} {n c : Nat} {l : List TkV}
set_option maxHeartbeats 2000000 in
theorem nsame_any (h : Tks W A n c l) : Calls Try.prog 40 #[.slice A n c] W (LawPost W) := by
  have hmax := h.max
  have H := Lib.hid h
  clear h
  go_enter Try.func40, Try.ntmps40
  go_wp2_with fail
  refine (nof_any H.out).mono ?_
  rintro e w1 ⟨hc1, hr1⟩
  have HC1 := Lib.hid hc1
  rcases hr1 with ⟨t, d, g, hr, htl, rfl, hT⟩ | ⟨hr, rfl⟩
  · have HR := Lib.hid hr
    have HTL := Lib.hid htl
    have HT := Lib.hid hT
    clear hr htl hT hc1
    go_wp2_with fail
    refine (rnest_any (H.out.keep HC1.out)).mono ?_
    rintro e w2 ⟨hc2, hr2⟩
    have HC2 := Lib.hid (HC1.out.new hc2)
    rcases hr2 with ⟨t2, d2, g2, hr2, htl2, rfl, hT2⟩ | ⟨hr2, rfl⟩
    · have HE := Lib.hid (show t = t2 ∧ d = d2 from by rw [← nest_same, HR.out] at hr2; injection hr2 with hr2; injection hr2 with a b; exact ⟨a, b⟩)
      have HT1 := Lib.hid (HT.out.keep hc2)
      have HT2 := Lib.hid hT2
      have HTL2 := Lib.hid htl2
      clear hr2 htl2 hT2 hc2
      go_wp2_with fail
      refine (same_nums (l := t) (by rw [HTL.out]) (by omega) (Src.of_all HT1.out) (by rw [HE.out.1]; exact Src.of_all HT2.out) (fun ad e => by injection e with e; subst e; rfl) (fun ad e => by injection e with e; subst e; rfl)).mono ?_
      rintro e w3 ⟨rfl, hc3⟩
      have HC3 := Lib.hid (HC2.out.new hc3)
      clear hc3
      go_wp2_with fail
      refine (ndeep_any (H.out.keep HC3.out)).mono ?_
      rintro e w4 ⟨rfl, hc4⟩
      have HC4 := Lib.hid (HC3.out.new hc4)
      have hd : deepI (nNest (signs l)) = (d2 : Int) := by rw [HR.out]; simp only [deepI]; rw [HE.out.2]
      rw [hd]
      clear hc4 hd
      go_wp2_with fail
      go_ret
      exact ⟨rfl, HC4.out⟩
    · exfalso
      rw [← nest_same, HR.out] at hr2
      cases hr2
  · have HR := Lib.hid hr
    clear hr hc1
    go_wp2_with fail
    refine (rnest_any (H.out.keep HC1.out)).mono ?_
    rintro e w2 ⟨hc2, hr2⟩
    have HC2 := Lib.hid (HC1.out.new hc2)
    rcases hr2 with ⟨t2, d2, g2, hr2, htl2, rfl, hT2⟩ | ⟨hr2, rfl⟩
    · exfalso
      rw [← nest_same, HR.out] at hr2
      cases hr2
    · clear hr2 hc2
      go_wp2_with fail
      refine (same_nums (l := []) rfl (by simp) (Src.nil _ _) (Src.nil _ _) (fun ad e => by cases e) (fun ad e => by cases e)).mono ?_
      rintro e w3 ⟨rfl, hc3⟩
      have HC3 := Lib.hid (HC2.out.new hc3)
      clear hc3
      go_wp2_with fail
      refine (ndeep_any (H.out.keep HC3.out)).mono ?_
      rintro e w4 ⟨rfl, hc4⟩
      have HC4 := Lib.hid (HC3.out.new hc4)
      have hd : deepI (nNest (signs l)) = -1 := by rw [HR.out]; rfl
      rw [hd]
      clear hc4 hd
      go_wp2_with fail
      go_ret
      exact ⟨rfl, HC4.out⟩
end
def sg7 : List Int := [63, 58, 59, 91, 93, 126, 43]
theorem sg7_at (q : Nat) (h : q ≤ 6) : ∃ s, sg7[q]? = some s := ⟨_, List.getElem?_eq_getElem (by simp [sg7]; omega)⟩
def RowPost8 (W : World) (e : Ending) (w' : World) : Prop := ∃ v ts, e = .returned v ∧ w'.ownsRow W.heap.size 82 3 v ts.length (tkCs ts) ∧ ts.length ≤ 50 ∧ Chg [] W w'
section
variable {W : World} {A : Option Addr} {n c : Nat} {xs : List Int}
set_option maxHeartbeats 2000000 in
theorem nrow_any (hA : Src W A (nms xs)) (hAs : 0 < n → ∀ ad, A = some ad → ad.spot = none) (hn : xs.length = n) (hnm : n ≤ 9223372036854775807) (hxr : ∀ x ∈ xs, -9223372036854775808 ≤ x ∧ x ≤ 9223372036854775807) :
    Calls Try.prog 41 #[.slice A n c] W (RowPost8 W) := by
  obtain ⟨i0, hi0, hz0, hz1, hz2⟩ := info_parts info_token
  have HA := Lib.hid hA
  have HAS := Lib.hid hAs
  have HN := Lib.hid hn
  have HXR := Lib.hid hxr
  clear hA hAs hn hxr
  go_enter Try.func41, Try.ntmps41
  go_wp2_with fail
  go_loopw [3, 4] (fun v s wr => ∃ k : Nat, k ≤ 50 ∧ k ≤ n ∧ s = .int .i64 (k : Int) ∧ (∃ ts, wr.ownsRow W.heap.size 82 3 v k (tkCs ts) ∧ ts.length = k) ∧ Hid (Chg [] W wr)) (fun _ s _ => 50 - (intOf s).toNat)
  case atStart => exact ⟨0, by omega, by omega, rfl, ⟨[], World.ownsRow_nil _ _ _ _, rfl⟩, Lib.hid (Chg.refl _ _)⟩
  case round =>
    obtain ⟨k, hk, hkn, rfl, ⟨ts, ho, htl⟩, HCr⟩ := hrel
    have HO := Lib.hid ho
    have HTL := Lib.hid htl
    clear ho htl
    by_cases hlt : k < n
    · have hltI : (k : Int) < (n : Int) := by omega
      by_cases hlt2 : k < 50
      · have hlt2I : (k : Int) < 50 := by omega
        have hk0 : (0 : Int) ≤ (k : Int) := by omega
        obtain ⟨⟨bA, oA, sA⟩, rfl, hbA, hxA⟩ := (HA.out.keep HCr.out) (by rw [nms_len, HN.out]; omega)
        obtain rfl : sA = none := HAS.out (by omega) _ rfl
        have ckA := hxA k _ (nms_get xs k (by rw [HN.out]; exact hlt))
        have hxi := HXR.out _ (List.getElem_mem (show k < xs.length by rw [HN.out]; exact hlt))
        generalize xs[k]'(by rw [HN.out]; exact hlt) = x at ckA hxi
        rw [add_plain] at ckA
        obtain ⟨q, hq, hq6⟩ : ∃ q : Nat, withinI x 0 6 = (q : Int) ∧ q ≤ 6 := by
          have hin := into_within x 0 6 (by omega)
          exact ⟨(withinI x 0 6).toNat, by have := hin.1; omega, by have h1 := hin.1; have h2 := hin.2.1; omega⟩
        have HWX := Lib.hid (show ∀ W, Calls Try.prog 18 #[.int .i64 x, .int .i64 0, .int .i64 6] W fun e w' => e = .returned (.int .i64 (q : Int)) ∧ W = w' from fun W => by rw [← hq]; exact within_is x 0 6 (by omega) (by omega) (by omega) hxi.1 hxi.2)
        obtain ⟨s, hs⟩ := sg7_at q hq6
        have hsC : (sg7.map (Value.int .i32))[q]? = some (.int .i32 s) := by rw [List.getElem?_map, hs]; rfl
        have hal : Chg [] wr (wr.alloc (.cells #[.int .i32 63, .int .i32 58, .int .i32 59, .int .i32 91, .int .i32 93, .int .i32 126, .int .i32 43] 21)) := (Chg.refl [] wr).alloc _
        have c9 : (wr.alloc (.cells #[.int .i32 63, .int .i32 58, .int .i32 59, .int .i32 91, .int .i32 93, .int .i32 126, .int .i32 43] 21)).cell? ⟨wr.heap.size, q, none⟩ = some (.int .i32 s) := ((Whole.new wr 21 (sg7.map (Value.int .i32))).cell q).trans hsC
        have ckB := cell_keep ckA hal
        have hq0 : (0 : Int) ≤ (q : Int) := by omega
        have hq7 : (q : Int) < 7 := by omega
        have HAL := Lib.hid hal
        have hsz : W.heap.size ≤ wr.heap.size := HCr.out.size
        have HCP := Lib.hid (show ∀ (j : Nat) (u : Value), [Value.int .i32 s, .int .i64 0, .int .i32 0][j]? = some u → ((wr.alloc (.cells #[.int .i32 63, .int .i32 58, .int .i32 59, .int .i32 91, .int .i32 93, .int .i32 126, .int .i32 43] 21)).alloc (.cells #[.int .i32 s, .int .i64 0, .int .i32 0] 82)).cell? ((⟨wr.heap.size + 1, 0, none⟩ : Addr).add j) = some u from by
          have h := cells_page (wr.alloc (.cells #[.int .i32 63, .int .i32 58, .int .i32 59, .int .i32 91, .int .i32 93, .int .i32 126, .int .i32 43] 21)) [.int .i32 s, .int .i64 0, .int .i32 0] 82
          have e : (wr.alloc (.cells #[.int .i32 63, .int .i32 58, .int .i32 59, .int .i32 91, .int .i32 93, .int .i32 126, .int .i32 43] 21)).heap.size = wr.heap.size + 1 := by simp
          rw [e] at h
          exact h)
        clear hxA hq hxi hs hsC ckA hal
        go_wp2_with (first
          | (go_at_call 18; refine (HWX.out _).mono ?_; rintro e w' ⟨rfl, rfl⟩)
          | (at_builtin
             refine wpList_append_own _ rfl (.tmp 15) (.tmp 25) _ rfl W.heap.size 82 i0 _ 3 24 Try.underlying65 hi0 hz0 hz1 hz2 rfl (by decide) _ k (tkCs ts) rfl (rown_keep HO.out (HAL.out.alloc _)) ⟨wr.heap.size + 1, 0, none⟩ 1 1 [.int .i32 s, .int .i64 0, .int .i32 0] rfl rfl HCP.out (by simp [Value.oneCell']) (by simp only [maxLen]; omega) (by omega) (by simp; omega) ?_
             intro v' w6 ho6 hg6 _
             have HO6 := Lib.hid ho6
             have HG6 := Lib.hid hg6
             clear ho6 hg6))
        have HC6 := Lib.hid (show Chg [] W w6 from chg_grown2 ((HCr.out.new HAL.out).alloc _) HG6.out (fun g hg => ((rown_keep HO.out (HAL.out.alloc (.cells #[] 82))).lt g hg).1))
        go_roundw
        case rel => exact ⟨k + 1, by omega, by omega, by go_num, ⟨ts ++ [⟨s, 0, 0⟩], by rw [tkCs_app, tkCs_one]; exact HO6.out, by rw [List.length_append, HTL.out]; rfl⟩, HC6⟩
        case measure => simp [intOf]; omega
      · have hlt2I : ¬ (k : Int) < 50 := by omega
        have hd : decide ((k : Int) < 50) = false := by simp; omega
        have HPO := Lib.hid (show RowPost8 W (.returned u3) wr from ⟨_, ts, rfl, by rw [HTL.out]; exact HO.out, by rw [HTL.out]; exact hk, HCr.out⟩)
        go_wp2_with fail
        go_ret
        exact HPO.out
    · have hltI : ¬ (k : Int) < (n : Int) := by omega
      have hd : decide ((k : Int) < (n : Int)) = false := by simp; omega
      have HPO := Lib.hid (show RowPost8 W (.returned u3) wr from ⟨_, ts, rfl, by rw [HTL.out]; exact HO.out, by rw [HTL.out]; exact hk, HCr.out⟩)
      go_wp2_with fail
      go_ret
      exact HPO.out
end
end Go.Proofs.Ytlhkmbcjgdjegaa
namespace Go.Proofs.Ytlhkmbcjgdjegaa
open Go.RowKit
section
variable {w : World}
theorem tok_const (s : ByteArray) (ts : List TkV) (h : tokR s = some ts) (hs : s.size ≤ 100) : Calls Try.prog 45 #[.string s] w fun e w' => ∃ A c, e = .returned (.tuple #[.slice A ts.length c, .int .i64 0]) ∧ Tks w' A ts.length c ts ∧ Chg [] w w' := by
  refine (tokens_any s (by omega)).mono ?_
  rintro e w' ⟨hc, ⟨ts', v, h', hl, rfl, ho⟩ | ⟨h', _⟩⟩
  · rw [h] at h'
    injection h' with h'
    subst h'
    obtain ⟨A, c, rfl, hT⟩ := Tks.of_own ho (by omega)
    exact ⟨A, c, rfl, hT, hc⟩
  · rw [h] at h'; cases h'
theorem of_const {A : Option Addr} {n c : Nat} {l : List TkV} (h : Tks w A n c l) (t : List Int) (d : Nat) (hr : nNest (signs l) = some (t, d)) : Calls Try.prog 46 #[.slice A n c] w fun e w' => ∃ g, e = .returned (.tuple #[.slice (some ⟨g, 0, none⟩) n n, .int .i64 0]) ∧ Whole w' g 3 (nms t) ∧ t.length = n ∧ Chg [] w w' := by
  refine (nof_any h).mono ?_
  rintro e w' ⟨hc, ⟨t', d', g, h', hl, rfl, hT⟩ | ⟨h', _⟩⟩
  · rw [hr] at h'
    injection h' with h'
    injection h' with h1 h2
    subst h1
    exact ⟨g, rfl, hT, hl, hc⟩
  · rw [hr] at h'; cases h'
theorem of_const_no {A : Option Addr} {n c : Nat} {l : List TkV} (h : Tks w A n c l) (hr : nNest (signs l) = none) : Calls Try.prog 46 #[.slice A n c] w fun e w' => e = .returned (.tuple #[.slice none 0 0, .int .i64 13]) ∧ Chg [] w w' := by
  refine (nof_any h).mono ?_
  rintro e w' ⟨hc, ⟨t', d', g, h', _⟩ | ⟨_, rfl⟩⟩
  · rw [hr] at h'; cases h'
  · exact ⟨rfl, hc⟩
theorem deep_const {A : Option Addr} {n c : Nat} {l : List TkV} (h : Tks w A n c l) (r : Option (List Int × Nat)) (hr : nNest (signs l) = r) : Calls Try.prog 47 #[.slice A n c] w fun e w' => e = .returned (.int .i64 (deepI r)) ∧ Chg [] w w' := by
  subst hr; exact ndeep_any h
def kA : List TkV := [⟨91, 0, 0⟩, ⟨126, 0, 0⟩, ⟨93, 0, 0⟩]
def kB : List TkV := [⟨63, 0, 0⟩, ⟨58, 0, 0⟩, ⟨59, 0, 0⟩]
def kC : List TkV := [⟨126, 0, 0⟩]
theorem tokA : tokR ⟨#[91, 126, 93]⟩ = some kA := by rfl
theorem tokB : tokR ⟨#[63, 58, 59]⟩ = some kB := by rfl
theorem tokC : tokR ⟨#[126]⟩ = some kC := by rfl
theorem nestA : nNest (signs kA) = some ([-1, 3, 0], 1) := by decide +kernel
theorem nestB : nNest (signs kB) = some ([2, 2, -1], 1) := by decide +kernel
theorem nestC : nNest (signs kC) = none := by decide +kernel
theorem nestN : nNest (signs []) = some ([], 0) := by decide +kernel
set_option maxHeartbeats 4000000 in
set_option maxRecDepth 100000 in
theorem nknown_any : Calls Try.prog 42 #[] w (LawPost w) := by
  go_enter Try.func42, Try.ntmps42
  go_wp2_with fail
  refine (tok_const _ kA tokA (by decide)).mono ?_
  rintro e w1 ⟨A1, c1, rfl, hT1, hc1⟩
  have HT1 := Lib.hid hT1
  have HC1 := Lib.hid hc1
  clear hT1 hc1
  go_wp2_with fail
  refine (tok_const _ kB tokB (by decide)).mono ?_
  rintro e w2 ⟨A2, c2, rfl, hT2, hc2⟩
  have HT2 := Lib.hid hT2
  have HT1 := Lib.hid (HT1.out.keep hc2)
  have HC2 := Lib.hid (HC1.out.new hc2)
  clear hT2 hc2
  go_wp2_with fail
  refine (tok_const _ kC tokC (by decide)).mono ?_
  rintro e w3 ⟨A3, c3, rfl, hT3, hc3⟩
  have HT3 := Lib.hid hT3
  have HT1 := Lib.hid (HT1.out.keep hc3)
  have HT2 := Lib.hid (HT2.out.keep hc3)
  have HC3 := Lib.hid (HC2.out.new hc3)
  clear hT3 hc3
  go_wp2_with fail
  refine (of_const HT1.out _ _ nestA).mono ?_
  rintro e w4 ⟨g4, rfl, hW4, _, hc4⟩
  have HW4 := Lib.hid hW4
  have HT1 := Lib.hid (HT1.out.keep hc4)
  have HT2 := Lib.hid (HT2.out.keep hc4)
  have HT3 := Lib.hid (HT3.out.keep hc4)
  have HC4 := Lib.hid (HC3.out.new hc4)
  clear hW4 hc4
  go_wp2_with fail
  refine (of_const HT2.out _ _ nestB).mono ?_
  rintro e w5 ⟨g5, rfl, hW5, _, hc5⟩
  have HW5 := Lib.hid hW5
  have HW4 := Lib.hid (HW4.out.keep hc5)
  have HT1 := Lib.hid (HT1.out.keep hc5)
  have HT3 := Lib.hid (HT3.out.keep hc5)
  have HC5 := Lib.hid (HC4.out.new hc5)
  clear hW5 hc5
  go_wp2_with fail
  refine (of_const_no HT3.out nestC).mono ?_
  rintro e w6 ⟨rfl, hc6⟩
  have HW4 := Lib.hid (HW4.out.keep hc6)
  have HW5 := Lib.hid (HW5.out.keep hc6)
  have HT1 := Lib.hid (HT1.out.keep hc6)
  have HT3 := Lib.hid (HT3.out.keep hc6)
  have HC6 := Lib.hid (HC5.out.new hc6)
  clear hc6
  go_wp2_with fail
  have hal7 : Chg [] w6 (w6.alloc (.cells #[.int .i64 (-1), .int .i64 3, .int .i64 0] 3)) := (Chg.refl [] w6).alloc _
  refine (same_nums (l := [-1, 3, 0]) rfl (by decide) (Src.of_all (HW4.out.keep hal7)) (Src.of_all (Whole.new w6 3 (nms [-1, 3, 0]))) (fun ad e => by injection e with e; subst e; rfl) (fun ad e => by injection e with e; subst e; rfl)).mono ?_
  rintro e w7 ⟨rfl, hc7⟩
  have hc67 := hal7.new hc7
  have HW5 := Lib.hid (HW5.out.keep hc67)
  have HT1 := Lib.hid (HT1.out.keep hc67)
  have HT3 := Lib.hid (HT3.out.keep hc67)
  have HC7 := Lib.hid (HC6.out.new hc67)
  clear hc7 hal7 hc67
  go_wp2_with fail
  have hal8 : Chg [] w7 (w7.alloc (.cells #[.int .i64 2, .int .i64 2, .int .i64 (-1)] 3)) := (Chg.refl [] w7).alloc _
  refine (same_nums (l := [2, 2, -1]) rfl (by decide) (Src.of_all (HW5.out.keep hal8)) (Src.of_all (Whole.new w7 3 (nms [2, 2, -1]))) (fun ad e => by injection e with e; subst e; rfl) (fun ad e => by injection e with e; subst e; rfl)).mono ?_
  rintro e w8 ⟨rfl, hc8⟩
  have hc78 := hal8.new hc8
  have HT1 := Lib.hid (HT1.out.keep hc78)
  have HT3 := Lib.hid (HT3.out.keep hc78)
  have HC8 := Lib.hid (HC7.out.new hc78)
  clear hc8 hal8 hc78
  go_wp2_with fail
  refine (deep_const HT1.out _ nestA).mono ?_
  rintro e w9 ⟨rfl, hc9⟩
  have HT3 := Lib.hid (HT3.out.keep hc9)
  have HC9 := Lib.hid (HC8.out.new hc9)
  clear hc9
  go_wp2_with fail
  refine (deep_const HT3.out _ nestC).mono ?_
  rintro e w10 ⟨rfl, hc10⟩
  have HC10 := Lib.hid (HC9.out.new hc10)
  clear hc10
  go_wp2_with fail
  refine (deep_const (Tks.nil w10) _ nestN).mono ?_
  rintro e w11 ⟨rfl, hc11⟩
  have HC11 := Lib.hid (HC10.out.new hc11)
  clear hc11
  go_wp2_with fail
  go_ret
  exact ⟨rfl, HC11.out⟩
end
end Go.Proofs.Ytlhkmbcjgdjegaa
namespace Go.Proofs.Ytlhkmbcjgdjegaa
open Go.RowKit
/-- Numbers of the call's own. -/
def NumRow (B : Nat) (v : Value) (W : World) : Prop := ∃ ys : List Int, W.ownsRow B 3 1 v ys.length (nms ys) ∧ ys.length ≤ 100 ∧ ∀ y ∈ ys, -9223372036854775808 ≤ y ∧ y ≤ 9223372036854775807
theorem same_row {w : World} {B : Nat} {v : Value} (h : NumRow B v w) : ∃ A n c, v = .slice A n c ∧ Calls Try.prog 41 #[.slice A n c] w (RowPost8 w) := by
  obtain ⟨ys, ho, hl, hy⟩ := h
  obtain ⟨A, c, rfl, _, _, hs, hp⟩ := own_slice ho
  exact ⟨A, _, c, rfl, nrow_any hs (fun _ ad e => (hp ad e).1) rfl (by omega) hy⟩
theorem row_same {w w' : World} {e : Ending} (h : RowPost8 w e w') : ∃ A n c, e = .returned (.slice A n c) ∧ Calls Try.prog 40 #[.slice A n c] w' (LawPost w') ∧ Chg [] w w' := by
  obtain ⟨v, ts, rfl, ho, hl, hc⟩ := h
  obtain ⟨A, c, rfl, hT⟩ := Tks.of_own ho (by omega)
  exact ⟨A, _, c, rfl, nsame_any hT, hc⟩
theorem row_of {w : World} {B n c : Nat} {A : Option Addr} (h : NumRow B (.slice A n c) w) : Calls Try.prog 41 #[.slice A n c] w (RowPost8 w) := by
  obtain ⟨A', n', c', e, h'⟩ := same_row h
  simp only [Value.slice.injEq] at e
  obtain ⟨rfl, rfl, rfl⟩ := e
  exact h'
theorem rng_app {xa xb : List Int} (h1 : ∀ y ∈ xa, 0 ≤ y ∧ y ≤ 1000) (h2 : ∀ y ∈ xb, 0 ≤ y ∧ y ≤ 1000) : ∀ y ∈ xa ++ xb, 0 ≤ y ∧ y ≤ 1000 := fun y hy => (List.mem_append.1 hy).elim (h1 y) (h2 y)
theorem rng_64 {xa : List Int} (h1 : ∀ y ∈ xa, 0 ≤ y ∧ y ≤ 1000) : ∀ y ∈ xa, -9223372036854775808 ≤ y ∧ y ≤ 9223372036854775807 := fun y hy => by have := h1 y hy; omega
theorem ones_int (l : List Int) : ∀ u ∈ nms l, u.oneCell' = true := fun u hu => by
  simp only [nms, List.mem_map] at hu
  obtain ⟨y, _, rfl⟩ := hu
  simp [Value.oneCell']
section
variable {w : World}
set_option maxHeartbeats 8000000 in
set_option maxRecDepth 100000 in
theorem nestNumbers_any : Calls Try.prog 11 #[] w (LawPost w) := by
  obtain ⟨i0, hi0, hz0, hz1, hz2⟩ := info_parts info_int
  go_enter Try.func11, Try.ntmps11
  go_wp2_with fail
  go_loopw [1, 2, 3] (fun a _ _ wr => ∃ k : Nat, a = .int .i64 (k : Int) ∧ k ≤ 117649 ∧ Hid (Chg [] w wr)) (fun a _ _ _ => 117649 - (intOf a).toNat)
  case atStart => exact ⟨0, rfl, by omega, Lib.hid (Chg.refl _ _)⟩
  case round =>
    obtain ⟨k, rfl, hk, HCa⟩ := hrel
    obtain ⟨wo, rfl⟩ : ∃ wo : World, wo = wr := ⟨_, rfl⟩
    by_cases hlt : k < 117649
    · have hltI : (k : Int) < 117649 := by omega
      go_wp2_with fail
      go_loopw [2, 3] (fun v s wr => ∃ q f : Nat, s = .int .i64 (q : Int) ∧ q < 7 ^ f ∧ (∃ ys : List Int, wr.ownsRow wo.heap.size 3 1 v ys.length (nms ys) ∧ ys.length + f = 7 ∧ ∀ y ∈ ys, -9223372036854775808 ≤ y ∧ y ≤ 9223372036854775807) ∧ Hid (Chg [] wo wr)) (fun _ s _ => (intOf s).toNat)
      case atStart => exact ⟨k, 7, rfl, by omega, ⟨[], World.ownsRow_nil _ _ _ _, rfl, fun y hy => by simp at hy⟩, Lib.hid (Chg.refl _ _)⟩
      case round =>
        obtain ⟨q, f, rfl, hq, ⟨ys, ho, hyl, hyr⟩, HCr⟩ := hrel
        have HO := Lib.hid ho
        have HYR := Lib.hid hyr
        clear ho hyr
        by_cases hq0 : 0 < q
        · have hq0I : (0 : Int) < (q : Int) := by omega
          obtain ⟨f', rfl⟩ : ∃ f', f = f' + 1 := ⟨f - 1, by rcases f with _ | f; simp at hq; omega; omega⟩
          have hq7 : q / 7 < 7 ^ f' := by rw [Nat.pow_succ] at hq; omega
          have HQ := Lib.hid hq7
          have HW := Lib.hid (show wo.heap.size ≤ wr.heap.size from HCr.out.size)
          have HQB := Lib.hid (show q < 823543 from Nat.lt_of_lt_of_le hq (Nat.pow_le_pow_right (n := 7) (by omega) (show f' + 1 ≤ 7 by omega)))
          clear hq hq7
          have hqi : (0 : Int) ≤ (q : Int) := by omega
          have hqb : (q : Int) ≤ 1000000 := by have := HQB.out; omega
          go_wp2_with (at_builtin
                       refine wpList_append_own _ rfl (.tmp 18) (.tmp 21) _ rfl wo.heap.size 3 i0 _ 1 8 Try.underlying56 hi0 hz0 hz1 hz2 rfl (by decide) u2 ys.length (nms ys) rfl (own_keep HO.out ((Chg.refl [] wr).alloc _)) ⟨wr.heap.size, 0, none⟩ 1 1 [.int .i64 ((q : Int) % 7)] rfl rfl (cells_page _ _ _) (by simp [Value.oneCell']) (by simp only [maxLen]; omega) (by omega) (by have := HW.out; simp; omega) ?_
                       intro v' w6 ho6 hg6 _
                       have HO6 := Lib.hid ho6
                       have HG6 := Lib.hid hg6
                       clear ho6 hg6)
          have HC6 := Lib.hid (show Chg [] wo w6 from (HCr.out.alloc _).own (own_keep HO.out ((Chg.refl [] wr).alloc (.cells #[.int .i64 ((q : Int) % 7)] 3))) (Nat.le_refl _) HG6.out)
          go_roundw
          case rel => exact ⟨q / 7, f', rfl, HQ.out, ⟨ys ++ [((q : Int) % 7)], by rw [List.length_append, nms_app]; exact HO6.out, by simp; omega, fun y hy => by
            rcases List.mem_append.1 hy with h | h
            · exact HYR.out y h
            · simp only [List.mem_cons, List.not_mem_nil, or_false] at h; omega⟩, HC6⟩
          case measure => simp [intOf]; omega
        · have hq0I : ¬ (0 : Int) < (q : Int) := by omega
          obtain ⟨A9, n9, c9, rfl, hrow⟩ := same_row (show NumRow wo.heap.size _ wr from ⟨ys, HO.out, by omega, HYR.out⟩)
          have HROW := Lib.hid hrow
          clear hrow
          go_wp2_with fail
          refine HROW.out.mono ?_
          intro e w3 hp
          obtain ⟨A4, n4, c4, rfl, hsm, hc3⟩ := row_same hp
          have HSM := Lib.hid hsm
          have HC3 := Lib.hid (HCa.out.new (HCr.out.new hc3))
          clear hp hsm hc3
          go_wp2_with fail
          refine HSM.out.mono ?_
          rintro e w4 ⟨rfl, hc4⟩
          have HC4 := Lib.hid (HC3.out.new hc4)
          clear hc4
          go_wp2_with fail
          go_roundw
          case rel => exact ⟨k + 1, by go_num, by omega, HC4⟩
          case measure => simp [intOf]; omega
    · have hltI : ¬ (k : Int) < 117649 := by omega
      go_wp2_with fail
      have hG := Whole.new wo 3 (nms [15, 16, 17])
      have hc1 : Chg [] w (wo.alloc (.cells #[.int .i64 15, .int .i64 16, .int .i64 17] 3)) := HCa.out.alloc _
      obtain ⟨gl, hgl⟩ : ∃ g, g = wo.heap.size := ⟨_, rfl⟩
      rw [← hgl] at hG ⊢
      have hG : Whole (wo.alloc (.cells #[.int .i64 15, .int .i64 16, .int .i64 17] 3)) gl 3 (nms [15, 16, 17]) := hG
      generalize wo.alloc (.cells #[.int .i64 15, .int .i64 16, .int .i64 17] 3) = w1 at hG hc1 ⊢
      have HG := Lib.hid hG
      have HC1 := Lib.hid hc1
      clear hG hc1 hgl
      go_loopw [5, 6, 7, 8, 29] (fun _ _ _ _ s wr => ∃ j : Nat, s = .int .i64 (j : Int) ∧ j ≤ 3 ∧ Hid (Chg [] w1 wr)) (fun _ _ _ _ s _ => 3 - (intOf s).toNat)
      case atStart => exact ⟨0, rfl, by omega, Lib.hid (Chg.refl _ _)⟩
      case round =>
        obtain ⟨j, rfl, hj, HCj⟩ := hrel
        by_cases hlt3 : j < 3
        · have hltI : (j : Int) < 3 := by omega
          have hj0 : (0 : Int) ≤ (j : Int) := by omega
          obtain ⟨N, hN, hNb⟩ : ∃ N : Nat, ([15, 16, 17] : List Int)[j]? = some (N : Int) ∧ N ≤ 17 := by
            match j, hlt3 with
            | 0, _ => exact ⟨15, rfl, by omega⟩
            | 1, _ => exact ⟨16, rfl, by omega⟩
            | 2, _ => exact ⟨17, rfl, by omega⟩
          have c0 : wr.cell? ⟨gl, j, none⟩ = some (.int .i64 (N : Int)) := ((HG.out.keep HCj.out).cell j).trans (by unfold nms; rw [List.getElem?_map, hN]; rfl)
          obtain ⟨wi, rfl⟩ : ∃ wi : World, wi = wr := ⟨_, rfl⟩
          clear hN
          go_wp2_with fail
          go_loopw [6, 7, 8] (fun va vb s wr => ∃ i : Nat, s = .int .i64 (i : Int) ∧ i ≤ N ∧ (∃ xa xb : List Int, wr.ownsRow wi.heap.size 3 1 va xa.length (nms xa) ∧ wr.ownsRow wi.heap.size 3 1 vb xb.length (nms xb) ∧ xa.length = i ∧ xb.length = i ∧ (∀ y ∈ xa, 0 ≤ y ∧ y ≤ 1000) ∧ (∀ y ∈ xb, 0 ≤ y ∧ y ≤ 1000) ∧ (va.ownBlock = none ∨ va.ownBlock ≠ vb.ownBlock)) ∧ Hid (Chg [] wi wr)) (fun _ _ s _ => N - (intOf s).toNat)
          case atStart => exact ⟨0, rfl, by omega, ⟨[], [], World.ownsRow_nil _ _ _ _, World.ownsRow_nil _ _ _ _, rfl, rfl, fun y hy => by simp at hy, fun y hy => by simp at hy, .inl rfl⟩, Lib.hid (Chg.refl _ _)⟩
          case round =>
            obtain ⟨i, rfl, hi, ⟨xa, xb, hoa, hob, hla, hlb, hra, hrb, hap⟩, HCr⟩ := hrel
            have HOA := Lib.hid hoa
            have HOB := Lib.hid hob
            have HRA := Lib.hid hra
            have HRB := Lib.hid hrb
            have HAP := Lib.hid hap
            obtain ⟨Ab, cb, rfl, _⟩ := own_slice hob
            clear hoa hob hra hrb hap
            have hsz : wi.heap.size ≤ wr.heap.size := HCr.out.size
            by_cases hlti : i < N
            · have hltiI : (i : Int) < (N : Int) := by omega
              have hi0' : (0 : Int) ≤ (i : Int) := by omega
              have hib : (i : Int) ≤ 17 := by omega
              have HA0 := Lib.hid (show Chg [] wr (wr.alloc (.cells #[.int .i64 ((i : Int) % 2 * 3)] 3)) from (Chg.refl [] wr).alloc _)
              have HOA0 := Lib.hid (own_keep HOA.out HA0.out)
              have HOB0 := Lib.hid (own_keep HOB.out HA0.out)
              have HLA := Lib.hid hla
              have HLB := Lib.hid hlb
              obtain ⟨na, hna⟩ : ∃ n, n = xa.length := ⟨_, rfl⟩
              have hnai : na = i := by omega
              have HNI := Lib.hid hnai
              have HNA := Lib.hid hna
              have HW0 := Lib.hid hsz
              clear hla hlb hna hnai hsz
              go_wp2_with (first
                | (have tok1 : True := tok0
                   at_builtin
                   refine wpList_append_src rfl (.tmp 48) (.tmp 49) 56 rfl wi.heap.size 3 i0 _ 8 Try.underlying56 hi0 hz0 hz1 hz2 rfl (.slice (some ⟨w6.heap.size, 0, none⟩) 1 1) 1 [.int .i64 (2 + (i : Int) % 2 * 2)] rfl HOT.out Ab xb.length cb (nms xb) rfl (by rw [nms_len]) HSB.out (fun u hu => by simp only [nms, List.mem_map] at hu; obtain ⟨y, _, rfl⟩ := hu; rfl) (by unfold maxLen; have := HLB.out; omega) (by have := HLB.out; omega) (by have := HW6.out; simp; omega) ?_
                   intro v8 w8 ho8 hg8 hb8
                   have HO8 := Lib.hid ho8
                   have HG8 := Lib.hid hg8
                   have HB8 := Lib.hid hb8
                   clear ho8 hg8 hb8)
                | (at_builtin
                   refine wpList_append_src rfl (.tmp 38) (.tmp 42) 56 rfl wi.heap.size 3 i0 _ 8 Try.underlying56 hi0 hz0 hz1 hz2 rfl u6 xa.length (nms xa) rfl HOA0.out (some ⟨wr.heap.size, 0, none⟩) 1 1 [.int .i64 ((i : Int) % 2 * 3)] rfl rfl (Src.of_all (Whole.new wr 3 [.int .i64 ((i : Int) % 2 * 3)])) (by simp [Value.oneCell']) (by unfold maxLen; have := HLA.out; omega) (by have := HLA.out; omega) (by have := HW0.out; simp; omega) ?_
                   intro v6 w6 ho6 hg6 hb6
                   have tok0 : True := trivial
                   have HO6 := Lib.hid ho6
                   have HG6 := Lib.hid hg6
                   have HOB6 := Lib.hid (HOB0.out.kept hg6 (by
                     rcases HAP.out with h | h
                     · rw [h]; cases hbb : (Value.slice Ab xb.length cb).ownBlock with
                       | none => exact .inl rfl
                       | some b => exact .inr (by simp)
                     · exact .inr (Ne.symm h)))
                   have HW6 := Lib.hid (show wi.heap.size ≤ w6.heap.size from Nat.le_trans (Nat.le_trans HW0.out HA0.out.size) hg6.size)
                   have HAL := Lib.hid (show Chg [] w6 (w6.alloc (.cells #[.int .i64 (2 + (i : Int) % 2 * 2)] 3)) from (Chg.refl [] w6).alloc _)
                   have HOT := Lib.hid (show (w6.alloc (.cells #[.int .i64 (2 + (i : Int) % 2 * 2)] 3)).ownsRow wi.heap.size 3 1 (.slice (some ⟨w6.heap.size, 0, none⟩) 1 1) 1 [.int .i64 (2 + (i : Int) % 2 * 2)] from own_of_whole (Whole.new w6 3 [.int .i64 (2 + (i : Int) % 2 * 2)]) HW6.out rfl (by omega) (by unfold maxLen; omega))
                   have HSB := Lib.hid (show Src (w6.alloc (.cells #[.int .i64 (2 + (i : Int) % 2 * 2)] 3)) Ab (nms xb) from by
                     obtain ⟨A', c', e, _, _, hs, _⟩ := own_slice (own_keep HOB6.out HAL.out)
                     injection e with e1 _ _
                     rw [e1]; exact hs)
                   clear ho6 hg6 hb6))
              have HB6 := Lib.hid (show ∀ g, v6.ownBlock = some g → g < w6.heap.size from fun g hg => (HO6.out.lt g hg).2)
              have HO6' := Lib.hid (show w8.ownsRow wi.heap.size 3 1 v6 (xa.length + 1) (nms xa ++ [.int .i64 ((i : Int) % 2 * 3)]) from (own_keep HO6.out HAL.out).kept HG8.out (by
                cases hv : v6.ownBlock with
                | none => exact .inl rfl
                | some b => exact .inr (by have := HB6.out b hv; simp [Value.ownBlock]; omega)))
              have HC8 := Lib.hid (show Chg [] wi w8 from (((HCr.out.new HA0.out).own HOA0.out (Nat.le_refl _) HG6.out).new HAL.out).own HOT.out (Nat.le_refl _) HG8.out)
              have HAP8 := Lib.hid (show v6.ownBlock = none ∨ v6.ownBlock ≠ v8.ownBlock from by
                cases hv : v6.ownBlock with
                | none => exact .inl rfl
                | some b =>
                  refine .inr (fun hc => ?_)
                  have h1 := HB6.out b hv
                  have h2 := HAL.out.size
                  rcases HB8.out with h | h
                  · rw [h] at hc; simp [Value.ownBlock] at hc; omega
                  · rw [h] at hc; injection hc with hc; omega)
              go_roundw
              case rel => exact ⟨i + 1, by go_num, by omega, ⟨xa ++ [(i : Int) % 2 * 3], [2 + (i : Int) % 2 * 2] ++ xb, by rw [List.length_append, nms_app]; exact HO6'.out, by rw [List.length_append, nms_app]; exact HO8.out, by rw [List.length_append, HLA.out]; rfl, by rw [List.length_append, HLB.out]; simp; omega, fun y hy => by
                rcases List.mem_append.1 hy with h | h
                · exact HRA.out y h
                · simp only [List.mem_cons, List.not_mem_nil, or_false] at h; omega, fun y hy => by
                rcases List.mem_append.1 hy with h | h
                · simp only [List.mem_cons, List.not_mem_nil, or_false] at h; omega
                · exact HRB.out y h, HAP8.out⟩, HC8⟩
              case measure => simp [intOf]; omega
            · have hltiI : ¬ (i : Int) < (N : Int) := by omega
              obtain ⟨Aa, ca, rfl, _⟩ := own_slice HOA.out
              have HLA := Lib.hid hla
              have HLB := Lib.hid hlb
              have HNA := Lib.hid (show xa.length ≤ 17 ∧ xb.length ≤ 17 from by omega)
              have HW0 := Lib.hid hsz
              clear hla hlb hsz
              have HSA := Lib.hid (show ∀ W, Chg [] wr W → Src W Aa (nms xa) from fun W hW => by
                obtain ⟨A', c', e, _, _, hs, _⟩ := own_slice (own_keep HOA.out hW)
                injection e with e1 _ _
                rw [e1]; exact hs)
              have HSB := Lib.hid (show ∀ W, Chg [] wr W → Src W Ab (nms xb) from fun W hW => by
                obtain ⟨A', c', e, _, _, hs, _⟩ := own_slice (own_keep HOB.out hW)
                injection e with e1 _ _
                rw [e1]; exact hs)
              have HE0 := Lib.hid (show (wr.alloc (.cells #[] 3)).ownsRow wr.heap.size 3 1 (.slice (some ⟨wr.heap.size, 0, none⟩) 0 0) 0 [] from own_of_whole (n := 0) (c := 0) (Whole.new wr 3 []) (Nat.le_refl _) rfl (by omega) (by unfold maxLen; omega))
              have HCE := Lib.hid (show Chg [] wr (wr.alloc (.cells #[] 3)) from (Chg.refl [] wr).alloc _)
              go_wp2_with (first
                | (have tok1 : True := tok0
                   at_builtin
                   refine wpList_append_src rfl (.tmp 53) (.tmp 54) 56 rfl wr.heap.size 3 i0 _ 8 Try.underlying56 hi0 hz0 hz1 hz2 rfl (.slice A53 xa.length c53) xa.length (nms xa) rfl HO53.out Ab xb.length cb (nms xb) rfl (by rw [nms_len]) (HSB.out _ HC53.out) (ones_int _) (by unfold maxLen; have := HNA.out; omega) (by have := HNA.out; omega) (HC53.out.size) ?_
                   intro v55 w55 ho55 hg55 _
                   obtain ⟨A55, c55, rfl, _⟩ := own_slice ho55
                   have HC55 := Lib.hid (show Chg [] wr w55 from HC53.out.own HO53.out (Nat.le_refl _) hg55)
                   have HO55 := Lib.hid ho55
                   clear ho55 hg55 tok1 tok0)
                | (at_builtin
                   refine wpList_append_src rfl (.tmp 51) (.tmp 52) 56 rfl wr.heap.size 3 i0 _ 8 Try.underlying56 hi0 hz0 hz1 hz2 rfl (.slice (some ⟨wr.heap.size, 0, none⟩) 0 0) 0 [] rfl HE0.out Aa xa.length ca (nms xa) rfl (by rw [nms_len]) (HSA.out _ HCE.out) (ones_int _) (by unfold maxLen; have := HNA.out; omega) (by have := HNA.out; omega) (HCE.out.size) ?_
                   intro v53 w53 ho53 hg53 _
                   rw [Nat.zero_add, List.nil_append] at ho53
                   obtain ⟨A53, c53, rfl, _⟩ := own_slice ho53
                   have tok0 : True := trivial
                   have HC53 := Lib.hid (show Chg [] wr w53 from HCE.out.own HE0.out (Nat.le_refl _) hg53)
                   have HO53 := Lib.hid ho53
                   clear ho53 hg53))
              refine (row_of (B := wr.heap.size) (show NumRow wr.heap.size (.slice A55 (xa.length + xb.length) c55) w55 from ⟨xa ++ xb, by rw [List.length_append, nms_app]; exact HO55.out, by rw [List.length_append]; have := HNA.out; omega, rng_64 (rng_app HRA.out HRB.out)⟩)).mono ?_
              intro e w3 hp
              obtain ⟨A4, n4, c4, rfl, hsm, hc3⟩ := row_same hp
              have HSM := Lib.hid hsm
              have HCx := Lib.hid (HC55.out.new hc3)
              clear hp hsm hc3
              go_wp2_with fail
              refine HSM.out.mono ?_
              rintro e w4 ⟨rfl, hc4⟩
              have HCy := Lib.hid (HCx.out.new hc4)
              clear hc4 HSM HCx
              have HSA4 := Lib.hid (fun (W : World) (hW : Chg [] w4 W) => HSA.out W (HCy.out.new hW))
              have HSB4 := Lib.hid (fun (W : World) (hW : Chg [] w4 W) => HSB.out W (HCy.out.new hW))
              have HE4 := Lib.hid (show (w4.alloc (.cells #[] 3)).ownsRow w4.heap.size 3 1 (.slice (some ⟨w4.heap.size, 0, none⟩) 0 0) 0 [] from own_of_whole (n := 0) (c := 0) (Whole.new w4 3 []) (Nat.le_refl _) rfl (by omega) (by unfold maxLen; omega))
              have HCE4 := Lib.hid (show Chg [] w4 (w4.alloc (.cells #[] 3)) from (Chg.refl [] w4).alloc _)
              clear HC53 HC55 HO53 HO55
              go_wp2_with (first
                | (have tok3 : True := tok2
                   at_builtin
                   refine wpList_append_src_g rfl (.tmp 64) (.tmp 65) 56 rfl w4.heap.size 3 i0 _ 8 Try.underlying56 hi0 hz0 hz1 hz2 rfl (.slice A64 (xa.length + 1) c64) (xa.length + 1) (nms xa ++ [.int .i64 5]) rfl HO64.out Ab xb.length cb (nms xb) rfl (by rw [nms_len]) (HSB4.out _ HC64.out) (ones_int _) (by unfold maxLen; have := HNA.out; omega) (by have := HNA.out; omega) (HC64.out.size) ?_
                   intro v66 w66 ho66 hg66 _
                   obtain ⟨A66, c66, rfl, _⟩ := own_slice ho66
                   have HC66 := Lib.hid (show Chg [] w4 w66 from HC64.out.own HO64.out (Nat.le_refl _) hg66)
                   have HO66 := Lib.hid ho66
                   clear ho66 hg66 tok3 tok2 tok1)
                | (have tok2 : True := tok1
                   at_builtin
                   refine wpList_append_src_g rfl (.tmp 62) (.tmp 63) 56 rfl w4.heap.size 3 i0 _ 8 Try.underlying56 hi0 hz0 hz1 hz2 rfl (.slice A62 xa.length c62) xa.length (nms xa) rfl (own_keep HO62.out ((Chg.refl [] w62).alloc _)) (some ⟨w62.heap.size, 0, none⟩) 1 1 [.int .i64 5] rfl rfl (Src.of_all (Whole.new w62 3 [.int .i64 5])) (by simp [Value.oneCell']) (by unfold maxLen; have := HNA.out; omega) (by have := HNA.out; omega) (by have := HC62.out.size; simp; omega) ?_
                   intro v64 w64 ho64 hg64 _
                   obtain ⟨A64, c64, rfl, _⟩ := own_slice ho64
                   have HC64 := Lib.hid (show Chg [] w4 w64 from (HC62.out.alloc _).own (own_keep HO62.out ((Chg.refl [] w62).alloc (.cells #[.int .i64 5] 3))) (Nat.le_refl _) hg64)
                   have HO64 := Lib.hid ho64
                   clear ho64 hg64)
                | (at_builtin
                   refine wpList_append_src_g rfl (.tmp 60) (.tmp 61) 56 rfl w4.heap.size 3 i0 _ 8 Try.underlying56 hi0 hz0 hz1 hz2 rfl (.slice (some ⟨w4.heap.size, 0, none⟩) 0 0) 0 [] rfl HE4.out Aa xa.length ca (nms xa) rfl (by rw [nms_len]) (HSA4.out _ HCE4.out) (ones_int _) (by unfold maxLen; have := HNA.out; omega) (by have := HNA.out; omega) (HCE4.out.size) ?_
                   intro v62 w62 ho62 hg62 _
                   rw [Nat.zero_add, List.nil_append] at ho62
                   obtain ⟨A62, c62, rfl, _⟩ := own_slice ho62
                   have tok1 : True := trivial
                   have HC62 := Lib.hid (show Chg [] w4 w62 from HCE4.out.own HE4.out (Nat.le_refl _) hg62)
                   have HO62 := Lib.hid ho62
                   clear ho62 hg62))
              have HCq := Lib.hid (HCy.out.new HC66.out)
              refine (row_of (B := w4.heap.size) (show NumRow w4.heap.size (.slice A66 (xa.length + 1 + xb.length) c66) w66 from ⟨xa ++ [5] ++ xb, by rw [List.length_append, List.length_append, nms_app, nms_app]; exact HO66.out, by rw [List.length_append, List.length_append]; have := HNA.out; simp; omega, rng_64 (rng_app (rng_app HRA.out (fun y hy => by simp only [List.mem_cons, List.not_mem_nil, or_false] at hy; omega)) HRB.out)⟩)).mono ?_
              intro e w5 hp
              obtain ⟨A4, n4, c4, rfl, hsm, hc3⟩ := row_same hp
              have HSM := Lib.hid hsm
              have HCx := Lib.hid (HCq.out.new hc3)
              clear hp hsm hc3
              go_wp2_with fail
              refine HSM.out.mono ?_
              rintro e w6 ⟨rfl, hc4⟩
              have HCy := Lib.hid (HCx.out.new hc4)
              clear hc4 HSM HCx
              go_wp2_with fail
              refine (row_of (B := wi.heap.size) (show NumRow wi.heap.size (.slice Aa xa.length ca) w6 from ⟨xa, own_keep HOA.out HCy.out, by have := HNA.out; omega, rng_64 HRA.out⟩)).mono ?_
              intro e w7 hp
              obtain ⟨A4, n4, c4, rfl, hsm, hc3⟩ := row_same hp
              have HSM := Lib.hid hsm
              have HCx := Lib.hid (HCy.out.new hc3)
              clear hp hsm hc3
              go_wp2_with fail
              refine HSM.out.mono ?_
              rintro e w8 ⟨rfl, hc4⟩
              have HCy := Lib.hid (HCx.out.new hc4)
              clear hc4 HSM HCx
              have HCf := Lib.hid (HCj.out.new (HCr.out.new HCy.out))
              go_wp2_with fail
              go_roundw
              case rel => exact ⟨j + 1, by go_num, by omega, HCf⟩
              case measure => simp [intOf]; omega
        · have hltI : ¬ (j : Int) < 3 := by omega
          have HCe := Lib.hid (HC1.out.new HCj.out)
          go_wp2_with fail
          refine nknown_any.mono ?_
          rintro e w9 ⟨rfl, hc9⟩
          have HC9 := Lib.hid (HCe.out.new hc9)
          clear hc9
          go_wp2_with fail
          go_ret
          exact ⟨rfl, HC9.out⟩
end
end Go.Proofs.Ytlhkmbcjgdjegaa
