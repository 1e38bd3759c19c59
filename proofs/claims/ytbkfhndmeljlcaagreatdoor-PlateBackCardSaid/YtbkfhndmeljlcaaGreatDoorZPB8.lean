/-
  PB: Tokens.
-/
import Derived.Test.YtbkfhndmeljlcaaGreatDoorZPB6
namespace Go.Proofs.YtbkfhndmeljlcaaGreatDoor
open Go.RowKit
/-- Digits from place j on. -/
def numAt (L : List Nat) : Nat → Nat → Nat → Option (Nat × Nat)
  | 0, j, m => some (m, j)
  | f + 1, j, m => match L[j]? with
    | some x => if 48 ≤ x ∧ x ≤ 57 then (if (9223372036854775807 - (x - 48)) / 10 < m then none else numAt L f (j + 1) (m * 10 + (x - 48))) else some (m, j)
    | none => some (m, j)
def tokAt (L : List Nat) : Nat → Nat → List TkV → Option (List TkV)
  | 0, _, ts => some ts
  | f + 1, i, ts => match L[i]? with
    | none => some ts
    | some r => if r = 32 then tokAt L f (i + 1) ts
      else if 48 ≤ r ∧ r ≤ 57 then (match numAt L L.length i 0 with
        | none => none
        | some (m, j) => tokAt L f j (ts ++ [⟨48, (m : Int), 0⟩]))
      else if r = 955 ∨ r = 960 then (match L[i + 1]? with
        | none => none
        | some x => if nameB (x : Int) = true then tokAt L f (i + 2) (ts ++ [⟨(r : Int), 0, (x : Int)⟩]) else none)
      else if knownB (r : Int) = true then tokAt L f (i + 1) (ts ++ [⟨(r : Int), 0, 0⟩]) else none
def tokR (s : ByteArray) : Option (List TkV) := if 512 < s.size then none else tokAt (runesL s) ((runesL s).length + 1) 0 []
def tokE (s : ByteArray) : Int := if 512 < s.size then 3 else 12
def TokPost (s : ByteArray) (w : World) (e : Ending) (w' : World) : Prop :=
  Chg [] w w' ∧ ((∃ ts v, tokR s = some ts ∧ ts.length ≤ 512 ∧ e = .returned (.tuple #[v, .int .i64 0]) ∧ w'.ownsRow w.heap.size 110 3 v ts.length (tkCs ts)) ∨
    (tokR s = none ∧ e = .returned (.tuple #[.slice none 0 0, .int .i64 (tokE s)])))
theorem runesL_len (s : ByteArray) : (runesL s).length ≤ s.size := runesAt_len s s.size 0
theorem own_more_n {w : World} {B B' e k n : Nat} {v : Value} {xs : List Value} (h : w.ownsRow B e k v n xs) (hB : B' ≤ B) : w.ownsRow B' e k v n xs := by
  refine ⟨h.1, h.2.imp id ?_⟩
  rintro ⟨g, cap, cur, rfl, hb, r⟩
  exact ⟨g, cap, cur, rfl, Nat.le_trans hB hb, r⟩
section
variable {w : World}
set_option maxHeartbeats 4000000 in
set_option maxRecDepth 100000 in
theorem tokens_any (s : ByteArray) (hs : s.size ≤ 9223372036854775807) : Calls Tryz.prog 50 #[.string s] w (TokPost s w) := by
  obtain ⟨i0, hi0, hz0, hz1, hz2⟩ := info_parts info_token
  by_cases hlong : 512 < s.size
  · have hlI : (512 : Int) < (s.size : Int) := by omega
    have HPO := Lib.hid (show TokPost s w (.returned (.tuple #[.slice none 0 0, .int .i64 3])) w from ⟨Chg.refl _ _, .inr ⟨by unfold tokR; rw [if_pos hlong], by unfold tokE; rw [if_pos hlong]⟩⟩)
    go_enter Tryz.func50, Tryz.ntmps50
    go_wp2_with fail
    go_ret2
    exact HPO.out
  have hlI : ¬ (512 : Int) < (s.size : Int) := by omega
  have HT := Lib.hid (show tokR s = tokAt (runesL s) ((runesL s).length + 1) 0 [] from by unfold tokR; rw [if_neg hlong])
  have HE := Lib.hid (show tokE s = 12 from by unfold tokE; rw [if_neg hlong])
  have HRUN := Lib.hid (runes_any s w (by omega))
  have hLs := runesL_len s
  have hLr := runesAt_le s s.size 0
  go_enter Tryz.func50, Tryz.ntmps50
  go_wp2_with fail
  refine HRUN.out.mono ?_
  rintro e w1 ⟨v1, rfl, ho1, hc1⟩
  obtain ⟨L, hL⟩ : ∃ L, L = runesL s := ⟨_, rfl⟩
  have hLr' : ∀ r ∈ L, r ≤ 2147483647 := by rw [hL]; exact hLr
  rw [← hL] at ho1 hLs HT
  have HLR := Lib.hid hLr'
  have HC1 := Lib.hid hc1
  obtain ⟨A1, c1, rfl, hl1, _, hs1, hp1⟩ := own_slice ho1
  obtain ⟨n, hn⟩ : ∃ n, n = L.length := ⟨_, rfl⟩
  rw [← hn] at hLs HT ⊢
  have HN := Lib.hid hn
  have hn512 : n ≤ 512 := by omega
  have HS1 := Lib.hid (show ∀ (W : World), Chg [] w1 W → ∀ (j : Nat) (r : Nat), L[j]? = some r → ∃ g, A1 = some ⟨g, 0, none⟩ ∧ W.cell? ⟨g, j, none⟩ = some (.int .i32 (r : Int)) from fun W hW j r hj => by
    obtain ⟨⟨g, o, sp⟩, e, hb, hx⟩ := (hs1.keep hW) (by rw [r32_len]; have := (List.getElem?_eq_some_iff.1 hj).1; omega)
    obtain ⟨h1, _, h3, _⟩ := hp1 _ e
    simp only at h1 h3
    subst h1 h3
    refine ⟨g, e, ?_⟩
    have := hx j (.int .i32 (r : Int)) (by simp [r32, hj])
    rwa [add_plain, Nat.zero_add] at this)
  obtain ⟨B, hB⟩ : ∃ b, b = w1.heap.size := ⟨_, rfl⟩
  have HB := Lib.hid hB
  clear ho1 hc1 hl1 hs1 hp1 hL hLr hLr' hn hB hlong hLs HRUN
  go_wp2_with fail
  go_loopw [5, 6, 7, 8] (fun v x _ _ wr => ∃ i : Nat, i ≤ n ∧ x = .int .i64 (i : Int) ∧ (∃ ts f, wr.ownsRow B 110 3 v ts.length (tkCs ts) ∧ ts.length ≤ i ∧ n < i + f ∧ Hid (tokR s = tokAt L f i ts)) ∧ Hid (Chg [] w1 wr)) (fun _ x _ _ _ => n - (intOf x).toNat)
  case atStart => exact ⟨0, Nat.zero_le _, rfl, ⟨[], n + 1, World.ownsRow_nil _ _ _ _, by simp, by omega, HT⟩, Lib.hid (Chg.refl _ _)⟩
  case round =>
    obtain ⟨i, hin, rfl, ⟨ts, f, ho, htl, hf, HTi⟩, HCr⟩ := hrel
    have HO := Lib.hid ho
    clear ho
    have HCW := Lib.hid (show Chg [] w wr from HC1.out.new HCr.out)
    have HNO := Lib.hid (show ∀ W, Chg [] w W → tokR s = none → TokPost s w (.returned (.tuple #[.slice none 0 0, .int .i64 12])) W from fun W hW h => ⟨hW, .inr ⟨h, by rw [HE.out]⟩⟩)
    by_cases hlt : i < n
    · have hltI : (i : Int) < (n : Int) := by omega
      have hi0' : (0 : Int) ≤ (i : Int) := by omega
      have hil : i < L.length := by rw [← HN.out]; exact hlt
      obtain ⟨f', rfl⟩ : ∃ f', f = f' + 1 := ⟨f - 1, by omega⟩
      obtain ⟨r, hr⟩ : ∃ r, L[i]? = some r := ⟨_, List.getElem?_eq_getElem hil⟩
      obtain ⟨g4, rfl, t0⟩ := HS1.out wr HCr.out i r hr
      have hr2 := HLR.out r (List.mem_of_getElem? hr)
      have HR := Lib.hid hr
      have HU := Lib.hid (show tokR s = _ from HTi.out.trans (by rw [tokAt, hr]))
      clear hr
      by_cases h32 : r = 32
      · subst h32
        have HT2 := Lib.hid (show tokR s = tokAt L f' (i + 1) ts from by rw [HU.out]; simp)
        go_wp2_with fail
        go_roundw
        case rel => exact ⟨i + 1, by omega, by go_num, ⟨ts, f', HO.out, by omega, by omega, HT2⟩, HCr⟩
        case measure => simp [intOf]; omega
      have h32d : ((r : Int) == 32) = false := by simp; omega
      by_cases hdg : 48 ≤ r ∧ r ≤ 57
      · obtain ⟨h48, h57⟩ := hdg
        have h48I : (48 : Int) ≤ (r : Int) := by omega
        have h57I : (r : Int) ≤ 57 := by omega
        have HU2 := Lib.hid (show tokR s = (match numAt L L.length i 0 with
          | none => none
          | some (m, j) => tokAt L f' j (ts ++ [⟨48, (m : Int), 0⟩])) from by rw [HU.out]; simp only [h32, h48, h57, if_false, if_true, and_self])
        have HRD := Lib.hid (And.intro h48 h57)
        have HBW := Lib.hid (show B ≤ wr.heap.size from by rw [HB.out]; exact HCr.out.size)
        clear HU h48 h57 h32
        go_wp2_with fail
        go_loop [6, 8] (fun x y => ∃ j m f2 : Nat, i ≤ j ∧ j ≤ n ∧ x = .int .i64 (j : Int) ∧ y = .int .u64 (m : Int) ∧ m ≤ 9223372036854775807 ∧ n ≤ j + f2 ∧ (i < j ∨ j = i) ∧ Hid (numAt L L.length i 0 = numAt L f2 j m)) (fun x _ => n - (intOf x).toNat)
        case atStart => exact ⟨i, 0, L.length, Nat.le_refl _, by omega, rfl, rfl, by omega, by have := HN.out; omega, .inr rfl, Lib.hid rfl⟩
        case round =>
          obtain ⟨j, m, f2, hij, hjn, rfl, rfl, hm, hf2, hdis, HQ⟩ := hrel
          have hj0 : (0 : Int) ≤ (j : Int) := by omega
          have hm0 : (0 : Int) ≤ (m : Int) := by omega
          have hstop : ∀ _ : numAt L L.length i 0 = some (m, j), i < j → tokR s = tokAt L f' j (ts ++ [⟨48, (m : Int), 0⟩]) := fun h _ => by rw [HU2.out, h]
          have HST := Lib.hid hstop
          clear hstop
          by_cases hltj : j < n
          · have hltjI : (j : Int) < (n : Int) := by omega
            obtain ⟨f3, rfl⟩ : ∃ f3, f2 = f3 + 1 := ⟨f2 - 1, by omega⟩
            obtain ⟨x, hx⟩ : ∃ x, L[j]? = some x := ⟨_, List.getElem?_eq_getElem (by rw [← HN.out]; exact hltj)⟩
            obtain ⟨g4', e, t1⟩ := HS1.out wr HCr.out j x hx
            injection e with e
            injection e with e
            subst e
            have hx2 := HLR.out x (List.mem_of_getElem? hx)
            have HX := Lib.hid hx
            clear hx
            by_cases hxd : 48 ≤ x ∧ x ≤ 57
            · have HXD := Lib.hid hxd
              have hx1 : (48 : Int) ≤ (x : Int) := by omega
              have hx3 : (x : Int) ≤ 57 := by omega
              have HHM := Lib.hid (And.intro hm (And.intro hdis hf2))
              have HHI := Lib.hid hij
              clear hxd hm hdis hf2 hij
              by_cases hov : (9223372036854775807 - ((x : Int) - 48)) / 10 < (m : Int)
              · have hnum : numAt L (f3 + 1) j m = none := by
                  rw [numAt, HX.out]
                  show (if 48 ≤ x ∧ x ≤ 57 then _ else _) = none
                  rw [if_pos HXD.out, if_pos (by have := HXD.out; omega)]
                have HPO := Lib.hid (HNO.out wr HCW.out (by rw [HU2.out, HQ.out, hnum]))
                clear hnum
                go_wp2_with fail
                go_ret2
                exact HPO.out
              · have hovJ : (m : Int) ≤ (9223372036854775807 - ((x : Int) - 48)) / 10 := by omega
                have HQ2 := Lib.hid (show numAt L L.length i 0 = numAt L f3 (j + 1) (m * 10 + (x - 48)) from HQ.out.trans (by
                  rw [numAt, HX.out]
                  show (if 48 ≤ x ∧ x ≤ 57 then _ else _) = _
                  rw [if_pos HXD.out, if_neg (by have := HXD.out; omega)]))
                clear hov
                go_wp2_with fail
                go_round
                case rel => exact ⟨j + 1, m * 10 + (x - 48), f3, by have := HHI.out; omega, by omega, by go_num, by rw [show ((m * 10 + (x - 48) : Nat) : Int) = (m : Int) * 10 + ((x : Int) - 48) by have := HXD.out; omega], by have := HXD.out; omega, by have := HHM.out.2.2; omega, .inl (by have := HHI.out; omega), HQ2⟩
                case measure => simp [intOf]; omega
            · have HSS := Lib.hid (HST.out (by rw [HQ.out, numAt, HX.out]; simp only; rw [if_neg hxd]) (by
                rcases hdis with h | h
                · exact h
                · exfalso
                  subst h
                  have := HX.out
                  rw [HR.out] at this
                  injection this with this
                  subst this
                  exact hxd HRD.out))
              have hij1 : i < j := by
                rcases hdis with h | h
                · exact h
                · exfalso
                  subst h
                  have := HX.out
                  rw [HR.out] at this
                  injection this with this
                  subst this
                  exact hxd HRD.out
              have hnd : ((48 : Int) ≤ (x : Int) ∧ decide ((x : Int) ≤ 57) = false) ∨ decide ((48 : Int) ≤ (x : Int)) = false := by
                by_cases h : 48 ≤ x
                · exact .inl ⟨by omega, by simp; omega⟩
                · exact .inr (by simp; omega)
              have HHM := Lib.hid (And.intro hm hij)
              clear hxd hdis hf2 hm hij
              rcases hnd with ⟨hx48, hx57⟩ | hx48
              all_goals
                have hjm : (j : Int) - 1 + 1 = ((j : Nat) : Int) := by omega
                have HJM := Lib.hid hjm
                have hm64 : (m : Int) ≤ 9223372036854775807 := by have := HHM.out.1; omega
                clear hjm
                go_wp2_with (at_builtin
                             refine wpList_append_own _ rfl (.tmp 75) (.tmp 79) _ rfl B 110 i0 _ 3 24 Tryz.underlying90 hi0 hz0 hz1 hz2 rfl (by decide) _ ts.length (tkCs ts) rfl (rown_keep HO.out ((Chg.refl [] wr).alloc _)) ⟨wr.heap.size, 0, none⟩ 1 1 [.int .i32 48, .int .i64 (m : Int), .int .i32 0] rfl rfl (cells_page _ _ _) (by simp [Value.oneCell']) (by simp only [maxLen]; omega) (by omega) (by have := HBW.out; simp; omega) ?_
                             intro v' w6 ho6 hg6 _
                             have HO6 := Lib.hid ho6
                             have HG6 := Lib.hid hg6
                             clear ho6 hg6)
                have HC6 := Lib.hid (show Chg [] w1 w6 from chg_grown2 (HCr.out.alloc _) HG6.out (fun g hg => by have := ((rown_keep HO.out ((Chg.refl [] wr).alloc (.cells #[] 110))).lt g hg).1; have := HB.out; omega))
                go_roundw
                case rel => exact ⟨j, hjn, by rw [← HJM.out], ⟨ts ++ [⟨48, (m : Int), 0⟩], f', by rw [List.length_append, tkCs_app, tkCs_one]; exact HO6.out, by simp; omega, by omega, HSS⟩, HC6⟩
                case measure => simp [intOf]; omega
          · have hltjI : ¬ (j : Int) < (n : Int) := by omega
            have HSS := Lib.hid (HST.out (by rw [HQ.out]; cases f2 with
              | zero => rfl
              | succ f2 => rw [numAt, List.getElem?_eq_none (by rw [← HN.out]; omega)]) (by omega))
            have hij1 : i < j := by omega
            have HHM := Lib.hid (And.intro hm hij)
            clear hdis hf2 hm hij
            have hjm : (j : Int) - 1 + 1 = ((j : Nat) : Int) := by omega
            have HJM := Lib.hid hjm
            have hm64 : (m : Int) ≤ 9223372036854775807 := by have := HHM.out.1; omega
            clear hjm
            go_wp2_with (at_builtin
                         refine wpList_append_own _ rfl (.tmp 75) (.tmp 79) _ rfl B 110 i0 _ 3 24 Tryz.underlying90 hi0 hz0 hz1 hz2 rfl (by decide) _ ts.length (tkCs ts) rfl (rown_keep HO.out ((Chg.refl [] wr).alloc _)) ⟨wr.heap.size, 0, none⟩ 1 1 [.int .i32 48, .int .i64 (m : Int), .int .i32 0] rfl rfl (cells_page _ _ _) (by simp [Value.oneCell']) (by simp only [maxLen]; omega) (by omega) (by have := HBW.out; simp; omega) ?_
                         intro v' w6 ho6 hg6 _
                         have HO6 := Lib.hid ho6
                         have HG6 := Lib.hid hg6
                         clear ho6 hg6)
            have HC6 := Lib.hid (show Chg [] w1 w6 from chg_grown2 (HCr.out.alloc _) HG6.out (fun g hg => by have := ((rown_keep HO.out ((Chg.refl [] wr).alloc (.cells #[] 110))).lt g hg).1; have := HB.out; omega))
            go_roundw
            case rel => exact ⟨j, hjn, by rw [← HJM.out], ⟨ts ++ [⟨48, (m : Int), 0⟩], f', by rw [List.length_append, tkCs_app, tkCs_one]; exact HO6.out, by simp; omega, by omega, HSS⟩, HC6⟩
            case measure => simp [intOf]; omega
      · by_cases hnm : r = 955 ∨ r = 960
        · by_cases hi1 : i + 1 < n
          · obtain ⟨x, hx⟩ : ∃ x, L[i + 1]? = some x := ⟨_, List.getElem?_eq_getElem (by rw [← HN.out]; exact hi1)⟩
            obtain ⟨g4', e, t1⟩ := HS1.out wr HCr.out (i + 1) x hx
            injection e with e
            injection e with e
            subst e
            have hx2 := HLR.out x (List.mem_of_getElem? hx)
            have HU2 := Lib.hid (show tokR s = (if nameB (x : Int) = true then tokAt L f' (i + 2) (ts ++ [⟨(r : Int), 0, (x : Int)⟩]) else none) from by rw [HU.out]; simp only [h32, hdg, hnm, if_false, if_true, hx])
            have hi1I : ¬ (n : Int) ≤ (i : Int) + 1 := by omega
            have hi1J : (i : Int) + 1 < (n : Int) := by omega
            have hi1K : (0 : Int) ≤ (i : Int) + 1 := by omega
            have hi1d : decide ((n : Int) ≤ (i : Int) + 1) = false := by simp; omega
            have HBW := Lib.hid (show B ≤ wr.heap.size from by rw [HB.out]; exact HCr.out.size)
            clear HU hdg hx
            rcases hnm with rfl | rfl
            all_goals
              by_cases hk : nameB (x : Int) = true
              · have HT2 := Lib.hid (HU2.out.trans (if_pos hk))
                have HKK := Lib.hid hk
                clear hk h32
                go_wp2_with (first
                  | (go_at_call 77; refine (name_any (x : Int) _).mono ?_; rintro e w' ⟨rfl, rfl⟩; rw [HKK.out])
                  | (at_builtin
                     refine wpList_append_own _ rfl (.tmp 102) (.tmp 110) _ rfl B 110 i0 _ 3 24 Tryz.underlying90 hi0 hz0 hz1 hz2 rfl (by decide) _ ts.length (tkCs ts) rfl (rown_keep HO.out ((Chg.refl [] wr).alloc _)) ⟨wr.heap.size, 0, none⟩ 1 1 [.int .i32 _, .int .i64 0, .int .i32 (x : Int)] rfl rfl (cells_page _ _ _) (by simp [Value.oneCell']) (by simp only [maxLen]; omega) (by omega) (by have := HBW.out; simp; omega) ?_
                     intro v' w6 ho6 hg6 _
                     have HO6 := Lib.hid ho6
                     have HG6 := Lib.hid hg6
                     clear ho6 hg6))
                have HC6 := Lib.hid (show Chg [] w1 w6 from chg_grown2 (HCr.out.alloc _) HG6.out (fun g hg => by have := ((rown_keep HO.out ((Chg.refl [] wr).alloc (.cells #[] 110))).lt g hg).1; have := HB.out; omega))
                go_roundw
                case rel => exact ⟨i + 2, by omega, by go_num, ⟨ts ++ [⟨_, 0, (x : Int)⟩], f', by rw [List.length_append, tkCs_app, tkCs_one]; exact HO6.out, by simp; omega, by omega, HT2⟩, HC6⟩
                case measure => simp [intOf]; omega
              · have hkf : nameB (x : Int) = false := by simpa using hk
                have HKK := Lib.hid hkf
                have HPO := Lib.hid (HNO.out wr HCW.out (HU2.out.trans (if_neg hk)))
                clear hk hkf h32
                go_wp2_with (go_at_call 77; refine (name_any (x : Int) _).mono ?_; rintro e w' ⟨rfl, rfl⟩; rw [HKK.out])
                go_ret2
                exact HPO.out
          · have hi1I : (n : Int) ≤ (i : Int) + 1 := by omega
            have HPO := Lib.hid (HNO.out wr HCW.out (by rw [HU.out]; simp only [h32, hdg, hnm, if_false, if_true]; rw [List.getElem?_eq_none (by rw [← HN.out]; omega)]))
            clear HU hdg
            rcases hnm with rfl | rfl
            all_goals
              clear h32
              go_wp2_with fail
              go_ret2
              exact HPO.out
        · have h955 : ((r : Int) == 955) = false := by simp; omega
          have h960 : ((r : Int) == 960) = false := by simp; omega
          have HU2 := Lib.hid (show tokR s = (if knownB (r : Int) = true then tokAt L f' (i + 1) (ts ++ [⟨(r : Int), 0, 0⟩]) else none) from by rw [HU.out]; simp only [h32, hdg, hnm, if_false])
          have hnd : ((48 : Int) ≤ (r : Int) ∧ decide ((r : Int) ≤ 57) = false) ∨ decide ((48 : Int) ≤ (r : Int)) = false := by
            by_cases h : 48 ≤ r
            · exact .inl ⟨by omega, by simp; omega⟩
            · exact .inr (by simp; omega)
          clear HU hdg hnm h32
          rcases hnd with ⟨h48, h57⟩ | h48
          all_goals
            go_wp2_with fail
            refine (known_any (r : Int) wr).mono ?_
            rintro e w3 ⟨rfl, hc3⟩
            have HC3 := Lib.hid (HCr.out.new hc3)
            have HO3 := Lib.hid (rown_keep HO.out hc3)
            have HB3 := Lib.hid (show B ≤ w3.heap.size from by rw [HB.out]; exact HC3.out.size)
            clear hc3
            by_cases hk : knownB (r : Int) = true
            · have HT2 := Lib.hid (show tokR s = tokAt L f' (i + 1) (ts ++ [⟨(r : Int), 0, 0⟩]) from by rw [HU2.out, if_pos hk])
              rw [hk]
              clear hk
              go_wp2_with (at_builtin
                           refine wpList_append_own _ rfl (.tmp 117) (.tmp 120) _ rfl B 110 i0 _ 3 24 Tryz.underlying90 hi0 hz0 hz1 hz2 rfl (by decide) _ ts.length (tkCs ts) rfl (rown_keep HO3.out ((Chg.refl [] w3).alloc _)) ⟨w3.heap.size, 0, none⟩ 1 1 [.int .i32 (r : Int), .int .i64 0, .int .i32 0] rfl rfl (cells_page _ _ _) (by simp [Value.oneCell']) (by simp only [maxLen]; omega) (by omega) (by have := HB3.out; simp; omega) ?_
                           intro v' w6 ho6 hg6 _
                           have HO6 := Lib.hid ho6
                           have HG6 := Lib.hid hg6
                           clear ho6 hg6)
              have HC6 := Lib.hid (show Chg [] w1 w6 from chg_grown2 (HC3.out.alloc _) HG6.out (fun g hg => by have := ((rown_keep HO3.out ((Chg.refl [] w3).alloc (.cells #[.int .i32 (r : Int), .int .i64 0, .int .i32 0] 110))).lt g hg).1; have := HB.out; omega))
              go_roundw
              case rel => exact ⟨i + 1, by omega, by go_num, ⟨ts ++ [⟨(r : Int), 0, 0⟩], f', by rw [List.length_append, tkCs_app, tkCs_one]; exact HO6.out, by simp; omega, by omega, HT2⟩, HC6⟩
              case measure => simp [intOf]; omega
            · have hkf : knownB (r : Int) = false := by simpa using hk
              have HPO := Lib.hid (HNO.out w3 (HC1.out.new HC3.out) (by rw [HU2.out, if_neg hk]))
              rw [hkf]
              clear hk hkf
              go_wp2_with fail
              go_ret2
              exact HPO.out
    · have hltI : ¬ (i : Int) < (n : Int) := by omega
      have HZ := Lib.hid (show tokR s = some ts from by
        rw [HTi.out]
        cases f with
        | zero => rfl
        | succ f => rw [tokAt, List.getElem?_eq_none (by rw [← HN.out]; omega)])
      obtain ⟨B0, hB0⟩ : ∃ b, b = w.heap.size := ⟨_, rfl⟩
      have HOW := Lib.hid (own_more_n HO.out (show w.heap.size ≤ B from by rw [HB.out]; exact HC1.out.size))
      have HPO := Lib.hid (show TokPost s w (.returned (.tuple #[u5, .int .i64 0])) wr from ⟨HCW.out, .inl ⟨ts, _, HZ.out, by omega, rfl, HOW.out⟩⟩)
      clear hB0
      go_wp2_with fail
      go_ret2
      exact HPO.out
end
end Go.Proofs.YtbkfhndmeljlcaaGreatDoor
