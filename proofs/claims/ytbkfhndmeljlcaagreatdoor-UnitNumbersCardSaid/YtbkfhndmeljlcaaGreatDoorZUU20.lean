/-
  UU: NestRefA.
-/
import Derived.Test.YtbkfhndmeljlcaaGreatDoorZUU19
namespace Go.Proofs.YtbkfhndmeljlcaaGreatDoor
open Go.RowKit
/-- What the reference answers. -/
def RefPost (n : Nat) (r : Option (List Int × Nat)) (W : World) (e : Ending) (w' : World) : Prop :=
  Chg [] W w' ∧ ((∃ t d g, r = some (t, d) ∧ t.length = n ∧ e = .returned (.tuple #[.slice (some ⟨g, 0, none⟩) n n, .int .i64 (d : Int), .int .i64 0]) ∧ Whole w' g 3 (nms t)) ∨
    (r = none ∧ e = .returned (.tuple #[.slice none 0 0, .int .i64 (-1), .int .i64 13])))
section
variable {W : World} {A : Option Addr} {n c : Nat} {l : List TkV}
set_option maxHeartbeats 8000000 in
set_option maxRecDepth 100000 in
theorem rnest_any (h : Tks W A n c l) : Calls Tryz.prog 64 #[.slice A n c] W (RefPost n (rNest (signs l)) W) := by
  obtain ⟨i0, hi0, hz0, hz1, hz2⟩ := info_parts info_int
  have hmax := h.max
  have hmk := fun W : World => make_ints W n hmax
  have H := Lib.hid h
  have hsl : (signs l).length = n := by unfold signs; rw [List.length_map]; exact h.len
  have HSL := Lib.hid hsl
  clear h hsl
  go_enter Tryz.func64, Tryz.ntmps64
  go_upto_region 2 with fail
  have hT := Whole.new W 3 (nms (List.replicate n 0))
  have hc1 : Chg [] W (W.alloc (.cells (nms (List.replicate n 0)).toArray 3)) := (Chg.refl [] W).alloc _
  obtain ⟨gt, hgt⟩ : ∃ g, g = W.heap.size := ⟨_, rfl⟩
  have hsz : (W.alloc (.cells (nms (List.replicate n 0)).toArray 3)).heap.size = gt + 1 := by rw [hgt]; simp
  rw [← hgt] at hT ⊢
  generalize W.alloc (.cells (nms (List.replicate n 0)).toArray 3) = w1 at hT hc1 hsz ⊢
  have HM0 := Lib.hid (show Rt w1 gt (gt + 1) n ⟨List.replicate (signs l).length 0, 0, []⟩ (.slice none 0 0) from
    ⟨by rw [HSL.out]; exact hT, by rw [List.length_replicate]; exact HSL.out, World.ownsRow_nil _ _ _ _, by omega, by simp, by simp, fun x hx => (by cases hx), hmax, by omega⟩)
  have HC1 := Lib.hid hc1
  have HGT := Lib.hid hgt
  clear hT hc1 hsz hgt hmk
  go_wp2_with fail
  go_loopw [6, 7, 8, 15] (fun vo d _ s wr => ∃ k : Nat, k ≤ n ∧ s = .int .i64 (k : Int) ∧ (∃ m, d = .int .i64 (m.deep : Int) ∧ Hid (Rt wr gt (gt + 1) n m vo) ∧ Hid (rRun (signs l) 0 (signs l) ⟨List.replicate (signs l).length 0, 0, []⟩ = rRun (signs l) k ((signs l).drop k) m)) ∧ Hid (Chg [] W wr)) (fun _ _ _ s _ => n - (intOf s).toNat)
  case atStart => exact ⟨0, Nat.zero_le _, rfl, ⟨_, rfl, HM0, Lib.hid rfl⟩, HC1⟩
  case round =>
    obtain ⟨k, hk, rfl, ⟨m, rfl, HM, HRUN⟩, HCr⟩ := hrel
    by_cases hlt : k < n
    · have hltI : (k : Int) < (n : Int) := by omega
      have hk0 : (0 : Int) ≤ (k : Int) := by omega
      have hkb : (k : Int) ≤ 100000 := by omega
      have hkt : k < m.tO.length := by rw [HM.out.len]; exact hlt
      have t0 : wr.cell? ⟨gt, k, none⟩ = some (.int .i64 (m.tO[k]'hkt)) := (HM.out.to_.cell k).trans (nms_get _ _ hkt)
      have f0 := HM.out.to_.frozen k
      go_upto_region 8 with fail
      have HM4 := Lib.hid (HM.out.poke k (-1))
      have HC4 := Lib.hid (show Chg [] W (wr.setCell ⟨gt, k, none⟩ (.int .i64 (-1))) from HCr.out.setCell (fun h => absurd h (by have := HGT.out; simp only; omega)) _)
      obtain ⟨mt, md, mo⟩ := m
      simp only at HM4 ⊢
      generalize wr.setCell ⟨gt, k, none⟩ (.int .i64 (-1)) = w4 at HM4 HC4 ⊢
      clear t0 f0 hkt
      have hkl : k < (signs l).length := by rw [HSL.out]; exact hlt
      obtain ⟨b, o, rfl, hb, t0⟩ := (H.out.keep HC4.out).sign (List.getElem?_eq_getElem hkl)
      have HSK := Lib.hid (show (signs l)[k]? = some (signs l)[k] from List.getElem?_eq_getElem hkl)
      have HS := Lib.hid (show (signs l).drop k = (signs l)[k] :: (signs l).drop (k + 1) from List.drop_eq_getElem_cons hkl)
      generalize (signs l)[k]'hkl = s at t0 HS HSK
      have HNX := Lib.hid (show ∀ m', rTake (signs l) k s ⟨mt.set k (-1), md, mo⟩ = some m' → rRun (signs l) 0 (signs l) ⟨List.replicate (signs l).length 0, 0, []⟩ = rRun (signs l) (k + 1) ((signs l).drop (k + 1)) m' from fun m' hm => by rw [HRUN.out, HS.out, rRun, hm]; rfl)
      have HNO := Lib.hid (show rTake (signs l) k s ⟨mt.set k (-1), md, mo⟩ = none → rNest (signs l) = none from fun hm => by unfold rNest; rw [HRUN.out, HS.out, rRun, hm]; rfl)
      have HSG := Lib.hid (show ∀ (W' : World), Chg [] w4 W' → ∀ (j : Nat) (s' : Int), (signs l)[j]? = some s' → W'.cell? ⟨b, o + j * 3, none⟩ = some (.int .i32 s') from fun W' hW j s' hj => by
        obtain ⟨b', o', e, _, h⟩ := ((H.out.keep HC4.out).keep hW).sign hj
        injection e with e
        injection e with e1 e2
        subst e1 e2
        exact h)
      have hb1 := hb
      clear hkl
      have hfew := HM4.out.few
      have hdeep := HM4.out.deep
      simp only at hfew hdeep
      by_cases h63 : s = 63
      · subst h63
        obtain ⟨q, hq⟩ : ∃ q, q = mo.length := ⟨_, rfl⟩
        have HQ := Lib.hid hq
        rw [← hq] at hfew
        obtain ⟨Ao, co, e, _⟩ := own_slice HM4.out.own
        simp only at e
        rw [← hq] at e
        subst e
        have HAL := Lib.hid (show Chg [] w4 (w4.alloc (.cells #[.int .i64 (k : Int)] 3)) from (Chg.refl [] w4).alloc _)
        have HO1 := Lib.hid (show (w4.alloc (.cells #[.int .i64 (k : Int)] 3)).ownsRow (gt + 1) 3 1 (.slice Ao q co) q (nts mo.reverse) from by
          have h := own_keep HM4.out.own HAL.out
          simp only at h
          rw [← hq] at h
          exact h)
        have HRM := Lib.hid HM4.out.room
        clear hq
        have hmx : max (md : Int) ((q : Int) + 1) = ((max md (q + 1) : Nat) : Int) := by omega
        by_cases hq16 : q < 16
        · have hle : ¬ (16 : Int) < (q : Int) + 1 := by omega
          go_wp2_with (at_builtin
                       refine wpList_append_own _ rfl (.tmp 29) (.tmp 31) _ rfl (gt + 1) 3 i0 _ 1 8 Tryz.underlying26 hi0 hz0 hz1 hz2 rfl (by decide) (.slice Ao q co) q (nts mo.reverse) rfl HO1.out ⟨w4.heap.size, 0, none⟩ 1 1 [.int .i64 (k : Int)] rfl rfl (cells_page _ _ _) (by simp [Value.oneCell']) (by simp only [maxLen]; omega) (by omega) (by have := HRM.out; simp; omega) ?_
                       intro v' w6 ho6 hg6 _
                       obtain ⟨A6, c6, rfl, _⟩ := own_slice ho6
                       have HO6 := Lib.hid ho6
                       have HG6 := Lib.hid hg6
                       clear ho6 hg6)
          have HC6 := Lib.hid (show Chg [] W w6 from (HC4.out.alloc _).own HO1.out (by have := HGT.out; omega) HG6.out)
          have HR6 := Lib.hid (HM4.out.push HAL.out hlt (by simp only; have := HQ.out; omega) (max md (q + 1)) (by omega) (by simp only; rw [← HQ.out]; exact HO6.out) HG6.out)
          have HN6 := Lib.hid (HNX.out ⟨mt.set k (-1), max md (q + 1), k :: mo⟩ (by unfold rTake; rw [if_pos (by decide), if_pos (by simp only; have := HQ.out; omega), ← HQ.out]))
          go_roundw
          case rel => exact ⟨k + 1, by omega, by go_num, ⟨_, by first | rfl | exact congrArg (Value.int .i64) hmx, HR6, HN6⟩, HC6⟩
          case measure => simp [intOf]; omega
        · have hle : (16 : Int) < (q : Int) + 1 := by omega
          go_wp2_with (at_builtin
                       refine wpList_append_own _ rfl (.tmp 29) (.tmp 31) _ rfl (gt + 1) 3 i0 _ 1 8 Tryz.underlying26 hi0 hz0 hz1 hz2 rfl (by decide) (.slice Ao q co) q (nts mo.reverse) rfl HO1.out ⟨w4.heap.size, 0, none⟩ 1 1 [.int .i64 (k : Int)] rfl rfl (cells_page _ _ _) (by simp [Value.oneCell']) (by simp only [maxLen]; omega) (by omega) (by have := HRM.out; simp; omega) ?_
                       intro v' w6 ho6 hg6 _
                       obtain ⟨A6, c6, rfl, _⟩ := own_slice ho6
                       have HO6 := Lib.hid ho6
                       have HG6 := Lib.hid hg6
                       clear ho6 hg6)
          have HC6 := Lib.hid (show Chg [] W w6 from (HC4.out.alloc _).own HO1.out (by have := HGT.out; omega) HG6.out)
          have HPO := Lib.hid (show RefPost n (rNest (signs l)) W (.returned (.tuple #[.slice none 0 0, .int .i64 (-1), .int .i64 13])) w6 from ⟨HC6.out, .inr ⟨HNO.out (by unfold rTake; rw [if_pos (by decide), if_neg (by simp only; have := HQ.out; omega)]), rfl⟩⟩)
          go_ret3
          exact HPO.out
      by_cases h91 : s = 91
      · subst h91
        obtain ⟨q, hq⟩ : ∃ q, q = mo.length := ⟨_, rfl⟩
        have HQ := Lib.hid hq
        rw [← hq] at hfew
        obtain ⟨Ao, co, e, _⟩ := own_slice HM4.out.own
        simp only at e
        rw [← hq] at e
        subst e
        have HAL := Lib.hid (show Chg [] w4 (w4.alloc (.cells #[.int .i64 (k : Int)] 3)) from (Chg.refl [] w4).alloc _)
        have HO1 := Lib.hid (show (w4.alloc (.cells #[.int .i64 (k : Int)] 3)).ownsRow (gt + 1) 3 1 (.slice Ao q co) q (nts mo.reverse) from by
          have h := own_keep HM4.out.own HAL.out
          simp only at h
          rw [← hq] at h
          exact h)
        have HRM := Lib.hid HM4.out.room
        clear hq
        have hmx : max (md : Int) ((q : Int) + 1) = ((max md (q + 1) : Nat) : Int) := by omega
        by_cases hq16 : q < 16
        · have hle : ¬ (16 : Int) < (q : Int) + 1 := by omega
          go_wp2_with (at_builtin
                       refine wpList_append_own _ rfl (.tmp 29) (.tmp 31) _ rfl (gt + 1) 3 i0 _ 1 8 Tryz.underlying26 hi0 hz0 hz1 hz2 rfl (by decide) (.slice Ao q co) q (nts mo.reverse) rfl HO1.out ⟨w4.heap.size, 0, none⟩ 1 1 [.int .i64 (k : Int)] rfl rfl (cells_page _ _ _) (by simp [Value.oneCell']) (by simp only [maxLen]; omega) (by omega) (by have := HRM.out; simp; omega) ?_
                       intro v' w6 ho6 hg6 _
                       obtain ⟨A6, c6, rfl, _⟩ := own_slice ho6
                       have HO6 := Lib.hid ho6
                       have HG6 := Lib.hid hg6
                       clear ho6 hg6)
          have HC6 := Lib.hid (show Chg [] W w6 from (HC4.out.alloc _).own HO1.out (by have := HGT.out; omega) HG6.out)
          have HR6 := Lib.hid (HM4.out.push HAL.out hlt (by simp only; have := HQ.out; omega) (max md (q + 1)) (by omega) (by simp only; rw [← HQ.out]; exact HO6.out) HG6.out)
          have HN6 := Lib.hid (HNX.out ⟨mt.set k (-1), max md (q + 1), k :: mo⟩ (by unfold rTake; rw [if_pos (by decide), if_pos (by simp only; have := HQ.out; omega), ← HQ.out]))
          go_roundw
          case rel => exact ⟨k + 1, by omega, by go_num, ⟨_, by first | rfl | exact congrArg (Value.int .i64) hmx, HR6, HN6⟩, HC6⟩
          case measure => simp [intOf]; omega
        · have hle : (16 : Int) < (q : Int) + 1 := by omega
          go_wp2_with (at_builtin
                       refine wpList_append_own _ rfl (.tmp 29) (.tmp 31) _ rfl (gt + 1) 3 i0 _ 1 8 Tryz.underlying26 hi0 hz0 hz1 hz2 rfl (by decide) (.slice Ao q co) q (nts mo.reverse) rfl HO1.out ⟨w4.heap.size, 0, none⟩ 1 1 [.int .i64 (k : Int)] rfl rfl (cells_page _ _ _) (by simp [Value.oneCell']) (by simp only [maxLen]; omega) (by omega) (by have := HRM.out; simp; omega) ?_
                       intro v' w6 ho6 hg6 _
                       obtain ⟨A6, c6, rfl, _⟩ := own_slice ho6
                       have HO6 := Lib.hid ho6
                       have HG6 := Lib.hid hg6
                       clear ho6 hg6)
          have HC6 := Lib.hid (show Chg [] W w6 from (HC4.out.alloc _).own HO1.out (by have := HGT.out; omega) HG6.out)
          have HPO := Lib.hid (show RefPost n (rNest (signs l)) W (.returned (.tuple #[.slice none 0 0, .int .i64 (-1), .int .i64 13])) w6 from ⟨HC6.out, .inr ⟨HNO.out (by unfold rTake; rw [if_pos (by decide), if_neg (by simp only; have := HQ.out; omega)]), rfl⟩⟩)
          go_ret3
          exact HPO.out
      by_cases h58 : s = 58
      · subst h58
        rcases mo with _ | ⟨p, r⟩
        · obtain ⟨Ao, co, rfl, _⟩ := own_slice HM4.out.own
          simp only [List.length_nil]
          have HPO := Lib.hid (show RefPost n (rNest (signs l)) W (.returned (.tuple #[.slice none 0 0, .int .i64 (-1), .int .i64 13])) w4 from ⟨HC4.out, .inr ⟨HNO.out (by unfold rTake; rw [if_neg (by decide), if_pos rfl]), rfl⟩⟩)
          go_wp2_with fail
          go_ret3
          exact HPO.out
        · obtain ⟨g6, c6, rfl, hc6, k6, f6, hB6, hlt6, hpn, hr16⟩ := HM4.out.top (p := p) (r := r) rfl
          obtain ⟨sp, hsp⟩ : ∃ sp, (signs l)[p]? = some sp := ⟨_, List.getElem?_eq_getElem (by rw [HSL.out]; exact hpn)⟩
          have HSP := Lib.hid hsp
          have t1 := HSG.out w4 (Chg.refl _ _) p sp hsp
          clear hsp
          have hp0 : (0 : Int) ≤ (p : Int) := by omega
          have hp1 : (p : Int) < (n : Int) := by omega
          obtain ⟨q, hq⟩ : ∃ q, q = r.length := ⟨_, rfl⟩
          have HQ := Lib.hid hq
          rw [← hq] at hc6 k6 f6 hr16
          have hsub : IntKind.i64.wrap (((q + 1 : Nat) : Int) - 1) = (q : Int) := by rw [IntWalk.i64_in _ (by omega)]; omega
          have hq0 : (0 : Int) ≤ (q : Int) := by omega
          have hq1 : (q : Int) < ((q + 1 : Nat) : Int) := by omega
          have hq2 : (q : Int) ≤ (c6 : Int) := by omega
          have hqt : (q : Int).toNat = q := Int.toNat_natCast _
          have hne : (((q + 1 : Nat) : Int) == 0) = false := by simp; omega
          have hkw : IntKind.i64.wrap ((k : Int) + 1) = (k : Int) + 1 := IntWalk.i64_in _ (by omega)
          have hrq : r.length = q := hq.symm
          rw [hrq]
          clear hq hrq
          by_cases hsp : sp = 63
          · subst hsp
            have hjt : p < (mt.set k (-1)).length := by rw [HM4.out.len]; omega
            have t2 : w4.cell? ⟨gt, p, none⟩ = some (.int .i64 ((mt.set k (-1))[p]'hjt)) := (HM4.out.to_.cell p).trans (nms_get _ _ hjt)
            have f2 := HM4.out.to_.frozen p
            go_upto_region 19 with fail
            have HM5 := Lib.hid (HM4.out.poke p ((k : Int) + 1))
            have HC5 := Lib.hid (show Chg [] W (w4.setCell ⟨gt, p, none⟩ (.int .i64 ((k : Int) + 1))) from HC4.out.setCell (fun h => absurd h (by have := HGT.out; simp only; omega)) _)
            simp only at HM5
            generalize w4.setCell ⟨gt, p, none⟩ (.int .i64 ((k : Int) + 1)) = w5 at HM5 HC5 ⊢
            clear t2 f2 hjt k6 f6
            obtain ⟨g7, c7, e, hc7, k7, f7, hB7, hlt7, _, _⟩ := HM5.out.top (p := p) (r := r) rfl
            injection e with e _ e3
            injection e with e
            injection e with e
            subst e e3
            rw [← HQ.out] at k7 f7
            have HM6 := Lib.hid (HM5.out.waits (p := p) (r := r) rfl rfl k hlt)
            rw [← HQ.out] at HM6
            simp only at HM6
            have HC6 := Lib.hid (show Chg [] W (w5.setCell ⟨g6, q, none⟩ (.int .i64 (k : Int))) from HC5.out.setCell (fun h => absurd h (by have := HGT.out; simp only; omega)) _)
            have HN6 := Lib.hid (HNX.out ⟨(mt.set k (-1)).set p ((k : Int) + 1), md, k :: r⟩ (by unfold rTake; rw [if_neg (by decide), if_pos rfl]; simp only; rw [if_pos HSP.out]))
            go_wp2_with fail
            go_roundw
            case rel => exact ⟨k + 1, by omega, by go_num, ⟨_, rfl, HM6, HN6⟩, HC6⟩
            case measure => simp [intOf]; omega
          · have hspd : (sp != 63) = true := by simpa using hsp
            have HPO := Lib.hid (show RefPost n (rNest (signs l)) W (.returned (.tuple #[.slice none 0 0, .int .i64 (-1), .int .i64 13])) w4 from ⟨HC4.out, .inr ⟨HNO.out (by unfold rTake; rw [if_neg (by decide), if_pos rfl]; simp only; rw [if_neg (fun hc => hsp (by rw [HSP.out] at hc; injection hc))]), rfl⟩⟩)
            go_wp2_with fail
            go_ret3
            exact HPO.out
      by_cases h59 : s = 59
      · subst h59
        rcases mo with _ | ⟨p, r⟩
        · obtain ⟨Ao, co, rfl, _⟩ := own_slice HM4.out.own
          simp only [List.length_nil]
          have HPO := Lib.hid (show RefPost n (rNest (signs l)) W (.returned (.tuple #[.slice none 0 0, .int .i64 (-1), .int .i64 13])) w4 from ⟨HC4.out, .inr ⟨HNO.out (by unfold rTake; rw [if_neg (by decide), if_neg (by decide), if_pos rfl]), rfl⟩⟩)
          go_wp2_with fail
          go_ret3
          exact HPO.out
        · obtain ⟨g6, c6, rfl, hc6, k6, f6, hB6, hlt6, hpn, hr16⟩ := HM4.out.top (p := p) (r := r) rfl
          obtain ⟨sp, hsp⟩ : ∃ sp, (signs l)[p]? = some sp := ⟨_, List.getElem?_eq_getElem (by rw [HSL.out]; exact hpn)⟩
          have HSP := Lib.hid hsp
          have t1 := HSG.out w4 (Chg.refl _ _) p sp hsp
          clear hsp
          have hp0 : (0 : Int) ≤ (p : Int) := by omega
          have hp1 : (p : Int) < (n : Int) := by omega
          obtain ⟨q, hq⟩ : ∃ q, q = r.length := ⟨_, rfl⟩
          have HQ := Lib.hid hq
          rw [← hq] at hc6 k6 f6 hr16
          have hsub : IntKind.i64.wrap (((q + 1 : Nat) : Int) - 1) = (q : Int) := by rw [IntWalk.i64_in _ (by omega)]; omega
          have hq0 : (0 : Int) ≤ (q : Int) := by omega
          have hq1 : (q : Int) < ((q + 1 : Nat) : Int) := by omega
          have hq2 : (q : Int) ≤ (c6 : Int) := by omega
          have hqt : (q : Int).toNat = q := Int.toNat_natCast _
          have hne : (((q + 1 : Nat) : Int) == 0) = false := by simp; omega
          have hkw : IntKind.i64.wrap ((k : Int) + 1) = (k : Int) + 1 := IntWalk.i64_in _ (by omega)
          have hrq : r.length = q := hq.symm
          rw [hrq]
          clear hq hrq
          by_cases hsp : sp = 91
          · subst hsp
            have HPO := Lib.hid (show RefPost n (rNest (signs l)) W (.returned (.tuple #[.slice none 0 0, .int .i64 (-1), .int .i64 13])) w4 from ⟨HC4.out, .inr ⟨HNO.out (by unfold rTake; rw [if_neg (by decide), if_neg (by decide), if_pos rfl]; simp only; rw [if_pos HSP.out]), rfl⟩⟩)
            go_wp2_with fail
            go_ret3
            exact HPO.out
          · have hspd : (sp == 91) = false := by simpa using hsp
            have hjt : p < (mt.set k (-1)).length := by rw [HM4.out.len]; omega
            have t2 : w4.cell? ⟨gt, p, none⟩ = some (.int .i64 ((mt.set k (-1))[p]'hjt)) := (HM4.out.to_.cell p).trans (nms_get _ _ hjt)
            have f2 := HM4.out.to_.frozen p
            go_upto_region 24 with fail
            have HM5 := Lib.hid (HM4.out.poke p ((k : Int)))
            have HC5 := Lib.hid (show Chg [] W (w4.setCell ⟨gt, p, none⟩ (.int .i64 ((k : Int)))) from HC4.out.setCell (fun h => absurd h (by have := HGT.out; simp only; omega)) _)
            simp only at HM5
            generalize w4.setCell ⟨gt, p, none⟩ (.int .i64 ((k : Int))) = w5 at HM5 HC5 ⊢
            clear t2 f2 hjt k6 f6
            have HM6 := Lib.hid (HM5.out.drop (p := p) (r := r) rfl (by rw [← HQ.out]))
            rw [← HQ.out] at HM6
            simp only at HM6
            have HN6 := Lib.hid (HNX.out ⟨(mt.set k (-1)).set p (k : Int), md, r⟩ (by unfold rTake; rw [if_neg (by decide), if_neg (by decide), if_pos rfl]; simp only; rw [if_neg (fun hc => hsp (by rw [HSP.out] at hc; injection hc))]))
            go_wp2_with fail
            go_roundw
            case rel => exact ⟨k + 1, by omega, by go_num, ⟨_, rfl, HM6, HN6⟩, HC5⟩
            case measure => simp [intOf]; omega
      by_cases h93 : s = 93
      · subst h93
        rcases mo with _ | ⟨p, r⟩
        · obtain ⟨Ao, co, rfl, _⟩ := own_slice HM4.out.own
          simp only [List.length_nil]
          have HPO := Lib.hid (show RefPost n (rNest (signs l)) W (.returned (.tuple #[.slice none 0 0, .int .i64 (-1), .int .i64 13])) w4 from ⟨HC4.out, .inr ⟨HNO.out (by unfold rTake; rw [if_neg (by decide), if_neg (by decide), if_neg (by decide), if_pos rfl]), rfl⟩⟩)
          go_wp2_with fail
          go_ret3
          exact HPO.out
        · obtain ⟨g6, c6, rfl, hc6, k6, f6, hB6, hlt6, hpn, hr16⟩ := HM4.out.top (p := p) (r := r) rfl
          obtain ⟨sp, hsp⟩ : ∃ sp, (signs l)[p]? = some sp := ⟨_, List.getElem?_eq_getElem (by rw [HSL.out]; exact hpn)⟩
          have HSP := Lib.hid hsp
          have t1 := HSG.out w4 (Chg.refl _ _) p sp hsp
          clear hsp
          have hp0 : (0 : Int) ≤ (p : Int) := by omega
          have hp1 : (p : Int) < (n : Int) := by omega
          obtain ⟨q, hq⟩ : ∃ q, q = r.length := ⟨_, rfl⟩
          have HQ := Lib.hid hq
          rw [← hq] at hc6 k6 f6 hr16
          have hsub : IntKind.i64.wrap (((q + 1 : Nat) : Int) - 1) = (q : Int) := by rw [IntWalk.i64_in _ (by omega)]; omega
          have hq0 : (0 : Int) ≤ (q : Int) := by omega
          have hq1 : (q : Int) < ((q + 1 : Nat) : Int) := by omega
          have hq2 : (q : Int) ≤ (c6 : Int) := by omega
          have hqt : (q : Int).toNat = q := Int.toNat_natCast _
          have hne : (((q + 1 : Nat) : Int) == 0) = false := by simp; omega
          have hkw : IntKind.i64.wrap ((k : Int) + 1) = (k : Int) + 1 := IntWalk.i64_in _ (by omega)
          have hrq : r.length = q := hq.symm
          rw [hrq]
          clear hq hrq
          by_cases hsp : sp = 91
          · subst hsp
            have hjt : k < (mt.set k (-1)).length := by rw [HM4.out.len]; omega
            have t2 : w4.cell? ⟨gt, k, none⟩ = some (.int .i64 ((mt.set k (-1))[k]'hjt)) := (HM4.out.to_.cell k).trans (nms_get _ _ hjt)
            have f2 := HM4.out.to_.frozen k
            go_upto_region 29 with fail
            have HM5 := Lib.hid (HM4.out.poke k ((p : Int)))
            have HC5 := Lib.hid (show Chg [] W (w4.setCell ⟨gt, k, none⟩ (.int .i64 ((p : Int)))) from HC4.out.setCell (fun h => absurd h (by have := HGT.out; simp only; omega)) _)
            simp only at HM5
            generalize w4.setCell ⟨gt, k, none⟩ (.int .i64 ((p : Int))) = w5 at HM5 HC5 ⊢
            clear t2 f2 hjt k6 f6
            have HM6 := Lib.hid (HM5.out.drop (p := p) (r := r) rfl (by rw [← HQ.out]))
            rw [← HQ.out] at HM6
            simp only at HM6
            have HN6 := Lib.hid (HNX.out ⟨(mt.set k (-1)).set k (p : Int), md, r⟩ (by unfold rTake; rw [if_neg (by decide), if_neg (by decide), if_neg (by decide), if_pos rfl]; simp only; rw [if_pos HSP.out]))
            go_wp2_with fail
            go_roundw
            case rel => exact ⟨k + 1, by omega, by go_num, ⟨_, rfl, HM6, HN6⟩, HC5⟩
            case measure => simp [intOf]; omega
          · have hspd : (sp != 91) = true := by simpa using hsp
            have HPO := Lib.hid (show RefPost n (rNest (signs l)) W (.returned (.tuple #[.slice none 0 0, .int .i64 (-1), .int .i64 13])) w4 from ⟨HC4.out, .inr ⟨HNO.out (by unfold rTake; rw [if_neg (by decide), if_neg (by decide), if_neg (by decide), if_pos rfl]; simp only; rw [if_neg (fun hc => hsp (by rw [HSP.out] at hc; injection hc))]), rfl⟩⟩)
            go_wp2_with fail
            go_ret3
            exact HPO.out
      have k1 : (s == 63) = false := by simpa using h63
      have k2 : (s == 91) = false := by simpa using h91
      have k3 : (s == 58) = false := by simpa using h58
      have k4 : (s == 59) = false := by simpa using h59
      have k5 : (s == 93) = false := by simpa using h93
      have HN6 := Lib.hid (HNX.out ⟨mt.set k (-1), md, mo⟩ (by unfold rTake; rw [if_neg (by simp [h63, h91]), if_neg h58, if_neg h59, if_neg h93]))
      clear h63 h91 h58 h59 h93
      go_wp2_with fail
      go_roundw
      case rel => exact ⟨k + 1, by omega, by go_num, ⟨_, rfl, HM4, HN6⟩, HC4⟩
      case measure => simp [intOf]; omega
    · have hltI : ¬ (k : Int) < (n : Int) := by omega
      have HR5 := Lib.hid (show rRun (signs l) 0 (signs l) ⟨List.replicate (signs l).length 0, 0, []⟩ = some m from by rw [HRUN.out, List.drop_eq_nil_of_le (by rw [HSL.out]; omega)]; rfl)
      obtain ⟨Ao, co, rfl, _⟩ := own_slice HM.out.own
      obtain ⟨q, hq⟩ : ∃ q, q = m.op.length := ⟨_, rfl⟩
      have HQ := Lib.hid hq
      have hqe : m.op.length = q := hq.symm
      rw [hqe]
      clear hq hqe
      by_cases h0 : 0 < q
      · have h0I : (0 : Int) < (q : Int) := by omega
        have HPO := Lib.hid (show RefPost n (rNest (signs l)) W (.returned (.tuple #[.slice none 0 0, .int .i64 (-1), .int .i64 13])) wr from ⟨HCr.out, .inr ⟨by
          unfold rNest
          rw [HR5.out]
          show (if m.op = [] then _ else none) = none
          rw [if_neg (fun e => by have := HQ.out; rw [e] at this; simp at this; omega)], rfl⟩⟩)
        go_wp2_with fail
        go_ret3
        exact HPO.out
      · have h0I : ¬ (0 : Int) < (q : Int) := by omega
        have HOP := Lib.hid (show m.op = [] from List.eq_nil_of_length_eq_zero (by have := HQ.out; omega))
        have HRN := Lib.hid (show rNest (signs l) = (fillR (signs l) 0 (signs l) m.tO).map fun t => (t, m.deep) from by
          unfold rNest
          rw [HR5.out]
          show (if m.op = [] then _ else none) = _
          rw [if_pos HOP.out])
        have HTO := Lib.hid HM.out.to_
        have HLE := Lib.hid HM.out.len
        obtain ⟨mt, md, mo⟩ := m
        simp only at HTO HLE HRN ⊢
        go_wp2_with fail
        go_loopw [9, 144] (fun _ s wx => ∃ k : Nat, k ≤ n ∧ s = .int .i64 (k : Int) ∧ (∃ t, t.length = n ∧ Hid (Whole wx gt 3 (nms t)) ∧ Hid (fillR (signs l) 0 (signs l) mt = fillR (signs l) k ((signs l).drop k) t)) ∧ Hid (Chg [] W wx)) (fun _ s _ => n - (intOf s).toNat)
        case atStart => exact ⟨0, Nat.zero_le _, rfl, ⟨_, HLE.out, HTO, Lib.hid rfl⟩, HCr⟩
        case round =>
          obtain ⟨k, hk, rfl, ⟨t, htl, HT, HF⟩, HCx⟩ := hrel
          have HTL := Lib.hid htl
          clear htl
          by_cases hlt2 : k < n
          · have hltI : (k : Int) < (n : Int) := by omega
            have hk0 : (0 : Int) ≤ (k : Int) := by omega
            have hkl : k < (signs l).length := by rw [HSL.out]; exact hlt2
            obtain ⟨b, o, rfl, hb, t0⟩ := (H.out.keep HCx.out).sign (List.getElem?_eq_getElem hkl)
            have HS := Lib.hid (show (signs l).drop k = (signs l)[k] :: (signs l).drop (k + 1) from List.drop_eq_getElem_cons hkl)
            generalize (signs l)[k]'hkl = s at t0 HS
            clear hkl
            by_cases hs : s = 126
            · subst hs
              obtain ⟨v, hv⟩ : ∃ v, v = leavesV (signs l) t k (n - k) k := ⟨_, rfl⟩
              have HV := Lib.hid (show v = leavesV (signs l) t k ((signs l).length - k) k from by rw [HSL.out]; exact hv)
              have hkt : k < t.length := by rw [HTL.out]; exact hlt2
              have t2 : wr.cell? ⟨gt, k, none⟩ = some (.int .i64 (t[k]'hkt)) := (HT.out.cell k).trans (nms_get _ _ hkt)
              have f2 := HT.out.frozen k
              have HLV := Lib.hid (leaves_any (H.out.keep HCx.out) HT.out HTL.out k hlt2)
              have hv' := hv.symm
              have HVV := Lib.hid hv'
              clear hv hv'
              go_upto_region 38 with (go_at_call 96; refine HLV.out.mono ?_; rintro e w' ⟨rfl, rfl⟩; rw [HVV.out])
              have HT3 := Lib.hid (HT.out.set_ k (.int .i64 v))
              rw [nms_set] at HT3
              have HC3 := Lib.hid (show Chg [] W (wr.setCell ⟨gt, k, none⟩ (.int .i64 v)) from HCx.out.setCell (fun h => absurd h (by have := HGT.out; simp only; omega)) _)
              generalize wr.setCell ⟨gt, k, none⟩ (.int .i64 v) = w3 at HT3 HC3 ⊢
              have hl3 : (t.set k v).length = n := by rw [List.length_set]; exact HTL.out
              have t3 : w3.cell? ⟨gt, k, none⟩ = some (.int .i64 v) := (HT3.out.cell k).trans (by rw [nms_get _ _ (by rw [hl3]; exact hlt2), List.getElem_set_self])
              have HL3 := Lib.hid hl3
              clear t2 f2 hl3
              by_cases hneg : v < 0
              · have HPO := Lib.hid (show RefPost n (rNest (signs l)) W (.returned (.tuple #[.slice none 0 0, .int .i64 (-1), .int .i64 13])) w3 from ⟨HC3.out, .inr ⟨by rw [HRN.out, HF.out, HS.out, fillR, if_pos rfl, ← HV.out, if_pos hneg]; rfl, rfl⟩⟩)
                go_wp2_with fail
                go_ret3
                exact HPO.out
              · have HF3 := Lib.hid (show fillR (signs l) 0 (signs l) mt = fillR (signs l) (k + 1) ((signs l).drop (k + 1)) (t.set k v) from by rw [HF.out, HS.out, fillR, if_pos rfl, ← HV.out, if_neg hneg])
                go_wp2_with fail
                go_roundw
                case rel => exact ⟨k + 1, by omega, by go_num, ⟨_, HL3.out, HT3, HF3⟩, HC3⟩
                case measure => simp [intOf]; omega
            · have hsd : (s == 126) = false := by simpa using hs
              have HF3 := Lib.hid (show fillR (signs l) 0 (signs l) mt = fillR (signs l) (k + 1) ((signs l).drop (k + 1)) t from by rw [HF.out, HS.out, fillR, if_neg hs])
              go_wp2_with fail
              go_roundw
              case rel => exact ⟨k + 1, by omega, by go_num, ⟨_, HTL.out, HT, HF3⟩, HCx⟩
              case measure => simp [intOf]; omega
          · have hltI : ¬ (k : Int) < (n : Int) := by omega
            have HPO := Lib.hid (show RefPost n (rNest (signs l)) W (.returned (.tuple #[.slice (some ⟨gt, 0, none⟩) n n, .int .i64 (md : Int), .int .i64 0])) wr from ⟨HCx.out, .inl ⟨t, md, gt, by rw [HRN.out, HF.out, List.drop_eq_nil_of_le (by rw [HSL.out]; omega)]; rfl, HTL.out, rfl, HT.out⟩⟩)
            go_wp2_with fail
            go_ret3
            exact HPO.out
end
end Go.Proofs.YtbkfhndmeljlcaaGreatDoor
