/-
  PB: URead.
-/
import Derived.Test.YtbkfhndmeljlcaaGreatDoorZPB29
import Derived.Test.YtbkfhndmeljlcaaGreatDoorZPB39
namespace Go.Proofs.YtbkfhndmeljlcaaGreatDoor
open Go.RowKit
def RdPost (l : List UInt8) (w : World) (e : Ending) (w' : World) : Prop :=
  (∃ (p m : Nat) (fs : List FnV) (v : Value), parseP l = some (p, m, fs) ∧ e = .returned (.tuple #[.agg #[.int .i64 (p : Int), .int .i64 (m : Int), v], .bool true]) ∧ w'.ownsRow w.heap.size 58 3 v fs.length (fnCs fs) ∧ fs.length ≤ 1000 ∧ (∀ f ∈ fs, 0 ≤ f.args ∧ f.args ≤ 9 ∧ f.code.size ≤ 2048) ∧ Chg [] w w') ∨
  (parseP l = none ∧ e = .returned (.tuple #[.agg #[.int .i64 0, .int .i64 0, .slice none 0 0], .bool false]) ∧ Chg [] w w')
theorem info_fn3 : (Tryz.prog.info? 58).map (fun i => (i.zero, i.size, i.bytes)) = some (some (.agg #[.int .i32 0, .int .i64 0, .string ⟨#[]⟩]), 3, 32) := by kernel_rfl
theorem funcP_ok {s : List UInt8} {f : FnV} (h : funcP s = some f) : 0 ≤ f.args ∧ f.args ≤ 9 ∧ f.code.size ≤ s.length ∧ 2 ≤ s.length := by
  unfold funcP at h
  split at h
  · rename_i x y code he
    split at h
    · rename_i hc
      injection h with h
      subst h
      have hl : (s.drop (Utf8.decode ⟨s.toArray⟩ 0).2).length = (x :: y :: code).length := by rw [he]
      rw [List.length_drop, List.length_cons, List.length_cons] at hl
      have hz : (ByteArray.mk code.toArray).size = code.length := by simp [ByteArray.size]
      refine ⟨by simp only; omega, by simp only; omega, by simp only; omega, by omega⟩
    · cases h
  · cases h
theorem row_str {w : World} {B n : Nat} {v : Value} {L : List (List UInt8)} (h : w.ownsRow B 9 1 v n (strs L)) (hn : 0 < n) : ∃ g c, v = .slice (some ⟨g, 0, none⟩) n c ∧ n ≤ c := by
  rcases h.2 with ⟨rfl, rfl⟩ | ⟨g, cap, cur, rfl, hb, hg, hnc, rest⟩
  · omega
  · exact ⟨g, cap, rfl, hnc⟩
theorem str_at {w : World} {B n g c : Nat} {L : List (List UInt8)} (h : w.ownsRow B 9 1 (.slice (some ⟨g, 0, none⟩) n c) n (strs L)) {j : Nat} {s : List UInt8} (hj : L[j]? = some s) : w.cell? ⟨g, j, none⟩ = some (.string (strOf s)) := by
  have := h.cells rfl j (.string (strOf s)) (by unfold strs; rw [List.getElem?_map, hj]; rfl)
  rwa [add_plain, Nat.zero_add] at this
section
variable {w : World}
set_option maxHeartbeats 8000000 in
set_option maxRecDepth 100000 in
theorem uread_any (l : List UInt8) (hl : l.length ≤ 2048) : Calls Tryz.prog 61 #[.string (strOf l)] w (RdPost l w) := by
  obtain ⟨i0, hi0, hz0, hz1, hz2⟩ := info_parts info_fn3
  have HL := Lib.hid (fun (W : World) => ulines_any (w := W) l (by omega))
  have HP0 := Lib.hid (show parseP l = none → ∀ (wr : World), Chg [] w wr → RdPost l w (.returned (.tuple #[.agg #[.int .i64 0, .int .i64 0, .slice none 0 0], .bool false])) wr from fun hp wr hc => .inr ⟨hp, rfl, hc⟩)
  have HP1 := Lib.hid (show ∀ (p m : Nat) (fs : List FnV) (v : Value) (wr : World), parseP l = some (p, m, fs) → wr.ownsRow w.heap.size 58 3 v fs.length (fnCs fs) → fs.length ≤ 1000 → (∀ f ∈ fs, 0 ≤ f.args ∧ f.args ≤ 9 ∧ f.code.size ≤ 2048) → Chg [] w wr → RdPost l w (.returned (.tuple #[.agg #[.int .i64 (p : Int), .int .i64 (m : Int), v], .bool true])) wr from fun p m fs v wr h1 h2 h3 h4 h5 => .inl ⟨p, m, fs, v, h1, rfl, h2, h3, h4, h5⟩)
  generalize RdPost l w = PO at HP0 HP1 ⊢
  have hsr := split_rest l []
  by_cases hok : linesOk l = true
  · rw [hok] at HL
    unfold linesOk at hok
    simp only [Bool.and_eq_true, decide_eq_true_eq] at hok
    obtain ⟨hpos, hrest⟩ := hok
    obtain ⟨a, T, hLs⟩ : ∃ a T, (splitL l []).1 = a :: T := by
      cases h : (splitL l []).1 with
      | nil => rw [h] at hpos; simp at hpos
      | cons a T => exact ⟨a, T, rfl⟩
    have HPA := Lib.hid (show parseP l = (match headP a with | none => none | some (p, m) => (funcsP T).map fun fs => (p, m, fs)) from by
      unfold parseP
      rw [hLs]
      simp only
      rw [if_pos hrest]
      cases headP a with
      | none => rfl
      | some q => rfl)
    have hsum : a.length + (T.map List.length).sum + (T.length + 1) ≤ 2048 := by
      rw [hLs, hrest] at hsr
      simp only [List.length_nil, List.map_cons, List.sum_cons, List.length_cons] at hsr
      omega
    unfold LinesPost at HL
    rw [hLs] at HL
    have HS := Lib.hid (fun (W : World) => usizes_any (w := W) a (by omega))
    have HSU := Lib.hid hsum
    clear hsr hpos hrest hLs hl
    obtain ⟨S, hS⟩ : ∃ S, S = strOf l := ⟨_, rfl⟩
    rw [← hS] at HL ⊢
    clear hS
    unfold SizesPost sizeV at HS
    obtain ⟨SA, hSA⟩ : ∃ S, S = strOf a := ⟨_, rfl⟩
    have HSA := Lib.hid hSA
    rw [← hSA] at HS
    clear hSA
    obtain ⟨n, hn⟩ : ∃ n, n = (a :: T).length := ⟨_, rfl⟩
    rw [← hn] at HL
    have HN := Lib.hid (show n = T.length + 1 from hn)
    have hn0 : 0 < n := by rw [hn]; simp
    clear hn
    cases hha : headP a with
    | none =>
      rw [hha] at HPA HS
      simp only at HPA HS
      go_enter Tryz.func61, Tryz.ntmps61
      go_upto_region 1 with fail
      have hN := Whole.new w 24 [.int .i64 0, .int .i64 0, .slice none 0 0]
      have hal := (Chg.refl [] w).alloc (.cells #[.int .i64 0, .int .i64 0, .slice none 0 0] 24)
      obtain ⟨g, hg⟩ : ∃ g, g = w.heap.size := ⟨_, rfl⟩
      have hw1s : (w.alloc (.cells #[.int .i64 0, .int .i64 0, .slice none 0 0] 24)).heap.size = g + 1 := by rw [hg]; simp
      rw [← hg] at hN ⊢
      have HG := Lib.hid hN
      have HW1 := Lib.hid hal
      have HGS := Lib.hid hg
      have HGZ := Lib.hid hw1s
      generalize w.alloc (.cells #[.int .i64 0, .int .i64 0, .slice none 0 0] 24) = w1 at HG HW1 HGZ ⊢
      clear hN hal hg hw1s
      go_upto_region 5 with (first
          | (go_at_call 93
             refine (HL.out _).mono ?_
             rintro e w2 ⟨v2, rfl, ho2, hc2⟩
             obtain ⟨gl, cl, rfl, hcl⟩ := row_str ho2 hn0
             have HG2 := Lib.hid (HG.out.keep hc2)
             have HO2 := Lib.hid ho2
             have HW2 := Lib.hid (HW1.out.trans hc2)
             have y0 := str_at ho2 (j := 0) (s := a) rfl
             rw [← HSA.out] at y0
             clear ho2 hc2)
          | (go_at_call 94
             refine (HS.out _).mono ?_
             rintro e w3 ⟨rfl, hc3⟩
             have HG3 := Lib.hid (HG2.out.keep hc3)
             have HW3 := Lib.hid (HW2.out.trans hc3)
             clear hc3))
      have HG4 := Lib.hid (HG3.out.keep ((Chg.refl [] w3).alloc (.cells #[.int .i64 0, .int .i64 0, .slice none 0 0] 24)))
      have HW4 := Lib.hid (HW3.out.alloc (.cells #[.int .i64 0, .int .i64 0, .slice none 0 0] 24))
      generalize w3.heap.size = gu
      generalize w3.alloc (.cells #[.int .i64 0, .int .i64 0, .slice none 0 0] 24) = w4 at HG4 HW4 ⊢
      have z0 := HG4.out.cell 0
      have z1 := HG4.out.cell 1
      have z2 := HG4.out.cell 2
      have f0 := HG4.out.frozen 0
      have f1 := HG4.out.frozen 1
      have f2 := HG4.out.frozen 2
      go_wp2_with fail
      have hnl : ¬ g < w.heap.size := by have := HGS.out; omega
      have HC := ((HW4.out.setCell (p := ⟨g, 0, none⟩) (fun h => absurd h hnl) (.int .i64 0)).setCell (p := ⟨g, 1, none⟩) (fun h => absurd h hnl) (.int .i64 0)).setCell (p := ⟨g, 2, none⟩) (fun h => absurd h hnl) (.slice none 0 0)
      have HSS := ((HG4.out.set_ 0 (.int .i64 0)).set_ 1 (.int .i64 0)).set_ 2 (.slice none 0 0)
      refine bodyPost_ret_by (results_row_tmp (p := 2) (u := 3) (ty := 24) rfl _ _ g 24 [.int .i64 0, .int .i64 0, .slice none 0 0] _ rfl HSS Tryz.underlying24 (by kernel_rfl)) rfl (HP0.out HPA.out _ HC)
    | some pm =>
      obtain ⟨p, m⟩ := pm
      rw [hha] at HPA HS
      simp only at HPA HS
      by_cases hT : T = []
      · subst hT
        obtain rfl : n = 1 := by have := HN.out; simpa using this
        go_enter Tryz.func61, Tryz.ntmps61
        go_upto_region 1 with fail
        have hN := Whole.new w 24 [.int .i64 0, .int .i64 0, .slice none 0 0]
        have hal := (Chg.refl [] w).alloc (.cells #[.int .i64 0, .int .i64 0, .slice none 0 0] 24)
        obtain ⟨g, hg⟩ : ∃ g, g = w.heap.size := ⟨_, rfl⟩
        have hw1s : (w.alloc (.cells #[.int .i64 0, .int .i64 0, .slice none 0 0] 24)).heap.size = g + 1 := by rw [hg]; simp
        rw [← hg] at hN ⊢
        have HG := Lib.hid hN
        have HW1 := Lib.hid hal
        have HGS := Lib.hid hg
        have HGZ := Lib.hid hw1s
        generalize w.alloc (.cells #[.int .i64 0, .int .i64 0, .slice none 0 0] 24) = w1 at HG HW1 HGZ ⊢
        clear hN hal hg hw1s
        go_upto_region 5 with (first
            | (go_at_call 93
               refine (HL.out _).mono ?_
               rintro e w2 ⟨v2, rfl, ho2, hc2⟩
               obtain ⟨gl, cl, rfl, hcl⟩ := row_str ho2 hn0
               have HG2 := Lib.hid (HG.out.keep hc2)
               have HO2 := Lib.hid ho2
               have HW2 := Lib.hid (HW1.out.trans hc2)
               have y0 := str_at ho2 (j := 0) (s := a) rfl
               rw [← HSA.out] at y0
               clear ho2 hc2)
            | (go_at_call 94
               refine (HS.out _).mono ?_
               rintro e w3 ⟨rfl, hc3⟩
               have HG3 := Lib.hid (HG2.out.keep hc3)
               have HO3 := Lib.hid (own_keep HO2.out hc3)
               have HW3 := Lib.hid (HW2.out.trans hc3)
               clear hc3))
        have hN := Whole.new w3 24 [.int .i64 (p : Int), .int .i64 (m : Int), .slice none 0 0]
        have hal := (Chg.refl [] w3).alloc (.cells #[.int .i64 (p : Int), .int .i64 (m : Int), .slice none 0 0] 24)
        have HU4 := Lib.hid hN
        have HG4 := Lib.hid (HG3.out.keep hal)
        have HO4 := Lib.hid (own_keep HO3.out hal)
        have HW4 := Lib.hid (HW3.out.trans hal)
        have hgu : g < w3.heap.size := HG3.out.lt
        clear hN hal y0
        generalize w3.heap.size = gu at HU4 hgu ⊢
        generalize w3.alloc (.cells #[.int .i64 (p : Int), .int .i64 (m : Int), .slice none 0 0] 24) = w4 at HG4 HW4 HU4 HO4 ⊢
        have u0 := HU4.out.cell 0
        have u1 := HU4.out.cell 1
        have u2 := HU4.out.cell 2
        have g0 := HG4.out.cell 0
        have g1 := HG4.out.cell 1
        have g2 := HG4.out.cell 2
        have f0 := HG4.out.frozen 0
        have f1 := HG4.out.frozen 1
        have f2 := HG4.out.frozen 2
        have hnl : ¬ g < w.heap.size := by have := HGS.out; omega
        have HC := ((HW4.out.setCell (p := ⟨g, 0, none⟩) (fun h => absurd h hnl) (.int .i64 (p : Int))).setCell (p := ⟨g, 1, none⟩) (fun h => absurd h hnl) (.int .i64 (m : Int))).setCell (p := ⟨g, 2, none⟩) (fun h => absurd h hnl) (.slice none 0 0)
        have HSS := ((HG4.out.set_ 0 (.int .i64 (p : Int))).set_ 1 (.int .i64 (m : Int))).set_ 2 (.slice none 0 0)
        have HFIN := Lib.hid (HP1.out p m [] (.slice none 0 0) _ (by rw [HPA.out]; rfl) (World.ownsRow_nil _ _ _ _) (by simp) (by simp) HC)
        go_wp2_with fail
        all_goals
          go_loopw [32] (fun i wr => i = .int .i64 0 ∧ wr = w4) (fun _ _ => 0)
          · exact ⟨rfl, rfl⟩
          · obtain ⟨rfl, rfl⟩ := hrel
            go_wp2_with fail
            exact bodyPost_ret_by (results_row_tmp (p := 2) (u := 3) (ty := 24) rfl _ _ g 24 [.int .i64 (p : Int), .int .i64 (m : Int), .slice none 0 0] _ rfl HSS Tryz.underlying24 (by kernel_rfl)) rfl HFIN.out
      · obtain ⟨nt, hnt⟩ : ∃ q, q = T.length := ⟨_, rfl⟩
        have HNT := Lib.hid hnt
        obtain rfl : n = nt + 1 := by rw [hnt]; exact HN.out
        have hnt0 : 0 < nt := by rw [hnt]; exact List.length_pos_iff.2 hT
        clear hnt hT
        go_enter Tryz.func61, Tryz.ntmps61
        go_upto_region 1 with fail
        have hN := Whole.new w 24 [.int .i64 0, .int .i64 0, .slice none 0 0]
        have hal := (Chg.refl [] w).alloc (.cells #[.int .i64 0, .int .i64 0, .slice none 0 0] 24)
        obtain ⟨g, hg⟩ : ∃ g, g = w.heap.size := ⟨_, rfl⟩
        have hw1s : (w.alloc (.cells #[.int .i64 0, .int .i64 0, .slice none 0 0] 24)).heap.size = g + 1 := by rw [hg]; simp
        rw [← hg] at hN ⊢
        have HG := Lib.hid hN
        have HW1 := Lib.hid hal
        have HGS := Lib.hid hg
        have HGZ := Lib.hid hw1s
        generalize w.alloc (.cells #[.int .i64 0, .int .i64 0, .slice none 0 0] 24) = w1 at HG HW1 HGZ ⊢
        clear hN hal hg hw1s
        go_upto_region 5 with (first
            | (go_at_call 93
               refine (HL.out _).mono ?_
               rintro e w2 ⟨v2, rfl, ho2, hc2⟩
               obtain ⟨gl, cl, rfl, hcl⟩ := row_str ho2 hn0
               have HG2 := Lib.hid (HG.out.keep hc2)
               have HO2 := Lib.hid ho2
               have HW2 := Lib.hid (HW1.out.trans hc2)
               have y0 := str_at ho2 (j := 0) (s := a) rfl
               rw [← HSA.out] at y0
               clear ho2 hc2)
            | (go_at_call 94
               refine (HS.out _).mono ?_
               rintro e w3 ⟨rfl, hc3⟩
               have HG3 := Lib.hid (HG2.out.keep hc3)
               have HO3 := Lib.hid (own_keep HO2.out hc3)
               have HW3 := Lib.hid (HW2.out.trans hc3)
               clear hc3))
        have hN := Whole.new w3 24 [.int .i64 (p : Int), .int .i64 (m : Int), .slice none 0 0]
        have hal := (Chg.refl [] w3).alloc (.cells #[.int .i64 (p : Int), .int .i64 (m : Int), .slice none 0 0] 24)
        have HU4 := Lib.hid hN
        have HG4 := Lib.hid (HG3.out.keep hal)
        have HO4 := Lib.hid (own_keep HO3.out hal)
        have HW4 := Lib.hid (HW3.out.trans hal)
        have hgu : g < w3.heap.size := HG3.out.lt
        clear hN hal y0
        generalize w3.heap.size = gu at HU4 hgu ⊢
        generalize w3.alloc (.cells #[.int .i64 (p : Int), .int .i64 (m : Int), .slice none 0 0] 24) = w4 at HG4 HW4 HU4 HO4 ⊢
        have hc1 : ¬ cl = 1 := by omega
        have h1I : (1 : Int) ≤ ((nt + 1 : Nat) : Int) := by omega
        have h1c : (1 : Int) ≤ (cl : Int) := by omega
        go_wp2_with fail
        go_loopw [32] (fun i wr => ∃ (k : Nat) (fs : List FnV) (A' : Option Addr) (c' : Nat), i = .int .i64 (k : Int) ∧ k ≤ nt ∧ Hid (fs.length = k) ∧ Hid (Whole wr g 24 [.int .i64 0, .int .i64 0, .slice none 0 0]) ∧ Hid (Whole wr gu 24 [.int .i64 (p : Int), .int .i64 (m : Int), .slice A' k c']) ∧ Hid (wr.ownsRow (gu + 1) 58 3 (.slice A' k c') k (fnCs fs)) ∧ Hid (wr.ownsRow w1.heap.size 9 1 (.slice (some ⟨gl, 0, none⟩) (nt + 1) cl) (nt + 1) (strs (a :: T))) ∧ Hid ((funcsP (T.drop k)).map (fs ++ ·) = funcsP T) ∧ Hid (3 * k + ((T.drop k).map List.length).sum + (T.drop k).length ≤ 2048) ∧ Hid (∀ f ∈ fs, 0 ≤ f.args ∧ f.args ≤ 9 ∧ f.code.size ≤ 2048) ∧ Hid (Chg [] w wr) ∧ Hid (gu + 1 ≤ wr.heap.size)) (fun i _ => nt - (intOf i).toNat)
        case atStart => exact ⟨0, [], none, 0, rfl, by omega, Lib.hid rfl, HG4, HU4, Lib.hid (World.ownsRow_nil _ _ _ _), HO4, Lib.hid (by rw [List.drop_zero]; cases funcsP T <;> rfl), Lib.hid (by have := HSU.out; rw [List.drop_zero]; omega), Lib.hid (by simp), HW4, Lib.hid HU4.out.lt⟩
        case round =>
          obtain ⟨k, fs, A', c', rfl, hk, HFL, HGr, HUr, HOF, HOL, HFP, HSM, HFA, HCr, HZr⟩ := hrel
          have hnl : ¬ g < w.heap.size := by have := HGS.out; omega
          have hgw : w.heap.size ≤ gu := by have := HGS.out; omega
          by_cases hkn : k < nt
          · have hkI : (k : Int) < (nt : Int) := by omega
            obtain ⟨s, hs⟩ : ∃ s, T[k]? = some s := ⟨T[k]'(by rw [← HNT.out]; exact hkn), by simp⟩
            have yk0 := str_at HOL.out (j := k + 1) (s := s) (by rw [List.getElem?_cons_succ]; exact hs)
            have hdr : T.drop k = s :: T.drop (k + 1) := List.drop_eq_getElem?_toList_append.trans (by rw [hs]; rfl)
            have hsl : s.length ≤ 2048 := by
              have := HSM.out
              rw [hdr, List.map_cons, List.sum_cons] at this
              omega
            have HFU := Lib.hid (fun (W : World) => ufunc_any (w := W) s (by omega))
            unfold FuncPost funcV at HFU
            obtain ⟨SK, hSK⟩ : ∃ S, S = strOf s := ⟨_, rfl⟩
            rw [← hSK] at yk0 HFU
            have yk : wr.cell? ⟨gl, 1 + k, none⟩ = some (.string SK) := by rw [Nat.add_comm]; exact yk0
            have HDR := Lib.hid hdr
            have HSL := Lib.hid hsl
            clear hs yk0 hdr hSK hsl
            cases hf : funcP s with
            | none =>
              rw [hf] at HFU
              simp only at HFU
              have HNO := Lib.hid (show parseP l = none from by
                have h1 : funcsP T = none := by rw [← HFP.out, HDR.out, funcsP, hf]; rfl
                rw [HPA.out, h1]; rfl)
              go_upto_region 11 with (go_at_call 95
                                      refine (HFU.out _).mono ?_
                                      rintro e w7 ⟨rfl, hc7⟩
                                      have HG7 := Lib.hid (HGr.out.keep hc7)
                                      have HC7 := Lib.hid (HCr.out.trans hc7)
                                      clear hc7)
              have HG8 := Lib.hid (HG7.out.keep ((Chg.refl [] w7).alloc (.cells #[.int .i32 0, .int .i64 0, .string ⟨#[]⟩] 58)))
              have HC8 := Lib.hid (HC7.out.alloc (.cells #[.int .i32 0, .int .i64 0, .string ⟨#[]⟩] 58))
              generalize w7.heap.size = gx
              generalize w7.alloc (.cells #[.int .i32 0, .int .i64 0, .string ⟨#[]⟩] 58) = w8 at HG8 HC8 ⊢
              have z0 := HG8.out.cell 0
              have z1 := HG8.out.cell 1
              have z2 := HG8.out.cell 2
              have f0 := HG8.out.frozen 0
              have f1 := HG8.out.frozen 1
              have f2 := HG8.out.frozen 2
              go_wp2_with fail
              have HC := ((HC8.out.setCell (p := ⟨g, 0, none⟩) (fun h => absurd h hnl) (.int .i64 0)).setCell (p := ⟨g, 1, none⟩) (fun h => absurd h hnl) (.int .i64 0)).setCell (p := ⟨g, 2, none⟩) (fun h => absurd h hnl) (.slice none 0 0)
              have HSS := ((HG8.out.set_ 0 (.int .i64 0)).set_ 1 (.int .i64 0)).set_ 2 (.slice none 0 0)
              exact bodyPost_ret_by (results_row_tmp (p := 2) (u := 3) (ty := 24) rfl _ _ g 24 [.int .i64 0, .int .i64 0, .slice none 0 0] _ rfl HSS Tryz.underlying24 (by kernel_rfl)) rfl (HP0.out HNO.out _ HC)
            | some f =>
              rw [hf] at HFU
              simp only at HFU
              have hok := funcP_ok hf
              obtain ⟨fn, fa, fc⟩ := f
              have HFD := Lib.hid (show (funcsP (T.drop (k + 1))).map ((fs ++ [⟨fn, fa, fc⟩]) ++ ·) = funcsP T from by
                rw [← HFP.out, HDR.out, funcsP, hf]
                simp only
                cases funcsP (T.drop (k + 1)) with
                | none => rfl
                | some r => simp)
              have HSD := Lib.hid (show 3 * (k + 1) + ((T.drop (k + 1)).map List.length).sum + (T.drop (k + 1)).length ≤ 2048 from by
                have := HSM.out
                rw [HDR.out, List.map_cons, List.sum_cons, List.length_cons] at this
                omega)
              have HFB := Lib.hid (show ∀ f ∈ fs ++ [⟨fn, fa, fc⟩], 0 ≤ f.args ∧ f.args ≤ 9 ∧ f.code.size ≤ 2048 from fun f hf => by
                rcases List.mem_append.1 hf with hf | hf
                · exact HFA.out f hf
                · rw [List.mem_singleton] at hf
                  subst hf
                  have := HSL.out
                  simp only at hok ⊢
                  omega)
              have hk682 : 3 * (k + 1) ≤ 2048 := by have := HSD.out; omega
              clear hf hok
              unfold fnC at HFU
              simp only at HFU
              go_upto_region 11 with (go_at_call 95
                                      refine (HFU.out _).mono ?_
                                      rintro e w7 ⟨rfl, hc7⟩
                                      have HG7 := Lib.hid (HGr.out.keep hc7)
                                      have HU7 := Lib.hid (HUr.out.keep hc7)
                                      have HF7 := Lib.hid (rown_keep HOF.out hc7)
                                      have HL7 := Lib.hid (own_keep HOL.out hc7)
                                      have HC7 := Lib.hid (HCr.out.trans hc7)
                                      have HZ7 := Lib.hid (Nat.le_trans HZr.out hc7.size)
                                      clear hc7)
              have hN := Whole.new w7 58 [.int .i32 fn, .int .i64 fa, .string fc]
              have hal := (Chg.refl [] w7).alloc (.cells #[.int .i32 fn, .int .i64 fa, .string fc] 58)
              have HX8 := Lib.hid hN
              have HG8 := Lib.hid (HG7.out.keep hal)
              have HU8 := Lib.hid (HU7.out.keep hal)
              have HF8 := Lib.hid (rown_keep HF7.out hal)
              have HL8 := Lib.hid (own_keep HL7.out hal)
              have HC8 := Lib.hid (HC7.out.trans hal)
              have HZ8 := Lib.hid (Nat.le_trans HZ7.out hal.size)
              clear hN hal yk
              generalize w7.heap.size = gx at HX8 ⊢
              generalize w7.alloc (.cells #[.int .i32 fn, .int .i64 fa, .string fc] 58) = w8 at HX8 HG8 HU8 HF8 HL8 HC8 HZ8 ⊢
              have x0 := HX8.out.cell 0
              have x1 := HX8.out.cell 1
              have x2 := HX8.out.cell 2
              have u2 := HU8.out.cell 2
              have HAL := Lib.hid ((Chg.refl [] w8).alloc (.cells #[.int .i32 fn, .int .i64 fa, .string fc] 58))
              have HOA := Lib.hid (rown_keep HF8.out HAL.out)
              go_wp2_with (at_builtin
                           refine wpList_append_own _ rfl (.tmp 45) (.tmp 47) _ rfl (gu + 1) 58 i0 _ 3 32 Tryz.underlying22 hi0 hz0 hz1 hz2 rfl (by decide) (.slice A' k c') k (fnCs fs) rfl HOA.out ⟨w8.heap.size, 0, none⟩ 1 1 [.int .i32 fn, .int .i64 fa, .string fc] rfl rfl (cells_page _ _ _) (by simp [Value.oneCell']) (by simp only [maxLen]; omega) (by omega) (by have := HZ8.out; simp; omega) ?_
                           intro v' w11 ho11 hg11 _
                           obtain ⟨A11, c11, rfl, _⟩ := rown_slice ho11
                           have HO11 := Lib.hid ho11
                           have HU11 := Lib.hid (whole_grown (HU8.out.keep HAL.out) HOA.out (by decide) hg11)
                           have HG11 := Lib.hid (whole_grown (HG8.out.keep HAL.out) HOA.out (by decide) hg11)
                           have HL11 := Lib.hid (rown_grown (own_keep HL8.out HAL.out) HOA.out (by decide) hg11)
                           have HC11 := Lib.hid (chg_grown2 (HC8.out.trans HAL.out) hg11 (fun g hg => by have := (HOA.out.lt g hg).1; omega))
                           have HZ11 := Lib.hid (Nat.le_trans HZ8.out (Nat.le_trans HAL.out.size hg11.size))
                           have e2 := HU11.out.cell 2
                           have q2 := HU11.out.frozen 2
                           clear ho11 hg11)
              have HU12 := Lib.hid (show Whole (w11.setCell ⟨gu, 2, none⟩ (.slice A11 (k + 1) c11)) gu 24 [.int .i64 (p : Int), .int .i64 (m : Int), .slice A11 (k + 1) c11] from by have := HU11.out.set_ 2 (.slice A11 (k + 1) c11); simpa using this)
              have HO12 := Lib.hid (show (w11.setCell ⟨gu, 2, none⟩ (.slice A11 (k + 1) c11)).ownsRow (gu + 1) 58 3 (.slice A11 (k + 1) c11) (k + 1) (fnCs (fs ++ [⟨fn, fa, fc⟩])) from by
                rw [fnCs_app]
                exact rown_far (p := ⟨gu, 2, none⟩) (u := .slice A11 (k + 1) c11) HO11.out (fun hb => by have := (HO11.out.lt _ hb).1; simp only at this; omega))
              have HG12 := Lib.hid (HG11.out.far (p := ⟨gu, 2, none⟩) (by simp only; omega) (.slice A11 (k + 1) c11))
              have HL12 := Lib.hid (rown_far (p := ⟨gu, 2, none⟩) (u := .slice A11 (k + 1) c11) HL11.out (fun hb => by
                injection hb with hb
                have h1 := HL11.out.2
                rcases h1 with ⟨h1, _⟩ | ⟨g', cap', cur', h1, h2, h3, _⟩
                · cases h1
                · injection h1 with h1
                  injection h1 with h1
                  injection h1 with h1
                  simp only at hb
                  rw [← h1, hb] at h3
                  have h4 := HU11.out
                  unfold Whole at h4
                  rw [h4] at h3
                  injection h3 with h3
                  injection h3 with h3 h5
                  revert h5
                  decide))
              have HC12 := Lib.hid (HC11.out.setCell (p := ⟨gu, 2, none⟩) (fun hh => by simp only at hh; omega) (.slice A11 (k + 1) c11))
              have HZ12 := Lib.hid (show gu + 1 ≤ (w11.setCell ⟨gu, 2, none⟩ (.slice A11 (k + 1) c11)).heap.size from by rw [size_set]; exact HZ11.out)
              go_roundw
              case rel => exact ⟨k + 1, fs ++ [⟨fn, fa, fc⟩], A11, c11, by go_num, by omega, Lib.hid (by rw [List.length_append, HFL.out]; rfl), HG12, HU12, HO12, HL12, HFD, HSD, HFB, HC12, HZ12⟩
              case measure => simp [intOf]; omega
          · have hkI : ¬ (k : Int) < (nt : Int) := by omega
            obtain rfl : k = nt := by omega
            have HFE := Lib.hid (show funcsP T = some fs from by
              have := HFP.out
              rw [List.drop_eq_nil_of_le (by rw [← HNT.out]; exact Nat.le_refl _), funcsP] at this
              rw [← this]
              simp)
            have hk682 : 3 * k ≤ 2048 := by have := HSM.out; omega
            have u0 := HUr.out.cell 0
            have u1 := HUr.out.cell 1
            have u2 := HUr.out.cell 2
            have g0 := HGr.out.cell 0
            have g1 := HGr.out.cell 1
            have g2 := HGr.out.cell 2
            have f0 := HGr.out.frozen 0
            have f1 := HGr.out.frozen 1
            have f2 := HGr.out.frozen 2
            have HC := ((HCr.out.setCell (p := ⟨g, 0, none⟩) (fun h => absurd h hnl) (.int .i64 (p : Int))).setCell (p := ⟨g, 1, none⟩) (fun h => absurd h hnl) (.int .i64 (m : Int))).setCell (p := ⟨g, 2, none⟩) (fun h => absurd h hnl) (.slice A' k c')
            have HSS := ((HGr.out.set_ 0 (.int .i64 (p : Int))).set_ 1 (.int .i64 (m : Int))).set_ 2 (.slice A' k c')
            have hfar : ∀ (W : World) (j : Nat) (u : Value), W.ownsRow (gu + 1) 58 3 (.slice A' k c') k (fnCs fs) → (W.setCell ⟨g, j, none⟩ u).ownsRow (gu + 1) 58 3 (.slice A' k c') k (fnCs fs) := fun W j u h => rown_far (p := ⟨g, j, none⟩) (u := u) h (fun hb => by have := (h.lt _ hb).1; simp only at this; omega)
            have HFIN := Lib.hid (HP1.out p m fs (.slice A' k c') _ (by rw [HPA.out, HFE.out]; rfl) (by rw [HFL.out]; exact own_more_n (hfar _ 2 (.slice A' k c') (hfar _ 1 (.int .i64 (m : Int)) (hfar _ 0 (.int .i64 (p : Int)) HOF.out))) (by omega)) (by rw [HFL.out]; omega) HFA.out HC)
            go_wp2_with fail
            exact bodyPost_ret_by (results_row_tmp (p := 2) (u := 3) (ty := 24) rfl _ _ g 24 [.int .i64 (p : Int), .int .i64 (m : Int), .slice A' k c'] _ rfl HSS Tryz.underlying24 (by kernel_rfl)) rfl HFIN.out
  · have hokf : linesOk l = false := by simpa using hok
    have HNO := Lib.hid (show parseP l = none from by
      unfold parseP
      unfold linesOk at hokf
      cases h : (splitL l []).1 with
      | nil => rfl
      | cons a T =>
        rw [h] at hokf
        simp only
        rw [if_neg (by intro hr; rw [hr] at hokf; simp at hokf)])
    rw [hokf] at HL
    unfold LinesPost at HL
    generalize (splitL l []).1 = L0 at HL
    obtain ⟨S, hS⟩ : ∃ S, S = strOf l := ⟨_, rfl⟩
    rw [← hS] at HL ⊢
    clear hS hok hokf hsr
    go_enter Tryz.func61, Tryz.ntmps61
    go_upto_region 1 with fail
    have hN := Whole.new w 24 [.int .i64 0, .int .i64 0, .slice none 0 0]
    have hal := (Chg.refl [] w).alloc (.cells #[.int .i64 0, .int .i64 0, .slice none 0 0] 24)
    obtain ⟨g, hg⟩ : ∃ g, g = w.heap.size := ⟨_, rfl⟩
    have hw1s : (w.alloc (.cells #[.int .i64 0, .int .i64 0, .slice none 0 0] 24)).heap.size = g + 1 := by rw [hg]; simp
    rw [← hg] at hN ⊢
    have HG := Lib.hid hN
    have HW1 := Lib.hid hal
    have HGS := Lib.hid hg
    have HGZ := Lib.hid hw1s
    generalize w.alloc (.cells #[.int .i64 0, .int .i64 0, .slice none 0 0] 24) = w1 at HG HW1 HGZ ⊢
    clear hN hal hg hw1s
    go_wp2_with (go_at_call 93
                 refine (HL.out _).mono ?_
                 rintro e w2 ⟨v2, rfl, ho2, hc2⟩
                 have HG2 := Lib.hid (HG.out.keep hc2)
                 have HW2 := Lib.hid (HW1.out.trans hc2)
                 have z0 := HG2.out.cell 0
                 have z1 := HG2.out.cell 1
                 have z2 := HG2.out.cell 2
                 have f0 := HG2.out.frozen 0
                 have f1 := HG2.out.frozen 1
                 have f2 := HG2.out.frozen 2
                 clear ho2 hc2)
    have hnl : ¬ g < w.heap.size := by have := HGS.out; omega
    have HC := ((HW2.out.setCell (p := ⟨g, 0, none⟩) (fun h => absurd h hnl) (.int .i64 0)).setCell (p := ⟨g, 1, none⟩) (fun h => absurd h hnl) (.int .i64 0)).setCell (p := ⟨g, 2, none⟩) (fun h => absurd h hnl) (.slice none 0 0)
    have HSS := ((HG2.out.set_ 0 (.int .i64 0)).set_ 1 (.int .i64 0)).set_ 2 (.slice none 0 0)
    exact bodyPost_ret_by (results_row_tmp (p := 2) (u := 3) (ty := 24) rfl _ _ g 24 [.int .i64 0, .int .i64 0, .slice none 0 0] _ rfl HSS Tryz.underlying24 (by kernel_rfl)) rfl (HP0.out HNO.out _ HC)
end
end Go.Proofs.YtbkfhndmeljlcaaGreatDoor
