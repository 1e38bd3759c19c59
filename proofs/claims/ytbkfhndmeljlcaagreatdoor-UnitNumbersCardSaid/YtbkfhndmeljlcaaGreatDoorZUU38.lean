/-
  UU: UFunc, RFunc.
-/
import Derived.Test.YtbkfhndmeljlcaaGreatDoorZUU36
import Derived.Test.YtbkfhndmeljlcaaGreatDoorZUU37
namespace Go.Proofs.YtbkfhndmeljlcaaGreatDoor
open Go.RowKit
def firstR (l : List UInt8) : Nat × List UInt8 := if l = [] then (0, []) else ((Utf8.decode (strOf l) 0).1, l.drop (Utf8.decode (strOf l) 0).2)
def FirstPost (l : List UInt8) (w : World) (e : Ending) (w' : World) : Prop := e = .returned (.tuple #[.int .i32 ((firstR l).1 : Int), .string (strOf (firstR l).2)]) ∧ Chg [] w w'
section
variable {w : World}
set_option maxHeartbeats 4000000 in
set_option maxRecDepth 100000 in
theorem ufirst_any (l : List UInt8) (hl : l.length ≤ 1000000) : Calls Tryz.prog 117 #[.string (strOf l)] w (FirstPost l w) := by
  have HPP := Lib.hid (show ∀ (r : Nat) (s : ByteArray) (wr : World), r = (firstR l).1 → s = strOf (firstR l).2 → Chg [] w wr → FirstPost l w (.returned (.tuple #[.int .i32 (r : Int), .string s])) wr from fun r s wr h1 h2 h3 => ⟨by rw [h1, h2], h3⟩)
  obtain ⟨S, hS⟩ : ∃ S, S = strOf l := ⟨_, rfl⟩
  have HS := Lib.hid hS
  have hszS : S.size = l.length := by rw [hS]; exact strOf_len l
  rw [← hS]
  clear hS
  obtain ⟨n, hn⟩ : ∃ n, n = l.length := ⟨_, rfl⟩
  rw [← hn] at hszS hl
  have HNL := Lib.hid hn
  clear hn
  have HSZ := Lib.hid hszS
  go_enter Tryz.func117, Tryz.ntmps117
  go_upto_region 3 with fail
  have hI : (w.iter S 0).heap[w.heap.size]? = some (.stringIter S 0) := World.iter_heap w S 0
  have hc0 : Chg [] w (w.iter S 0) := (Chg.refl [] w).alloc _
  obtain ⟨kI, hkI⟩ : ∃ k, k = w.heap.size := ⟨_, rfl⟩
  rw [← hkI] at hI ⊢
  generalize w.iter S 0 = w1 at hI hc0 ⊢
  have HI := Lib.hid hI
  have HC0 := Lib.hid hc0
  have HK := Lib.hid hkI
  clear hI hc0 hkI hszS
  have HCZ := Lib.hid (fun (W : World) (hW : Chg [kI] w1 W) => show Chg [] w W from HC0.out.then_ hW (fun i hi hl => by have := HK.out; simp only [List.mem_cons, List.not_mem_nil, or_false] at hi; omega))
  go_loopw [4] (fun v wr => ∃ (pos r : Nat), v = .int .i32 (r : Int) ∧ r ≤ 2147483647 ∧ pos ≤ n ∧ Hid (wr.heap[kI]? = some (.stringIter S pos)) ∧ Hid ((pos = 0 ∧ r = 0) ∨ (0 < n ∧ 0 < pos ∧ r = (firstR l).1 ∧ (firstR l).2 = l.drop pos)) ∧ Hid (Chg [kI] w1 wr)) (fun _ wr => n - wr.iterPos kI)
  case atStart => exact ⟨0, 0, rfl, by omega, by omega, HI, Lib.hid (.inl ⟨rfl, rfl⟩), Lib.hid (Chg.refl _ _)⟩
  case round =>
    obtain ⟨pos, r, rfl, hr, hpn, HIr, HX, HCr⟩ := hrel
    by_cases hlt : pos < n
    · have hltS : pos < S.size := by rw [HSZ.out]; exact hlt
      have hnx := fun ty => Lib.run_next_any_at (P := Tryz.prog) wr kI S pos ty HIr.out hltS
      go_upto_region 5 with fail
      obtain ⟨d, hd⟩ : ∃ d, d = (Utf8.decode S pos).2 := ⟨_, rfl⟩
      obtain ⟨x, hx⟩ : ∃ r, r = (Utf8.decode S pos).1 := ⟨_, rfl⟩
      have hx2 : x ≤ 2147483647 := by rw [hx]; exact decode_le S pos
      have hdd : 1 ≤ d ∧ pos + d ≤ n := by
        have hdb := dec_byte l pos (by rw [← HNL.out]; exact hlt)
        rw [← HS.out, ← HNL.out] at hdb
        rcases hdb with ⟨_, h2⟩ | ⟨_, _, h3, h4, _⟩
        · have e : d = 1 := by rw [hd, h2]
          omega
        · rw [← hd] at h3 h4
          exact ⟨h3, h4⟩
      have HI2 := Lib.hid (Lib.iterAt_heap wr kI S pos (pos + d) HIr.out)
      have HC2 := Lib.hid (show Chg [kI] w1 (wr.iterAt kI S (pos + d)) from HCr.out.trans ⟨rfl, rfl, rfl, by rw [Lib.iterAt_size]; exact Nat.le_refl _, fun i _ hn => Lib.iterAt_other wr kI i S (pos + d) (by simpa using hn)⟩)
      have HMP := Lib.hid (show wr.iterPos kI = pos from by unfold World.iterPos; rw [HIr.out])
      have HP2 := Lib.hid (show (wr.iterAt kI S (pos + d)).iterPos kI = pos + d from by unfold World.iterPos; rw [HI2.out])
      have HDX := Lib.hid (And.intro hd hx)
      rw [← hd, ← hx]
      generalize wr.iterAt kI S (pos + d) = w3 at HI2 HC2 HP2 ⊢
      clear hd hx hnx
      rcases HX.out with ⟨rfl, rfl⟩ | ⟨hn0, hp0, hr1, hr2⟩
      · have hne : l ≠ [] := fun h => by
          have e := HNL.out
          rw [h, List.length_nil] at e
          omega
        have HX2 := Lib.hid (show (0 + d = 0 ∧ x = 0) ∨ (0 < n ∧ 0 < 0 + d ∧ x = (firstR l).1 ∧ (firstR l).2 = l.drop (0 + d)) from by
          refine .inr ⟨hlt, by omega, ?_, ?_⟩
          · unfold firstR; rw [if_neg hne, HDX.out.2, HS.out]
          · unfold firstR; rw [if_neg hne, HDX.out.1, HS.out, Nat.zero_add])
        clear hne
        go_wp2_with fail
        go_roundw
        case rel => exact ⟨0 + d, x, rfl, hx2, by omega, HI2, HX2, HC2⟩
        case measure => rw [HP2.out, HMP.out]; omega
      · have hpI : (0 : Int) < (pos : Int) := by omega
        have hpJ : (0 : Int) ≤ (pos : Int) := by omega
        have hpS : (pos : Int) ≤ (S.size : Int) := by omega
        have hpT : (pos : Int) ≤ (n : Int) := by omega
        have hsn := HSZ.out
        have HEX := Lib.hid (show S.extract pos S.size = strOf (firstR l).2 from by
          rw [HS.out, strOf_ext, strOf_len, hr2, List.take_of_length_le (by rw [List.length_drop]; exact Nat.le_refl _)])
        have HEN := Lib.hid (show S.extract pos n = strOf (firstR l).2 from by rw [← hsn]; exact HEX.out)
        have HR1 := Lib.hid hr1
        have HCF := Lib.hid (show Chg [] w w3.drew from (HCZ.out _ HC2.out).drew)
        clear hr1 hr2 hn0
        go_wp2_with fail
        go_region
        all_goals go_wp2_with fail
        all_goals go_ret2
        all_goals first | exact HPP.out _ _ _ HR1.out HEX.out HCF.out | exact HPP.out _ _ _ HR1.out HEN.out HCF.out
    · have hnx := fun ty => Lib.run_next_end_at (P := Tryz.prog) wr kI S pos ty HIr.out (by rw [HSZ.out]; exact hlt)
      obtain rfl : pos = n := by omega
      have HPO := Lib.hid (HPP.out r ⟨#[]⟩ wr (by
        rcases HX.out with ⟨rfl, rfl⟩ | ⟨_, _, h, _⟩
        · have : l = [] := List.eq_nil_of_length_eq_zero HNL.out.symm
          unfold firstR; rw [if_pos this]
        · exact h) (by
        rcases HX.out with ⟨rfl, rfl⟩ | ⟨_, _, _, h⟩
        · have : l = [] := List.eq_nil_of_length_eq_zero HNL.out.symm
          unfold firstR; rw [if_pos this]; rfl
        · rw [h, HNL.out, List.drop_length]; rfl) (HCZ.out _ HCr.out))
      go_wp2_with fail
      go_ret2
      exact HPO.out
end
theorem func_cut (l : List UInt8) : funcP l = (match cut1 (firstR l).2 with
  | some ([x], b) => if 48 ≤ x.toNat ∧ x.toNat ≤ 57 then some ⟨((firstR l).1 : Int), ((x.toNat - 48 : Nat) : Int), strOf b⟩ else none
  | _ => none) := by
  unfold funcP firstR
  by_cases h0 : l = []
  · subst h0
    rfl
  · rw [if_neg h0]
    show (match l.drop (Utf8.decode (strOf l) 0).2 with | x :: y :: code => _ | _ => none) = _
    simp only
    generalize l.drop (Utf8.decode (strOf l) 0).2 = R
    match R with
    | [] => rfl
    | [x] =>
      simp only [cut1]
      by_cases hx : x = 32
      · rw [if_pos hx]
      · rw [if_neg hx]; rfl
    | x :: y :: t =>
      simp only [cut1]
      by_cases hx : x = 32
      · rw [if_pos hx, if_neg]
        rintro ⟨_, h2, _⟩
        rw [hx] at h2
        exact absurd h2 (by decide)
      · rw [if_neg hx]
        by_cases hy : y = 32
        · rw [if_pos hy]
          simp only [Option.map_some]
          by_cases hd : 48 ≤ x.toNat ∧ x.toNat ≤ 57
          · rw [if_pos hd, if_pos ⟨h0, hd.1, hd.2, hy⟩]
            rfl
          · rw [if_neg hd, if_neg (fun h => hd ⟨h.2.1, h.2.2.1⟩)]
        · rw [if_neg hy, if_neg (fun h => hy h.2.2.2)]
          cases cut1 t with
          | none => rfl
          | some p => rfl
def funcV (l : List UInt8) : Value := match funcP l with
  | some f => .tuple #[.agg (fnC f).toArray, .bool true]
  | none => .tuple #[.agg #[.int .i32 0, .int .i64 0, .string ⟨#[]⟩], .bool false]
def FuncPost (l : List UInt8) (w : World) (e : Ending) (w' : World) : Prop := e = .returned (funcV l) ∧ Chg [] w w'
theorem firstR_len (l : List UInt8) : (firstR l).2.length ≤ l.length := by
  unfold firstR
  split
  · simp
  · simp
section
variable {w : World}
set_option maxHeartbeats 4000000 in
set_option maxRecDepth 100000 in
theorem ufunc_any (l : List UInt8) (hl : l.length ≤ 1000000) : Calls Tryz.prog 95 #[.string (strOf l)] w (FuncPost l w) := by
  have hfl := firstR_len l
  have HF1 := Lib.hid (fun (W : World) => ufirst_any (w := W) l hl)
  have HC1 := Lib.hid (fun (W : World) => cut_any (w := W) (firstR l).2 (by omega))
  obtain ⟨V, hV⟩ : ∃ V, V = funcV l := ⟨_, rfl⟩
  unfold FuncPost
  rw [← hV]
  unfold funcV at hV
  rw [func_cut] at hV
  unfold FirstPost at HF1
  unfold CutPost cutV at HC1
  have HV := Lib.hid hV
  clear hV hfl
  generalize (firstR l).1 = r at *
  generalize (firstR l).2 = R at *
  generalize cut1 R = o at *
  match o with
  | none =>
    simp only at HC1 HV
    go_enter Tryz.func95, Tryz.ntmps95
    go_upto_region 1 with fail
    have hN := Whole.new w 58 [.int .i32 0, .int .i64 0, .string ⟨#[]⟩]
    have hal := (Chg.refl [] w).alloc (.cells #[.int .i32 0, .int .i64 0, .string ⟨#[]⟩] 58)
    obtain ⟨g, hg⟩ : ∃ g, g = w.heap.size := ⟨_, rfl⟩
    rw [← hg] at hN ⊢
    have HG := Lib.hid hN
    have HW1 := Lib.hid hal
    have HGS := Lib.hid hg
    generalize w.alloc (.cells #[.int .i32 0, .int .i64 0, .string ⟨#[]⟩] 58) = w1 at HG HW1 ⊢
    clear hN hal hg
    go_wp2_with (first
      | (go_at_call 117
         with_reducible refine (HF1.out _).mono ?_
         rintro e w2 ⟨rfl, hc2⟩
         have HQ2 := Lib.hid (HW1.out.trans hc2)
         have HG2 := Lib.hid (HG.out.keep hc2)
         clear hc2)
      | (go_at_call 115
         with_reducible refine (HC1.out _).mono ?_
         rintro e w3 ⟨rfl, hc3⟩
         have HQ5 := Lib.hid (HQ2.out.trans hc3)
         have HG5 := Lib.hid (HG2.out.keep hc3)
         have z0 := HG5.out.cell 0
         have z1 := HG5.out.cell 1
         have z2 := HG5.out.cell 2
         have f0 := HG5.out.frozen 0
         have f1 := HG5.out.frozen 1
         have f2 := HG5.out.frozen 2
         clear hc3))
    have hnl : ¬ g < w.heap.size := by have := HGS.out; omega
    have HC := ((HQ5.out.setCell (p := ⟨g, 0, none⟩) (fun h => absurd h hnl) (.int .i32 0)).setCell (p := ⟨g, 1, none⟩) (fun h => absurd h hnl) (.int .i64 0)).setCell (p := ⟨g, 2, none⟩) (fun h => absurd h hnl) (.string ⟨#[]⟩)
    have HS := ((HG5.out.set_ 0 (.int .i32 0)).set_ 1 (.int .i64 0)).set_ 2 (.string ⟨#[]⟩)
    refine bodyPost_ret_by (results_row_tmp rfl _ _ g 58 [(.int .i32 0), (.int .i64 0), (.string ⟨#[]⟩)] _ rfl HS Tryz.underlying58 (by kernel_rfl)) rfl ⟨by rw [HV.out]; rfl, HC⟩
  | some ([], b) =>
    simp only at HC1 HV
    have e0 : (strOf ([] : List UInt8)).size = 0 := rfl
    go_enter Tryz.func95, Tryz.ntmps95
    go_upto_region 1 with fail
    have hN := Whole.new w 58 [.int .i32 0, .int .i64 0, .string ⟨#[]⟩]
    have hal := (Chg.refl [] w).alloc (.cells #[.int .i32 0, .int .i64 0, .string ⟨#[]⟩] 58)
    obtain ⟨g, hg⟩ : ∃ g, g = w.heap.size := ⟨_, rfl⟩
    rw [← hg] at hN ⊢
    have HG := Lib.hid hN
    have HW1 := Lib.hid hal
    have HGS := Lib.hid hg
    generalize w.alloc (.cells #[.int .i32 0, .int .i64 0, .string ⟨#[]⟩] 58) = w1 at HG HW1 ⊢
    clear hN hal hg
    go_wp2_with (first
      | (go_at_call 117
         with_reducible refine (HF1.out _).mono ?_
         rintro e w2 ⟨rfl, hc2⟩
         have HQ2 := Lib.hid (HW1.out.trans hc2)
         have HG2 := Lib.hid (HG.out.keep hc2)
         clear hc2)
      | (go_at_call 115
         with_reducible refine (HC1.out _).mono ?_
         rintro e w3 ⟨rfl, hc3⟩
         have HQ5 := Lib.hid (HQ2.out.trans hc3)
         have HG5 := Lib.hid (HG2.out.keep hc3)
         have z0 := HG5.out.cell 0
         have z1 := HG5.out.cell 1
         have z2 := HG5.out.cell 2
         have f0 := HG5.out.frozen 0
         have f1 := HG5.out.frozen 1
         have f2 := HG5.out.frozen 2
         clear hc3))
    have hnl : ¬ g < w.heap.size := by have := HGS.out; omega
    have HC := ((HQ5.out.setCell (p := ⟨g, 0, none⟩) (fun h => absurd h hnl) (.int .i32 0)).setCell (p := ⟨g, 1, none⟩) (fun h => absurd h hnl) (.int .i64 0)).setCell (p := ⟨g, 2, none⟩) (fun h => absurd h hnl) (.string ⟨#[]⟩)
    have HS := ((HG5.out.set_ 0 (.int .i32 0)).set_ 1 (.int .i64 0)).set_ 2 (.string ⟨#[]⟩)
    refine bodyPost_ret_by (results_row_tmp rfl _ _ g 58 [(.int .i32 0), (.int .i64 0), (.string ⟨#[]⟩)] _ rfl HS Tryz.underlying58 (by kernel_rfl)) rfl ⟨by rw [HV.out]; rfl, HC⟩
  | some (x :: y :: a, b) =>
    simp only at HC1 HV
    have e0 : (strOf (x :: y :: a)).size = a.length + 2 := by rw [strOf_len]; rfl
    have e1 : (((a.length + 2 : Nat) : Int) != 1) = true := by simp; omega
    have e2 : (((strOf (x :: y :: a)).size : Int) != 1) = true := by rw [e0]; exact e1
    generalize strOf (x :: y :: a) = S at *
    have HE0 := Lib.hid e0
    clear e0 e1
    go_enter Tryz.func95, Tryz.ntmps95
    go_upto_region 1 with fail
    have hN := Whole.new w 58 [.int .i32 0, .int .i64 0, .string ⟨#[]⟩]
    have hal := (Chg.refl [] w).alloc (.cells #[.int .i32 0, .int .i64 0, .string ⟨#[]⟩] 58)
    obtain ⟨g, hg⟩ : ∃ g, g = w.heap.size := ⟨_, rfl⟩
    rw [← hg] at hN ⊢
    have HG := Lib.hid hN
    have HW1 := Lib.hid hal
    have HGS := Lib.hid hg
    generalize w.alloc (.cells #[.int .i32 0, .int .i64 0, .string ⟨#[]⟩] 58) = w1 at HG HW1 ⊢
    clear hN hal hg
    go_wp2_with (first
      | (go_at_call 117
         with_reducible refine (HF1.out _).mono ?_
         rintro e w2 ⟨rfl, hc2⟩
         have HQ2 := Lib.hid (HW1.out.trans hc2)
         have HG2 := Lib.hid (HG.out.keep hc2)
         clear hc2)
      | (go_at_call 115
         with_reducible refine (HC1.out _).mono ?_
         rintro e w3 ⟨rfl, hc3⟩
         have HQ5 := Lib.hid (HQ2.out.trans hc3)
         have HG5 := Lib.hid (HG2.out.keep hc3)
         have z0 := HG5.out.cell 0
         have z1 := HG5.out.cell 1
         have z2 := HG5.out.cell 2
         have f0 := HG5.out.frozen 0
         have f1 := HG5.out.frozen 1
         have f2 := HG5.out.frozen 2
         clear hc3))
    have hnl : ¬ g < w.heap.size := by have := HGS.out; omega
    have HC := ((HQ5.out.setCell (p := ⟨g, 0, none⟩) (fun h => absurd h hnl) (.int .i32 0)).setCell (p := ⟨g, 1, none⟩) (fun h => absurd h hnl) (.int .i64 0)).setCell (p := ⟨g, 2, none⟩) (fun h => absurd h hnl) (.string ⟨#[]⟩)
    have HS := ((HG5.out.set_ 0 (.int .i32 0)).set_ 1 (.int .i64 0)).set_ 2 (.string ⟨#[]⟩)
    refine bodyPost_ret_by (results_row_tmp rfl _ _ g 58 [(.int .i32 0), (.int .i64 0), (.string ⟨#[]⟩)] _ rfl HS Tryz.underlying58 (by kernel_rfl)) rfl ⟨by rw [HV.out]; rfl, HC⟩
  | some ([x], b) =>
    simp only at HC1 HV
    have e0 : (strOf [x]).size = 1 := by rw [strOf_len]; rfl
    have hg0 : ∀ h : 0 < (strOf [x]).size, ((strOf [x])[0]'h).toNat = x.toNat := by
      intro h
      have e1 := get_at (strOf [x]) 0 h
      rw [Nat.add_zero, show (strOf [x]).get! 0 = x from ba_get [x] 0] at e1
      rw [← e1]
    generalize strOf [x] = S at *
    have hx := x.toNat_lt
    generalize x.toNat = c at *
    by_cases h1 : c < 48
    · rw [if_neg (by omega)] at HV
      have q1 : decide ((c : Int) < 48) = true := by simp; omega
      clear h1 hx
      go_enter Tryz.func95, Tryz.ntmps95
      go_upto_region 1 with fail
      have hN := Whole.new w 58 [.int .i32 0, .int .i64 0, .string ⟨#[]⟩]
      have hal := (Chg.refl [] w).alloc (.cells #[.int .i32 0, .int .i64 0, .string ⟨#[]⟩] 58)
      obtain ⟨g, hg⟩ : ∃ g, g = w.heap.size := ⟨_, rfl⟩
      rw [← hg] at hN ⊢
      have HG := Lib.hid hN
      have HW1 := Lib.hid hal
      have HGS := Lib.hid hg
      generalize w.alloc (.cells #[.int .i32 0, .int .i64 0, .string ⟨#[]⟩] 58) = w1 at HG HW1 ⊢
      clear hN hal hg
      go_wp2_with (first
        | (go_at_call 117
           with_reducible refine (HF1.out _).mono ?_
           rintro e w2 ⟨rfl, hc2⟩
           have HQ2 := Lib.hid (HW1.out.trans hc2)
           have HG2 := Lib.hid (HG.out.keep hc2)
           clear hc2)
        | (go_at_call 115
           with_reducible refine (HC1.out _).mono ?_
           rintro e w3 ⟨rfl, hc3⟩
           have HQ5 := Lib.hid (HQ2.out.trans hc3)
           have HG5 := Lib.hid (HG2.out.keep hc3)
           have z0 := HG5.out.cell 0
           have z1 := HG5.out.cell 1
           have z2 := HG5.out.cell 2
           have f0 := HG5.out.frozen 0
           have f1 := HG5.out.frozen 1
           have f2 := HG5.out.frozen 2
           clear hc3))
      have hnl : ¬ g < w.heap.size := by have := HGS.out; omega
      have HC := ((HQ5.out.setCell (p := ⟨g, 0, none⟩) (fun h => absurd h hnl) (.int .i32 0)).setCell (p := ⟨g, 1, none⟩) (fun h => absurd h hnl) (.int .i64 0)).setCell (p := ⟨g, 2, none⟩) (fun h => absurd h hnl) (.string ⟨#[]⟩)
      have HS := ((HG5.out.set_ 0 (.int .i32 0)).set_ 1 (.int .i64 0)).set_ 2 (.string ⟨#[]⟩)
      refine bodyPost_ret_by (results_row_tmp rfl _ _ g 58 [(.int .i32 0), (.int .i64 0), (.string ⟨#[]⟩)] _ rfl HS Tryz.underlying58 (by kernel_rfl)) rfl ⟨by rw [HV.out]; rfl, HC⟩
    · have q1 : decide ((c : Int) < 48) = false := by simp; omega
      by_cases h2 : 57 < c
      · rw [if_neg (by omega)] at HV
        have q2 : decide ((57 : Int) < (c : Int)) = true := by simp; omega
        clear h1 h2 hx
        go_enter Tryz.func95, Tryz.ntmps95
        go_upto_region 1 with fail
        have hN := Whole.new w 58 [.int .i32 0, .int .i64 0, .string ⟨#[]⟩]
        have hal := (Chg.refl [] w).alloc (.cells #[.int .i32 0, .int .i64 0, .string ⟨#[]⟩] 58)
        obtain ⟨g, hg⟩ : ∃ g, g = w.heap.size := ⟨_, rfl⟩
        rw [← hg] at hN ⊢
        have HG := Lib.hid hN
        have HW1 := Lib.hid hal
        have HGS := Lib.hid hg
        generalize w.alloc (.cells #[.int .i32 0, .int .i64 0, .string ⟨#[]⟩] 58) = w1 at HG HW1 ⊢
        clear hN hal hg
        go_wp2_with (first
          | (go_at_call 117
             with_reducible refine (HF1.out _).mono ?_
             rintro e w2 ⟨rfl, hc2⟩
             have HQ2 := Lib.hid (HW1.out.trans hc2)
             have HG2 := Lib.hid (HG.out.keep hc2)
             clear hc2)
          | (go_at_call 115
             with_reducible refine (HC1.out _).mono ?_
             rintro e w3 ⟨rfl, hc3⟩
             have HQ5 := Lib.hid (HQ2.out.trans hc3)
             have HG5 := Lib.hid (HG2.out.keep hc3)
             have z0 := HG5.out.cell 0
             have z1 := HG5.out.cell 1
             have z2 := HG5.out.cell 2
             have f0 := HG5.out.frozen 0
             have f1 := HG5.out.frozen 1
             have f2 := HG5.out.frozen 2
             clear hc3))
        have hnl : ¬ g < w.heap.size := by have := HGS.out; omega
        have HC := ((HQ5.out.setCell (p := ⟨g, 0, none⟩) (fun h => absurd h hnl) (.int .i32 0)).setCell (p := ⟨g, 1, none⟩) (fun h => absurd h hnl) (.int .i64 0)).setCell (p := ⟨g, 2, none⟩) (fun h => absurd h hnl) (.string ⟨#[]⟩)
        have HS := ((HG5.out.set_ 0 (.int .i32 0)).set_ 1 (.int .i64 0)).set_ 2 (.string ⟨#[]⟩)
        refine bodyPost_ret_by (results_row_tmp rfl _ _ g 58 [(.int .i32 0), (.int .i64 0), (.string ⟨#[]⟩)] _ rfl HS Tryz.underlying58 (by kernel_rfl)) rfl ⟨by rw [HV.out]; rfl, HC⟩
      · have q2 : decide ((57 : Int) < (c : Int)) = false := by simp; omega
        rw [if_pos (by omega)] at HV
        have hw1 : IntKind.u8.wrap ((c : Int) - 48) = ((c - 48 : Nat) : Int) := by rw [IntKind.wrap_u8]; omega
        have hq9 : c - 48 ≤ 9 := by omega
        generalize c - 48 = q at *
        clear h1 h2 hx
        go_enter Tryz.func95, Tryz.ntmps95
        go_upto_region 1 with fail
        have hN := Whole.new w 58 [.int .i32 0, .int .i64 0, .string ⟨#[]⟩]
        have hal := (Chg.refl [] w).alloc (.cells #[.int .i32 0, .int .i64 0, .string ⟨#[]⟩] 58)
        obtain ⟨g, hg⟩ : ∃ g, g = w.heap.size := ⟨_, rfl⟩
        rw [← hg] at hN ⊢
        have HG := Lib.hid hN
        have HW1 := Lib.hid hal
        have HGS := Lib.hid hg
        generalize w.alloc (.cells #[.int .i32 0, .int .i64 0, .string ⟨#[]⟩] 58) = w1 at HG HW1 ⊢
        clear hN hal hg
        go_wp2_with (first
          | (go_at_call 117
             with_reducible refine (HF1.out _).mono ?_
             rintro e w2 ⟨rfl, hc2⟩
             have HQ2 := Lib.hid (HW1.out.trans hc2)
             have HG2 := Lib.hid (HG.out.keep hc2)
             clear hc2)
          | (go_at_call 115
             with_reducible refine (HC1.out _).mono ?_
             rintro e w3 ⟨rfl, hc3⟩
             have HQ5 := Lib.hid (HQ2.out.trans hc3)
             have HG5 := Lib.hid (HG2.out.keep hc3)
             have z0 := HG5.out.cell 0
             have z1 := HG5.out.cell 1
             have z2 := HG5.out.cell 2
             have f0 := HG5.out.frozen 0
             have f1 := HG5.out.frozen 1
             have f2 := HG5.out.frozen 2
             clear hc3))
        have hnl : ¬ g < w.heap.size := by have := HGS.out; omega
        have HC := ((HQ5.out.setCell (p := ⟨g, 0, none⟩) (fun h => absurd h hnl) (.int .i32 (r : Int))).setCell (p := ⟨g, 1, none⟩) (fun h => absurd h hnl) (.int .i64 (q : Int))).setCell (p := ⟨g, 2, none⟩) (fun h => absurd h hnl) (.string (strOf b))
        have HS := ((HG5.out.set_ 0 (.int .i32 (r : Int))).set_ 1 (.int .i64 (q : Int))).set_ 2 (.string (strOf b))
        refine bodyPost_ret_by (results_row_tmp rfl _ _ g 58 [(.int .i32 (r : Int)), (.int .i64 (q : Int)), (.string (strOf b))] _ rfl HS Tryz.underlying58 (by kernel_rfl)) rfl ⟨by rw [HV.out]; rfl, HC⟩
end
end Go.Proofs.YtbkfhndmeljlcaaGreatDoor
namespace Go.Proofs.YtbkfhndmeljlcaaGreatDoor
open Go.RowKit
theorem drop_two {l : List UInt8} {d : Nat} (h : d + 2 ≤ l.length) : l.drop d = l.getD d 0 :: l.getD (d + 1) 0 :: l.drop (d + 2) := by
  rw [drop_getD (l := l) (p := d) (by omega), drop_getD (l := l) (p := d + 1) (by omega)]
section
variable {w : World}
set_option maxHeartbeats 8000000 in
set_option maxRecDepth 100000 in
theorem rfunction_any (l : List UInt8) (hl : l.length ≤ 1000000) : Calls Tryz.prog 86 #[.string (strOf l)] w (FuncPost l w) := by
  have HP0 := Lib.hid (show funcP l = none → ∀ wr, Chg [] w wr → FuncPost l w (.returned (.tuple #[.agg #[.int .i32 0, .int .i64 0, .string ⟨#[]⟩], .bool false])) wr from fun h wr hc => ⟨by unfold funcV; rw [h], hc⟩)
  have HP1 := Lib.hid (show ∀ f, funcP l = some f → ∀ wr, Chg [] w wr → FuncPost l w (.returned (.tuple #[.agg (fnC f).toArray, .bool true])) wr from fun f h wr hc => ⟨by unfold funcV; rw [h], hc⟩)
  generalize FuncPost l w = PO at HP0 HP1 ⊢
  obtain ⟨S, hS⟩ : ∃ S, S = strOf l := ⟨_, rfl⟩
  have hszS : S.size = l.length := by rw [hS]; exact strOf_len l
  obtain ⟨d, hd⟩ : ∃ d, d = (Utf8.decode S 0).2 := ⟨_, rfl⟩
  obtain ⟨r, hr⟩ : ∃ r, r = (Utf8.decode S 0).1 := ⟨_, rfl⟩
  have hr2 : r ≤ 2147483647 := by rw [hr]; exact decode_le S 0
  have hFP : funcP l = (match l.drop d with
    | x :: y :: code => if l ≠ [] ∧ 48 ≤ x.toNat ∧ x.toNat ≤ 57 ∧ y = 32 then some ⟨(r : Int), ((x.toNat - 48 : Nat) : Int), ⟨code.toArray⟩⟩ else none
    | _ => none) := by
    unfold funcP
    rw [hd, hr, hS]
    rfl
  have HFP := Lib.hid hFP
  clear hFP
  have HAT := Lib.hid (fun (p : Nat) => show ∀ h : p < S.size, ((S[p]'h).toNat : Nat) = (l.getD p 0).toNat from by
    intro h
    subst hS
    rw [strOf_at])
  have HEB := Lib.hid (fun (p : Nat) => show S.extract p l.length = strOf (l.drop p) from by
    rw [hS, strOf_ext]
    congr 1
    exact List.take_of_length_le (by rw [List.length_drop]; exact Nat.le_refl _))
  have hdp : 0 < l.length → 1 ≤ d ∧ d ≤ l.length := fun h => by
    have h1 := dec_byte l 0 h
    rw [hd, hS]
    rcases h1 with ⟨_, h2⟩ | ⟨_, _, h3, h4, _⟩
    · rw [h2]; simp only; omega
    · omega
  rw [← hS]
  clear hS
  obtain ⟨n, hn⟩ : ∃ n, n = l.length := ⟨_, rfl⟩
  rw [← hn] at hszS hl HEB hdp
  have HNL := Lib.hid hn
  clear hn
  have HSZ := Lib.hid hszS
  have HD := Lib.hid hd
  have HR := Lib.hid hr
  clear hd hr
  go_enter Tryz.func86, Tryz.ntmps86
  go_upto_region 1 with fail
  have hN := Whole.new w 58 [.int .i32 0, .int .i64 0, .string ⟨#[]⟩]
  have hal := (Chg.refl [] w).alloc (.cells #[.int .i32 0, .int .i64 0, .string ⟨#[]⟩] 58)
  obtain ⟨g, hg⟩ : ∃ g, g = w.heap.size := ⟨_, rfl⟩
  have hw1s : (w.alloc (.cells #[.int .i32 0, .int .i64 0, .string ⟨#[]⟩] 58)).heap.size = g + 1 := by rw [hg]; simp
  rw [← hg] at hN ⊢
  have hnl : ¬ g < w.heap.size := by omega
  have HG1 := Lib.hid hN
  have HC1 := Lib.hid hal
  generalize w.alloc (.cells #[.int .i32 0, .int .i64 0, .string ⟨#[]⟩] 58) = w1 at HG1 HC1 hw1s ⊢
  clear hN hal hg
  go_upto_region 2 with fail
  have hN := Whole.new w1 58 [.int .i32 0, .int .i64 0, .string ⟨#[]⟩]
  have hal := (Chg.refl [] w1).alloc (.cells #[.int .i32 0, .int .i64 0, .string ⟨#[]⟩] 58)
  have hw2s : (w1.alloc (.cells #[.int .i32 0, .int .i64 0, .string ⟨#[]⟩] 58)).heap.size = g + 2 := by simp [hw1s]
  rw [hw1s] at hN
  have HF2 := Lib.hid hN
  have HG2 := Lib.hid (HG1.out.keep hal)
  have HC2 := Lib.hid (HC1.out.trans hal)
  generalize w1.alloc (.cells #[.int .i32 0, .int .i64 0, .string ⟨#[]⟩] 58) = w2 at HF2 HG2 HC2 hw2s ⊢
  clear hN hal
  go_upto_region 4 with fail
  have hI : (w2.iter S 0).heap[w2.heap.size]? = some (.stringIter S 0) := World.iter_heap w2 S 0
  have hc0 : Chg [] w2 (w2.iter S 0) := (Chg.refl [] w2).alloc _
  rw [hw2s] at hI
  have HF3 := Lib.hid (HF2.out.keep hc0)
  have HG3 := Lib.hid (HG2.out.keep hc0)
  have HC3 := Lib.hid (HC2.out.trans hc0)
  have HI3 := Lib.hid hI
  generalize w2.iter S 0 = w3 at HF3 HG3 HC3 HI3 ⊢
  clear hI hc0
  have HZ := Lib.hid hw2s
  clear hw1s hw2s
  go_loopw [5] (fun f wr => f = .int .i64 0 ∧ ∃ (pos nm : Nat), Hid (wr.heap[g + 2]? = some (.stringIter S pos)) ∧ pos ≤ n ∧ (pos = 0 ∨ (pos = d ∧ 0 < n)) ∧ nm ≤ 2147483647 ∧ (pos = d → 0 < pos → nm = r) ∧ Hid (Whole wr (g + 1) 58 [.int .i32 (nm : Int), .int .i64 0, .string ⟨#[]⟩]) ∧ Hid (Whole wr g 58 [.int .i32 0, .int .i64 0, .string ⟨#[]⟩]) ∧ Hid (Chg [] w wr)) (fun _ wr => n - wr.iterPos (g + 2))
  case atStart => exact ⟨rfl, 0, 0, HI3, by omega, .inl rfl, by omega, fun _ h => by omega, HF3, HG3, HC3⟩
  case round =>
    obtain ⟨rfl, pos, nm, HIr, hpn, hpos, hnm, hnmr, HFr, HGr, HCr⟩ := hrel
    have HMP := Lib.hid (show wr.iterPos (g + 2) = pos from by unfold World.iterPos; rw [HIr.out])
    by_cases hlt : pos < n
    · have hltS : pos < S.size := by rw [HSZ.out]; exact hlt
      have hnx := fun ty => Lib.run_next_any_at (P := Tryz.prog) wr (g + 2) S pos ty HIr.out hltS
      obtain ⟨hd1, hdn⟩ := hdp (by omega)
      go_upto_region 6 with fail
      obtain ⟨d2, hd2⟩ : ∃ d, d = (Utf8.decode S pos).2 := ⟨_, rfl⟩
      obtain ⟨x2, hx2⟩ : ∃ r, r = (Utf8.decode S pos).1 := ⟨_, rfl⟩
      have hx2b : x2 ≤ 2147483647 := by rw [hx2]; exact decode_le S pos
      have HI4 := Lib.hid (Lib.iterAt_heap wr (g + 2) S pos (pos + d2) HIr.out)
      have hcI : Chg [g + 2] wr (wr.iterAt (g + 2) S (pos + d2)) := ⟨rfl, rfl, rfl, by rw [Lib.iterAt_size]; exact Nat.le_refl _, fun i _ hn => Lib.iterAt_other wr (g + 2) i S (pos + d2) (by simpa using hn)⟩
      have HF4 := Lib.hid (HFr.out.chg hcI (by simp))
      have HG4 := Lib.hid (HGr.out.chg hcI (by simp))
      have HC4 := Lib.hid (HCr.out.then_ hcI (fun i hi hlt => by simp at hi; omega))
      rw [← hd2, ← hx2]
      generalize wr.iterAt (g + 2) S (pos + d2) = w4 at HI4 HF4 HG4 HC4 ⊢
      clear hnx hcI
      by_cases hp0 : pos = 0
      · subst hp0
        obtain rfl : d2 = d := by rw [hd2, HD.out]
        obtain rfl : x2 = r := by rw [hx2, HR.out]
        have c0 := HF4.out.cell 0
        have q0 := HF4.out.frozen 0
        have HF5 := Lib.hid (show Whole (w4.setCell ⟨g + 1, 0, none⟩ (.int .i32 (x2 : Int))) (g + 1) 58 [.int .i32 (x2 : Int), .int .i64 0, .string ⟨#[]⟩] from by have := HF4.out.set_ 0 (.int .i32 (x2 : Int)); simpa using this)
        have HG5 := Lib.hid (HG4.out.far (p := ⟨g + 1, 0, none⟩) (by simp) (.int .i32 (x2 : Int)))
        have HC5 := Lib.hid (HC4.out.setCell (p := ⟨g + 1, 0, none⟩) (fun h => by simp only at h; omega) (.int .i32 (x2 : Int)))
        have HI5 := Lib.hid (show (w4.setCell ⟨g + 1, 0, none⟩ (.int .i32 (x2 : Int))).heap[g + 2]? = some (.stringIter S (0 + d2)) from (Below.heap_setCell w4 ⟨g + 1, 0, none⟩ (.int .i32 (x2 : Int)) (g + 2) (by simp)).trans HI4.out)
        have HP5 := Lib.hid (show (w4.setCell ⟨g + 1, 0, none⟩ (.int .i32 (x2 : Int))).iterPos (g + 2) = 0 + d2 from by unfold World.iterPos; rw [HI5.out])
        clear hd2 hx2
        go_wp2_with fail
        go_roundw
        case rel => exact ⟨rfl, 0 + d2, x2, HI5, by omega, .inr ⟨by omega, by omega⟩, hx2b, fun _ _ => rfl, HF5, HG5, HC5⟩
        case measure => rw [HP5.out, HMP.out]; omega
      · obtain ⟨rfl, _⟩ := hpos.resolve_left hp0
        have hnr := hnmr rfl (by omega)
        subst hnr
        have hp0I : (0 : Int) < (pos : Int) := by omega
        have hpz : ((pos : Int) == 0) = false := by simp; omega
        clear hd2 hx2 hnmr hpos
        by_cases h2 : n < pos + 2
        · have HZZ := Lib.hid (show funcP l = none from by
            rw [HFP.out]
            have hlen := congrArg List.length (show l.drop pos = l.drop pos from rfl)
            match hm : l.drop pos with
            | [] => rfl
            | [x] => rfl
            | x :: y :: c =>
              have h3 := congrArg List.length hm
              rw [List.length_drop, ← HNL.out] at h3
              simp at h3
              omega)
          have b2 : decide ((n : Int) < (pos : Int) + 2) = true := decide_eq_true (by omega)
          have z0 := HG4.out.cell 0
          have z1 := HG4.out.cell 1
          have z2 := HG4.out.cell 2
          have f0 := HG4.out.frozen 0
          have f1 := HG4.out.frozen 1
          have f2 := HG4.out.frozen 2
          go_wp2_with fail
          have HCF := ((HC4.out.setCell (p := ⟨g, 0, none⟩) (fun h => absurd h hnl) (.int .i32 0)).setCell (p := ⟨g, 1, none⟩) (fun h => absurd h hnl) (.int .i64 0)).setCell (p := ⟨g, 2, none⟩) (fun h => absurd h hnl) (.string ⟨#[]⟩)
          have HSS := ((HG4.out.set_ 0 (.int .i32 0)).set_ 1 (.int .i64 0)).set_ 2 (.string ⟨#[]⟩)
          exact bodyPost_ret_by (results_row_tmp (p := 2) (u := 3) (ty := 58) rfl _ _ g 58 [.int .i32 0, .int .i64 0, .string ⟨#[]⟩] _ rfl HSS Tryz.underlying58 (by kernel_rfl)) rfl (HP0.out HZZ.out _ HCF)
        · have b2 : decide ((n : Int) < (pos : Int) + 2) = false := decide_eq_false (by omega)
          have hdr := drop_two (l := l) (d := pos) (by rw [← HNL.out]; omega)
          have hat := HAT.out pos
          have hat2 := HAT.out (pos + 1)
          have HFQ := Lib.hid (show funcP l = if l ≠ [] ∧ 48 ≤ (l.getD pos 0).toNat ∧ (l.getD pos 0).toNat ≤ 57 ∧ l.getD (pos + 1) 0 = 32 then some ⟨(nm : Int), (((l.getD pos 0).toNat - 48 : Nat) : Int), ⟨(l.drop (pos + 2)).toArray⟩⟩ else none from by rw [HFP.out, hdr])
          have hne : l ≠ [] := fun h => by rw [h] at HNL; have := HNL.out; simp at this; omega
          have HNE := Lib.hid hne
          have hpS1 : pos < S.size := by omega
          have hpS2 : pos + 1 < S.size := by omega
          have hpI1 : (pos : Int) < (n : Int) := by omega
          have hpI2 : (pos : Int) + 1 < (n : Int) := by omega
          have hpI3 : (pos : Int) + 2 ≤ (n : Int) := by omega
          have hx255 : (l.getD pos 0).toNat < 256 := UInt8.toNat_lt _
          clear hdr hne
          generalize l.getD (pos + 1) 0 = y at hat2 HFQ
          generalize (l.getD pos 0).toNat = x at hat hx255 HFQ
          by_cases hx48 : x < 48
          · have HZZ := Lib.hid (show funcP l = none from by rw [HFQ.out, if_neg (by omega)])
            have b3 : decide ((x : Int) < 48) = true := decide_eq_true (by omega)
            have z0 := HG4.out.cell 0
            have z1 := HG4.out.cell 1
            have z2 := HG4.out.cell 2
            have f0 := HG4.out.frozen 0
            have f1 := HG4.out.frozen 1
            have f2 := HG4.out.frozen 2
            go_wp2_with fail
            have HCF := ((HC4.out.setCell (p := ⟨g, 0, none⟩) (fun h => absurd h hnl) (.int .i32 0)).setCell (p := ⟨g, 1, none⟩) (fun h => absurd h hnl) (.int .i64 0)).setCell (p := ⟨g, 2, none⟩) (fun h => absurd h hnl) (.string ⟨#[]⟩)
            have HSS := ((HG4.out.set_ 0 (.int .i32 0)).set_ 1 (.int .i64 0)).set_ 2 (.string ⟨#[]⟩)
            exact bodyPost_ret_by (results_row_tmp (p := 2) (u := 3) (ty := 58) rfl _ _ g 58 [.int .i32 0, .int .i64 0, .string ⟨#[]⟩] _ rfl HSS Tryz.underlying58 (by kernel_rfl)) rfl (HP0.out HZZ.out _ HCF)
          · have b3 : decide ((x : Int) < 48) = false := decide_eq_false (by omega)
            by_cases hx57 : 57 < x
            · have HZZ := Lib.hid (show funcP l = none from by rw [HFQ.out, if_neg (by omega)])
              have b4 : decide ((57 : Int) < (x : Int)) = true := decide_eq_true (by omega)
              have z0 := HG4.out.cell 0
              have z1 := HG4.out.cell 1
              have z2 := HG4.out.cell 2
              have f0 := HG4.out.frozen 0
              have f1 := HG4.out.frozen 1
              have f2 := HG4.out.frozen 2
              go_wp2_with fail
              have HCF := ((HC4.out.setCell (p := ⟨g, 0, none⟩) (fun h => absurd h hnl) (.int .i32 0)).setCell (p := ⟨g, 1, none⟩) (fun h => absurd h hnl) (.int .i64 0)).setCell (p := ⟨g, 2, none⟩) (fun h => absurd h hnl) (.string ⟨#[]⟩)
              have HSS := ((HG4.out.set_ 0 (.int .i32 0)).set_ 1 (.int .i64 0)).set_ 2 (.string ⟨#[]⟩)
              exact bodyPost_ret_by (results_row_tmp (p := 2) (u := 3) (ty := 58) rfl _ _ g 58 [.int .i32 0, .int .i64 0, .string ⟨#[]⟩] _ rfl HSS Tryz.underlying58 (by kernel_rfl)) rfl (HP0.out HZZ.out _ HCF)
            · have b4 : decide ((57 : Int) < (x : Int)) = false := decide_eq_false (by omega)
              by_cases hy : y = 32
              · have HVV := Lib.hid (HP1.out _ (by rw [HFQ.out, if_pos ⟨HNE.out, by omega, by omega, hy⟩]))
                rw [hy] at hat2
                have hat3 : ∀ h : pos + 1 < S.size, (S[pos + 1]'h).toNat = 32 := hat2
                have heb := HEB.out (pos + 2)
                have hwx : IntKind.u8.wrap ((x : Int) - 48) = ((x - 48 : Nat) : Int) := by rw [IntKind.wrap_u8]; omega
                have hq9 : x - 48 ≤ 9 := by omega
                obtain ⟨q, hq⟩ : ∃ q, q = x - 48 := ⟨_, rfl⟩
                rw [← hq] at hwx HVV hq9
                obtain ⟨CD, hCD⟩ : ∃ C, C = strOf (l.drop (pos + 2)) := ⟨_, rfl⟩
                rw [← hCD] at heb
                have HCD := Lib.hid (show (⟨(l.drop (pos + 2)).toArray⟩ : ByteArray) = CD from hCD.symm)
                rw [HCD.out] at HVV
                clear hat2 hy hq hCD
                have c0 := HF4.out.cell 0
                have c1 := HF4.out.cell 1
                have c2 := HF4.out.cell 2
                have q1 := HF4.out.frozen 1
                have q2 := HF4.out.frozen 2
                have z0 := HG4.out.cell 0
                have z1 := HG4.out.cell 1
                have z2 := HG4.out.cell 2
                have f0 := HG4.out.frozen 0
                have f1 := HG4.out.frozen 1
                have f2 := HG4.out.frozen 2
                go_wp2_with fail
                have HG6 := Lib.hid ((HG4.out.far (p := ⟨g + 1, 1, none⟩) (by simp) (.int .i64 (q : Int))).far (p := ⟨g + 1, 2, none⟩) (by simp) (.string CD))
                have HC6 := Lib.hid ((HC4.out.setCell (p := ⟨g + 1, 1, none⟩) (fun h => by simp only at h; omega) (.int .i64 (q : Int))).setCell (p := ⟨g + 1, 2, none⟩) (fun h => by simp only at h; omega) (.string CD))
                have HCF := ((HC6.out.setCell (p := ⟨g, 0, none⟩) (fun h => absurd h hnl) (.int .i32 (nm : Int))).setCell (p := ⟨g, 1, none⟩) (fun h => absurd h hnl) (.int .i64 (q : Int))).setCell (p := ⟨g, 2, none⟩) (fun h => absurd h hnl) (.string CD)
                have HSS := ((HG6.out.set_ 0 (.int .i32 (nm : Int))).set_ 1 (.int .i64 (q : Int))).set_ 2 (.string CD)
                exact bodyPost_ret_by (results_row_tmp (p := 2) (u := 3) (ty := 58) rfl _ _ g 58 [.int .i32 (nm : Int), .int .i64 (q : Int), .string CD] _ rfl HSS Tryz.underlying58 (by kernel_rfl)) rfl (HVV.out _ HCF)
              · have HZZ := Lib.hid (show funcP l = none from by rw [HFQ.out, if_neg (fun h => hy h.2.2.2)])
                have hyn : y.toNat ≠ 32 := fun h => hy (UInt8.toNat_inj.1 (by rw [h]; rfl))
                generalize y.toNat = z at hat2 hyn
                have b5 : ((z : Int) == 32) = false := by simp; omega
                have b6 : ((z : Int) != 32) = true := by simp; omega
                have z0 := HG4.out.cell 0
                have z1 := HG4.out.cell 1
                have z2 := HG4.out.cell 2
                have f0 := HG4.out.frozen 0
                have f1 := HG4.out.frozen 1
                have f2 := HG4.out.frozen 2
                go_wp2_with fail
                have HCF := ((HC4.out.setCell (p := ⟨g, 0, none⟩) (fun h => absurd h hnl) (.int .i32 0)).setCell (p := ⟨g, 1, none⟩) (fun h => absurd h hnl) (.int .i64 0)).setCell (p := ⟨g, 2, none⟩) (fun h => absurd h hnl) (.string ⟨#[]⟩)
                have HSS := ((HG4.out.set_ 0 (.int .i32 0)).set_ 1 (.int .i64 0)).set_ 2 (.string ⟨#[]⟩)
                exact bodyPost_ret_by (results_row_tmp (p := 2) (u := 3) (ty := 58) rfl _ _ g 58 [.int .i32 0, .int .i64 0, .string ⟨#[]⟩] _ rfl HSS Tryz.underlying58 (by kernel_rfl)) rfl (HP0.out HZZ.out _ HCF)
    · have hnx := fun ty => Lib.run_next_end_at (P := Tryz.prog) wr (g + 2) S pos ty HIr.out (by omega)
      have HZZ := Lib.hid (show funcP l = none from by
        rw [HFP.out]
        by_cases h0 : n = 0
        · have : l = [] := List.eq_nil_of_length_eq_zero (by rw [← HNL.out]; exact h0)
          subst this
          simp
        · have hpd : pos = d := by omega
          rw [← hpd, List.drop_eq_nil_of_le (by rw [← HNL.out]; omega)])
      have z0 := HGr.out.cell 0
      have z1 := HGr.out.cell 1
      have z2 := HGr.out.cell 2
      have f0 := HGr.out.frozen 0
      have f1 := HGr.out.frozen 1
      have f2 := HGr.out.frozen 2
      go_wp2_with fail
      have HCF := ((HCr.out.setCell (p := ⟨g, 0, none⟩) (fun h => absurd h hnl) (.int .i32 0)).setCell (p := ⟨g, 1, none⟩) (fun h => absurd h hnl) (.int .i64 0)).setCell (p := ⟨g, 2, none⟩) (fun h => absurd h hnl) (.string ⟨#[]⟩)
      have HSS := ((HGr.out.set_ 0 (.int .i32 0)).set_ 1 (.int .i64 0)).set_ 2 (.string ⟨#[]⟩)
      exact bodyPost_ret_by (results_row_tmp (p := 2) (u := 3) (ty := 58) rfl _ _ g 58 [.int .i32 0, .int .i64 0, .string ⟨#[]⟩] _ rfl HSS Tryz.underlying58 (by kernel_rfl)) rfl (HP0.out HZZ.out _ HCF)
end
end Go.Proofs.YtbkfhndmeljlcaaGreatDoor
