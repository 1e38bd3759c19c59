/-
  PB: UFunc.
-/
import Derived.Test.YtbkfhndmeljlcaaGreatDoorZPB38
namespace Go.Proofs.YtbkfhndmeljlcaaGreatDoor
open Go.RowKit
def firstR (l : List UInt8) : Nat × List UInt8 := if l = [] then (0, []) else ((Utf8.decode (strOf l) 0).1, l.drop (Utf8.decode (strOf l) 0).2)
def FirstPost (l : List UInt8) (w : World) (e : Ending) (w' : World) : Prop := e = .returned (.tuple #[.int .i32 ((firstR l).1 : Int), .string (strOf (firstR l).2)]) ∧ Chg [] w w'
section
variable {w : World}
set_option maxHeartbeats 4000000 in
set_option maxRecDepth 100000 in
theorem ufirst_any (l : List UInt8) (hl : l.length ≤ 1000000) : Calls Tryz.prog 117 #[.string (strOf l)] w (FirstPost l w) := by
  have HPP := Lib.hid (show ∀ (r : Nat) (s : ByteArray) (wr : World), r = (firstR l).1 → s = strOf (firstR l).2 → Chg [] w wr → FirstPost l w (.returned (.tuple #[.int .i32 (r : Int), .string s])) wr from fun r s wr h1 h2 h3 => ⟨by rw [h1, h2], h3⟩)
  obtain ⟨S, hS⟩ : ∃ S, S = strOf l := ⟨_, rfl⟩
  have HS := Lib.hid hS
  have hszS : S.size = l.length := by rw [hS]; exact strOf_len l
  rw [← hS]
  clear hS
  obtain ⟨n, hn⟩ : ∃ n, n = l.length := ⟨_, rfl⟩
  rw [← hn] at hszS hl
  have HNL := Lib.hid hn
  clear hn
  have HSZ := Lib.hid hszS
  go_enter Tryz.func117, Tryz.ntmps117
  go_upto_region 3 with fail
  have hI : (w.iter S 0).heap[w.heap.size]? = some (.stringIter S 0) := World.iter_heap w S 0
  have hc0 : Chg [] w (w.iter S 0) := (Chg.refl [] w).alloc _
  obtain ⟨kI, hkI⟩ : ∃ k, k = w.heap.size := ⟨_, rfl⟩
  rw [← hkI] at hI ⊢
  generalize w.iter S 0 = w1 at hI hc0 ⊢
  have HI := Lib.hid hI
  have HC0 := Lib.hid hc0
  have HK := Lib.hid hkI
  clear hI hc0 hkI hszS
  have HCZ := Lib.hid (fun (W : World) (hW : Chg [kI] w1 W) => show Chg [] w W from HC0.out.then_ hW (fun i hi hl => by have := HK.out; simp only [List.mem_cons, List.not_mem_nil, or_false] at hi; omega))
  go_loopw [4] (fun v wr => ∃ (pos r : Nat), v = .int .i32 (r : Int) ∧ r ≤ 2147483647 ∧ pos ≤ n ∧ Hid (wr.heap[kI]? = some (.stringIter S pos)) ∧ Hid ((pos = 0 ∧ r = 0) ∨ (0 < n ∧ 0 < pos ∧ r = (firstR l).1 ∧ (firstR l).2 = l.drop pos)) ∧ Hid (Chg [kI] w1 wr)) (fun _ wr => n - wr.iterPos kI)
  case atStart => exact ⟨0, 0, rfl, by omega, by omega, HI, Lib.hid (.inl ⟨rfl, rfl⟩), Lib.hid (Chg.refl _ _)⟩
  case round =>
    obtain ⟨pos, r, rfl, hr, hpn, HIr, HX, HCr⟩ := hrel
    by_cases hlt : pos < n
    · have hltS : pos < S.size := by rw [HSZ.out]; exact hlt
      have hnx := fun ty => Lib.run_next_any_at (P := Tryz.prog) wr kI S pos ty HIr.out hltS
      go_upto_region 5 with fail
      obtain ⟨d, hd⟩ : ∃ d, d = (Utf8.decode S pos).2 := ⟨_, rfl⟩
      obtain ⟨x, hx⟩ : ∃ r, r = (Utf8.decode S pos).1 := ⟨_, rfl⟩
      have hx2 : x ≤ 2147483647 := by rw [hx]; exact decode_le S pos
      have hdd : 1 ≤ d ∧ pos + d ≤ n := by
        have hdb := dec_byte l pos (by rw [← HNL.out]; exact hlt)
        rw [← HS.out, ← HNL.out] at hdb
        rcases hdb with ⟨_, h2⟩ | ⟨_, _, h3, h4, _⟩
        · have e : d = 1 := by rw [hd, h2]
          omega
        · rw [← hd] at h3 h4
          exact ⟨h3, h4⟩
      have HI2 := Lib.hid (Lib.iterAt_heap wr kI S pos (pos + d) HIr.out)
      have HC2 := Lib.hid (show Chg [kI] w1 (wr.iterAt kI S (pos + d)) from HCr.out.trans ⟨rfl, rfl, rfl, by rw [Lib.iterAt_size]; exact Nat.le_refl _, fun i _ hn => Lib.iterAt_other wr kI i S (pos + d) (by simpa using hn)⟩)
      have HMP := Lib.hid (show wr.iterPos kI = pos from by unfold World.iterPos; rw [HIr.out])
      have HP2 := Lib.hid (show (wr.iterAt kI S (pos + d)).iterPos kI = pos + d from by unfold World.iterPos; rw [HI2.out])
      have HDX := Lib.hid (And.intro hd hx)
      rw [← hd, ← hx]
      generalize wr.iterAt kI S (pos + d) = w3 at HI2 HC2 HP2 ⊢
      clear hd hx hnx
      rcases HX.out with ⟨rfl, rfl⟩ | ⟨hn0, hp0, hr1, hr2⟩
      · have hne : l ≠ [] := fun h => by
          have e := HNL.out
          rw [h, List.length_nil] at e
          omega
        have HX2 := Lib.hid (show (0 + d = 0 ∧ x = 0) ∨ (0 < n ∧ 0 < 0 + d ∧ x = (firstR l).1 ∧ (firstR l).2 = l.drop (0 + d)) from by
          refine .inr ⟨hlt, by omega, ?_, ?_⟩
          · unfold firstR; rw [if_neg hne, HDX.out.2, HS.out]
          · unfold firstR; rw [if_neg hne, HDX.out.1, HS.out, Nat.zero_add])
        clear hne
        go_wp2_with fail
        go_roundw
        case rel => exact ⟨0 + d, x, rfl, hx2, by omega, HI2, HX2, HC2⟩
        case measure => rw [HP2.out, HMP.out]; omega
      · have hpI : (0 : Int) < (pos : Int) := by omega
        have hpJ : (0 : Int) ≤ (pos : Int) := by omega
        have hpS : (pos : Int) ≤ (S.size : Int) := by omega
        have hpT : (pos : Int) ≤ (n : Int) := by omega
        have hsn := HSZ.out
        have HEX := Lib.hid (show S.extract pos S.size = strOf (firstR l).2 from by
          rw [HS.out, strOf_ext, strOf_len, hr2, List.take_of_length_le (by rw [List.length_drop]; exact Nat.le_refl _)])
        have HEN := Lib.hid (show S.extract pos n = strOf (firstR l).2 from by rw [← hsn]; exact HEX.out)
        have HR1 := Lib.hid hr1
        have HCF := Lib.hid (show Chg [] w w3.drew from (HCZ.out _ HC2.out).drew)
        clear hr1 hr2 hn0
        go_wp2_with fail
        go_region
        all_goals go_wp2_with fail
        all_goals go_ret2
        all_goals first | exact HPP.out _ _ _ HR1.out HEX.out HCF.out | exact HPP.out _ _ _ HR1.out HEN.out HCF.out
    · have hnx := fun ty => Lib.run_next_end_at (P := Tryz.prog) wr kI S pos ty HIr.out (by rw [HSZ.out]; exact hlt)
      obtain rfl : pos = n := by omega
      have HPO := Lib.hid (HPP.out r ⟨#[]⟩ wr (by
        rcases HX.out with ⟨rfl, rfl⟩ | ⟨_, _, h, _⟩
        · have : l = [] := List.eq_nil_of_length_eq_zero HNL.out.symm
          unfold firstR; rw [if_pos this]
        · exact h) (by
        rcases HX.out with ⟨rfl, rfl⟩ | ⟨_, _, _, h⟩
        · have : l = [] := List.eq_nil_of_length_eq_zero HNL.out.symm
          unfold firstR; rw [if_pos this]; rfl
        · rw [h, HNL.out, List.drop_length]; rfl) (HCZ.out _ HCr.out))
      go_wp2_with fail
      go_ret2
      exact HPO.out
end
theorem func_cut (l : List UInt8) : funcP l = (match cut1 (firstR l).2 with
  | some ([x], b) => if 48 ≤ x.toNat ∧ x.toNat ≤ 57 then some ⟨((firstR l).1 : Int), ((x.toNat - 48 : Nat) : Int), strOf b⟩ else none
  | _ => none) := by
  unfold funcP firstR
  by_cases h0 : l = []
  · subst h0
    rfl
  · rw [if_neg h0]
    show (match l.drop (Utf8.decode (strOf l) 0).2 with | x :: y :: code => _ | _ => none) = _
    simp only
    generalize l.drop (Utf8.decode (strOf l) 0).2 = R
    match R with
    | [] => rfl
    | [x] =>
      simp only [cut1]
      by_cases hx : x = 32
      · rw [if_pos hx]
      · rw [if_neg hx]; rfl
    | x :: y :: t =>
      simp only [cut1]
      by_cases hx : x = 32
      · rw [if_pos hx, if_neg]
        rintro ⟨_, h2, _⟩
        rw [hx] at h2
        exact absurd h2 (by decide)
      · rw [if_neg hx]
        by_cases hy : y = 32
        · rw [if_pos hy]
          simp only [Option.map_some]
          by_cases hd : 48 ≤ x.toNat ∧ x.toNat ≤ 57
          · rw [if_pos hd, if_pos ⟨h0, hd.1, hd.2, hy⟩]
            rfl
          · rw [if_neg hd, if_neg (fun h => hd ⟨h.2.1, h.2.2.1⟩)]
        · rw [if_neg hy, if_neg (fun h => hy h.2.2.2)]
          cases cut1 t with
          | none => rfl
          | some p => rfl
def funcV (l : List UInt8) : Value := match funcP l with
  | some f => .tuple #[.agg (fnC f).toArray, .bool true]
  | none => .tuple #[.agg #[.int .i32 0, .int .i64 0, .string ⟨#[]⟩], .bool false]
def FuncPost (l : List UInt8) (w : World) (e : Ending) (w' : World) : Prop := e = .returned (funcV l) ∧ Chg [] w w'
theorem firstR_len (l : List UInt8) : (firstR l).2.length ≤ l.length := by
  unfold firstR
  split
  · simp
  · simp
section
variable {w : World}
set_option maxHeartbeats 4000000 in
set_option maxRecDepth 100000 in
theorem ufunc_any (l : List UInt8) (hl : l.length ≤ 1000000) : Calls Tryz.prog 95 #[.string (strOf l)] w (FuncPost l w) := by
  have hfl := firstR_len l
  have HF1 := Lib.hid (fun (W : World) => ufirst_any (w := W) l hl)
  have HC1 := Lib.hid (fun (W : World) => cut_any (w := W) (firstR l).2 (by omega))
  obtain ⟨V, hV⟩ : ∃ V, V = funcV l := ⟨_, rfl⟩
  unfold FuncPost
  rw [← hV]
  unfold funcV at hV
  rw [func_cut] at hV
  unfold FirstPost at HF1
  unfold CutPost cutV at HC1
  have HV := Lib.hid hV
  clear hV hfl
  generalize (firstR l).1 = r at *
  generalize (firstR l).2 = R at *
  generalize cut1 R = o at *
  match o with
  | none =>
    simp only at HC1 HV
    go_enter Tryz.func95, Tryz.ntmps95
    go_upto_region 1 with fail
    have hN := Whole.new w 58 [.int .i32 0, .int .i64 0, .string ⟨#[]⟩]
    have hal := (Chg.refl [] w).alloc (.cells #[.int .i32 0, .int .i64 0, .string ⟨#[]⟩] 58)
    obtain ⟨g, hg⟩ : ∃ g, g = w.heap.size := ⟨_, rfl⟩
    rw [← hg] at hN ⊢
    have HG := Lib.hid hN
    have HW1 := Lib.hid hal
    have HGS := Lib.hid hg
    generalize w.alloc (.cells #[.int .i32 0, .int .i64 0, .string ⟨#[]⟩] 58) = w1 at HG HW1 ⊢
    clear hN hal hg
    go_wp2_with (first
      | (go_at_call 117
         with_reducible refine (HF1.out _).mono ?_
         rintro e w2 ⟨rfl, hc2⟩
         have HQ2 := Lib.hid (HW1.out.trans hc2)
         have HG2 := Lib.hid (HG.out.keep hc2)
         clear hc2)
      | (go_at_call 115
         with_reducible refine (HC1.out _).mono ?_
         rintro e w3 ⟨rfl, hc3⟩
         have HQ5 := Lib.hid (HQ2.out.trans hc3)
         have HG5 := Lib.hid (HG2.out.keep hc3)
         have z0 := HG5.out.cell 0
         have z1 := HG5.out.cell 1
         have z2 := HG5.out.cell 2
         have f0 := HG5.out.frozen 0
         have f1 := HG5.out.frozen 1
         have f2 := HG5.out.frozen 2
         clear hc3))
    have hnl : ¬ g < w.heap.size := by have := HGS.out; omega
    have HC := ((HQ5.out.setCell (p := ⟨g, 0, none⟩) (fun h => absurd h hnl) (.int .i32 0)).setCell (p := ⟨g, 1, none⟩) (fun h => absurd h hnl) (.int .i64 0)).setCell (p := ⟨g, 2, none⟩) (fun h => absurd h hnl) (.string ⟨#[]⟩)
    have HS := ((HG5.out.set_ 0 (.int .i32 0)).set_ 1 (.int .i64 0)).set_ 2 (.string ⟨#[]⟩)
    refine bodyPost_ret_by (results_row_tmp rfl _ _ g 58 [(.int .i32 0), (.int .i64 0), (.string ⟨#[]⟩)] _ rfl HS Tryz.underlying58 (by kernel_rfl)) rfl ⟨by rw [HV.out]; rfl, HC⟩
  | some ([], b) =>
    simp only at HC1 HV
    have e0 : (strOf ([] : List UInt8)).size = 0 := rfl
    go_enter Tryz.func95, Tryz.ntmps95
    go_upto_region 1 with fail
    have hN := Whole.new w 58 [.int .i32 0, .int .i64 0, .string ⟨#[]⟩]
    have hal := (Chg.refl [] w).alloc (.cells #[.int .i32 0, .int .i64 0, .string ⟨#[]⟩] 58)
    obtain ⟨g, hg⟩ : ∃ g, g = w.heap.size := ⟨_, rfl⟩
    rw [← hg] at hN ⊢
    have HG := Lib.hid hN
    have HW1 := Lib.hid hal
    have HGS := Lib.hid hg
    generalize w.alloc (.cells #[.int .i32 0, .int .i64 0, .string ⟨#[]⟩] 58) = w1 at HG HW1 ⊢
    clear hN hal hg
    go_wp2_with (first
      | (go_at_call 117
         with_reducible refine (HF1.out _).mono ?_
         rintro e w2 ⟨rfl, hc2⟩
         have HQ2 := Lib.hid (HW1.out.trans hc2)
         have HG2 := Lib.hid (HG.out.keep hc2)
         clear hc2)
      | (go_at_call 115
         with_reducible refine (HC1.out _).mono ?_
         rintro e w3 ⟨rfl, hc3⟩
         have HQ5 := Lib.hid (HQ2.out.trans hc3)
         have HG5 := Lib.hid (HG2.out.keep hc3)
         have z0 := HG5.out.cell 0
         have z1 := HG5.out.cell 1
         have z2 := HG5.out.cell 2
         have f0 := HG5.out.frozen 0
         have f1 := HG5.out.frozen 1
         have f2 := HG5.out.frozen 2
         clear hc3))
    have hnl : ¬ g < w.heap.size := by have := HGS.out; omega
    have HC := ((HQ5.out.setCell (p := ⟨g, 0, none⟩) (fun h => absurd h hnl) (.int .i32 0)).setCell (p := ⟨g, 1, none⟩) (fun h => absurd h hnl) (.int .i64 0)).setCell (p := ⟨g, 2, none⟩) (fun h => absurd h hnl) (.string ⟨#[]⟩)
    have HS := ((HG5.out.set_ 0 (.int .i32 0)).set_ 1 (.int .i64 0)).set_ 2 (.string ⟨#[]⟩)
    refine bodyPost_ret_by (results_row_tmp rfl _ _ g 58 [(.int .i32 0), (.int .i64 0), (.string ⟨#[]⟩)] _ rfl HS Tryz.underlying58 (by kernel_rfl)) rfl ⟨by rw [HV.out]; rfl, HC⟩
  | some (x :: y :: a, b) =>
    simp only at HC1 HV
    have e0 : (strOf (x :: y :: a)).size = a.length + 2 := by rw [strOf_len]; rfl
    have e1 : (((a.length + 2 : Nat) : Int) != 1) = true := by simp; omega
    have e2 : (((strOf (x :: y :: a)).size : Int) != 1) = true := by rw [e0]; exact e1
    generalize strOf (x :: y :: a) = S at *
    have HE0 := Lib.hid e0
    clear e0 e1
    go_enter Tryz.func95, Tryz.ntmps95
    go_upto_region 1 with fail
    have hN := Whole.new w 58 [.int .i32 0, .int .i64 0, .string ⟨#[]⟩]
    have hal := (Chg.refl [] w).alloc (.cells #[.int .i32 0, .int .i64 0, .string ⟨#[]⟩] 58)
    obtain ⟨g, hg⟩ : ∃ g, g = w.heap.size := ⟨_, rfl⟩
    rw [← hg] at hN ⊢
    have HG := Lib.hid hN
    have HW1 := Lib.hid hal
    have HGS := Lib.hid hg
    generalize w.alloc (.cells #[.int .i32 0, .int .i64 0, .string ⟨#[]⟩] 58) = w1 at HG HW1 ⊢
    clear hN hal hg
    go_wp2_with (first
      | (go_at_call 117
         with_reducible refine (HF1.out _).mono ?_
         rintro e w2 ⟨rfl, hc2⟩
         have HQ2 := Lib.hid (HW1.out.trans hc2)
         have HG2 := Lib.hid (HG.out.keep hc2)
         clear hc2)
      | (go_at_call 115
         with_reducible refine (HC1.out _).mono ?_
         rintro e w3 ⟨rfl, hc3⟩
         have HQ5 := Lib.hid (HQ2.out.trans hc3)
         have HG5 := Lib.hid (HG2.out.keep hc3)
         have z0 := HG5.out.cell 0
         have z1 := HG5.out.cell 1
         have z2 := HG5.out.cell 2
         have f0 := HG5.out.frozen 0
         have f1 := HG5.out.frozen 1
         have f2 := HG5.out.frozen 2
         clear hc3))
    have hnl : ¬ g < w.heap.size := by have := HGS.out; omega
    have HC := ((HQ5.out.setCell (p := ⟨g, 0, none⟩) (fun h => absurd h hnl) (.int .i32 0)).setCell (p := ⟨g, 1, none⟩) (fun h => absurd h hnl) (.int .i64 0)).setCell (p := ⟨g, 2, none⟩) (fun h => absurd h hnl) (.string ⟨#[]⟩)
    have HS := ((HG5.out.set_ 0 (.int .i32 0)).set_ 1 (.int .i64 0)).set_ 2 (.string ⟨#[]⟩)
    refine bodyPost_ret_by (results_row_tmp rfl _ _ g 58 [(.int .i32 0), (.int .i64 0), (.string ⟨#[]⟩)] _ rfl HS Tryz.underlying58 (by kernel_rfl)) rfl ⟨by rw [HV.out]; rfl, HC⟩
  | some ([x], b) =>
    simp only at HC1 HV
    have e0 : (strOf [x]).size = 1 := by rw [strOf_len]; rfl
    have hg0 : ∀ h : 0 < (strOf [x]).size, ((strOf [x])[0]'h).toNat = x.toNat := by
      intro h
      have e1 := get_at (strOf [x]) 0 h
      rw [Nat.add_zero, show (strOf [x]).get! 0 = x from ba_get [x] 0] at e1
      rw [← e1]
    generalize strOf [x] = S at *
    have hx := x.toNat_lt
    generalize x.toNat = c at *
    by_cases h1 : c < 48
    · rw [if_neg (by omega)] at HV
      have q1 : decide ((c : Int) < 48) = true := by simp; omega
      clear h1 hx
      go_enter Tryz.func95, Tryz.ntmps95
      go_upto_region 1 with fail
      have hN := Whole.new w 58 [.int .i32 0, .int .i64 0, .string ⟨#[]⟩]
      have hal := (Chg.refl [] w).alloc (.cells #[.int .i32 0, .int .i64 0, .string ⟨#[]⟩] 58)
      obtain ⟨g, hg⟩ : ∃ g, g = w.heap.size := ⟨_, rfl⟩
      rw [← hg] at hN ⊢
      have HG := Lib.hid hN
      have HW1 := Lib.hid hal
      have HGS := Lib.hid hg
      generalize w.alloc (.cells #[.int .i32 0, .int .i64 0, .string ⟨#[]⟩] 58) = w1 at HG HW1 ⊢
      clear hN hal hg
      go_wp2_with (first
        | (go_at_call 117
           with_reducible refine (HF1.out _).mono ?_
           rintro e w2 ⟨rfl, hc2⟩
           have HQ2 := Lib.hid (HW1.out.trans hc2)
           have HG2 := Lib.hid (HG.out.keep hc2)
           clear hc2)
        | (go_at_call 115
           with_reducible refine (HC1.out _).mono ?_
           rintro e w3 ⟨rfl, hc3⟩
           have HQ5 := Lib.hid (HQ2.out.trans hc3)
           have HG5 := Lib.hid (HG2.out.keep hc3)
           have z0 := HG5.out.cell 0
           have z1 := HG5.out.cell 1
           have z2 := HG5.out.cell 2
           have f0 := HG5.out.frozen 0
           have f1 := HG5.out.frozen 1
           have f2 := HG5.out.frozen 2
           clear hc3))
      have hnl : ¬ g < w.heap.size := by have := HGS.out; omega
      have HC := ((HQ5.out.setCell (p := ⟨g, 0, none⟩) (fun h => absurd h hnl) (.int .i32 0)).setCell (p := ⟨g, 1, none⟩) (fun h => absurd h hnl) (.int .i64 0)).setCell (p := ⟨g, 2, none⟩) (fun h => absurd h hnl) (.string ⟨#[]⟩)
      have HS := ((HG5.out.set_ 0 (.int .i32 0)).set_ 1 (.int .i64 0)).set_ 2 (.string ⟨#[]⟩)
      refine bodyPost_ret_by (results_row_tmp rfl _ _ g 58 [(.int .i32 0), (.int .i64 0), (.string ⟨#[]⟩)] _ rfl HS Tryz.underlying58 (by kernel_rfl)) rfl ⟨by rw [HV.out]; rfl, HC⟩
    · have q1 : decide ((c : Int) < 48) = false := by simp; omega
      by_cases h2 : 57 < c
      · rw [if_neg (by omega)] at HV
        have q2 : decide ((57 : Int) < (c : Int)) = true := by simp; omega
        clear h1 h2 hx
        go_enter Tryz.func95, Tryz.ntmps95
        go_upto_region 1 with fail
        have hN := Whole.new w 58 [.int .i32 0, .int .i64 0, .string ⟨#[]⟩]
        have hal := (Chg.refl [] w).alloc (.cells #[.int .i32 0, .int .i64 0, .string ⟨#[]⟩] 58)
        obtain ⟨g, hg⟩ : ∃ g, g = w.heap.size := ⟨_, rfl⟩
        rw [← hg] at hN ⊢
        have HG := Lib.hid hN
        have HW1 := Lib.hid hal
        have HGS := Lib.hid hg
        generalize w.alloc (.cells #[.int .i32 0, .int .i64 0, .string ⟨#[]⟩] 58) = w1 at HG HW1 ⊢
        clear hN hal hg
        go_wp2_with (first
          | (go_at_call 117
             with_reducible refine (HF1.out _).mono ?_
             rintro e w2 ⟨rfl, hc2⟩
             have HQ2 := Lib.hid (HW1.out.trans hc2)
             have HG2 := Lib.hid (HG.out.keep hc2)
             clear hc2)
          | (go_at_call 115
             with_reducible refine (HC1.out _).mono ?_
             rintro e w3 ⟨rfl, hc3⟩
             have HQ5 := Lib.hid (HQ2.out.trans hc3)
             have HG5 := Lib.hid (HG2.out.keep hc3)
             have z0 := HG5.out.cell 0
             have z1 := HG5.out.cell 1
             have z2 := HG5.out.cell 2
             have f0 := HG5.out.frozen 0
             have f1 := HG5.out.frozen 1
             have f2 := HG5.out.frozen 2
             clear hc3))
        have hnl : ¬ g < w.heap.size := by have := HGS.out; omega
        have HC := ((HQ5.out.setCell (p := ⟨g, 0, none⟩) (fun h => absurd h hnl) (.int .i32 0)).setCell (p := ⟨g, 1, none⟩) (fun h => absurd h hnl) (.int .i64 0)).setCell (p := ⟨g, 2, none⟩) (fun h => absurd h hnl) (.string ⟨#[]⟩)
        have HS := ((HG5.out.set_ 0 (.int .i32 0)).set_ 1 (.int .i64 0)).set_ 2 (.string ⟨#[]⟩)
        refine bodyPost_ret_by (results_row_tmp rfl _ _ g 58 [(.int .i32 0), (.int .i64 0), (.string ⟨#[]⟩)] _ rfl HS Tryz.underlying58 (by kernel_rfl)) rfl ⟨by rw [HV.out]; rfl, HC⟩
      · have q2 : decide ((57 : Int) < (c : Int)) = false := by simp; omega
        rw [if_pos (by omega)] at HV
        have hw1 : IntKind.u8.wrap ((c : Int) - 48) = ((c - 48 : Nat) : Int) := by rw [IntKind.wrap_u8]; omega
        have hq9 : c - 48 ≤ 9 := by omega
        generalize c - 48 = q at *
        clear h1 h2 hx
        go_enter Tryz.func95, Tryz.ntmps95
        go_upto_region 1 with fail
        have hN := Whole.new w 58 [.int .i32 0, .int .i64 0, .string ⟨#[]⟩]
        have hal := (Chg.refl [] w).alloc (.cells #[.int .i32 0, .int .i64 0, .string ⟨#[]⟩] 58)
        obtain ⟨g, hg⟩ : ∃ g, g = w.heap.size := ⟨_, rfl⟩
        rw [← hg] at hN ⊢
        have HG := Lib.hid hN
        have HW1 := Lib.hid hal
        have HGS := Lib.hid hg
        generalize w.alloc (.cells #[.int .i32 0, .int .i64 0, .string ⟨#[]⟩] 58) = w1 at HG HW1 ⊢
        clear hN hal hg
        go_wp2_with (first
          | (go_at_call 117
             with_reducible refine (HF1.out _).mono ?_
             rintro e w2 ⟨rfl, hc2⟩
             have HQ2 := Lib.hid (HW1.out.trans hc2)
             have HG2 := Lib.hid (HG.out.keep hc2)
             clear hc2)
          | (go_at_call 115
             with_reducible refine (HC1.out _).mono ?_
             rintro e w3 ⟨rfl, hc3⟩
             have HQ5 := Lib.hid (HQ2.out.trans hc3)
             have HG5 := Lib.hid (HG2.out.keep hc3)
             have z0 := HG5.out.cell 0
             have z1 := HG5.out.cell 1
             have z2 := HG5.out.cell 2
             have f0 := HG5.out.frozen 0
             have f1 := HG5.out.frozen 1
             have f2 := HG5.out.frozen 2
             clear hc3))
        have hnl : ¬ g < w.heap.size := by have := HGS.out; omega
        have HC := ((HQ5.out.setCell (p := ⟨g, 0, none⟩) (fun h => absurd h hnl) (.int .i32 (r : Int))).setCell (p := ⟨g, 1, none⟩) (fun h => absurd h hnl) (.int .i64 (q : Int))).setCell (p := ⟨g, 2, none⟩) (fun h => absurd h hnl) (.string (strOf b))
        have HS := ((HG5.out.set_ 0 (.int .i32 (r : Int))).set_ 1 (.int .i64 (q : Int))).set_ 2 (.string (strOf b))
        refine bodyPost_ret_by (results_row_tmp rfl _ _ g 58 [(.int .i32 (r : Int)), (.int .i64 (q : Int)), (.string (strOf b))] _ rfl HS Tryz.underlying58 (by kernel_rfl)) rfl ⟨by rw [HV.out]; rfl, HC⟩
end
end Go.Proofs.YtbkfhndmeljlcaaGreatDoor
