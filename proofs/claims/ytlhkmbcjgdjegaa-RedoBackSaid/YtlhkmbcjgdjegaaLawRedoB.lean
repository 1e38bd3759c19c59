/-
  The walk of RedoBack.
-/
import Derived.Test.YtlhkmbcjgdjegaaRedoKnownA
import Derived.Test.YtlhkmbcjgdjegaaMade
import Derived.Test.YtlhkmbcjgdjegaaInto
import Derived.Test.YtlhkmbcjgdjegaaOf
import Derived.Test.YtlhkmbcjgdjegaaSrcF
import Derived.Test.YtlhkmbcjgdjegaaDskS
import Derived.Deep.DeepCutAuto
namespace Go.Proofs.Ytlhkmbcjgdjegaa
open Go.RowKit
section
variable {P : Program} {T : Turns} {w0 : World} {a0 : Act} {ops : List Oper} {Q : Exit → Act → World → Prop} {F : Said} {k : Nat} {rest : List Oper}
  {d : Option Tmp} {ty : TypeId} {pos : String} {af : Array Edge} {g : Option (Nat × Bool)}
theorem falses_getD (n x : Nat) : (falses n).getD x false = false := by
  unfold falses
  rw [List.getD_eq_getElem?_getD, List.getElem?_replicate]
  split <;> rfl
/-- len of a slice that reads so. -/
theorem flow_len_src {t : Tmp} {n : Nat} {xs : List Value} {ats : Array TypeId} (hT : T.Ok) (hs : look F t = some (srcF n xs))
    (hrun : ∀ ev W A c, EvOk ev → ev (.tmp t) = .slice A n c → (execOp ev ⟨d, .call { callee := .builtin .len, args := #[.tmp t], argTypes := ats }, ty, pos, af, g⟩).run P W = .ok (.value (.int .i64 (n : Int))) W)
    (hg : guardIs ops F true ⟨d, .call { callee := .builtin .len, args := #[.tmp t], argTypes := ats }, ty, pos, af, g⟩) (h : Flow P T w0 a0 ops Q ((d, isV (.int .i64 (n : Int))) :: F) (k + 1) rest) :
    Flow P T w0 a0 ops Q F k (⟨d, .call { callee := .builtin .len, args := #[.tmp t], argTypes := ats }, ty, pos, af, g⟩ :: rest) := by
  refine flow_op _ (keeps_isV _) (.inr (keeps_isV _)) hg (fun ev W he hW hf => ?_) h
  have hf1 : factOf a0 F (.tmp t) (ev (.tmp t)) W := hf.1
  simp only [factOf, hs] at hf1
  obtain ⟨A, c, e1, _⟩ := hf1
  rw [hrun ev W A c he e1]
  exact ⟨hT.by_refl k W, rfl⟩
end
section
variable {w : World} {A1 A2 : Option Addr} {n1 c1 n2 c2 : Nat} {b z : List UInt8}
set_option maxHeartbeats 4000000 in
set_option maxRecDepth 100000 in
theorem redoBack_any (at_ : Int) (hi0 : -9223372036854775808 ≤ at_) (hi1 : at_ ≤ 9223372036854775807) (h1 : Bs w A1 n1 c1 b) (h2 : Bs w A2 n2 c2 z) :
    Calls Try.prog 10 #[.int .i64 at_, .slice A1 n1 c1, .slice A2 n2 c2] w (LawPost w) := by
  obtain ⟨a, ha, ha3⟩ : ∃ a : Nat, withinI at_ 0 320 = (a : Int) ∧ a ≤ 320 := by
    have hin := into_within at_ 0 320 (by omega)
    exact ⟨(withinI at_ 0 320).toNat, by have := hin.1; omega, by have h1 := hin.1; have h2 := hin.2.1; omega⟩
  have HIN := Lib.hid (show ∀ W, Calls Try.prog 18 #[.int .i64 at_, .int .i64 0, .int .i64 320] W fun e w' => e = .returned (.int .i64 (a : Int)) ∧ W = w' from fun W => by rw [← ha]; exact within_is at_ 0 320 (by omega) (by omega) (by omega) hi0 hi1)
  clear ha hi0 hi1
  have hmk : ∀ W : World, (Instr.makeSlice 22 (.int .i64 768) (.int .i64 768)).run Try.prog W = .ok (.slice (some ⟨W.heap.size, 0, none⟩) 768 768) (W.alloc (.cells (bts (zeros 768)).toArray 5)) := fun W => make_u8 768 (by omega) W
  have H1 := Lib.hid h1
  have H2 := Lib.hid h2
  have hn1 := h1.le
  clear h1 h2
  go_enter Try.func10, Try.ntmps10
  have hG0 := Whole.new w 5 (bts (zeros 768))
  have hC0 : Chg [] w (w.alloc (.cells (bts (zeros 768)).toArray 5)) := (Chg.refl [] w).alloc _
  have Hn := Lib.hid (take_min H2.out 768)
  have Hf := take_fits 768 z
  have hY1 := bts_one (z.take 768)
  have hspl := Lib.hid (padN_bts 768 z)
  have hsr := (src_take H2.out 768).keep hC0
  have HPl := Lib.hid (padN_len 768 z)
  generalize bts (z.take 768) = Y at Hn Hf hY1 hspl hsr
  generalize padN 768 z = X at hspl HPl
  go_wp2_with (with_reducible refine wpList_copy_chg rfl (.tmp 14) (.tmp 15) _ _ rfl 5 Try.underlying22 size_u8 (some ⟨w.heap.size, 0, none⟩) A2 768 768 n2 c2 rfl rfl w.heap.size 0 5 (bts (zeros 768)) Y hG0 Hn.out (fun _ => rfl) hsr Hf hY1 ?_
               intro w2 hW2 hc2)
  rw [hspl.out] at hW2
  obtain ⟨gz, hgz⟩ : ∃ g, g = w.heap.size := ⟨_, rfl⟩
  rw [← hgz] at hW2 ⊢
  have hc2' : Chg [] w w2 := hC0.then_ hc2 (fun i hm hlt => by simp only [List.mem_cons, List.not_mem_nil, or_false] at hm; omega)
  refine (of_yes (n := 768) (c := 768) (l := X) HPl.out (Src.of_all hW2) (by omega) (by omega) (by omega)).mono ?_
  rintro e w3 ⟨p, bL, bS, bW, rfl, hD, b1, b2, b3, b4, hc3⟩
  have hD0 : DskS w3 p bL bS bW ⟨X, X, falses 12⟩ := hD
  have HGz := Lib.hid (show gz ≠ p ∧ gz ≠ bL ∧ gz ≠ bS ∧ gz ≠ bW ∧ w.heap.size ≤ gz by have := hW2.lt; omega)
  have HB0 := Lib.hid (show w.heap.size ≤ bS ∧ w.heap.size ≤ bW by have := hc2'.size; omega)
  have HB3 := Lib.hid (show p < w3.heap.size ∧ bL < w3.heap.size ∧ bS < w3.heap.size ∧ bW < w3.heap.size from ⟨hD.rec_.lt, hD.last.lt, hD.seen.lt, hD.wait.lt⟩)
  have HD3 := Lib.hid hD0
  have HZ3 := Lib.hid (hW2.keep hc3)
  have HC3 := Lib.hid (hc2'.new hc3)
  clear hG0 hC0 Hn Hf hY1 hspl hsr hmk hW2 hc2 hc2' hD hD0 b1 b2 b3 b4 hc3 hgz
  go_upto_region 5 with fail
  have hR := Whole.new w3 26 [.int .i64 5, .int .i64 3, .int .u32 1]
  have hc4 : Chg [] w3 (w3.alloc (.cells #[.int .i64 5, .int .i64 3, .int .u32 1] 26)) := (Chg.refl [] w3).alloc _
  obtain ⟨g, hg⟩ : ∃ g, g = w3.heap.size := ⟨_, rfl⟩
  rw [← hg] at hR ⊢
  generalize w3.alloc (.cells #[.int .i64 5, .int .i64 3, .int .u32 1] 26) = w4 at hc4 hR ⊢
  have HG := Lib.hid (show g ≠ bS ∧ g ≠ bW ∧ g ≠ gz by have := HB3.out; have := HZ3.out.lt; omega)
  have HR4 := Lib.hid hR
  have HD4 := Lib.hid (Dsk.keep HD3.out hc4)
  have HZ4 := Lib.hid (HZ3.out.keep hc4)
  have HC4 := Lib.hid (HC3.out.new hc4)
  clear hR hg hc4 HB3 HD3 HC3 HZ3
  go_upto_if 28 with (go_at_call 18; refine (HIN.out _).mono ?_; rintro e w' ⟨rfl, rfl⟩)
  go_cut [1] (fun s1 wx => ∃ (n : Nat) (l : List UInt8), s1 = .slice A1 n c1 ∧ n + a ≤ 320 ∧ Hid (Bs w A1 n c1 l) ∧ wx = w4)
  case first =>
    by_cases hlt : 320 - (a : Int) < (n1 : Int)
    · have hcp := H1.out.cap
      have h1 := Lib.hid (show ¬ (320 - (a : Int)) < 0 by omega)
      have h2 : ¬ c1 < 320 - a := by omega
      obtain ⟨q, hq⟩ : ∃ q : Nat, 320 - (a : Int) = (q : Int) := ⟨320 - a, by omega⟩
      rw [hq] at hlt
      have hqn : q ≤ n1 := by omega
      have hqc : ¬ (c1 : Int) < (q : Int) := by omega
      have hqc2 : ¬ c1 < q := by omega
      have hqa : q + a ≤ 320 := by omega
      go_wp2_with fail
      go_meet
      exact ⟨q, _, rfl, hqa, Lib.hid (H1.out.take hqn), rfl⟩
    · have h3 := Lib.hid (show n1 + a ≤ 320 by omega)
      go_wp2_with fail
      go_meet
      exact ⟨n1, b, rfl, h3.out, H1, rfl⟩
  case rest =>
    obtain ⟨n, l, rfl, hna, HL, rfl⟩ := hcut
    obtain ⟨w4, rfl⟩ : ∃ w4 : World, w4 = wc := ⟨_, rfl⟩
    obtain ⟨d0, d1, d2, _, _, _⟩ := root_cells HR4.out
    have HS12 := Lib.hid (falses_len 12)
    obtain ⟨s0, hs0⟩ : ∃ s : St, s = ⟨X, X, falses 12⟩ := ⟨_, rfl⟩
    replace HD4 : Hid (DskS w4 p bL bS bW s0) := by rw [hs0]; exact HD4
    have HS0 := Lib.hid hs0
    have hne : 0 < n → ∀ ad, A1 = some ad → ad.block ≠ bS ∧ ad.block ≠ bW := fun h0 ad e => by
      obtain ⟨ad', e', hb, _⟩ := HL.out.src (by rw [bts_len, HL.out.len]; exact h0)
      rw [e] at e'
      injection e' with e'
      subst e'
      have := HB0.out
      omega
    have HNE := Lib.hid hne
    have hna2 : (n : Int) ≤ 320 - (a : Int) := by omega
    clear hs0 hne
    go_wp2_with fail
    refine (append_any HD4.out 5 3 1 (a : Int) (by omega) (by omega) (HL.out.keep HC4.out) HNE.out).mono ?_
    rintro e w5 (⟨_, rfl, hD5, hc5⟩ | ⟨hno, _⟩)
    rotate_left
    · exact absurd (show canA s0 5 3 1 (a : Int) l.length from ⟨by rw [HS0.out]; show rightR 5 3 1 (falses 12).length = true; rw [falses_len]; decide +kernel, by omega, by omega, by rw [HL.out.len]; omega⟩) hno
    rw [Int.toNat_natCast] at hD5
    obtain ⟨o, ho, ho7⟩ : ∃ o, o = 128 + a ∧ o ≤ 448 := ⟨_, rfl, by omega⟩
    rw [← ho] at hD5
    have HO := Lib.hid ho
    have hoI : (128 : Int) + (a : Int) = (o : Int) := by omega
    obtain ⟨X2, hX2⟩ : ∃ X2, X2 = splice X o l := ⟨_, rfl⟩
    have HX2 := Lib.hid hX2
    obtain ⟨s1, hs1⟩ : ∃ s1, s1 = apS s0 o l := ⟨_, rfl⟩
    rw [← hs1] at hD5
    have HS1 := Lib.hid hs1
    have HSS := Lib.hid (show s1.S = X2 by rw [hs1, HS0.out, hX2]; rfl)
    have HD5 := Lib.hid hD5
    have HR5 := Lib.hid (HR4.out.chg hc5 (not2' HG.out.1 HG.out.2.1))
    have hZ5 := HZ4.out.chg hc5 (not2' HGz.out.2.2.1 HGz.out.2.2.2.1)
    have HC5 := Lib.hid (HC4.out.then_ hc5 fun i hi hlt => by
      rcases (by simpa using hi : i = bS ∨ i = bW) with e | e
      · have := HB0.out.1; omega
      · have := HB0.out.2; omega)
    have hB5 := HL.out.keep HC5.out
    have hcp := Lib.hid (show (bts l).length = Nat.min n (768 - o) by rw [bts_len, HL.out.len]; show n = min _ _; omega)
    have hff : o + (bts l).length ≤ (bts X).length := by rw [bts_len, bts_len, HL.out.len, HPl.out]; omega
    have hoc : ¬ (768 : Nat) = o := by omega
    have hoc2 : ¬ (768 : Nat) < o := by omega
    have hoc3 : ¬ (768 : Int) < (o : Int) := by omega
    have h1b := bts_one l
    have hspl := Lib.hid (show splice (bts X) o (bts l) = bts X2 by rw [bts_splice, hX2])
    have hsr5 := hB5.src
    clear d0 d1 d2 hX2 hs1 hD5 hc5 hB5 ho
    go_wp2_with (with_reducible refine wpList_copy_chg rfl (.tmp 42) (.tmp 43) _ _ rfl 5 Try.underlying22 size_u8 (some ⟨gz, o, none⟩) A1 (768 - o) (768 - o) n c1 rfl rfl gz o 5 (bts X) (bts l) hZ5 hcp.out (fun _ => rfl) hsr5 hff h1b ?_
                 intro w6 hW6 hc6)
    simp only [Act.put, List.setIfInBounds_toArray, List.set_cons_zero, List.set_cons_succ]
    rw [hspl.out] at hW6
    have hd5 : Dsk w5 p bL bS bW s1.L s1.S s1.V := HD5.out
    have HD6 : Hid (DskS w6 p bL bS bW s1) := Lib.hid (hd5.away hc6 (by simp; exact fun e => HGz.out.1 e.symm) (by simp; exact fun e => HGz.out.2.1 e.symm) (by simp; exact fun e => HGz.out.2.2.1 e.symm) (by simp; exact fun e => HGz.out.2.2.2.1 e.symm))
    have HR6 := Lib.hid (HR5.out.chg hc6 (by simp; exact HG.out.2.2))
    have HC6 := Lib.hid (HC5.out.then_ hc6 (fun i hi hlt => by
      simp only [List.mem_cons, List.not_mem_nil, or_false] at hi
      have := HGz.out.2.2.2.2
      omega))
    have HX2l := Lib.hid (show X2.length = 768 by rw [HX2.out, splice_len _ _ _ (by rw [HPl.out, HL.out.len]; omega), HPl.out])
    have HZ6 := Lib.hid (show Bs w6 (some ⟨gz, 0, none⟩) 768 768 X2 by have := Bs.of_all hW6 (by rw [HX2l.out]; omega); rwa [HX2l.out] at this)
    clear hW6 hc6 hd5 hspl hsr5 hff h1b hcp hoc hoc2 hoc3 hZ5 HD5 HR5 HC5 HZ4 HD4 HR4 HC4
    refine wp_flow (by kernel_rfl) plainT plainT_ok (by kernel_rfl) ?_
    refine flow_move_out plainT_ok rfl rfl rfl ?_
    refine flow_calld (ownF w6.drew.heap.size 5 (bts X2)) (keeps_own _ _ _) (.inr (keeps_own _ _ _)) (by kernel_rfl) rfl (.cons (.inn rfl) .nil) (fun W hW => (seen_any (Dsk.keep HD6.out (wdrew hW))).mono ?_) ?_
    · rintro e w' ⟨rfl, hI, hc⟩
      rw [HSS.out] at hI ⊢
      have := own_of_whole (B := w6.drew.heap.size) (n := X2.length) (c := X2.length) hI (Chg.size hW) (bts_len _) (Nat.le_refl _) (by rw [HX2l.out]; unfold maxLen; omega)
      rw [List.take_of_length_le (by rw [bts_len]; exact Nat.le_refl _)] at this
      exact ⟨_, rfl, hc, by rw [ownF, bts_len]; exact this⟩
    refine flow_str plainT_ok rfl Try.underlying22 Try.underlying5 Try.underlying9 rfl ?_
    refine flow_move_out plainT_ok rfl rfl rfl ?_
    refine flow_strd plainT_ok (.inn rfl) (fun W hW => HZ6.out.keep (wdrew hW)) Try.underlying22 Try.underlying5 Try.underlying9 rfl ?_
    refine flow2 (r := .bool false) plainT_ok rfl (.inn rfl) (.inn rfl) rfl (fun ev W he e1 e2 => by go_simp) ?_
    intro vs W hW hF
    have e50 : vs 50 = .bool false := hF 50 _ rfl rfl
    simp only [putAll, Act.put, List.setIfInBounds_toArray, List.set_cons_zero, List.set_cons_succ, e50]
    have HDw := Lib.hid (Dsk.keep HD6.out (wdrew hW))
    have HRw := Lib.hid (HR6.out.keep (wdrew hW))
    have HZw := Lib.hid (HZ6.out.keep (wdrew hW))
    have HCw := Lib.hid (HC6.out.new (wdrew hW))
    clear hW hF e50 HD6 HR6 HZ6 HC6
    go_wp2_with fail
    refine (waits_any HDw.out).mono ?_
    rintro e w7 ⟨v7, rfl, ho7', hc7⟩
    have HV := Lib.hid (show s1.V.length = 12 by rw [HS1.out, apS_V, HS0.out]; exact falses_len 12)
    rw [HV.out] at ho7'
    have HLE := Lib.hid (wl_le s1.V 12)
    have HWL := Lib.hid (show ∀ x ∈ wl s1.V 12, tch o n x = true from fun x hx => by
      rw [HS1.out, HS0.out] at hx
      unfold wl apS at hx
      rw [List.mem_filter, List.mem_range] at hx
      obtain ⟨hx1, hx2⟩ := hx
      simp only [falses_len] at hx2
      rw [List.getD_eq_getElem?_getD, List.getElem?_map, List.getElem?_range hx1] at hx2
      have hfa : (falses 12).getD x false = false := falses_getD 12 x
      simp only [Option.map_some, Option.getD_some, hfa, Bool.false_or] at hx2
      rw [← HL.out.len]; exact hx2)
    obtain ⟨l7, hl7⟩ : ∃ l7, l7 = wl s1.V 12 := ⟨_, rfl⟩
    rw [← hl7] at HLE HWL ho7'
    have HL7 := Lib.hid hl7
    obtain ⟨m7, hm7⟩ : ∃ m7, m7 = l7.length := ⟨_, rfl⟩
    rw [← hm7] at HLE ho7'
    have HM7 := Lib.hid hm7
    obtain ⟨A7, c7, rfl, _, _, hs7, hp7⟩ := own_slice ho7'
    have HS7 := Lib.hid hs7
    have HP7 := Lib.hid hp7
    have HD7 := Lib.hid (Dsk.keep HDw.out hc7)
    have HR7 := Lib.hid (HRw.out.keep hc7)
    have HZ7 := Lib.hid (HZw.out.keep hc7)
    have HC7 := Lib.hid (HCw.out.new hc7)
    have hm12 : m7 ≤ 12 := HLE.out
    clear hl7 hm7 hs7 hp7 ho7' hc7 HDw HRw HZw HCw
    go_wp2_with fail
    go_loopw [54] (fun v wr => (∃ k : Nat, k ≤ m7 ∧ v = .int .i64 (k : Int)) ∧ Hid (Chg [] w7 wr)) (fun v _ => m7 - (intOf v).toNat)
    case atStart => exact ⟨⟨0, Nat.zero_le _, rfl⟩, Lib.hid (Chg.refl _ _)⟩
    case round =>
      obtain ⟨⟨k, hk, rfl⟩, HCr⟩ := hrel
      by_cases hlt : k < m7
      · have hkI : (k : Int) < (m7 : Int) := by omega
        have hkl : k < l7.length := by rw [← HM7.out]; exact hlt
        obtain ⟨ad, rfl, _, hcell⟩ := (HS7.out.keep HCr.out) (by rw [nmsN_len]; omega)
        obtain ⟨b7, o7, s7⟩ := ad
        obtain rfl : s7 = none := (HP7.out _ rfl).1
        have hc := hcell k _ (nmsN_get l7 k hkl)
        rw [add_plain] at hc
        have ht := HWL.out _ (List.getElem_mem hkl)
        generalize l7[k] = x at hc ht
        unfold tch at ht
        have ht2 := of_decide_eq_true ht
        obtain ⟨t1, t2, t3⟩ := ht2
        have hx1 : x < 12 := by omega
        have hd1 : ¬ (o : Int) + (n : Int) ≤ (x : Int) * 64 := by omega
        have hd2 : ¬ (x : Int) * 64 + 64 ≤ (o : Int) := by omega
        clear hcell ht
        go_wp2_with fail
        go_roundw
        case rel => exact ⟨⟨k + 1, by omega, by go_num⟩, HCr⟩
        case measure => simp [intOf]; omega
      · have hkI : ¬ (k : Int) < (m7 : Int) := by omega
        have HDz := Lib.hid (Dsk.keep HD7.out HCr.out)
        have HRz := Lib.hid (HR7.out.keep HCr.out)
        have HZz := Lib.hid (HZ7.out.keep HCr.out)
        have HCz := Lib.hid (HC7.out.new HCr.out)
        obtain ⟨wz, rfl⟩ : ∃ wz : World, wz = wr := ⟨_, rfl⟩
        obtain ⟨L3, hL3⟩ : ∃ L3, L3 = (X2.drop 128).take 320 := ⟨_, rfl⟩
        have HL3 := Lib.hid (show logL s1 5 3 1 = L3 by
          unfold logL
          rw [HV.out, if_pos (by decide +kernel)]
          unfold logB
          rw [HSS.out, hL3]
          rfl)
        have HP3 : Hid (Bs wz (some ⟨gz, 128, none⟩) 320 640 L3) := Lib.hid (by
          have := HZz.out.cut (lo := 128) (hi := 448) (by omega) (by omega)
          rwa [if_neg (by omega), Option.map_some, add_plain, ← hL3] at this)
        have HM0 := Lib.hid (show n = 0 → m7 = 0 from fun h0 => by
          rw [HM7.out]
          cases hl : l7 with
          | nil => rfl
          | cons x xs =>
            have := of_decide_eq_true (HWL.out x (by rw [hl]; simp))
            omega)
        clear hL3 HCr
        rcases Nat.eq_zero_or_pos n with hn0 | hn0
        · have HM00 := Lib.hid (HM0.out hn0)
          subst hn0
          go_wp2_with fail
          have hld := fun (W : World) (hW : Chg [] wz.drew W) => root_cells (HRz.out.drew.keep hW)
          refine wp_flow (by kernel_rfl) plainT plainT_ok (by kernel_rfl) ?_
          refine flow_move_out plainT_ok rfl rfl rfl ?_
          refine flow1h (r := rootV 5 3 1) plainT_ok rfl (.out rfl rfl) rfl (fun ev W he hW e1 => by obtain ⟨c0, c1, c2, _, _, _⟩ := hld W hW; go_simp; rfl) ?_
          refine flow_calld (ownF wz.drew.heap.size 5 (bts L3)) (keeps_own _ _ _) (.inr (keeps_own _ _ _)) (by kernel_rfl) rfl (.cons (.inn rfl) (.cons (.inn rfl) .nil)) (fun W hW => (rbytes_any (Dsk.keep HDz.out (wdrew hW)) 5 3 1).mono ?_) ?_
          · rintro e w' ⟨v, rfl, ho, hc⟩
            rw [HL3.out] at ho
            exact ⟨_, rfl, hc, by rw [ownF, bts_len]; exact own_more ho hW.size⟩
          refine flow_str plainT_ok rfl Try.underlying22 Try.underlying5 Try.underlying9 rfl ?_
          refine flow_move_out plainT_ok rfl rfl rfl ?_
          refine flow3 (r := .slice (some ⟨gz, 128, none⟩) 320 640) plainT_ok rfl (.inn rfl) (.const _) (.const _) rfl (fun ev W he e1 e2 e3 => by have q1 : ev (.const (.int .i64 448)) = .int .i64 448 := e3; have q2 : ev (.const (.int .i64 128)) = .int .i64 128 := e2; go_simp) ?_
          refine flow_strd plainT_ok (.inn rfl) (fun W hW => HP3.out.keep (wdrew hW)) Try.underlying22 Try.underlying5 Try.underlying9 rfl ?_
          refine flow_eql plainT_ok (.inn rfl) (.inn rfl) (fun ev W he e1 e2 => by go_simp) rfl ?_
          refine flow_move plainT_ok rfl (keeps_isV _) (.inr (keeps_isV _)) rfl ?_
          refine flow_move_out plainT_ok rfl rfl rfl ?_
          refine flow_lend plainT_ok (.inn rfl) (fun ev W he e1 => by go_simp) rfl ?_
          refine flow2 (r := .bool false) plainT_ok rfl (.inn rfl) (.const _) rfl (fun ev W he e1 e2 => by go_simp) ?_
          refine flow_move plainT_ok rfl (keeps_isV _) (.inr (keeps_isV _)) rfl ?_
          refine flow_move_out plainT_ok rfl rfl rfl ?_
          refine flow_calld (srcF 0 (nmsN l7)) (keeps_src _ _) (.inr (keeps_src _ _)) (by kernel_rfl) rfl (.cons (.inn rfl) .nil) (fun W hW => (waits_any (Dsk.keep HDz.out (wdrew hW))).mono ?_) ?_
          · rintro e w' ⟨v, rfl, hown, hc⟩
            rw [HV.out, ← HL7.out, ← HM7.out, HM00.out] at hown
            obtain ⟨A4, c4, rfl, hs4, _, hA4⟩ := own_form hown
            exact ⟨_, rfl, hc, A4, c4, rfl, hs4, fun ad e => (hA4 ad e).1⟩
          refine flow_len_src plainT_ok rfl (fun ev W A c he e1 => by go_simp) rfl ?_
          refine flow_eql plainT_ok (.inn rfl) (.const _) (fun ev W he e1 e2 => by go_simp) rfl ?_
          refine flow_or_false plainT_ok rfl rfl rfl ?_
          refine flow_and plainT_ok rfl rfl rfl ?_
          refine flow_move plainT_ok rfl (keeps_isV _) (.inr (keeps_isV _)) rfl ?_
          refine flow_callv (.bool true) (by kernel_rfl) rfl .nil (fun W hW => rdknown_any.mono ?_) ?_
          · rintro e w' ⟨rfl, hc⟩; exact ⟨rfl, hc⟩
          refine flow_and plainT_ok rfl rfl rfl ?_
          refine flow_assign plainT_ok rfl (keeps_isV _) (.inr (keeps_isV _)) rfl ?_
          intro vs W hW hF
          have e6 : vs 6 = .bool true := hF 6 _ rfl rfl
          simp only [putAll, Act.put, List.setIfInBounds_toArray, List.set_cons_zero, List.set_cons_succ, e6]
          have HCW := Lib.hid (HCz.out.new (wdrew hW))
          clear hW hF hld
          go_wp2_with fail
          go_ret
          exact ⟨rfl, HCW.out⟩
        · have hnI : (0 : Int) < (n : Int) := by omega
          go_wp2_with fail
          have hld := fun (W : World) (hW : Chg [] wz.drew W) => root_cells (HRz.out.drew.keep hW)
          refine wp_flow (by kernel_rfl) plainT plainT_ok (by kernel_rfl) ?_
          refine flow_move_out plainT_ok rfl rfl rfl ?_
          refine flow1h (r := rootV 5 3 1) plainT_ok rfl (.out rfl rfl) rfl (fun ev W he hW e1 => by obtain ⟨c0, c1, c2, _, _, _⟩ := hld W hW; go_simp; rfl) ?_
          refine flow_calld (ownF wz.drew.heap.size 5 (bts L3)) (keeps_own _ _ _) (.inr (keeps_own _ _ _)) (by kernel_rfl) rfl (.cons (.inn rfl) (.cons (.inn rfl) .nil)) (fun W hW => (rbytes_any (Dsk.keep HDz.out (wdrew hW)) 5 3 1).mono ?_) ?_
          · rintro e w' ⟨v, rfl, ho, hc⟩
            rw [HL3.out] at ho
            exact ⟨_, rfl, hc, by rw [ownF, bts_len]; exact own_more ho hW.size⟩
          refine flow_str plainT_ok rfl Try.underlying22 Try.underlying5 Try.underlying9 rfl ?_
          refine flow_move_out plainT_ok rfl rfl rfl ?_
          refine flow3 (r := .slice (some ⟨gz, 128, none⟩) 320 640) plainT_ok rfl (.inn rfl) (.const _) (.const _) rfl (fun ev W he e1 e2 e3 => by have q1 : ev (.const (.int .i64 448)) = .int .i64 448 := e3; have q2 : ev (.const (.int .i64 128)) = .int .i64 128 := e2; go_simp) ?_
          refine flow_strd plainT_ok (.inn rfl) (fun W hW => HP3.out.keep (wdrew hW)) Try.underlying22 Try.underlying5 Try.underlying9 rfl ?_
          refine flow_eql plainT_ok (.inn rfl) (.inn rfl) (fun ev W he e1 e2 => by go_simp) rfl ?_
          refine flow_move plainT_ok rfl (keeps_isV _) (.inr (keeps_isV _)) rfl ?_
          refine flow_move_out plainT_ok rfl rfl rfl ?_
          refine flow_lend plainT_ok (.inn rfl) (fun ev W he e1 => by go_simp) rfl ?_
          refine flow2 (r := .bool true) plainT_ok rfl (.inn rfl) (.const _) rfl (fun ev W he e1 e2 => by go_simp) ?_
          refine flow_move plainT_ok rfl (keeps_isV _) (.inr (keeps_isV _)) rfl ?_
          refine flow_skip rfl ?_
          refine flow_skip rfl ?_
          refine flow_skip rfl ?_
          refine flow_skip rfl ?_
          refine flow_or_true plainT_ok rfl rfl rfl ?_
          refine flow_and plainT_ok rfl rfl rfl ?_
          refine flow_move plainT_ok rfl (keeps_isV _) (.inr (keeps_isV _)) rfl ?_
          refine flow_callv (.bool true) (by kernel_rfl) rfl .nil (fun W hW => rdknown_any.mono ?_) ?_
          · rintro e w' ⟨rfl, hc⟩; exact ⟨rfl, hc⟩
          refine flow_and plainT_ok rfl rfl rfl ?_
          refine flow_assign plainT_ok rfl (keeps_isV _) (.inr (keeps_isV _)) rfl ?_
          intro vs W hW hF
          have e6 : vs 6 = .bool true := hF 6 _ rfl rfl
          simp only [putAll, Act.put, List.setIfInBounds_toArray, List.set_cons_zero, List.set_cons_succ, e6]
          have HCW := Lib.hid (HCz.out.new (wdrew hW))
          clear hW hF hld
          go_wp2_with fail
          go_ret
          exact ⟨rfl, HCW.out⟩
end
end Go.Proofs.Ytlhkmbcjgdjegaa
