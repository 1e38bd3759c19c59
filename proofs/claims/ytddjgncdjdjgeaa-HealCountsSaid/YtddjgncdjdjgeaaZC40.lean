/-
  C: LawHealC.
-/
import Derived.Test.YtddjgncdjdjgeaaZC8
import Derived.Test.YtddjgncdjdjgeaaZC39
namespace Go.Proofs.Ytddjgncdjdjgeaa
open Go.RowKit
def imF (l : List UInt8) : Fact := fun v W => ∃ g, v = .slice (some ⟨g, 0, none⟩) l.length l.length ∧ Whole W g 5 (bts l)
theorem keeps_im (l : List UInt8) : Keeps (Chg []) (imF l) := fun _ _ _ ⟨g, e, h⟩ hc => ⟨g, e, h.keep hc⟩
theorem imageS_any {w : World} {p bL bS bW n : Nat} {s : St} (h : DskS w p bL bS bW s) (hn : n = s.L.length) : Calls Try.prog 21 #[.pointer (some ⟨p, 0, none⟩)] w fun e w' => e = .returned (.slice (some ⟨w.heap.size, 0, none⟩) n n) ∧ Whole w' w.heap.size 5 (bts s.L) ∧ Chg [] w w' := by
  subst hn
  exact image_any h
section
variable {w : World} {A : Option Addr} {n c : Nat} {xs : List Int}
set_option maxHeartbeats 16000000 in
set_option maxRecDepth 100000 in
theorem healCounts_any (hl : xs.length = n) (hs : Src w A (nms xs)) (hsp : 0 < n → ∀ ad, A = some ad → ad.spot = none ∧ ad.block < w.heap.size) (hr : ∀ x ∈ xs, -9223372036854775808 ≤ x ∧ x ≤ 9223372036854775807) (hnm : n ≤ 9223372036854775807) (k : Int) (hk0 : -9223372036854775808 ≤ k) (hk1 : k ≤ 9223372036854775807) :
    Calls Try.prog 5 #[.slice A n c, .int .i64 k] w (LawPost w) := by
  have HMD := Lib.hid (made_any (c := c) (d := 0) (C := none) (m := 0) (cs := []) hl hs hsp hr hnm rfl (fun h => absurd h (by simp [nms])) (fun h => absurd h (by omega)))
  clear hl hs hsp hr
  go_enter Try.func5, Try.ntmps5
  go_wp2_with fail
  refine HMD.out.mono ?_
  rintro e w1 ⟨l, hmi, p, bL, bS, bW, q, gL, gN, gW, rL, rN, m, rfl, hd1, _, hge, _, hc1⟩
  have hl64 : l.length = 1536 := by obtain ⟨_, _, _, _, _, _, h, _⟩ := hmi; exact h
  have HL := Lib.hid hl64
  obtain ⟨s0, hs0⟩ : ∃ s0, s0 = (⟨l, l, falses 24⟩ : St) := ⟨_, rfl⟩
  have HS0 := Lib.hid (show s0.L = l from by rw [hs0])
  have HE0 := Lib.hid hs0
  rw [← hs0] at hd1
  have HD1 := Lib.hid hd1
  have HC1 := Lib.hid hc1
  have HFR := Lib.hid (show ∀ i ∈ [p, bL, bS, bW], w.heap.size ≤ i from fun i hi => hge i (by simp only [List.mem_cons, List.not_mem_nil, or_false] at hi ⊢; rcases hi with h | h | h | h <;> simp [h]))
  obtain ⟨n6, hn6⟩ : ∃ n6, n6 = s0.L.length := ⟨_, rfl⟩
  have HN6 := Lib.hid hn6
  clear hmi hl64 hd1 hge hc1 HMD hn6 hs0
  go_wp2_with fail
  refine (imageS_any HD1.out HN6.out).mono ?_
  rintro e w2 ⟨rfl, hW2, hc2⟩
  have HO2 := Lib.hid (of_yes (n := n6) (c := n6) (l := l) (by rw [HN6.out, HS0.out]) (by rw [← HS0.out]; exact Src.of_all hW2) (by have h1 := HL.out; have h2 := HN6.out; rw [HS0.out] at h2; omega) (by have h1 := HL.out; have h2 := HN6.out; rw [HS0.out] at h2; omega) (by have h1 := HL.out; have h2 := HN6.out; rw [HS0.out] at h2; omega))
  have HD2 := Lib.hid (Dsk.keep HD1.out hc2)
  have HC2 := Lib.hid (HC1.out.new hc2)
  have HW2 := Lib.hid (show w.heap.size ≤ w2.heap.size from HC2.out.size)
  clear hW2 hc2
  go_wp2_with fail
  refine HO2.out.mono ?_
  rintro e w3 ⟨p2, bL2, bS2, bW2, rfl, hd3, hp2, hbL2, hbS2, hbW2, hc3⟩
  have H24 := Lib.hid (show n6 / 64 = 24 from by have h1 := HN6.out; rw [HS0.out] at h1; have h2 := HL.out; omega)
  rw [H24.out] at hd3
  have HE3 := Lib.hid (show DskS w3 p2 bL2 bS2 bW2 s0 from by rw [HE0.out]; exact hd3)
  have HD3 := Lib.hid (Dsk.keep HD2.out hc3)
  have HC3 := Lib.hid (HC2.out.new hc3)
  have HAP := Lib.hid (show (∀ i ∈ [p2, bL2, bS2, bW2], w.heap.size ≤ i) ∧ (∀ i ∈ [p, bL, bS, bW], i ∉ [bL2, bS2, bW2]) ∧ (∀ i ∈ [p2, bL2, bS2, bW2], i ∉ [bL, bS, bW]) from by
    have h1 := (Dsk.rec_ HD2.out).lt
    have h2 := (Dsk.last HD2.out).lt
    have h3 := (Dsk.seen HD2.out).lt
    have h4 := (Dsk.wait HD2.out).lt
    have h5 := HW2.out
    refine ⟨fun i hi => ?_, fun i hi hm => ?_, fun i hi hm => ?_⟩ <;> (simp only [List.mem_cons, List.not_mem_nil, or_false] at hi) <;> (try simp only [List.mem_cons, List.not_mem_nil, or_false] at hm) <;> omega)
  clear hd3 hp2 hbL2 hbS2 hbW2 hc3 HO2
  go_wp2_with fail
  refine (hdeeds_any HD3.out).mono ?_
  rintro e w4 ⟨rfl, hc4⟩
  have HD4 := Lib.hid (Dsk.keep HD3.out hc4)
  have HE4 := Lib.hid (Dsk.keep HE3.out hc4)
  have HC4 := Lib.hid (HC3.out.new hc4)
  obtain ⟨ds, hds⟩ : ∃ ds, ds = opDs s0 := ⟨_, rfl⟩
  have HDS := Lib.hid hds
  obtain ⟨na, hna⟩ : ∃ na, na = ds.length := ⟨_, rfl⟩
  have HNA := Lib.hid hna
  have hna' : (opDs s0).length = na := by rw [hna, hds]
  rw [hna']
  clear hc4 hds hna hna'
  go_wp2_with fail
  have hin := into_within k 0 20 (by omega)
  obtain ⟨K, hK⟩ : ∃ K : Nat, withinI k 0 20 = (K : Int) := ⟨(withinI k 0 20).toNat, by have := hin.1; omega⟩
  have HKI := Lib.hid hK
  clear hK hin
  with_reducible refine (within_is k 0 20 (by omega) (by omega) (by omega) hk0 hk1).mono ?_
  rintro e w' ⟨rfl, rfl⟩
  rw [HKI.out]
  go_wp2_with fail
  refine (imageS_any HD4.out HN6.out).mono ?_
  rintro e w5 ⟨rfl, hW5, hc5⟩
  have HO5 := Lib.hid (of_yes (n := n6) (c := n6) (l := l) (by rw [HN6.out, HS0.out]) (by rw [← HS0.out]; exact Src.of_all hW5) (by have h1 := HL.out; have h2 := HN6.out; rw [HS0.out] at h2; omega) (by have h1 := HL.out; have h2 := HN6.out; rw [HS0.out] at h2; omega) (by have h1 := HL.out; have h2 := HN6.out; rw [HS0.out] at h2; omega))
  have HD5 := Lib.hid (Dsk.keep HD4.out hc5)
  have HE5 := Lib.hid (Dsk.keep HE4.out hc5)
  have HC5 := Lib.hid (HC4.out.new hc5)
  clear hW5 hc5
  go_wp2_with fail
  refine HO5.out.mono ?_
  rintro e w6 ⟨p3, bL3, bS3, bW3, rfl, hd6, hp3, hbL3, hbS3, hbW3, hc6⟩
  rw [H24.out] at hd6
  have HF6 := Lib.hid (show DskS w6 p3 bL3 bS3 bW3 s0 from by rw [HE0.out]; exact hd6)
  have HD6 := Lib.hid (Dsk.keep HD5.out hc6)
  have HE6 := Lib.hid (Dsk.keep HE5.out hc6)
  have HC6 := Lib.hid (HC5.out.new hc6)
  have HAP3 := Lib.hid (show (∀ i ∈ [bL3, bS3, bW3], w.heap.size ≤ i) ∧ (∀ i ∈ [p, bL, bS, bW], i ∉ [bL3, bS3, bW3]) ∧ (∀ i ∈ [p2, bL2, bS2, bW2], i ∉ [bL3, bS3, bW3]) from by
    have h1 := (Dsk.rec_ HD5.out).lt
    have h2 := (Dsk.last HD5.out).lt
    have h3 := (Dsk.seen HD5.out).lt
    have h4 := (Dsk.wait HD5.out).lt
    have g1 := (Dsk.rec_ HE5.out).lt
    have g2 := (Dsk.last HE5.out).lt
    have g3 := (Dsk.seen HE5.out).lt
    have g4 := (Dsk.wait HE5.out).lt
    have h5 := HC5.out.size
    refine ⟨fun i hi => ?_, fun i hi hm => ?_, fun i hi hm => ?_⟩ <;> (simp only [List.mem_cons, List.not_mem_nil, or_false] at hi) <;> (try simp only [List.mem_cons, List.not_mem_nil, or_false] at hm) <;> omega)
  clear hd6 hp3 hbL3 hbS3 hbW3 hc6 HO5
  go_wp2_with fail
  refine (part_any HF6.out (K : Int)).mono ?_
  rintro e w7 ⟨rfl, _, hc7⟩
  rw [clampN_le, ← HDS.out, ← HNA.out]
  have HD7 := Lib.hid (Dsk.away HD6.out hc7 (HAP3.out.2.1 _ (by simp)) (HAP3.out.2.1 _ (by simp)) (HAP3.out.2.1 _ (by simp)) (HAP3.out.2.1 _ (by simp)))
  have HE7 := Lib.hid (Dsk.away HE6.out hc7 (HAP3.out.2.2 _ (by simp)) (HAP3.out.2.2 _ (by simp)) (HAP3.out.2.2 _ (by simp)) (HAP3.out.2.2 _ (by simp)))
  have HC7 := Lib.hid (HC6.out.then_ hc7 (fun i hi hw => by have := HAP3.out.1 i hi; omega))
  obtain ⟨mk, hmk⟩ : ∃ mk, mk = min K na := ⟨_, rfl⟩
  have hmn : min (K : Int) (na : Int) = (mk : Int) := by omega
  rw [← hmk]
  clear hc7 hmk
  go_wp2_with fail
  refine (part_any HD7.out (na : Int)).mono ?_
  rintro e w8 ⟨rfl, hd8, hc8⟩
  rw [clampN_le, ← HDS.out, ← HNA.out, Nat.min_self] at hd8 ⊢
  rw [HNA.out, List.take_length] at hd8
  have HD8 := Lib.hid (show DskS w8 p bL bS bW (doD s0 ds) from hd8)
  have HE8 := Lib.hid (Dsk.away HE7.out hc8 (HAP.out.2.2 _ (by simp)) (HAP.out.2.2 _ (by simp)) (HAP.out.2.2 _ (by simp)) (HAP.out.2.2 _ (by simp)))
  have HC8 := Lib.hid (HC7.out.then_ hc8 (fun i hi hw => by have := HFR.out i (List.mem_cons_of_mem _ hi); omega))
  have HOP := Lib.hid (open_any HE8.out)
  clear hd8 hc8 hmn
  go_wp2_with fail
  refine HOP.out.mono ?_
  rintro e w9 hO
  obtain ⟨v9, en, se, rfl, hen, hst, hd9, hc9⟩ : ∃ (v9 : Value) (en : Int) (se : St), e = .returned (.tuple #[v9, .int .i64 en]) ∧ (decide (en = 0) = decide (0 < na)) ∧ se = doD s0 ds ∧ DskS w9 p2 bL2 bS2 bW2 se ∧ Chg [bL2, bS2, bW2] w8 w9 := by
    have hdd := HDS.out
    unfold opDs at hdd
    rcases hO with ⟨h0, rfl, hc⟩ | ⟨h0, rfl, hc⟩ | ⟨h0, h1, g, gN', v, rfl, _, _, hs, hc⟩
    · rw [if_neg (by omega)] at hdd
      subst hdd
      have hz := HNA.out
      refine ⟨_, 22, s0, rfl, by rw [hz]; rfl, rfl, Dsk.keep HE8.out hc, hc.sub (fun _ h => by cases h)⟩
    · rw [if_neg (by omega)] at hdd
      subst hdd
      have hz := HNA.out
      refine ⟨_, 24, s0, rfl, by rw [hz]; rfl, rfl, Dsk.keep HE8.out hc, hc.sub (fun _ h => by cases h)⟩
    · rw [if_pos ⟨h0, h1⟩] at hdd
      subst hdd
      have hz := HNA.out
      have hpos : 0 < na := by rw [hz]; unfold ckDs; simp
      refine ⟨_, 0, _, rfl, by rw [decide_eq_true hpos]; rfl, ?_, hs.dsk, hc⟩
      rw [doD_ck]
  have HS9 := Lib.hid (show DskS w9 p2 bL2 bS2 bW2 (doD s0 ds) from by rw [← hst]; exact hd9)
  have HD9 := Lib.hid (Dsk.away HD8.out hc9 (HAP.out.2.1 _ (by simp)) (HAP.out.2.1 _ (by simp)) (HAP.out.2.1 _ (by simp)) (HAP.out.2.1 _ (by simp)))
  have HC9 := Lib.hid (HC8.out.then_ hc9 (fun i hi hw => by have := HAP.out.1 i (List.mem_cons_of_mem _ hi); omega))
  obtain ⟨b9, hb9⟩ : ∃ b9, b9 = decide (0 < na) := ⟨_, rfl⟩
  have q1 : ((en : Int) == 0) = b9 := by rw [hb9, ← hen]; rfl
  have q2 : decide ((0 : Int) < (na : Int)) = b9 := by rw [hb9]; exact decide_eq_decide.2 (by omega)
  have q3 : decide (0 < na) = b9 := by rw [hb9]
  obtain ⟨li, hli⟩ : ∃ li, li = (doD s0 ds).L := ⟨_, rfl⟩
  have HLI := Lib.hid hli
  have HLS := Lib.hid (show li.length ≤ 100000 from by rw [hli]; have h1 := Dsk.lenL HD9.out; have h2 := Dsk.le HD9.out; omega)
  clear hO hen hst hd9 hc9 HOP hb9 hli
  go_upto_region 12 with fail
  have hC0 := (Chg.refl [] w9).drew
  have hb : (b9 == b9) = true := by cases b9 <;> rfl
  refine wp_flow (by kernel_rfl) plainT plainT_ok (by kernel_rfl) ?_
  refine flow_move_out plainT_ok rfl rfl rfl ?_
  refine flow2 (r := .bool b9) plainT_ok rfl (.inn rfl) (.const _) rfl (fun ev W he e1 e2 => by go_simp) ?_
  refine flow_move_out plainT_ok rfl rfl rfl ?_
  refine flow2 (r := .bool b9) plainT_ok rfl (.inn rfl) (.const _) rfl (fun ev W he e1 e2 => by go_simp) ?_
  refine flow2 (r := .bool true) plainT_ok rfl (.inn rfl) (.inn rfl) rfl (fun ev W he e1 e2 => by go_simp) ?_
  refine flow_move plainT_ok rfl (keeps_isV _) (.inr (keeps_isV _)) rfl ?_
  refine flow_move_out plainT_ok rfl rfl rfl ?_
  refine flow_calld (imF li) (keeps_im _) (.inr (keeps_im _)) (by kernel_rfl) rfl (.cons (.inn rfl) .nil) (fun W hW => (image_any (Dsk.keep HS9.out (hC0.new hW))).mono ?_) ?_
  · rintro e w' ⟨rfl, hw, hc⟩
    rw [HLI.out]
    exact ⟨_, rfl, hc, _, rfl, hw⟩
  refine flow_op (isV (.string (strOf li))) (keeps_isV _) (.inr (keeps_isV _)) rfl (fun ev W he hW hfs => ?_) ?_
  · obtain ⟨f1, _⟩ := hfs
    have f1' : imF li (ev (.tmp 60)) W := f1
    obtain ⟨gS, e1, hWS⟩ := f1'
    have hr := (Bs.of_all hWS (by have := HLS.out; omega)).str (P := Try.prog) 44 5 9 Try.underlying44 Try.underlying5 Try.underlying9
    simp only [execOp, e1, Sem.run_bind, hr, Result.andThen_ok, Sem.run_pure]
    exact ⟨plainT_ok.by_refl _ W, rfl⟩
  refine flow_move_out plainT_ok rfl rfl rfl ?_
  refine flow_calld (imF li) (keeps_im _) (.inr (keeps_im _)) (by kernel_rfl) rfl (.cons (.inn rfl) .nil) (fun W hW => (image_any (Dsk.keep HD9.out (hC0.new hW))).mono ?_) ?_
  · rintro e w' ⟨rfl, hw, hc⟩
    rw [HLI.out]
    exact ⟨_, rfl, hc, _, rfl, hw⟩
  refine flow_op (isV (.string (strOf li))) (keeps_isV _) (.inr (keeps_isV _)) rfl (fun ev W he hW hfs => ?_) ?_
  · obtain ⟨f1, _⟩ := hfs
    have f1' : imF li (ev (.tmp 63)) W := f1
    obtain ⟨gS, e1, hWS⟩ := f1'
    have hr := (Bs.of_all hWS (by have := HLS.out; omega)).str (P := Try.prog) 44 5 9 Try.underlying44 Try.underlying5 Try.underlying9
    simp only [execOp, e1, Sem.run_bind, hr, Result.andThen_ok, Sem.run_pure]
    exact ⟨plainT_ok.by_refl _ W, rfl⟩
  refine flow2 (r := .bool true) plainT_ok rfl (.inn rfl) (.inn rfl) rfl (fun ev W he e1 e2 => by go_simp) ?_
  refine flow_and plainT_ok rfl rfl rfl ?_
  refine flow_move plainT_ok rfl (keeps_isV _) (.inr (keeps_isV _)) rfl ?_
  refine flow_callv (.bool true) (by kernel_rfl) rfl .nil (fun W hW => known19.mono ?_) ?_
  · rintro e w' ⟨rfl, hc⟩; exact ⟨rfl, hc⟩
  refine flow_and plainT_ok rfl rfl rfl ?_
  refine flow_assign plainT_ok rfl (keeps_isV _) (.inr (keeps_isV _)) rfl ?_
  intro vs W hW hF
  have e4 : vs 4 = .bool true := hF 4 _ rfl rfl
  have HCW := Lib.hid (HC9.out.new (hC0.new hW))
  simp only [putAll, Act.put, List.setIfInBounds_toArray, List.set_cons_zero, List.set_cons_succ]
  rw [e4]
  clear hF hW hC0 e4 q1 q2 q3 hb
  go_wp2_with fail
  go_ret
  exact ⟨rfl, HCW.out⟩
end
end Go.Proofs.Ytddjgncdjdjgeaa
