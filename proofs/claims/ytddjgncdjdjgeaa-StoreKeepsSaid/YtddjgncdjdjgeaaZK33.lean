/-
  K: StoKnown.
-/
import Derived.Test.YtddjgncdjdjgeaaZK12
import Derived.Test.YtddjgncdjdjgeaaZK32
import Derived.Laws.Entries
namespace Go.Proofs.Ytddjgncdjdjgeaa
open Go.RowKit
theorem gd_new (n : Nat) : Gd (St.new n) := by
  unfold Gd St.new
  simp only
  rw [zeros_len, show (falses n).length = n by simp [falses]]; omega
theorem newV (n : Nat) : (St.new n).V.length = n := by simp [St.new, falses]
theorem secV_new (n j : Nat) (hj : j < n) : secV (St.new n) j = zeros 64 := by
  unfold secV
  rw [newV]
  show sectL (zeros (n * 64)) n j = _
  rw [sect_zeros n (n * 64) j (by omega), if_pos hj]
theorem best_new (n : Nat) (h : 2 ≤ n) : bestK (St.new n).V.length (St.new n).S 2 = RV.zero := by
  rw [bestK_two, secV_new n 0 (by omega), secV_new n 1 (by omega), bestStep_no zeros_noroot, bestStep_no zeros_noroot]
set_option maxHeartbeats 1000000 in
set_option maxRecDepth 100000 in
theorem spage_none {w : World} {k : SK} {s : St} {x : SV} {vP : Value} (h : Sto w k s x vP) (i : Nat) (hi : x.P ≤ i) (hi2 : i < 1000) : Calls Try.prog 44 #[.pointer (some ⟨k.g, 0, none⟩), .int .i64 (i : Int)] w fun e w' => e = .returned (.slice none 0 0) ∧ Chg [] w w' := by
  obtain ⟨A, c, us, rfl, hcp, _⟩ := h.pgs
  have hpl := h.pl
  have hr := h.rec_
  rw [hpl] at hr hcp
  have e4 := hr.cell 4
  have hiI : ¬ (i : Int) < 0 := by omega
  have hiN : x.P ≤ i := hi
  clear h hr hpl
  go_enter Try.func44, Try.ntmps44
  go_wp2_with fail
  go_ret
  exact ⟨rfl, Chg.refl _ _⟩
/-- The first byte of an own row. -/
theorem own_first {w : World} {B : Nat} {v : Value} {n : Nat} {l : List UInt8} {b : UInt8} (h : w.ownsRow B 5 1 v n (bts (b :: l))) : ∃ g c, v = .slice (some ⟨g, 0, none⟩) n c ∧ w.cell? ⟨g, 0, none⟩ = some (.int .u8 (b.toNat : Int)) := by
  obtain ⟨A, c, rfl, hl, _, hs, hA⟩ := own_slice h
  obtain ⟨ad, rfl, _, hcell⟩ := hs (by simp [bts])
  obtain ⟨g, o, sp⟩ := ad
  obtain ⟨h1, _, h2, _⟩ := hA _ rfl
  have h1' : sp = none := h1
  have h2' : o = 0 := h2
  subst h1' h2'
  refine ⟨g, c, rfl, ?_⟩
  have h3 := hcell 0 (B8 b) rfl
  rw [add_plain] at h3
  exact h3
theorem epoch_of (W : World) (a b v : Value) : (Instr.field 61 (.agg #[a, b, v]) 2).run Try.prog W = .ok v W := by
  have h1 : (part 59 #[a, b, v] 2).run Try.prog W = .ok v W := by simp [part, isAgg, run_underlying Try.underlying59]
  simp [Instr.field, run_underlying Try.underlying61, asAgg, h1]
def oneC (pg : Nat) (gb : Nat) (l : List UInt8) : ChV := { page := pg, bA := some ⟨gb, 0, none⟩, bn := 64, bc := 64, B := l }
theorem one_ch {w : World} {T : List Nat} {gb N pg : Nat} {l : List UInt8} (hb : Whole w gb 5 (bts l)) (hl : l.length = 64) (hN : Whole w N 78 [.int .i64 (pg : Int), .slice (some ⟨gb, 0, none⟩) 64 64]) (h1 : gb ∉ T) (h2 : N ∉ T) (hp : pg < 65536) : ChsD T w (some ⟨N, 0, none⟩) [oneC pg gb l] := by
  refine ⟨⟨fun _ => ⟨N, 0, rfl, hN.lt, fun k a ha => ?_⟩, fun a ha => ?_⟩, fun ad e => by injection e with e; subst e; exact h2, fun a ha ad e => ?_⟩
  · obtain ⟨hk, he⟩ := List.getElem?_eq_some_iff.1 ha
    obtain rfl : k = 0 := by simp at hk; omega
    simp only [List.getElem_cons_zero] at he
    subst he
    exact ⟨hN.cell 0, hN.cell 1⟩
  · simp only [List.mem_cons, List.not_mem_nil, or_false] at ha
    subst ha
    exact RMade.ok (B0 := 0) ⟨⟨gb, [], rfl, Nat.zero_le _, by rw [List.append_nil]; exact hb, rfl, by decide⟩, hl, rfl, by show 0 ≤ (pg : Int); omega, by show (pg : Int) < 65536; omega⟩
  · simp only [List.mem_cons, List.not_mem_nil, or_false] at ha
    subst ha
    injection e with e
    subst e
    exact h1
theorem one_inl {P pg gb : Nat} {l : List UInt8} (hl : l.length = 64) (h : pg < P) (hP : P ≤ 64) : InL P [oneC pg gb l] := by
  refine ⟨fun a ha => ?_, ?_, by simp⟩
  · simp only [List.mem_cons, List.not_mem_nil, or_false] at ha
    subst ha
    exact ⟨⟨by show 0 ≤ (pg : Int); omega, by show (pg : Int) < 65536; omega, rfl⟩, hl⟩
  · unfold rightB rightS rightS oneC
    simp; omega
theorem one_no {P pg gb : Nat} {l : List UInt8} (h : P ≤ pg) : rightB P [oneC pg gb l] = false := by
  unfold rightB rightS rightS oneC
  simp; omega
theorem one_apply {ps : List (List UInt8)} {pg gb : Nat} {l : List UInt8} (h : pg < ps.length) : (applyL ps [oneC pg gb l]).getD pg [] = l := by
  show (applyC ps (oneC pg gb l)).getD pg [] = l
  unfold applyC
  rw [if_pos ⟨by show 0 ≤ (pg : Int); omega, by show (pg : Int) < ps.length; omega⟩]
  exact getD_set_eq _ _ _ _ h
def s5 : List UInt8 := (zeros 64).set 0 5
theorem s5_len : s5.length = 64 := by decide
section
variable {w : World}
set_option maxHeartbeats 16000000 in
set_option maxRecDepth 100000 in
theorem known18 : Calls Try.prog 17 #[] w (fun e w' => e = .returned (.bool true) ∧ Chg [] w w') := by
  go_enter Try.func17, Try.ntmps17
  go_wp2_with fail
  refine (new_int 20 (by omega) (by omega)).mono ?_
  rintro e w1 ⟨p, bL, bS, bW, rfl, hd1, hp, hbL, hbS, hbW, hc1⟩
  have HD1 := Lib.hid hd1
  have HC1 := Lib.hid hc1
  have HB := Lib.hid (show w.heap.size ≤ p ∧ w.heap.size ≤ bL ∧ w.heap.size ≤ bS ∧ w.heap.size ≤ bW from ⟨hp, hbL, hbS, hbW⟩)
  clear hd1 hc1 hp hbL hbS hbW
  go_wp2_with fail
  refine (open_any HD1.out).mono ?_
  rintro e w2 hO
  obtain ⟨rfl, hc2⟩ : e = .returned (.tuple #[.pointer none, .int .i64 22]) ∧ Chg [] w1 w2 := by
    rcases hO with ⟨_, h1, h2⟩ | ⟨h0, _⟩ | ⟨h0, _⟩
    · exact ⟨h1, h2⟩
    · rw [show (20 : Int).toNat = 20 from rfl, best_new 20 (by omega)] at h0; exact absurd h0 (by decide)
    · rw [show (20 : Int).toNat = 20 from rfl, best_new 20 (by omega)] at h0; exact absurd h0 (by decide)
  have HD2 := Lib.hid (Dsk.keep HD1.out hc2)
  have HC2 := Lib.hid (HC1.out.new hc2)
  clear hO hc2 HD1
  go_wp2_with fail
  refine (format_any HD2.out 9 4).mono ?_
  rintro e w3 hF
  obtain ⟨rfl, hd3, hc3⟩ : e = .returned (.int .i64 0) ∧ DskS w3 p bL bS bW (fmt (St.new 20) 9 4) ∧ Chg [bL, bS, bW] w2 w3 := by
    rcases hF with ⟨_, h1, h2, h3⟩ | ⟨h0, _⟩
    · exact ⟨h1, h2, h3⟩
    · exact absurd h0 (by show ¬ rightR 9 4 1 (St.new 20).V.length = false; rw [newV]; decide)
  have hfr : ∀ i ∈ [bL, bS, bW], w.heap.size ≤ i := fun i hi => by
    have := HB.out
    simp only [List.mem_cons, List.not_mem_nil, or_false] at hi
    rcases hi with rfl | rfl | rfl <;> omega
  have HFR := Lib.hid hfr
  have HD3 := Lib.hid hd3
  have HC3 := Lib.hid (HC2.out.then_ hc3 (fun i hi hw => by have := HFR.out i hi; omega))
  clear hF hd3 hc3 hfr HD2
  have HK := Lib.hid (kept_new (gd_new 20) 9 4 (by rw [newV]; decide))
  have HBK := Lib.hid (best_fmt (gd_new 20) 9 4 (by rw [newV]; decide))
  go_wp2_with fail
  refine (open_any HD3.out).mono ?_
  rintro e w4 hO
  rw [OpenPost, HBK.out] at hO
  rcases hO with ⟨h0, _⟩ | ⟨h0, _⟩ | ⟨_, _, g, gN, v4, rfl, hg, hgN, hs4, hc4⟩
  · exact absurd h0 (by decide)
  · exact absurd h0 (by decide)
  have HG := Lib.hid (show w3.heap.size ≤ g ∧ w3.heap.size ≤ gN from ⟨hg, hgN⟩)
  have HC4 := Lib.hid (HC3.out.then_ hc4 (fun i hi hw => by have := HFR.out i hi; omega))
  obtain ⟨y, hy⟩ : ∃ y, y = openV (fmt (St.new 20) 9 4) ⟨9, 4, 1⟩ := ⟨_, rfl⟩
  rw [← hy] at hs4 HK
  obtain ⟨s4, hs4e⟩ : ∃ s4, s4 = ckS (fmt (St.new 20) 9 4) y := ⟨_, rfl⟩
  rw [← hs4e] at hs4 HK
  have hxl : (ckV y).L = 9 ∧ (ckV y).P = 4 ∧ (ckV y).E = 2 ∧ (ckV y).used = 0 ∧ (ckV y).seq = 0 := by
    obtain ⟨a, b, c, _⟩ := turn_same (recT (fmt (St.new 20) 9 4) ⟨9, 4, 1⟩) (homeV (fmt (St.new 20) 9 4) ⟨9, 4, 1⟩)
    rw [hy]
    exact ⟨a, b, by show (openV _ _).E + 1 = 2; unfold openV; rw [c]; rfl, rfl, rfl⟩
  obtain ⟨x4, hx4⟩ : ∃ x4, x4 = ckV y := ⟨_, rfl⟩
  rw [← hx4] at hs4 HK hxl
  have HX := Lib.hid hxl
  have HS4 := Lib.hid hs4
  clear hg hgN hs4 hc4 hy hs4e hxl hx4 HD3 HBK
  go_wp2_with fail
  have hsec := sector18_any (w := w4) 5
  rw [show (((5 : UInt8).toNat : Nat) : Int) = 5 from rfl] at hsec
  refine hsec.mono ?_
  rintro e w5 ⟨rfl, hb5, hc5⟩
  have HBY5 := Lib.hid (show Whole w5 w4.heap.size 5 (bts s5) from hb5)
  have HC5 := Lib.hid (HC4.out.new hc5)
  have HS5 := Lib.hid (HS4.out.keep hc5)
  have HSZ4 := Lib.hid (show ∀ i ∈ SK.D ⟨p, bL, bS, bW, g, gN, []⟩, i < w4.heap.size from HS4.out.lts)
  obtain ⟨g5, hg5⟩ : ∃ g5, g5 = w4.heap.size := ⟨_, rfl⟩
  rw [← hg5] at HBY5 HSZ4 ⊢
  have HG5 := Lib.hid (show w.heap.size ≤ g5 by rw [hg5]; exact HC4.out.size)
  clear hsec hb5 hc5 hg5 HS4
  go_wp2_with fail
  have hal := (Chg.refl [] w5).alloc (.cells #[.int .i64 2, .slice (some ⟨g5, 0, none⟩) 64 64] 78)
  have hN := Whole.new w5 78 [.int .i64 2, .slice (some ⟨g5, 0, none⟩) 64 64]
  have hgd : g5 ∉ SK.D ⟨p, bL, bS, bW, g, gN, []⟩ := fun hm => by have := HSZ4.out _ hm; omega
  have hNd : w5.heap.size ∉ SK.D ⟨p, bL, bS, bW, g, gN, []⟩ := fun hm => by have := HS5.out.lts _ hm; omega
  have HC6 := Lib.hid (HC5.out.new hal)
  have HS6 := Lib.hid (HS5.out.keep hal)
  have hch := one_ch (pg := 2) (HBY5.out.keep hal) s5_len hN hgd hNd (by omega)
  have HCO := Lib.hid (commit_any (m := 1) (d := 1) HS6.out hch rfl (by omega))
  clear hal hN hgd hNd hch
  refine HCO.out.mono ?_
  rintro e w7 hO
  have hin : InL x4.P [oneC 2 g5 s5] := one_inl s5_len (by have := HX.out; omega) (by have := HX.out; omega)
  have hfit : x4.used + (18 + 66 * 1) ≤ x4.L * 64 := by have := HX.out; omega
  obtain ⟨rfl, ⟨v7, hs7⟩, hc7⟩ : e = .returned (.int .i64 0) ∧ (∃ v, Sto w7 ⟨p, bL, bS, bW, g, gN, []⟩ (comS s4 x4 [oneC 2 g5 s5]) (comV x4 [oneC 2 g5 s5]) v) ∧ Chg (SK.W ⟨p, bL, bS, bW, g, gN, []⟩) _ w7 := by
    rcases hO with ⟨h0, _⟩ | ⟨_, h0, _⟩ | ⟨_, _, h1, h2, h3⟩
    · rw [hin.2.1] at h0; cases h0
    · have h4 := HX.out
      rw [h4.1, h4.2.2.2.1] at h0
      have h0' : fitsB ((9 : Nat) : Int) ((0 : Nat) : Int) ((1 : Nat) : Int) = false := h0
      exact absurd h0' (by decide)
    · exact ⟨h1, h2, h3⟩
  have HFW := Lib.hid (show ∀ i ∈ SK.W ⟨p, bL, bS, bW, g, gN, []⟩, w.heap.size ≤ i from fun i hi => by
    have h1 := HB.out
    have h2 := HG.out
    have h3 := HC3.out.size
    simp only [SK.W, List.mem_cons, List.not_mem_nil, or_false] at hi
    rcases hi with rfl | rfl | rfl | rfl | rfl <;> omega)
  have HK7 := Lib.hid (HK.out.com hin hfit)
  have HC7 := Lib.hid (HC6.out.then_ hc7 (fun i hi hw => by have := HFW.out i hi; omega))
  have HPG := Lib.hid (show (applyL x4.pages [oneC 2 g5 s5]).getD 2 [] = s5 from one_apply (by have := HS6.out.pl; have := HX.out; omega))
  have HX7 := Lib.hid (show (comV x4 [oneC 2 g5 s5]).L = 9 ∧ (comV x4 [oneC 2 g5 s5]).P = 4 ∧ (comV x4 [oneC 2 g5 s5]).E = 2 ∧ (comV x4 [oneC 2 g5 s5]).used = 84 ∧ (comV x4 [oneC 2 g5 s5]).seq = 1 from by
    obtain ⟨a, b, c, d, f⟩ := HX.out
    exact ⟨a, b, c, by show x4.used + (18 + 66 * 1) = 84; omega, by show x4.seq + 1 = 1; omega⟩)
  obtain ⟨x7, hx7⟩ : ∃ x7, x7 = comV x4 [oneC 2 g5 s5] := ⟨_, rfl⟩
  obtain ⟨s7, hs7'⟩ : ∃ s7, s7 = comS s4 x4 [oneC 2 g5 s5] := ⟨_, rfl⟩
  have HPG7 := Lib.hid (show x7.pages.getD 2 [] = s5 by rw [hx7]; exact HPG.out)
  rw [← hx7, ← hs7'] at hs7 HK7
  rw [← hx7] at HX7
  have HS7 := Lib.hid hs7
  clear hO hin hfit hs7 hc7 hx7 hs7' HCO HK HS6 HS5 HPG HX HBY5 HSZ4
  go_wp2_with fail
  have hsec := sector18_any (w := w7) 5
  rw [show (((5 : UInt8).toNat : Nat) : Int) = 5 from rfl] at hsec
  refine hsec.mono ?_
  rintro e w8 ⟨rfl, hb8, hc8⟩
  have HBY8 := Lib.hid (show Whole w8 w7.heap.size 5 (bts s5) from hb8)
  have HC8 := Lib.hid (HC7.out.new hc8)
  have HS8 := Lib.hid (HS7.out.keep hc8)
  have HSZ7 := Lib.hid (show ∀ i ∈ SK.D ⟨p, bL, bS, bW, g, gN, []⟩, i < w7.heap.size from HS7.out.lts)
  obtain ⟨g8, hg8⟩ : ∃ g8, g8 = w7.heap.size := ⟨_, rfl⟩
  rw [← hg8] at HBY8 HSZ7 ⊢
  clear hsec hb8 hc8 hg8 HS7
  go_wp2_with fail
  have hal := (Chg.refl [] w8).alloc (.cells #[.int .i64 4, .slice (some ⟨g8, 0, none⟩) 64 64] 78)
  have hN := Whole.new w8 78 [.int .i64 4, .slice (some ⟨g8, 0, none⟩) 64 64]
  have hgd : g8 ∉ SK.D ⟨p, bL, bS, bW, g, gN, []⟩ := fun hm => by have := HSZ7.out _ hm; omega
  have hNd : w8.heap.size ∉ SK.D ⟨p, bL, bS, bW, g, gN, []⟩ := fun hm => by have := HS8.out.lts _ hm; omega
  have HC9 := Lib.hid (HC8.out.new hal)
  have HS9 := Lib.hid (HS8.out.keep hal)
  have hch := one_ch (pg := 4) (HBY8.out.keep hal) s5_len hN hgd hNd (by omega)
  have HCO := Lib.hid (commit_any (m := 1) (d := 1) HS9.out hch rfl (by omega))
  clear hal hN hgd hNd hch
  refine HCO.out.mono ?_
  rintro e w10 hO
  have hno : rightB x7.P [oneC 4 g8 s5] = false := one_no (by have := HX7.out; omega)
  obtain ⟨rfl, hc10⟩ : e = .returned (.int .i64 1) ∧ Chg [] _ w10 := by
    rcases hO with ⟨_, h1, h2⟩ | ⟨h0, _⟩ | ⟨h0, _⟩
    · exact ⟨h1, h2⟩
    · rw [hno] at h0; cases h0
    · rw [hno] at h0; cases h0
  have HC10 := Lib.hid (HC9.out.new hc10)
  have HS10 := Lib.hid (HS9.out.keep hc10)
  clear hO hno hc10 HCO HS9 HS8 HBY8 HSZ7
  go_wp2_with fail
  refine (spage_any HS10.out 2 (by have := HX7.out; omega)).mono ?_
  rintro e w11 ⟨vp, rfl, hop, hc11⟩
  rw [HPG7.out, s5_len] at hop
  have HOP := Lib.hid hop
  have HLT10 := Lib.hid (show bL < w10.heap.size ∧ bS < w10.heap.size ∧ bW < w10.heap.size from by
    have := HS10.out.lts
    exact ⟨this _ (by simp [SK.D]), this _ (by simp [SK.D]), this _ (by simp [SK.D])⟩)
  have HC11 := Lib.hid (HC10.out.new hc11)
  have HS11 := Lib.hid (HS10.out.keep hc11)
  clear hop hc11 HS10
  go_wp2_with fail
  refine (used_any HS11.out).mono ?_
  rintro e w12 ⟨rfl, hc12⟩
  have HC12 := Lib.hid (HC11.out.new hc12)
  have HS12 := Lib.hid (HS11.out.keep hc12)
  have HOP12 := Lib.hid (own_keep HOP.out hc12)
  rw [HX7.out.2.2.2.1]
  clear hc12 HS11 HOP
  go_wp2_with fail
  refine (seq_any HS12.out).mono ?_
  rintro e w13 ⟨rfl, hc13⟩
  have HC13 := Lib.hid (HC12.out.new hc13)
  have HS13 := Lib.hid (HS12.out.keep hc13)
  have HOP13 := Lib.hid (own_keep HOP12.out hc13)
  rw [HX7.out.2.2.2.2]
  clear hc13 HS12 HOP12
  go_wp2_with fail
  refine (sync_any HS13.out).mono ?_
  rintro e w14 ⟨rfl, hs14, hc14⟩
  have HC14 := Lib.hid (HC13.out.then_ hc14 (fun i hi hw => by have := HFR.out i hi; omega))
  have hpB : ∀ i ∈ [bL, bS, bW], i < w10.heap.size := fun i hi => by
    simp only [List.mem_cons, List.not_mem_nil, or_false] at hi
    have h1 := HLT10.out
    rcases hi with rfl | rfl | rfl <;> omega
  obtain ⟨Ap, cp, rfl, _, _, _, hAp⟩ := own_slice HOP13.out
  have HOP14 := Lib.hid (rown_chg HOP13.out hc14 (fun i hi => .inl (hpB i hi)))
  have HD14 := Lib.hid hs14.dsk
  have HK14 := Lib.hid HK7.out.flA
  clear hs14 hc14 HS13 HOP13 hAp
  go_wp2_with fail
  refine (crash_flA HD14.out).mono ?_
  rintro e w15 ⟨rfl, hd15, hc15⟩
  have HC15 := Lib.hid (HC14.out.then_ hc15 (fun i hi hw => by have := HFR.out i hi; omega))
  have HOP15 := Lib.hid (rown_chg HOP14.out hc15 (fun i hi => .inl (hpB i hi)))
  have HD15 := Lib.hid hd15
  clear hd15 hc15 HOP14 HD14
  go_wp2_with fail
  refine (open_any HD15.out).mono ?_
  rintro e w16 hO
  have hb := HK14.out.k.best
  rw [HX7.out.1, HX7.out.2.1, HX7.out.2.2.1] at hb
  rw [OpenPost, hb] at hO
  rcases hO with ⟨h0, _⟩ | ⟨h0, _⟩ | ⟨_, _, g2, gN2, v16, rfl, hg2, hgN2, hs16, hc16⟩
  · exact absurd h0 (by decide)
  · exact absurd h0 (by decide)
  have HC16 := Lib.hid (HC15.out.then_ hc16 (fun i hi hw => by have := HFR.out i hi; omega))
  have HOP16 := Lib.hid (rown_chg HOP15.out hc16 (fun i hi => .inl (hpB i hi)))
  have ho := HK14.out.k.open_
  rw [HX7.out.1, HX7.out.2.1, HX7.out.2.2.1] at ho
  obtain ⟨y, hy⟩ : ∃ y, y = openV (flA s7) ⟨9, 4, 2⟩ := ⟨_, rfl⟩
  rw [← hy] at ho hs16
  have HX16 := Lib.hid (show (ckV y).L = 9 ∧ (ckV y).P = 4 ∧ (ckV y).E = 3 ∧ (ckV y).pages.getD 2 [] = s5 from ⟨ho.2.2.1, ho.2.2.2.1, by show y.E + 1 = 3; rw [ho.2.2.2.2], by show y.pages.getD 2 [] = s5; rw [ho.1]; exact HPG7.out⟩)
  have HS16 := Lib.hid hs16
  clear hb hg2 hgN2 hs16 hc16 ho hy HOP15 HD15
  go_wp2_with fail
  refine (spage_any HS16.out 2 (by have := HX16.out; omega)).mono ?_
  rintro e w17 ⟨vc, rfl, hoc, hc17⟩
  rw [HX16.out.2.2.2, s5_len] at hoc
  have HOC := Lib.hid hoc
  have HC17 := Lib.hid (HC16.out.new hc17)
  have HS17 := Lib.hid (HS16.out.keep hc17)
  have HOP17 := Lib.hid (own_keep HOP16.out hc17)
  clear hoc hc17 HS16 HOP16 hpB
  have e5 : s5 = 5 :: (zeros 64).tail := by decide
  rw [e5] at HOC HOP17
  obtain ⟨gc, cc, rfl, kc⟩ := own_first HOC.out
  obtain ⟨gp, cp', ep, kp⟩ := own_first HOP17.out
  injection ep with ep1 _ ep2
  subst ep1 ep2
  rw [show (((5 : UInt8).toNat : Nat) : Int) = 5 from rfl] at kc kp
  clear e5 HOP17 HOC
  go_wp2_with fail
  refine (sroot_any HS17.out).mono ?_
  rintro e w18 ⟨rfl, hc18⟩
  have HC18 := Lib.hid (HC17.out.new hc18)
  have HS18 := Lib.hid (HS17.out.keep hc18)
  rw [HX16.out.1, HX16.out.2.1, HX16.out.2.2.1]
  unfold rootV
  have hfe := epoch_of w18 (.int .i64 9) (.int .i64 4) (.int .u32 3)
  clear hc18 HS17 kc kp
  go_wp2_with fail
  have hpn := spage_none HS18.out 9 (by have := HX16.out; omega) (by omega)
  rw [show ((9 : Nat) : Int) = 9 from rfl] at hpn
  refine hpn.mono ?_
  rintro e w19 ⟨rfl, hc19⟩
  have HC19 := Lib.hid (HC18.out.new hc19)
  have HS19 := Lib.hid (HS18.out.keep hc19)
  clear hc19 HS18 hpn
  go_wp2_with fail
  refine (format_any HS19.out.dsk 99 1).mono ?_
  rintro e w20 hF
  obtain ⟨rfl, hc20⟩ : e = .returned (.int .i64 25) ∧ Chg [] w19 w20 := by
    rcases hF with ⟨h0, _⟩ | ⟨_, h1, h2⟩
    · have := rightR_true.1 h0; omega
    · exact ⟨h1, h2⟩
  have HC20 := Lib.hid (HC19.out.new hc20)
  clear hF hc20 HS19
  go_wp2_with fail
  refine (format_nil 1 1).mono ?_
  rintro e w21 ⟨rfl, hc21⟩
  have HC21 := Lib.hid (HC20.out.new hc21)
  clear hc21
  go_wp2_with fail
  go_ret
  exact ⟨rfl, HC21.out⟩
end
end Go.Proofs.Ytddjgncdjdjgeaa
