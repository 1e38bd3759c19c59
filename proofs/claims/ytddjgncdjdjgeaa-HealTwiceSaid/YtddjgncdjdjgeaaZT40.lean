/-
  T: LawHealD, GridI.
-/
import Derived.Test.YtddjgncdjdjgeaaZT3
import Derived.Test.YtddjgncdjdjgeaaZT32
import Derived.Test.YtddjgncdjdjgeaaZT39
import Derived.Test.YtddjgncdjdjgeaaChecked
import Derived.Deep.Slices
import Derived.ChangeSlices
namespace Go.Proofs.Ytddjgncdjdjgeaa
open Go.RowKit
theorem MadeI.hj {n : Nat} {l : List UInt8} (h : MadeI n l) : ∃ L P, HJ0 n 2 (openV ⟨l, l, falses n⟩ ⟨L, P, 2⟩).pages ⟨l, l, falses n⟩ L P 2 := by
  obtain ⟨s, x, ms, u, hk, hv, hl, hc, he⟩ := h
  have hz := hk.k.k.z
  have hE := hk.e
  have h1 := rightR_true.1 hz.k.rt
  have hvn : (St.mk l l (falses n)).V.length = n := falses_len n
  have hwl : ∀ q, q ∈ wl s.V s.V.length → 2 ≤ q ∧ q < 2 + x.L := fun q hq => by
    unfold wl at hq
    exact hk.k.k.wtl q (by simpa using (List.mem_filter.1 hq).2)
  have hs : ∀ q, q < 2 → secV ⟨l, l, falses n⟩ q = secV s q := fun q hq => secV_same hc.v q (fun j hj1 hj2 => hc.out j (fun hm => by have := hwl _ hm; omega))
  have hb := crash_best hz hk.k.k.wtl hc
  rw [hvn, hE] at hb
  have hrt : rightR x.L x.P 2 n = true := by have := hz.k.rt; rw [hE, hv] at this; exact this
  have hlg := hz.z.log
  rw [hE] at hlg
  have hS : (∀ j : Nat, j < 3 → s.S[128 + j]? = some 0) ∧ (s.S[131]? = some 0 ∨ s.S[131]? = some 2) := by
    have key : ∀ j : Nat, j < 4 → s.S[128 + j]? = (logB s x.L)[j]? := fun j hj => (logB_get (by omega)).symm
    have hlen := hz.z.len
    rw [hE] at hlen
    cases ms with
    | nil =>
      have h0 : ∀ j : Nat, j < 4 → s.S[128 + j]? = some 0 := fun j hj => by
        have hu : x.used = 0 := hlen.symm
        rw [key j hj, hlg, hu]
        show (([] : List UInt8) ++ zeros (x.L * 64 - 0))[j]? = _
        rw [List.nil_append, zeros, List.getElem?_replicate, if_pos (by omega)]
      exact ⟨fun j hj => h0 j (by omega), .inl (h0 3 (by omega))⟩
    | cons m ms =>
      have h0 : ∀ j : Nat, j < 4 → s.S[128 + j]? = (be4 2)[j]? := fun j hj => by
        rw [key j hj, hlg]
        show ((frameL 2 0 (bytesD m) ++ frsL 2 1 ms) ++ _)[j]? = _
        unfold frameL headL
        simp only [List.append_assoc]
        rw [List.getElem?_append_left (by rw [be4_len]; exact hj)]
      refine ⟨fun j hj => ?_, .inr (h0 3 (by omega))⟩
      rw [h0 j (by omega)]
      rcases (show j = 0 ∨ j = 1 ∨ j = 2 by omega) with rfl | rfl | rfl <;> rfl
  have hl4 : (∀ j : Nat, j < 3 → l[128 + j]? = some 0) ∧ (l[131]? = some 0 ∨ l[131]? = some 2) := by
    rcases hk.z4 with hz4 | hu
    · refine ⟨fun j hj => ?_, ?_⟩
      · rcases he (128 + j) with h2 | h2
        · rw [h2]; exact hS.1 j hj
        · rw [h2]; exact hz4 j (by omega)
      · rcases he 131 with h2 | h2
        · rw [h2]; exact hS.2
        · rw [h2]; exact .inl (hz4 3 (by omega))
    · have hj : ∀ j : Nat, j < 4 → l[128 + j]? = s.S[128 + j]? := fun j hj => by
        rcases he (128 + j) with h2 | h2
        · exact h2
        · rw [h2]; exact hk.k.k.alk _ (.inl (by omega))
      exact ⟨fun j h3 => (hj j (by omega)).trans (hS.1 j h3), by rw [hj 3 (by omega)]; exact hS.2⟩
  have hlog : getI (logB ⟨l, l, falses n⟩ x.L) 0 ≤ 2 := by
    have key : ∀ b : UInt8, l[131]? = some b → (logB ⟨l, l, falses n⟩ x.L).take 4 = [0, 0, 0, b] := fun b hb => by
      apply List.ext_getElem?
      intro j
      rw [List.getElem?_take]
      split
      · rw [logB_get (by omega)]
        show l[128 + j]? = _
        rcases (show j = 0 ∨ j = 1 ∨ j = 2 ∨ j = 3 by omega) with rfl | rfl | rfl | rfl
        · exact hl4.1 0 (by omega)
        · exact hl4.1 1 (by omega)
        · exact hl4.1 2 (by omega)
        · exact hb
      · rw [List.getElem?_eq_none (by simp; omega)]
    have hln : (logB ⟨l, l, falses n⟩ x.L).length = x.L * 64 := logB_len (by show 128 + x.L * 64 ≤ l.length; omega)
    have h3 := getI_is (l := logB ⟨l, l, falses n⟩ x.L) (i := 0) (by omega)
    rw [List.drop_zero] at h3
    show getI (logB ⟨l, l, falses n⟩ x.L) ((0 : Nat) : Int) ≤ 2
    rcases hl4.2 with h2 | h2
    · rw [h3, key 0 h2]; decide
    · rw [h3, key 2 h2]; decide
  refine ⟨x.L, x.P, hvn, Sa.of_len hl, rfl, hrt, by omega, by omega, hb, (hs 0 (by omega)).trans hk.r0, ?_, hlog, rfl⟩
  have h2 : secV ⟨l, l, falses n⟩ ((2 + 1) % 2) = rootL x.L x.P (2 - 1) := (hs 1 (by omega)).trans hk.r1
  rw [h2]
  exact slt_old x.L x.P 2
/-- Rows of numbers. -/
def ILs (w : World) (vs : List Value) (ls : List (List Int)) : Prop := vs.length = ls.length ∧ ∀ (i : Nat) v X, vs[i]? = some v → ls[i]? = some X → ∃ A n c, v = .slice A n c ∧ X.length = n ∧ Src w A (nms X) ∧ (0 < n → ∀ ad, A = some ad → ad.spot = none ∧ ad.block < w.heap.size) ∧ n ≤ 9223372036854775807
theorem HJ.open_ {n b : Nat} {PG : List (List UInt8)} {s : St} (h : HJ n b PG s) (hb : b ≤ 200) : 0 < (bestK s.V.length s.S 2).epoch ∧ (bestK s.V.length s.S 2).epoch < 4294967295 ∧ (ckV (openV s (bestK s.V.length s.S 2))).pages = PG := by
  obtain ⟨L, P, E, h⟩ := h
  have h1 := h.e1
  have h2 := h.eb
  have h3 : bestK s.V.length s.S 2 = ⟨L, P, E⟩ := by rw [h.v]; exact h.best
  rw [h3]
  exact ⟨by show 0 < E; omega, by show E < 4294967295; omega, h.pg⟩
theorem HJ.crash {n b : Nat} {PG : List (List UInt8)} {s : St} (h : HJ n b PG s) (hb : b ≤ 200) (k : Nat) (cuts : List Int) : HJ n (b + 1) PG ((doD s ((opDs s).take k)).crash (wl (doD s ((opDs s).take k)).V (doD s ((opDs s).take k)).V.length) cuts (wl (doD s ((opDs s).take k)).V (doD s ((opDs s).take k)).V.length).length) := by
  obtain ⟨L, P, E, h⟩ := h
  obtain ⟨l, he, hj⟩ := h.step hb k cuts
  rw [he]; exact hj
/-- What HealTwice's loop keeps. -/
def TwK (wr : World) (p bL bS bW b : Nat) (PG : List (List UInt8)) : Prop := ∃ s, HJ 24 b PG s ∧ DskS wr p bL bS bW s
section
variable {w : World} {A C A2 A3 : Option Addr} {n c m d n2 c2 n3 c3 : Nat} {xs cs ps : List Int} {vs : List Value} {gs : List (List Int)}
set_option maxHeartbeats 16000000 in
set_option maxRecDepth 100000 in
theorem healTwice_any (hl : xs.length = n) (hs : Src w A (nms xs)) (hsp : 0 < n → ∀ ad, A = some ad → ad.spot = none ∧ ad.block < w.heap.size) (hr : ∀ x ∈ xs, -9223372036854775808 ≤ x ∧ x ≤ 9223372036854775807) (hnm : n ≤ 9223372036854775807)
    (hcl : cs.length = m) (hcs : Src w C (nms cs)) (hcsp : 0 < m → ∀ ad, C = some ad → ad.spot = none ∧ ad.block < w.heap.size)
    (hpl : ps.length = n2) (hps : Src w A2 (nms ps)) (hpsp : 0 < n2 → ∀ ad, A2 = some ad → ad.spot = none ∧ ad.block < w.heap.size) (hpr : ∀ x ∈ ps, -9223372036854775808 ≤ x ∧ x ≤ 9223372036854775807) (hpm : n2 ≤ 9223372036854775807)
    (hgl : vs.length = n3) (hgs : Src w A3 vs) (hgsp : 0 < n3 → ∀ ad, A3 = some ad → ad.spot = none) (hgi : ILs w vs gs) (hgm : n3 ≤ 9223372036854775807) :
    Calls Try.prog 4 #[.slice A n c, .slice C m d, .slice A2 n2 c2, .slice A3 n3 c3] w (LawPost w) := by
  have HMD := Lib.hid (made_any (c := c) (d := d) hl hs hsp hr hnm hcl hcs hcsp)
  have HPL := Lib.hid hpl
  have HPS := Lib.hid hps
  have HPSP := Lib.hid hpsp
  have HPR := Lib.hid hpr
  have HGL := Lib.hid hgl
  have HGS := Lib.hid hgs
  have HGSP := Lib.hid hgsp
  have HGI := Lib.hid hgi
  clear hl hs hsp hr hcl hcs hcsp hpl hps hpsp hpr hgl hgs hgsp hgi
  go_enter Try.func4, Try.ntmps4
  go_wp2_with fail
  refine HMD.out.mono ?_
  rintro e w1 ⟨l, hmi, p, bL, bS, bW, q, gL, gN, gW, rL, rN, mm, rfl, hd1, _, hge, _, hc1⟩
  have hl64 : l.length = 1536 := by obtain ⟨_, _, _, _, _, _, h, _⟩ := hmi; exact h
  have HL := Lib.hid hl64
  obtain ⟨L, P, hj0⟩ := hmi.hj
  obtain ⟨s0, hs0⟩ : ∃ s0, s0 = (⟨l, l, falses 24⟩ : St) := ⟨_, rfl⟩
  have HS0 := Lib.hid (show s0.L = l from by rw [hs0])
  have HE0 := Lib.hid hs0
  rw [← hs0] at hd1 hj0
  obtain ⟨PG, hPG⟩ : ∃ PG, PG = (openV s0 ⟨L, P, 2⟩).pages := ⟨_, rfl⟩
  have HJ2 := Lib.hid (show HJ 24 2 PG s0 from ⟨L, P, 2, by rw [hPG]; exact hj0⟩)
  have HD1 := Lib.hid hd1
  have HC1 := Lib.hid hc1
  have HFR := Lib.hid (show ∀ i ∈ [p, bL, bS, bW], w.heap.size ≤ i from fun i hi => hge i (by simp only [List.mem_cons, List.not_mem_nil, or_false] at hi ⊢; rcases hi with h | h | h | h <;> simp [h]))
  obtain ⟨n6, hn6⟩ : ∃ n6, n6 = s0.L.length := ⟨_, rfl⟩
  have HN6 := Lib.hid hn6
  clear hmi hl64 hd1 hge hc1 HMD hn6 hs0 hj0 hPG
  go_wp2_with fail
  refine (imageS_any HD1.out HN6.out).mono ?_
  rintro e w2 ⟨rfl, hW2, hc2⟩
  have HO2 := Lib.hid (of_yes (n := n6) (c := n6) (l := l) (by rw [HN6.out, HS0.out]) (by rw [← HS0.out]; exact Src.of_all hW2) (by have h1 := HL.out; have h2 := HN6.out; rw [HS0.out] at h2; omega) (by have h1 := HL.out; have h2 := HN6.out; rw [HS0.out] at h2; omega) (by have h1 := HL.out; have h2 := HN6.out; rw [HS0.out] at h2; omega))
  have HD2 := Lib.hid (Dsk.keep HD1.out hc2)
  have HC2 := Lib.hid (HC1.out.new hc2)
  have HW2 := Lib.hid (show w.heap.size ≤ w2.heap.size from HC2.out.size)
  clear hW2 hc2
  go_wp2_with fail
  refine HO2.out.mono ?_
  rintro e w3 ⟨p2, bL2, bS2, bW2, rfl, hd3, hp2, hbL2, hbS2, hbW2, hc3⟩
  have H24 := Lib.hid (show n6 / 64 = 24 from by have h1 := HN6.out; rw [HS0.out] at h1; have h2 := HL.out; omega)
  rw [H24.out] at hd3
  have HE3 := Lib.hid (show DskS w3 p2 bL2 bS2 bW2 s0 from by rw [HE0.out]; exact hd3)
  have HD3 := Lib.hid (Dsk.keep HD2.out hc3)
  have HC3 := Lib.hid (HC2.out.new hc3)
  have HAP := Lib.hid (show (∀ i ∈ [p2, bL2, bS2, bW2], w2.heap.size ≤ i) ∧ (∀ i ∈ [p, bL, bS, bW], i < w2.heap.size) from by
    have h1 := (Dsk.rec_ HD2.out).lt
    have h2 := (Dsk.last HD2.out).lt
    have h3 := (Dsk.seen HD2.out).lt
    have h4 := (Dsk.wait HD2.out).lt
    refine ⟨fun i hi => ?_, fun i hi => ?_⟩ <;> (simp only [List.mem_cons, List.not_mem_nil, or_false] at hi) <;> omega)
  have HS23 := Lib.hid hc3.size
  clear hd3 hp2 hbL2 hbS2 hbW2 hc3 HO2
  go_wp2_with fail
  refine (open_ex (ex := [p, bL, bS, bW]) HE3.out (fun i hi => by have h1 := HAP.out.2 i hi; have h2 := HS23.out; omega)).mono ?_
  rintro e w4 hO
  obtain ⟨g, gN', v4, sc, xc, rfl, hg, hgN, hst, hxp, hc4⟩ : ∃ g gN' v4 sc xc, e = .returned (.tuple #[.pointer (some ⟨g, 0, none⟩), .int .i64 0]) ∧ w3.heap.size ≤ g ∧ w3.heap.size ≤ gN' ∧ Sto w4 ⟨p2, bL2, bS2, bW2, g, gN', [p, bL, bS, bW]⟩ sc xc v4 ∧ xc.pages = PG ∧ Chg [bL2, bS2, bW2] w3 w4 := by
    obtain ⟨o1, o2, o3⟩ := HJ2.out.open_ (by omega)
    rcases hO with ⟨h0, _⟩ | ⟨h0, _⟩ | ⟨_, _, g, gN', v4, rfl, h1, h2, h3, h4⟩
    · omega
    · omega
    · exact ⟨g, gN', v4, _, _, rfl, h1, h2, h3, o3, h4⟩
  have HXP := Lib.hid hxp
  have HFA := Lib.hid (show ∀ i ∈ [p2, bL2, bS2, bW2, g, gN'], i ∉ [bL, bS, bW] from fun i hi hm => by
    have h1 := HAP.out.2 i (List.mem_cons_of_mem _ hm)
    have h2 := HAP.out.1
    have h3 := HS23.out
    simp only [List.mem_cons, List.not_mem_nil, or_false] at hi h2
    rcases hi with rfl | rfl | rfl | rfl | rfl | rfl
    · have := h2 i (by simp); omega
    · have := h2 i (by simp); omega
    · have := h2 i (by simp); omega
    · have := h2 i (by simp); omega
    · omega
    · omega)
  have HST4 := Lib.hid hst
  have HT4 := Lib.hid (show TwK w4 p bL bS bW 2 PG from ⟨s0, HJ2.out, Dsk.away HD3.out hc4 (fun hm => by have h1 := HAP.out.1 p (List.mem_cons_of_mem _ hm); have h2 := HAP.out.2 p (by simp); omega) (fun hm => by have h1 := HAP.out.1 bL (List.mem_cons_of_mem _ hm); have h2 := HAP.out.2 bL (by simp); omega) (fun hm => by have h1 := HAP.out.1 bS (List.mem_cons_of_mem _ hm); have h2 := HAP.out.2 bS (by simp); omega) (fun hm => by have h1 := HAP.out.1 bW (List.mem_cons_of_mem _ hm); have h2 := HAP.out.2 bW (by simp); omega)⟩)
  have HC4 := Lib.hid (HC3.out.then_ hc4 (fun i hi hw => by have h1 := HAP.out.1 i (List.mem_cons_of_mem _ hi); have h2 := HW2.out; omega))
  have HEX := Lib.hid (show ∀ i ∈ [bL, bS, bW], i ∈ [p, bL, bS, bW] from fun i hi => List.mem_cons_of_mem _ hi)
  clear hO hg hgN hst hxp hc4
  go_wp2_with fail
  go_loopw [14] (fun i wr => ∃ j : Nat, i = .int .i64 (j : Int) ∧ j ≤ 8 ∧ j ≤ n2 ∧ Hid (TwK wr p bL bS bW (2 + j) PG) ∧ Hid (Sto wr ⟨p2, bL2, bS2, bW2, g, gN', [p, bL, bS, bW]⟩ sc xc v4) ∧ Hid (Chg [] w wr)) (fun i _ => 8 - (intOf i).toNat)
  case atStart => exact ⟨0, rfl, by omega, Nat.zero_le _, HT4, HST4, HC4⟩
  case round =>
    obtain ⟨j, rfl, hj8, hjn, HTr, HSr, HCr⟩ := hrel
    clear HT4 HST4 HC4
    by_cases hlt : j < n2 ∧ j < 8
    · have hjI : (j : Int) < (n2 : Int) := by omega
      have hj8I : (j : Int) < 8 := by omega
      have hj0 : (0 : Int) ≤ (j : Int) := by omega
      obtain ⟨sj, hsj, hdj⟩ := HTr.out
      have HSJ := Lib.hid hsj
      have HDJ := Lib.hid hdj
      have hjp : j < ps.length := by rw [HPL.out]; omega
      obtain ⟨ad, rfl, hadb, hcell⟩ := (HPS.out.keep HCr.out) (by rw [nms_len]; omega)
      obtain ⟨b7, o7, s7⟩ := ad
      obtain rfl : s7 = none := (HPSP.out (by omega) _ rfl).1
      have hc := hcell j _ (nms_get ps j hjp)
      have hpr := HPR.out ps[j] (List.getElem_mem hjp)
      generalize ps[j] = pj at hc hpr
      rw [add_plain] at hc
      have hin := into_within pj 0 11 (by omega)
      obtain ⟨K, hK⟩ : ∃ K : Nat, withinI pj 0 11 = (K : Int) := ⟨(withinI pj 0 11).toNat, by have := hin.1; omega⟩
      have HKI := Lib.hid hK
      clear hsj hdj hcell hadb hK hin hjp HTr
      go_wp2_with fail
      with_reducible refine (within_is pj 0 11 (by omega) (by omega) (by omega) hpr.1 hpr.2).mono ?_
      rintro e w' ⟨rfl, rfl⟩
      rw [HKI.out]
      go_wp2_with fail
      refine (part_any HDJ.out (K : Int)).mono ?_
      rintro e w5 ⟨rfl, hd5, hc5⟩
      obtain ⟨kk, hkk⟩ : ∃ kk, kk = clampN (K : Int) (opDs sj).length := ⟨_, rfl⟩
      rw [← hkk] at hd5 ⊢
      have HD5 := Lib.hid hd5
      have HS5 := Lib.hid (HSr.out.pasts hc5 HEX.out HFA.out)
      have HC5 := Lib.hid (HCr.out.then_ hc5 (fun i hi hw => by have := HFR.out i (List.mem_cons_of_mem _ hi); omega))
      clear hd5 hc5 hc hkk hpr
      by_cases hj3 : j < n3
      · have hj3I : (j : Int) < (n3 : Int) := by omega
        have hjv : j < vs.length := by rw [HGL.out]; exact hj3
        obtain ⟨ad, rfl, hadb, hcell⟩ := (HGS.out.keep HC5.out) (by omega)
        obtain ⟨b8, o8, s8⟩ := ad
        obtain rfl : s8 = none := HGSP.out (by omega) _ rfl
        have hc := hcell j _ (List.getElem?_eq_getElem hjv)
        have hjg : j < gs.length := by rw [← HGI.out.1]; exact hjv
        obtain ⟨A9, n9, c9, hv9, hl9, hs9, hsp9, hm9⟩ := HGI.out.2 j _ gs[j] (List.getElem?_eq_getElem hjv) (List.getElem?_eq_getElem hjg)
        rw [hv9] at hc
        generalize gs[j] = cj at hl9 hs9
        rw [add_plain] at hc
        have HCJ := Lib.hid (HJ.crash HSJ.out (by omega) kk cj)
        have HCA := Lib.hid (crash_any (c := c9) HD5.out hl9 (hs9.keep HC5.out) (fun h0 ad e => (hsp9 (by omega) ad e).1) (fun h0 ad e hm => by have h1 := (hsp9 (by omega) ad e).2; have h2 := HFR.out _ (List.mem_cons_of_mem _ hm); omega) hm9)
        clear hcell hadb hv9 hl9 hs9 hsp9 hm9 hjv hjg
        go_wp2_with fail
        refine HCA.out.mono ?_
        rintro e w6 ⟨rfl, hd6, hc6⟩
        have HT6 := Lib.hid (show TwK w6 p bL bS bW (2 + (j + 1)) PG from ⟨_, HCJ.out, hd6⟩)
        have HS6 := Lib.hid (HS5.out.pasts hc6 HEX.out HFA.out)
        have HC6 := Lib.hid (HC5.out.then_ hc6 (fun i hi hw => by have := HFR.out i (List.mem_cons_of_mem _ hi); omega))
        clear hd6 hc6 hc HCA
        go_wp2_with fail
        go_roundw
        case rel => exact ⟨j + 1, by go_num, by omega, by omega, HT6, HS6, HC6⟩
        case measure => simp [intOf]; omega
      · have hj3I : ¬ (j : Int) < (n3 : Int) := by omega
        have HCJ := Lib.hid (HJ.crash HSJ.out (by omega) kk [])
        have HCA := Lib.hid (crash_any (A := none) (n := 0) (c := 0) (cuts := []) HD5.out rfl (Src.nil _ _) (fun h => absurd h (by simp)) (fun h => absurd h (by simp)) (by omega))
        go_wp2_with fail
        refine HCA.out.mono ?_
        rintro e w6 ⟨rfl, hd6, hc6⟩
        have HT6 := Lib.hid (show TwK w6 p bL bS bW (2 + (j + 1)) PG from ⟨_, HCJ.out, hd6⟩)
        have HS6 := Lib.hid (HS5.out.pasts hc6 HEX.out HFA.out)
        have HC6 := Lib.hid (HC5.out.then_ hc6 (fun i hi hw => by have := HFR.out i (List.mem_cons_of_mem _ hi); omega))
        clear hd6 hc6 HCA
        go_wp2_with fail
        go_roundw
        case rel => exact ⟨j + 1, by go_num, by omega, by omega, HT6, HS6, HC6⟩
        case measure => simp [intOf]; omega
    · obtain ⟨sj, hsj, hdj⟩ := HTr.out
      have HSJ := Lib.hid (hsj.open_ (by omega))
      have HDS := Lib.hid (open_any hdj)
      clear hsj hdj HTr
      by_cases hjn2 : j < n2
      · have hjI : (j : Int) < (n2 : Int) := by omega
        have hj8I : ¬ (j : Int) < 8 := by omega
        go_wp2_with fail
        refine HDS.out.mono ?_
        rintro e w7 hO
        obtain ⟨g7, gN7, v7, sd, xd, rfl, hst7, hxp7, hc7⟩ : ∃ g7 gN7 v7 sd xd, e = .returned (.tuple #[.pointer (some ⟨g7, 0, none⟩), .int .i64 0]) ∧ Sto w7 ⟨p, bL, bS, bW, g7, gN7, []⟩ sd xd v7 ∧ xd.pages = PG ∧ Chg [bL, bS, bW] wr w7 := by
          obtain ⟨o1, o2, o3⟩ := HSJ.out
          rcases hO with ⟨h0, _⟩ | ⟨h0, _⟩ | ⟨_, _, g7, gN7, v7, rfl, _, _, h3, h4⟩
          · omega
          · omega
          · exact ⟨g7, gN7, v7, _, _, rfl, h3, o3, h4⟩
        have HS7 := Lib.hid (HSr.out.pasts hc7 HEX.out HFA.out)
        have HO7 := Lib.hid hst7
        have HC7 := Lib.hid (HCr.out.then_ hc7 (fun i hi hw => by have := HFR.out i (List.mem_cons_of_mem _ hi); omega))
        obtain ⟨t, ht⟩ : ∃ t, t = PG.length := ⟨_, rfl⟩
        have ht1 : xc.P = t := by rw [ht, ← HXP.out]; exact HS7.out.pl.symm
        have ht2 : xd.P = t := by rw [ht, ← hxp7]; exact hst7.pl.symm
        have ht64 : t ≤ 64 := by have := rightR_true.1 HS7.out.rt; omega
        have HT1 := Lib.hid ht1
        have HT2 := Lib.hid ht2
        have HX7 := Lib.hid hxp7
        have HTL := Lib.hid ht
        clear hO hst7 hxp7 hc7 ht ht1 ht2 HDS HSJ
        go_wp2_with fail
        refine (sall_any HS7.out).mono ?_
        rintro e w8 ⟨gA, uA, rfl, hfA, _, hc8⟩
        rw [HT1.out, HXP.out] at hfA
        rw [HT1.out]
        have HFA8 := Lib.hid hfA
        have HO8 := Lib.hid (HO7.out.keep hc8)
        have HC8 := Lib.hid (HC7.out.new hc8)
        clear hfA hc8
        go_wp2_with fail
        refine (sall_any HO8.out).mono ?_
        rintro e w9 ⟨gB, uB, rfl, hfB, _, hc9⟩
        rw [HT2.out, HX7.out] at hfB
        rw [HT2.out]
        have HFA9 := Lib.hid (HFA8.out.keep hc9)
        have HFB9 := Lib.hid hfB
        have HC9 := Lib.hid (HC8.out.new hc9)
        clear hfB hc9
        go_wp2_with fail
        go_loopw [100] (fun i wx => (∃ j : Nat, j ≤ t ∧ i = .int .i64 (j : Int)) ∧ Hid (Chg [] w9 wx)) (fun i _ => t - (intOf i).toNat)
        case atStart => exact ⟨⟨0, Nat.zero_le _, rfl⟩, Lib.hid (Chg.refl _ _)⟩
        case round =>
          obtain ⟨⟨k, hk, rfl⟩, HCx⟩ := hrel
          by_cases hl2 : k < t
          · have hkP : k < PG.length := by rw [← HTL.out]; exact hl2
            obtain ⟨x5, hx5, hW5, _⟩ := HFA9.out.at_ k hl2 PG[k] (List.getElem?_eq_getElem hkP)
            obtain ⟨x6, hx6, hW6, _⟩ := HFB9.out.at_ k hl2 PG[k] (List.getElem?_eq_getElem hkP)
            have c5 := (HFA9.out.row.keep HCx.out).cell k
            have c6 := (HFB9.out.row.keep HCx.out).cell k
            rw [hx5] at c5
            rw [hx6] at c6
            have hr64 : PG[k].length = 64 := HO7.out.p64 _ (by rw [HX7.out]; exact List.getElem_mem hkP)
            generalize PG[k] = r at hW5 hW6 c5 c6 hr64
            have HB5 := Lib.hid ((Bs.of_all hW5 (by omega)).keep HCx.out)
            have HB6 := Lib.hid ((Bs.of_all hW6 (by omega)).keep HCx.out)
            have hkt : (k : Int) < (t : Int) := by omega
            have hk0 : (0 : Int) ≤ (k : Int) := by omega
            have kp : ∀ W, Chg [] wr.drew W → Chg [] wr W := fun W hW => (Chg.refl [] wr).drew.new hW
            clear hx5 hx6 hW5 hW6 hkP hr64
            go_wp2_with fail
            refine wp_flow (by kernel_rfl) plainT plainT_ok (by kernel_rfl) ?_
            refine flow_move_out plainT_ok rfl rfl rfl ?_
            refine flow_move_out plainT_ok rfl rfl rfl ?_
            refine flow2 (r := .pointer (some ⟨gA, k, none⟩)) plainT_ok rfl (.inn rfl) (.inn rfl) rfl (fun ev W he e1 e2 => by go_simp) ?_
            refine flow1h (r := .slice (some ⟨x5, 0, none⟩) r.length r.length) plainT_ok rfl (.inn rfl) rfl (fun ev W he hW e1 => by have c0 := cell_keep c5 (kp W hW); go_simp) ?_
            refine flow_strd plainT_ok (.inn rfl) (fun W hW => HB5.out.keep (kp W hW)) Try.underlying44 Try.underlying5 Try.underlying9 rfl ?_
            refine flow_move_out plainT_ok rfl rfl rfl ?_
            refine flow_move_out plainT_ok rfl rfl rfl ?_
            refine flow2 (r := .pointer (some ⟨gB, k, none⟩)) plainT_ok rfl (.inn rfl) (.inn rfl) rfl (fun ev W he e1 e2 => by go_simp) ?_
            refine flow1h (r := .slice (some ⟨x6, 0, none⟩) r.length r.length) plainT_ok rfl (.inn rfl) rfl (fun ev W he hW e1 => by have c0 := cell_keep c6 (kp W hW); go_simp) ?_
            refine flow_strd plainT_ok (.inn rfl) (fun W hW => HB6.out.keep (kp W hW)) Try.underlying44 Try.underlying5 Try.underlying9 rfl ?_
            refine flow2 (r := .bool false) plainT_ok rfl (.inn rfl) (.inn rfl) rfl (fun ev W he e1 e2 => by go_simp) ?_
            intro vs W2 hW2 hF
            have e88 : vs 113 = .bool false := hF 113 _ rfl rfl
            have HCW := Lib.hid (HCx.out.new (kp W2 hW2))
            simp only [putAll, Act.put, List.setIfInBounds_toArray, List.set_cons_zero, List.set_cons_succ, e88]
            clear hW2 hF
            go_wp2_with fail
            go_roundw
            case rel => exact ⟨⟨k + 1, by omega, by go_num⟩, HCW⟩
            case measure => simp [intOf]; omega
          · obtain rfl : k = t := by omega
            go_wp2_with fail
            refine known19.mono ?_
            rintro e w10 ⟨rfl, hc10⟩
            have HCE := Lib.hid (HC9.out.new (HCx.out.new hc10))
            clear hc10
            go_wp2_with fail
            go_ret
            exact ⟨rfl, HCE.out⟩
      · have hjI : ¬ (j : Int) < (n2 : Int) := by omega
        go_wp2_with fail
        refine HDS.out.mono ?_
        rintro e w7 hO
        obtain ⟨g7, gN7, v7, sd, xd, rfl, hst7, hxp7, hc7⟩ : ∃ g7 gN7 v7 sd xd, e = .returned (.tuple #[.pointer (some ⟨g7, 0, none⟩), .int .i64 0]) ∧ Sto w7 ⟨p, bL, bS, bW, g7, gN7, []⟩ sd xd v7 ∧ xd.pages = PG ∧ Chg [bL, bS, bW] wr w7 := by
          obtain ⟨o1, o2, o3⟩ := HSJ.out
          rcases hO with ⟨h0, _⟩ | ⟨h0, _⟩ | ⟨_, _, g7, gN7, v7, rfl, _, _, h3, h4⟩
          · omega
          · omega
          · exact ⟨g7, gN7, v7, _, _, rfl, h3, o3, h4⟩
        have HS7 := Lib.hid (HSr.out.pasts hc7 HEX.out HFA.out)
        have HO7 := Lib.hid hst7
        have HC7 := Lib.hid (HCr.out.then_ hc7 (fun i hi hw => by have := HFR.out i (List.mem_cons_of_mem _ hi); omega))
        obtain ⟨t, ht⟩ : ∃ t, t = PG.length := ⟨_, rfl⟩
        have ht1 : xc.P = t := by rw [ht, ← HXP.out]; exact HS7.out.pl.symm
        have ht2 : xd.P = t := by rw [ht, ← hxp7]; exact hst7.pl.symm
        have ht64 : t ≤ 64 := by have := rightR_true.1 HS7.out.rt; omega
        have HT1 := Lib.hid ht1
        have HT2 := Lib.hid ht2
        have HX7 := Lib.hid hxp7
        have HTL := Lib.hid ht
        clear hO hst7 hxp7 hc7 ht ht1 ht2 HDS HSJ
        go_wp2_with fail
        refine (sall_any HS7.out).mono ?_
        rintro e w8 ⟨gA, uA, rfl, hfA, _, hc8⟩
        rw [HT1.out, HXP.out] at hfA
        rw [HT1.out]
        have HFA8 := Lib.hid hfA
        have HO8 := Lib.hid (HO7.out.keep hc8)
        have HC8 := Lib.hid (HC7.out.new hc8)
        clear hfA hc8
        go_wp2_with fail
        refine (sall_any HO8.out).mono ?_
        rintro e w9 ⟨gB, uB, rfl, hfB, _, hc9⟩
        rw [HT2.out, HX7.out] at hfB
        rw [HT2.out]
        have HFA9 := Lib.hid (HFA8.out.keep hc9)
        have HFB9 := Lib.hid hfB
        have HC9 := Lib.hid (HC8.out.new hc9)
        clear hfB hc9
        go_wp2_with fail
        go_loopw [100] (fun i wx => (∃ j : Nat, j ≤ t ∧ i = .int .i64 (j : Int)) ∧ Hid (Chg [] w9 wx)) (fun i _ => t - (intOf i).toNat)
        case atStart => exact ⟨⟨0, Nat.zero_le _, rfl⟩, Lib.hid (Chg.refl _ _)⟩
        case round =>
          obtain ⟨⟨k, hk, rfl⟩, HCx⟩ := hrel
          by_cases hl2 : k < t
          · have hkP : k < PG.length := by rw [← HTL.out]; exact hl2
            obtain ⟨x5, hx5, hW5, _⟩ := HFA9.out.at_ k hl2 PG[k] (List.getElem?_eq_getElem hkP)
            obtain ⟨x6, hx6, hW6, _⟩ := HFB9.out.at_ k hl2 PG[k] (List.getElem?_eq_getElem hkP)
            have c5 := (HFA9.out.row.keep HCx.out).cell k
            have c6 := (HFB9.out.row.keep HCx.out).cell k
            rw [hx5] at c5
            rw [hx6] at c6
            have hr64 : PG[k].length = 64 := HO7.out.p64 _ (by rw [HX7.out]; exact List.getElem_mem hkP)
            generalize PG[k] = r at hW5 hW6 c5 c6 hr64
            have HB5 := Lib.hid ((Bs.of_all hW5 (by omega)).keep HCx.out)
            have HB6 := Lib.hid ((Bs.of_all hW6 (by omega)).keep HCx.out)
            have hkt : (k : Int) < (t : Int) := by omega
            have hk0 : (0 : Int) ≤ (k : Int) := by omega
            have kp : ∀ W, Chg [] wr.drew W → Chg [] wr W := fun W hW => (Chg.refl [] wr).drew.new hW
            clear hx5 hx6 hW5 hW6 hkP hr64
            go_wp2_with fail
            refine wp_flow (by kernel_rfl) plainT plainT_ok (by kernel_rfl) ?_
            refine flow_move_out plainT_ok rfl rfl rfl ?_
            refine flow_move_out plainT_ok rfl rfl rfl ?_
            refine flow2 (r := .pointer (some ⟨gA, k, none⟩)) plainT_ok rfl (.inn rfl) (.inn rfl) rfl (fun ev W he e1 e2 => by go_simp) ?_
            refine flow1h (r := .slice (some ⟨x5, 0, none⟩) r.length r.length) plainT_ok rfl (.inn rfl) rfl (fun ev W he hW e1 => by have c0 := cell_keep c5 (kp W hW); go_simp) ?_
            refine flow_strd plainT_ok (.inn rfl) (fun W hW => HB5.out.keep (kp W hW)) Try.underlying44 Try.underlying5 Try.underlying9 rfl ?_
            refine flow_move_out plainT_ok rfl rfl rfl ?_
            refine flow_move_out plainT_ok rfl rfl rfl ?_
            refine flow2 (r := .pointer (some ⟨gB, k, none⟩)) plainT_ok rfl (.inn rfl) (.inn rfl) rfl (fun ev W he e1 e2 => by go_simp) ?_
            refine flow1h (r := .slice (some ⟨x6, 0, none⟩) r.length r.length) plainT_ok rfl (.inn rfl) rfl (fun ev W he hW e1 => by have c0 := cell_keep c6 (kp W hW); go_simp) ?_
            refine flow_strd plainT_ok (.inn rfl) (fun W hW => HB6.out.keep (kp W hW)) Try.underlying44 Try.underlying5 Try.underlying9 rfl ?_
            refine flow2 (r := .bool false) plainT_ok rfl (.inn rfl) (.inn rfl) rfl (fun ev W he e1 e2 => by go_simp) ?_
            intro vs W2 hW2 hF
            have e88 : vs 113 = .bool false := hF 113 _ rfl rfl
            have HCW := Lib.hid (HCx.out.new (kp W2 hW2))
            simp only [putAll, Act.put, List.setIfInBounds_toArray, List.set_cons_zero, List.set_cons_succ, e88]
            clear hW2 hF
            go_wp2_with fail
            go_roundw
            case rel => exact ⟨⟨k + 1, by omega, by go_num⟩, HCW⟩
            case measure => simp [intOf]; omega
          · obtain rfl : k = t := by omega
            go_wp2_with fail
            refine known19.mono ?_
            rintro e w10 ⟨rfl, hc10⟩
            have HCE := Lib.hid (HC9.out.new (HCx.out.new hc10))
            clear hc10
            go_wp2_with fail
            go_ret
            exact ⟨rfl, HCE.out⟩
end
end Go.Proofs.Ytddjgncdjdjgeaa
namespace Go.Proofs.Ytddjgncdjdjgeaa
open Go.RowKit Go.ChangeShapes Go.WideShapes Go.Deep
theorem pair_listI {α β : Type} {P : Nat → α → β → Prop} (n : Nat) (h : ∀ i, i < n → ∃ a b, P i a b) : ∃ (l : List α) (m : List β), l.length = n ∧ m.length = n ∧ ∀ i a b, l[i]? = some a → m[i]? = some b → P i a b := by
  induction n with
  | zero => exact ⟨[], [], rfl, rfl, fun i a b h => by simp at h⟩
  | succ n ih =>
    obtain ⟨l, m, hl, hm, hx⟩ := ih fun i hi => h i (by omega)
    obtain ⟨a, b, hab⟩ := h n (by omega)
    refine ⟨l ++ [a], m ++ [b], by simp [hl], by simp [hm], fun i x y hx1 hy1 => ?_⟩
    rcases Nat.lt_trichotomy i n with hi | hi | hi
    · rw [List.getElem?_append_left (by omega)] at hx1 hy1
      exact hx i x y hx1 hy1
    · subst hi
      rw [← hl, List.getElem?_concat_length] at hx1
      rw [← hm, List.getElem?_concat_length] at hy1
      cases hx1
      cases hy1
      exact hab
    · rw [List.getElem?_eq_none (by simp; omega)] at hx1
      cases hx1
section
variable {H : Type} {enc : TypeId × Value → H} {w : World} {base : Nat} {held : Bool}
theorem igrid_open {fuel : Nat} {cs : List Value} {x : DataW H × List MemPlace} (h : DataW.trod enc Try.prog w base (fun _ => true) held fuel 50 cs = some x) (v : Value) (hv : cs = [v]) :
    ∃ A n c vs ls, v = .slice A n c ∧ vs.length = n ∧ Src w A vs ∧ (0 < n → ∀ ad, A = some ad → ad.spot = none) ∧ ILs w vs ls ∧ n ≤ 9223372036854775807 := by
  subst hv
  rcases open_slice Try.underlying50 h with ⟨h0, _⟩ | ⟨a, len, cap, m, f, D, Pl, hcs, hb, hl, hm, hmm, hx, hi⟩
  · simp only [List.cons.injEq, and_true] at h0
    exact ⟨none, 0, 0, [], [], h0, rfl, Src.nil _ _, fun h => absurd h (by omega), ⟨rfl, fun i v X hv _ => by simp at hv⟩, by omega⟩
  · simp only [List.cons.injEq, and_true] at hcs
    rw [if_pos rfl] at hmm
    subst hmm
    have key : ∀ i, i < len → ∃ (u : Value) (X : List Int), w.cell? (a.add i) = some u ∧ ∃ A n c, u = .slice A n c ∧ X.length = n ∧ Src w A (nms X) ∧ (0 < n → ∀ ad, A = some ad → ad.spot = none ∧ ad.block < w.heap.size) ∧ n ≤ 9223372036854775807 := by
      intro i hlt
      have hC : Try.prog.cellsOf 22 = 1 := by kernel_rfl
      obtain ⟨cs', hc, ht'⟩ := hi i (by omega)
      rw [hC, Nat.mul_one] at hc
      obtain ⟨_, hcl, hat⟩ := World.cells?_some hc
      match cs', hcl with
      | [u], _ =>
        have h0 := hat 0 (by omega)
        rw [List.getElem?_cons_zero, show ((a.add i).add 0) = a.add i by simp [Addr.add]] at h0
        rcases open_ints Try.underlying22 Try.underlying3 (by kernel_rfl) ht' with ⟨hcs, _⟩ | ⟨ad, l, c, zs, hcs, _, hl, hm, hz, hx, hcell, hwz⟩
        · simp only [List.cons.injEq, and_true] at hcs
          exact ⟨u, [], h0, none, 0, 0, hcs, rfl, Src.nil _ _, fun h => absurd h (by omega), by omega⟩
        · simp only [List.cons.injEq, and_true] at hcs
          have hrow : IsRow .i64 w (some ad) l c zs := .inr ⟨ad, rfl, hl, hm, by simpa using hz, hcell, hwz⟩
          obtain ⟨X, hX1, hX2, _⟩ := row_nums hrow
          have hml := row_len hrow
          unfold maxLen at hml
          exact ⟨u, X, h0, some ad, l, c, hcs, hX1, hX2, row_spot hrow, hml⟩
    obtain ⟨vs, ls, hvl, hll, hkx⟩ := pair_listI len key
    have hbk : ∀ i, (a.add i).block = a.block := fun i => by unfold Addr.add; split <;> rfl
    refine ⟨some a, len, m, vs, ls, hcs, hvl, fun hp => ?_, fun h0 ad e => ?_, ⟨by omega, fun i u X hu hX => (hkx i u X hu hX).2⟩, by unfold maxLen at hm; omega⟩
    · refine ⟨a, rfl, ?_, fun j u hj => ?_⟩
      · obtain ⟨h1, _⟩ := hkx 0 _ _ (List.getElem?_eq_getElem hp) (List.getElem?_eq_getElem (by omega))
        rw [← hbk 0]
        exact block_lt_of_cell h1
      · have hj2 := (List.getElem?_eq_some_iff.1 hj).1
        exact (hkx j u _ hj (List.getElem?_eq_getElem (by omega))).1
    · injection e with e
      subst e
      obtain ⟨h1, A1, n1, c1, e1, _⟩ := hkx 0 _ _ (List.getElem?_eq_getElem (by omega)) (List.getElem?_eq_getElem (by omega))
      rw [show a.add 0 = a by simp [Addr.add]] at h1
      cases hs : a.spot with
      | none => rfl
      | some s =>
        exfalso
        unfold World.cell? at h1
        rw [hs] at h1
        split at h1
        · rw [e1] at h1; simp at h1
        · cases h1
end
end Go.Proofs.Ytddjgncdjdjgeaa
