/-
  K: LawStoreKeeps.
-/
import Derived.Test.YtddjgncdjdjgeaaZK10
import Derived.Test.YtddjgncdjdjgeaaZK22
import Derived.Test.YtddjgncdjdjgeaaZK34
import Derived.Test.YtddjgncdjdjgeaaZK39
namespace Go.Proofs.Ytddjgncdjdjgeaa
open Go.RowKit
section
variable {w : World} {A C : Option Addr} {n c m d : Nat} {xs cs : List Int}
set_option maxHeartbeats 16000000 in
set_option maxRecDepth 100000 in
theorem storeKeeps_any (sy : Int) (hsy0 : -9223372036854775808 ≤ sy) (hsy1 : sy ≤ 9223372036854775807) (hl : xs.length = n) (hs : Src w A (nms xs)) (hsp : 0 < n → ∀ ad, A = some ad → ad.spot = none ∧ ad.block < w.heap.size) (hr : ∀ x ∈ xs, -9223372036854775808 ≤ x ∧ x ≤ 9223372036854775807) (hnm : n ≤ 9223372036854775807)
    (hcl : cs.length = m) (hcs : Src w C (nms cs)) (hcsp : 0 < m → ∀ ad, C = some ad → ad.spot = none ∧ ad.block < w.heap.size) (hcm : m ≤ 9223372036854775807) :
    Calls Try.prog 3 #[.slice A n c, .slice C m d, .int .i64 sy] w (LawPost w) := by
  have HXL := Lib.hid hl
  have HSR := Lib.hid hs
  have HSP := Lib.hid hsp
  have HXR := Lib.hid hr
  have HCL := Lib.hid hcl
  have HCS := Lib.hid hcs
  have HCSP := Lib.hid hcsp
  clear hl hs hsp hr hcl hcs hcsp
  have hrt : rightR (24 : Nat) (6 : Nat) 1 (St.new 40).V.length = true := by rw [newV]; decide
  go_enter Try.func3, Try.ntmps3
  go_wp2_with fail
  refine (new_int 40 (by omega) (by omega)).mono ?_
  rintro e w1 ⟨p, bL, bS, bW, rfl, hd1, hp, hbL, hbS, hbW, hc1⟩
  have HD1 := Lib.hid hd1
  have HC1 := Lib.hid hc1
  have HB := Lib.hid (show w.heap.size ≤ p ∧ w.heap.size ≤ bL ∧ w.heap.size ≤ bS ∧ w.heap.size ≤ bW from ⟨hp, hbL, hbS, hbW⟩)
  clear hd1 hc1 hp hbL hbS hbW
  go_wp2_with fail
  refine (format_any HD1.out 24 6).mono ?_
  rintro e w3 hF
  obtain ⟨rfl, hd3, hc3⟩ : e = .returned (.int .i64 0) ∧ DskS w3 p bL bS bW (fmt (St.new 40) 24 6) ∧ Chg [bL, bS, bW] w1 w3 := by
    rcases hF with ⟨_, h1, h2, h3⟩ | ⟨h0, _⟩
    · exact ⟨h1, h2, h3⟩
    · exact absurd h0 (by show ¬ rightR 24 6 1 (St.new 40).V.length = false; rw [newV]; decide)
  have hfr : ∀ i ∈ [bL, bS, bW], w.heap.size ≤ i := fun i hi => by
    have := HB.out
    simp only [List.mem_cons, List.not_mem_nil, or_false] at hi
    rcases hi with rfl | rfl | rfl <;> omega
  have HFR := Lib.hid hfr
  have HD3 := Lib.hid hd3
  have HC3 := Lib.hid (HC1.out.then_ hc3 (fun i hi hw => by have := HFR.out i hi; omega))
  clear hF hd3 hc3 hfr HD1
  go_wp2_with fail
  refine (openedS_any (eqn_new 40) (sa_new 40) 24 6 hrt HD3.out).mono ?_
  rintro e w4 ⟨g, gN, v4, s4, x4, rfl, hg, hgN, hs4, hk4, hL4, hP4, hE4, hV4, hc4⟩
  have HV4 := Lib.hid (hV4.trans (newV 40))
  have HG := Lib.hid (show w3.heap.size ≤ g ∧ w3.heap.size ≤ gN from ⟨hg, hgN⟩)
  have HC4 := Lib.hid (HC3.out.then_ hc4 (fun i hi hw => by have := HFR.out i hi; omega))
  have HS4 := Lib.hid hs4
  have HK4 := Lib.hid hk4
  have HX4 := Lib.hid (And.intro hL4 (And.intro hP4 hE4))
  clear hg hgN hs4 hk4 hL4 hP4 hE4 hV4 hc4 HD3
  go_upto_region 8 with fail
  have hal := (Chg.refl [] w4).alloc (.cells #[.slice A n c, .int .i64 0] 32)
  have hTW : Whole (w4.alloc (.cells #[.slice A n c, .int .i64 0] 32)) w4.heap.size 32 [.slice A n c, .int .i64 0] := Whole.new w4 32 [.slice A n c, .int .i64 0]
  obtain ⟨pt, hpt⟩ : ∃ g, g = w4.heap.size := ⟨_, rfl⟩
  rw [← hpt] at hTW ⊢
  generalize w4.alloc (.cells #[.slice A n c, .int .i64 0] 32) = w6 at hal hTW ⊢
  have HS6 := Lib.hid (HS4.out.more (q := pt) hal (by omega) hTW.lt)
  have HC6 := Lib.hid (HC4.out.new hal)
  have HPT := Lib.hid (show (∀ i ∈ [p, bL, bS, bW, g, gN], i ≠ pt) ∧ w.heap.size ≤ pt from ⟨fun i hi => by
    have h1 := HS4.out.lts i (by simp only [SK.D]; exact hi)
    omega, by have := HC4.out.size; omega⟩)
  have HT6 := Lib.hid (show Tp w6 pt A n c xs 0 from ⟨by simpa using hTW, HXL.out, HSR.out.keep HC6.out, fun h0 ad e => ⟨(HSP.out h0 ad e).1, by have h1 := (HSP.out h0 ad e).2; have h2 := HPT.out.2; omega⟩, HXR.out, Nat.zero_le _, hnm⟩)
  clear hal hTW hpt HS4
  have HFW := Lib.hid (show ∀ i ∈ SK.W ⟨p, bL, bS, bW, g, gN, [pt]⟩, w.heap.size ≤ i ∧ i ≠ pt from fun i hi => by
    have h0 := HPT.out.1
    have h1 := HB.out
    have h2 := HG.out
    have h3 := HC3.out.size
    simp only [SK.W, List.mem_cons, List.not_mem_nil, or_false] at hi
    rcases hi with rfl | rfl | rfl | rfl | rfl
    · exact ⟨by omega, h0 _ (by simp)⟩
    · exact ⟨by omega, h0 _ (by simp)⟩
    · exact ⟨by omega, h0 _ (by simp)⟩
    · exact ⟨by omega, h0 _ (by simp)⟩
    · exact ⟨by omega, h0 _ (by simp)⟩)
  go_wp2_with fail
  refine (next_any HT6.out 6 (by omega) (by omega)).mono ?_
  rintro e w7 ⟨r7, a7, hr7, rfl, hT7, hc7⟩
  have HS7 := Lib.hid (HS6.out.past hc7 (by simp) HPT.out.1)
  have HC7 := Lib.hid (HC6.out.then_ hc7 (fun i hi hw => by simp only [List.mem_singleton] at hi; have := HPT.out.2; omega))
  have HT7 := Lib.hid hT7
  have hw7 : IntKind.i64.wrap (1 + (r7 : Int)) = ((1 + r7 : Nat) : Int) := by rw [IntKind.wrap_i64]; omega
  obtain ⟨N, hN⟩ : ∃ N, N = 1 + r7 := ⟨_, rfl⟩
  have HN := Lib.hid (show 1 ≤ N ∧ N ≤ 6 from by omega)
  rw [← hN] at hw7
  have HPB := Lib.hid (show (∀ i ∈ [p, bL, bS, bW, g, gN], i < w7.heap.size) ∧ pt < w7.heap.size from ⟨fun i hi => HS7.out.lts i (by simp only [SK.D, List.mem_cons] at hi ⊢; rcases hi with h | h | h | h | h | h | h <;> simp [h]), hT7.lt⟩)
  obtain ⟨B, hB⟩ : ∃ B, B = w7.heap.size := ⟨_, rfl⟩
  have HBB := Lib.hid hB
  clear hT7 hc7 hN hr7 HS6 HT6 HC6 hB
  go_wp2_with fail
  have hin := into_within sy 0 (N : Int) (by have := HN.out; omega)
  obtain ⟨K, hK, hKN⟩ : ∃ K : Nat, withinI sy 0 (N : Int) = (K : Int) ∧ K ≤ N := ⟨(withinI sy 0 (N : Int)).toNat, by have := hin.1; omega, by have := hin.1; have := hin.2.1; omega⟩
  have HKI := Lib.hid hK
  have HKN := Lib.hid hKN
  clear hK hin hKN
  have hN0 : N ≤ 6 := HN.out.2
  with_reducible refine (within_is sy 0 (N : Int) (by omega) (by omega) (by omega) hsy0 hsy1).mono ?_
  rintro e w' ⟨rfl, rfl⟩
  rw [HKI.out]
  clear hw7
  go_wp2_with fail
  have h64 : ∀ l ∈ x4.pages, l.length ≤ 1000 := fun l hl => by have := HS7.out.p64 l hl; omega
  refine (sall_any HS7.out).mono ?_
  rintro e w8 ⟨gA, uA, rfl, hfr, hgA, hc8⟩
  have HJ := Lib.hid (join_any (c := x4.P) (Src.of_all hfr.row) (fun ad e => by injection e with e; subst e; rfl) hfr.len hfr.lenP (by have := HX4.out; omega) (hfr.lists h64) h64)
  have HC8 := Lib.hid (HC7.out.new hc8)
  have HS8 := Lib.hid (HS7.out.keep hc8)
  have HT8 := Lib.hid (HT7.out.keep hc8)
  have HB8 := Lib.hid hc8.size
  clear hfr hgA hc8 h64 HS7 HT7
  go_wp2_with fail
  refine HJ.out.mono ?_
  rintro e w9 ⟨rfl, hc9⟩
  have HC9 := Lib.hid (HC8.out.new hc9)
  have HS9 := Lib.hid (HS8.out.keep hc9)
  have HT9 := Lib.hid (HT8.out.keep hc9)
  have HB9 := Lib.hid (Nat.le_trans HB8.out hc9.size)
  clear hc9 HS8 HT8 HC8 HB8 HJ
  go_wp2_with fail
  have hSg : Whole (w9.alloc (.cells #[.string (strOf x4.pages.flatten)] 9)) w9.heap.size 9 [.string (strOf x4.pages.flatten)] := Whole.new w9 9 [.string (strOf x4.pages.flatten)]
  have hal := (Chg.refl [] w9).alloc (.cells #[.string (strOf x4.pages.flatten)] 9)
  obtain ⟨gs, hgs⟩ : ∃ gs, gs = w9.heap.size := ⟨_, rfl⟩
  rw [← hgs] at hSg ⊢
  generalize w9.alloc (.cells #[.string (strOf x4.pages.flatten)] 9) = w10 at hal hSg ⊢
  have hSI : SKI w w10 B p bL bS bW g gN pt A n c xs (homeV s4 ⟨x4.L, x4.P, x4.E⟩) K 0 0 (.slice (some ⟨gs, 0, none⟩) 1 1) (.slice none 0 0) s4 x4 v4 a7 0 [] [] [gs, pt] := by
    have hb := HPB.out
    rw [← HBB.out] at hb
    have hb9 := HB9.out
    rw [← HBB.out] at hb9
    have hpb : w.heap.size ≤ B := by have := HPT.out.2; omega
    refine { sto := HS9.out.more hal (by omega) hSg.lt, ex := ⟨⟨by simp, HPT.out.1⟩, fun q hq => ?_, fun q hq => by simp [Value.ownBlock] at hq⟩, k := HK4.out, home := rfl, L := HX4.out.1, P := HX4.out.2.1, E := HX4.out.2.2, V := HV4.out, len := rfl, ub := fun h => absurd h (by omega), mt := ?_ }
    · simp [Value.ownBlock] at hq
      subst hq
      exact ⟨by simp, fun i hi => by have := hb.1 i hi; omega⟩
    · refine { tp := HT9.out.keep hal, rs_ := ?_, rw_ := own_nil _ _ _, rows := Rows.nil _ _, chg := HC9.out.new hal, low := hpb, siz := by have := hal.size; omega, pl := hb.2, al := fun h0 ad e => (HSP.out h0 ad e).2 }
      have hpg : stsL (homeV s4 ⟨x4.L, x4.P, x4.E⟩) [] = [x4.pages.flatten] := by rw [stsL_nil, ← HK4.out.k.z.k.pages.symm.trans rfl]; rfl
      rw [hpg]
      have := own_of_whole (B := B) (n := 1) (c := 1) hSg (by omega) rfl (by omega) (by unfold maxLen; omega)
      simpa [sts] using this
  have HSI := Lib.hid hSI
  have HTW := Lib.hid (show ∀ i ∈ SK.W ⟨p, bL, bS, bW, g, gN, []⟩, i < B ∧ i ≠ pt ∧ w.heap.size ≤ i from fun i hi => by
    have h1 := HFW.out i hi
    have h2 : i ∈ [p, bL, bS, bW, g, gN] := by simp only [SK.W, List.mem_cons, List.not_mem_nil, or_false] at hi ⊢; rcases hi with h | h | h | h | h <;> simp [h]
    have h3 := HPB.out.1 i h2
    rw [← HBB.out] at h3
    exact ⟨h3, h1.2, h1.1⟩)
  clear hSI hSg hal hgs HS9 HT9 HC9 HB9
  generalize homeV s4 ⟨x4.L, x4.P, x4.E⟩ = H at HSI
  go_loopw [13, 14, 15] (fun t13 t14 i wr => ∃ (j : Nat) (vs vw : Value), i = .int .i64 (j : Int) ∧ j ≤ N ∧ vs = t13 ∧ vw = t14 ∧ Hid (∃ s x v a u ms us ex, SKI w wr B p bL bS bW g gN pt A n c xs H K j j vs vw s x v a u ms us ex)) (fun _ _ i _ => N - (intOf i).toNat)
  case atStart => exact ⟨0, _, _, rfl, by omega, rfl, rfl, Lib.hid ⟨_, _, _, _, _, _, _, _, HSI.out⟩⟩
  case round =>
    obtain ⟨j, vs, vw, rfl, hj, rfl, rfl, HIr⟩ := hrel
    clear HSI
    by_cases hlt : j < N
    rotate_left
    · have hjI : ¬ (j : Int) < (N : Int) := by omega
      obtain rfl : N = j := by omega
      clear hlt
      go_upto_if 88 with fail
      go_cut [] (fun wx => Hid (∃ s x v a u ms us ex, SKI w wx B p bL bS bW g gN pt A n c xs H K N (N + 1) vs vw s x v a u ms us ex))
      case first =>
        obtain ⟨s, x, v, a, u, ms, us, ex, hI⟩ := HIr.out
        by_cases hjk : K = N
        · have HI := Lib.hid hI
          have hjkI : ((K : Int) == (N : Int)) = true := by simp [hjk]
          have HJK := Lib.hid hjk
          clear hI hjk
          go_wp2_with fail
          refine (sync_any HI.out.sto).mono ?_
          rintro e wx ⟨rfl, hsx, hcx⟩
          have HIX := Lib.hid (HI.out.sync hcx hsx (fun i hi => HTW.out i (by simp only [SK.W, List.mem_cons, List.not_mem_nil, or_false] at hi ⊢; rcases hi with h | h | h <;> simp [h])) HJK.out)
          clear hsx hcx HI
          go_wp2_with fail
          go_meet
          case rel => exact Lib.hid ⟨_, _, _, _, _, _, _, _, HIX.out⟩
        · have hjkI : ((K : Int) == (N : Int)) = false := by simp; omega
          have HIX := Lib.hid (show SKI w wr B p bL bS bW g gN pt A n c xs H K N (N + 1) vs vw s x v a u ms us ex from { hI with ub := fun hk => hI.ub (by omega) })
          clear hI hjk
          go_wp2_with fail
          go_meet
          case rel => exact Lib.hid ⟨_, _, _, _, _, _, _, _, HIX.out⟩
      case rest =>
        obtain ⟨s, x, v, a, u, ms, us, ex, hI⟩ := hcut.out
        have HI := Lib.hid hI
        clear HIr hcut hI
        have hcr := HI.out.mt.chg
        have hca : 0 < cs.length → ∀ ad, C = some ad → ad.spot = none ∧ ad.block ∉ [bL, bS, bW] := fun h0 ad e => by
          have h1 := HCSP.out (by rw [← HCL.out]; exact h0) ad e
          refine ⟨h1.1, fun hm => ?_⟩
          have := HFR.out _ hm
          omega
        have HCR := Lib.hid (crash_any HI.out.sto.dsk (c := d) HCL.out (HCS.out.keep hcr) (fun h0 ad e => (hca h0 ad e).1) (fun h0 ad e => (hca h0 ad e).2) hcm)
        clear hcr hca
        go_wp2_with fail
        refine HCR.out.mono ?_
        rintro e w2 ⟨rfl, hd2, hc2⟩
        obtain ⟨l, hl64, hle⟩ := HI.out.k.sa.crash cs
        have hcrs := Crs.crash HI.out.k.k.eq (wl s.V s.V.length) cs (fun k hk => (wl_mem s.V s.V.length k).1 hk |>.1) (fun i => cutAt_le cs i) (wl s.V s.V.length).length (Nat.le_refl _)
        rw [show (⟨s.L, s.S, s.V⟩ : St) = s from rfl, hle] at hd2
        rw [hle] at hcrs
        have HCB := Lib.hid (crash_best HI.out.k.k.z HI.out.k.k.wtl hcrs)
        have HCK := Lib.hid (crash_kept HI.out.k.k.z (k := K) (u := u) (by rw [HI.out.len]; exact HKN.out) (by rw [HI.out.E]; exact HI.out.ub (by have := HKN.out; omega)) HI.out.k.k.alk HI.out.k.k.wtl hcrs)
        have hHF : ∀ i ∈ [bL, bS, bW], i < B ∧ i ≠ pt ∧ w.heap.size ≤ i := fun i hi => HTW.out i (by simp only [SK.W, List.mem_cons, List.not_mem_nil, or_false] at hi ⊢; rcases hi with h | h | h <;> simp [h])
        have HM2 := Lib.hid (HI.out.mt.on hc2 hHF)
        have HHF := Lib.hid hHF
        have HV := Lib.hid HI.out.V
        have hl64' : l.length = 2560 := by rw [hl64, HI.out.V]
        have HL64 := Lib.hid hl64'
        rw [HI.out.V] at hd2
        have HD2 := Lib.hid hd2
        clear hd2 hc2 hl64 hle hcrs hHF hl64' HCR
        go_wp2_with fail
        refine (image_any HD2.out).mono ?_
        rintro e w3d ⟨rfl, hW3, hc3⟩
        have HD3 := Lib.hid (Dsk.keep HD2.out hc3)
        have HM3 := Lib.hid (HM2.out.keep hc3)
        have HB3 := Lib.hid (Bs.of_all hW3 (by have := HL64.out; show l.length ≤ _; omega))
        obtain ⟨A14, c14, rfl, hul, _, hsw, hAw⟩ := own_slice HM3.out.rw_
        have HTO := Lib.hid (torn_any (d := c14) (L := 24) (P := 6) (E := 2) HB3.out HL64.out hsw (fun ad e => (hAw ad e).1) hul HM3.out.rows.lists (by have := HN.out; omega) (by
          have := HCB.out
          rw [HI.out.L, HI.out.P, HI.out.E, show (⟨l, l, falses s.V.length⟩ : St).V.length = 40 from by show (falses s.V.length).length = 40; rw [falses_len]; exact HV.out] at this
          exact this) (by decide) (by omega))
        obtain ⟨gl, hgl⟩ : ∃ gl, gl = w2.heap.size := ⟨_, rfl⟩
        obtain ⟨nl, hnl⟩ : ∃ nl, nl = l.length := ⟨_, rfl⟩
        rw [← hgl, ← hnl] at HTO ⊢
        clear hW3 hc3 hul hsw hAw HD2 HM2 hgl hnl
        go_wp2_with fail
        refine HTO.out.mono ?_
        rintro e w4d ⟨b, rfl, hb, hc4⟩
        have HD4 := Lib.hid (Dsk.keep HD3.out hc4)
        have HM4 := Lib.hid (HM3.out.keep hc4)
        have HBB' := Lib.hid hb
        clear hc4 HD3 HM3 HTO HB3 hb
        cases b with
        | true =>
          go_wp2_with fail
          refine known18.mono ?_
          rintro e wk ⟨rfl, hck⟩
          have HCk := Lib.hid (HM4.out.keep hck).chg
          clear hck
          go_wp2_with fail
          go_ret
          exact ⟨rfl, HCk.out⟩
        | false =>
          obtain ⟨r, x', hKr, hrN, hkp, hxL, hxP, hxE, hxp⟩ := HCK.out (fun i b hb => by
            have := HBB'.out rfl i b
            rw [HI.out.L, HI.out.E] at hb
            exact this hb)
          rw [HV.out] at hkp
          have HOP := Lib.hid (open_any (s := ⟨l, l, falses 40⟩) HD4.out)
          have HKP := Lib.hid hkp
          have HXR' := Lib.hid (And.intro hxL (And.intro hxP (And.intro hxE hxp)))
          have HR := Lib.hid (And.intro hKr hrN)
          clear hkp hxL hxP hxE hxp hKr hrN HCK HCB
          go_wp2_with fail
          refine HOP.out.mono ?_
          rintro e w5 hO
          obtain ⟨g2, gN2, v5, y5, s5, rfl, hs5, hp5, hP5, hc5⟩ : ∃ g2 gN2 v5 y5 s5, e = .returned (.tuple #[.pointer (some ⟨g2, 0, none⟩), .int .i64 0]) ∧ Sto w5 ⟨p, bL, bS, bW, g2, gN2, []⟩ s5 y5 v5 ∧ y5.pages.flatten = stA H ms r ∧ y5.P = 6 ∧ Chg [bL, bS, bW] w4d w5 := by
            rw [OpenPost, HKP.out.best] at hO
            have hE2 : x'.E = 2 := HXR'.out.2.2.1.trans HI.out.E
            rcases hO with ⟨h0, _⟩ | ⟨h0, _⟩ | ⟨_, _, g2, gN2, v5, rfl, _, _, hs5, hc5⟩
            · exact absurd h0 (by show ¬ x'.E = 0; omega)
            · exact absurd h0 (by show ¬ x'.E = 4294967295; omega)
            · obtain ⟨o1, _, _, o4, _⟩ := HKP.out.open_
              refine ⟨g2, gN2, v5, _, _, rfl, hs5, ?_, ?_, hc5⟩
              · show (openV ⟨l, l, falses 40⟩ ⟨x'.L, x'.P, x'.E⟩).pages.flatten = _
                rw [o1, HXR'.out.2.2.2]
                have hh := HI.out.home
                rw [hh]; rfl
              · exact o4.trans (HXR'.out.2.1.trans HI.out.P)
          have HM5 := Lib.hid (HM4.out.on hc5 HHF.out)
          have HS5 := Lib.hid hs5
          have HP5 := Lib.hid (And.intro hp5 hP5)
          clear hO hs5 hp5 hP5 hc5 HOP HD4 HM4
          go_wp2_with fail
          have h64 : ∀ l ∈ y5.pages, l.length ≤ 1000 := fun l hl => by have := HS5.out.p64 l hl; omega
          refine (sall_any HS5.out).mono ?_
          rintro e w6d ⟨gB, uB, rfl, hfr, hgB, hc6⟩
          have HJ := Lib.hid (join_any (c := y5.P) (Src.of_all hfr.row) (fun ad e => by injection e with e; subst e; rfl) hfr.len hfr.lenP (by have := HP5.out; omega) (hfr.lists h64) h64)
          have HM6 := Lib.hid (HM5.out.keep hc6)
          clear hfr hgB hc6 h64 HS5 HM5
          go_wp2_with fail
          refine HJ.out.mono ?_
          rintro e w7d ⟨rfl, hc7⟩
          rw [HP5.out.1]
          have HM7 := Lib.hid (HM6.out.keep hc7)
          clear hc7 HM6 HJ
          go_wp2_with fail
          obtain ⟨A13, c13, rfl, hsl, _, hss, hAs⟩ := own_slice HM7.out.rs_
          have HSL := Lib.hid hsl
          have HSS := Lib.hid hss
          have HAS := Lib.hid hAs
          clear hsl hss hAs
          go_loopw [20] (fun i wr => ∃ k : Nat, i = .int .i64 (k : Int) ∧ k ≤ r ∧ Hid (Chg [] w7d wr)) (fun i _ => 10 - (intOf i).toNat)
          case atStart => exact ⟨K, rfl, HR.out.1, Lib.hid (Chg.refl _ _)⟩
          case round =>
            obtain ⟨k, rfl, hk, HCr⟩ := hrel
            have hrN := HR.out.2
            rw [HI.out.len] at hrN
            have hkI : (k : Int) ≤ (N : Int) := by omega
            have hk0 : (0 : Int) ≤ (k : Int) := by omega
            have hk1 : (k : Int) < ((N + 1 : Nat) : Int) := by omega
            obtain ⟨ad, rfl, _, hcell⟩ := (HSS.out.keep HCr.out) (by rw [sts_len, stsL_len]; omega)
            obtain ⟨b8, o8, s8⟩ := ad
            obtain rfl : s8 = none := (HAS.out _ rfl).1
            have hc8 := hcell k _ (sts_get (stsL_get H ms k (by rw [HI.out.len]; omega)))
            rw [add_plain] at hc8
            obtain ⟨y, hy⟩ : ∃ y, y = stA H ms k := ⟨_, rfl⟩
            obtain ⟨z, hz⟩ : ∃ z, z = stA H ms r := ⟨_, rfl⟩
            have HYZ := Lib.hid (And.intro hy hz)
            rw [← hy] at hc8
            rw [← hz]
            clear hcell hy hz hrN
            by_cases hyz : y = z
            · subst hyz
              go_wp2_with fail
              refine known18.mono ?_
              rintro e wk ⟨rfl, hck⟩
              have HCk := Lib.hid ((HM7.out.keep HCr.out).keep hck).chg
              clear hck
              go_wp2_with fail
              go_ret
              exact ⟨rfl, HCk.out⟩
            · have hne2 : ¬ (strOf y).toList = (strOf z).toList := fun h => hyz (strOf_tl h)
              have hne3 : ((strOf y).toList == (strOf z).toList) = false := beq_eq_false_iff_ne.2 hne2
              have hkr : k < r := by
                rcases Nat.lt_or_ge k r with h | h
                · exact h
                · obtain rfl : k = r := by omega
                  exact absurd (HYZ.out.1.trans HYZ.out.2.symm) hyz
              go_wp2_with fail
              go_roundw
              case rel => exact ⟨k + 1, by go_num, by omega, HCr⟩
              case measure => simp [intOf]; omega
    have hjI : (j : Int) < (N : Int) := by omega
    go_upto_if 60 with fail
    go_cut [13, 14] (fun s13 s14 wx => s13 = vs ∧ s14 = vw ∧ Hid (∃ s x v a u ms us ex, SKI w wx B p bL bS bW g gN pt A n c xs H K j (j + 1) vs vw s x v a u ms us ex))
    case first =>
      obtain ⟨s, x, v, a, u, ms, us, ex, hI⟩ := HIr.out
      by_cases hjk : j = K
      · have HI := Lib.hid hI
        have hjkI : ((j : Int) == (K : Int)) = true := by simp [hjk]
        have HJK := Lib.hid hjk
        clear hI hjk
        go_wp2_with fail
        refine (sync_any HI.out.sto).mono ?_
        rintro e wx ⟨rfl, hsx, hcx⟩
        have HIX := Lib.hid (HI.out.sync hcx hsx (fun i hi => HTW.out i (by simp only [SK.W, List.mem_cons, List.not_mem_nil, or_false] at hi ⊢; rcases hi with h | h | h <;> simp [h])) HJK.out.symm)
        clear hsx hcx HI
        go_wp2_with fail
        go_meet
        case rel => exact ⟨rfl, rfl, Lib.hid ⟨_, _, _, _, _, _, _, _, HIX.out⟩⟩
      · have hjkI : ((j : Int) == (K : Int)) = false := by simp; omega
        have HIX := Lib.hid (show SKI w wr B p bL bS bW g gN pt A n c xs H K j (j + 1) vs vw s x v a u ms us ex from { hI with ub := fun hk => hI.ub (by omega) })
        clear hI hjk
        go_wp2_with fail
        go_meet
        case rel => exact ⟨rfl, rfl, Lib.hid ⟨_, _, _, _, _, _, _, _, HIX.out⟩⟩
    case rest =>
      obtain ⟨e13, e14, HJr⟩ := hcut
      subst e13 e14
      obtain ⟨s, x, v, a, u, ms, us, ex, hI⟩ := HJr.out
      have HI := Lib.hid hI
      clear HIr HJr hI
      go_wp2_with fail
      refine (changes_any HI.out.mt.tp 6 (by omega)).mono ?_
      rintro e wd ⟨vc, rfl, hso⟩
      obtain ⟨Ac, cc, ls, a2, rfl, hch, hin, hT2, hc2, hl2⟩ := chso_in hso (by omega) HI.out.sto.lts
      have HS2 := Lib.hid (HI.out.sto.past hc2 HI.out.ex.tp.1 HI.out.ex.tp.2)
      have HM2 := Lib.hid (HI.out.mt.tape hc2 hT2 HPT.out.2)
      have HIN := Lib.hid (show InL x.P ls by rw [HI.out.P]; exact hin)
      have HCH2 := Lib.hid hch
      obtain ⟨q, hq⟩ : ∃ q, q = ls.length := ⟨_, rfl⟩
      have HQ := Lib.hid (And.intro hq hl2)
      rw [← hq]
      have HCO := Lib.hid (commit_any (d := cc) HS2.out HCH2.out HQ.out.1.symm (by have := HQ.out; omega))
      clear hso hch hin hT2 hc2 hl2 hq
      go_wp2_with fail
      refine HCO.out.mono ?_
      rintro e w3 (⟨h0, _⟩ | ⟨_, hno, rfl, hc3⟩ | ⟨_, hyes, rfl, ⟨v3, hs3⟩, hc3⟩)
      · rw [HIN.out.2.1] at h0; cases h0
      · have HS3 := Lib.hid (HS2.out.keep hc3)
        have HM3 := Lib.hid (HM2.out.keep hc3)
        have hu0 : (0 : Int) < (x.used : Int) := by
          have hL := HI.out.L
          have h4 := HIN.out.2.1
          rw [HI.out.P] at h4
          have h2 : rightS (-1) ((6 : Nat) : Int) ls = true := by unfold rightB at h4; rw [Bool.and_eq_true] at h4; exact h4.2
          obtain ⟨h3, _⟩ := rs_len h2 (by omega)
          rcases Nat.eq_zero_or_pos x.used with h | h
          · rw [hL, h] at hno
            unfold fitsB leftI sizeI needI at hno
            rw [if_neg (by omega), if_neg (by omega), Bool.and_eq_false_iff, decide_eq_false_iff_not, decide_eq_false_iff_not] at hno
            omega
          · omega
        have HU0 := Lib.hid hu0
        clear hno hc3 HCO hu0
        go_wp2_with fail
        refine (used_any HS3.out).mono ?_
        rintro e w4 ⟨rfl, hc4⟩
        have HM4 := Lib.hid (HM3.out.keep hc4)
        have hu0 := HU0.out
        clear hc4
        go_wp2_with fail
        refine known18.mono ?_
        rintro e wk ⟨rfl, hck⟩
        have HCk := Lib.hid (HM4.out.keep hck).chg
        clear hck hu0
        go_wp2_with fail
        go_ret
        exact ⟨rfl, HCk.out⟩
      have HS3 := Lib.hid hs3
      have HM3 := Lib.hid (HM2.out.on hc3 (fun i hi => HTW.out i hi))
      have HCH3 := Lib.hid (HCH2.out.chg hc3 (by simp [SK.W, SK.D]))
      have HK3 := Lib.hid (HI.out.k.com HIN.out (fits_le hyes HIN.out.2.2))
      have HH3 := Lib.hid ((homeV_com HI.out.k.k.z HIN.out (fits_le hyes HIN.out.2.2)).trans HI.out.home)
      clear hyes hs3 hc3 HCO HS2 HM2 HCH2
      go_wp2_with fail
      have hla := HIN.out.2.2
      refine (rdelta_any HCH3.out.chs (fun a ha => (HIN.out.1 a ha).1) HQ.out.1.symm (by have := HQ.out; omega)).mono ?_
      rintro e w4 ⟨v4d, rfl, ho4, hc4⟩
      obtain ⟨A4, c4, rfl, hB4, _⟩ := Bs.of_own ho4
      have HO4 := Lib.hid (own_more ho4 HM3.out.siz)
      have HS4' := Lib.hid (HS3.out.keep hc4)
      have HM4 := Lib.hid (HM3.out.keep hc4)
      obtain ⟨nd, hnd⟩ : ∃ nd, nd = (bytesD ls).length := ⟨_, rfl⟩
      have HND := Lib.hid hnd
      rw [← hnd] at HO4 ⊢
      clear hla ho4 hc4 hB4 hnd HS3 HM3 HCH3
      obtain ⟨i0, hi, hz0, hz1, hz2⟩ := info_parts info_bytes
      obtain ⟨i1, hi1, hy0, hy1, hy2⟩ := info_parts info_str
      have hal4 := (Chg.refl [] w4).alloc (.cells #[.slice A4 nd c4] 44)
      have hW4 : Whole (w4.alloc (.cells #[.slice A4 nd c4] 44)) w4.heap.size 44 [.slice A4 nd c4] := Whole.new w4 44 [.slice A4 nd c4]
      have HS5 := Lib.hid (HS4'.out.keep hal4)
      have HM5 := Lib.hid (HM4.out.keep hal4)
      have HO5 := Lib.hid (own_keep HO4.out hal4)
      have HW5 := Lib.hid (Src.of_all hW4)
      have hjN : j + 1 ≤ 7 := by omega
      clear hal4 hW4 HS4' HM4 HO4
      obtain ⟨A14, c14, rfl, _⟩ := own_slice HM5.out.rw_
      go_wp2_with (at_builtin
                   go_loud (refine wpList_append_src rfl (.tmp 75) (.tmp 78) 36 rfl B 44 i0 _ 24 Try.underlying36 hi hz0 hz1 hz2 rfl (.slice A14 j c14) j us rfl HM5.out.rw_ (some ⟨w4.heap.size, 0, none⟩) 1 1 [.slice A4 nd c4] rfl rfl HW5.out (by simp [Value.oneCell']) (by simp only [maxLen]; omega) (by omega) HM5.out.siz ?_)
                   intro v6 w6d ho6 hg6 hb6
                   have HM6 := Lib.hid (HM5.out.more (by rw [← HND.out]; exact HO5.out) ho6 hg6)
                   obtain ⟨ex6, hx6, hx6w, hs6⟩ := HS5.out.grow HI.out.ex.w hg6 ho6 hb6 HS5.out.lt6
                   have HS6 := Lib.hid hs6
                   have HX6 := Lib.hid (And.intro hx6 hx6w)
                   clear ho6 hg6 hb6 hx6 hx6w hs6)
      have HP6 := Lib.hid (show ∀ l ∈ (comV x ls).pages, l.length ≤ 1000 from fun l hl => by have := HS6.out.p64 l hl; omega)
      have HPP := Lib.hid (show (comV x ls).P = 6 from HI.out.P)
      have HST := Lib.hid (show stsL H (ms ++ [ls]) = stsL H ms ++ [(comV x ls).pages.flatten] by
        rw [stsL_snoc]
        have h1 := HK3.out.k.z.k.pages
        have h2 : homeV (comS s x ls) ⟨(comV x ls).L, (comV x ls).P, (comV x ls).E⟩ = H := HH3.out
        rw [h2] at h1
        rw [← h1])
      refine (sall_any HS6.out).mono ?_
      rintro e w7d ⟨gB, uB, rfl, hfr, _, hc7⟩
      have HJ := Lib.hid (join_any (c := (comV x ls).P) (Src.of_all hfr.row) (fun ad e => by injection e with e; subst e; rfl) hfr.len hfr.lenP (by have := HPP.out; omega) (hfr.lists HP6.out) HP6.out)
      have HS7 := Lib.hid (HS6.out.keep hc7)
      have HM7 := Lib.hid (HM6.out.keep hc7)
      clear hfr hc7 HS6 HM6
      go_wp2_with fail
      refine HJ.out.mono ?_
      rintro e w8d ⟨rfl, hc8⟩
      obtain ⟨tx, htx⟩ : ∃ tx, tx = (comV x ls).pages.flatten := ⟨_, rfl⟩
      have HTX := Lib.hid htx
      rw [← htx]
      have HS8 := Lib.hid (HS7.out.keep hc8)
      have HM8 := Lib.hid (HM7.out.keep hc8)
      clear hc8 HS7 HM7 HJ htx
      have hal4 := (Chg.refl [] w8d).alloc (.cells #[.string (strOf tx)] 9)
      have hW4 : Whole (w8d.alloc (.cells #[.string (strOf tx)] 9)) w8d.heap.size 9 [.string (strOf tx)] := Whole.new w8d 9 [.string (strOf tx)]
      have HS9 := Lib.hid (HS8.out.keep hal4)
      have HM9 := Lib.hid (HM8.out.keep hal4)
      have HW9 := Lib.hid (Src.of_all hW4)
      clear hal4 hW4 HS8 HM8
      obtain ⟨A13, c13, rfl, _⟩ := own_slice HM9.out.rs_
      go_wp2_with (at_builtin
                   go_loud (refine wpList_append_src rfl (.tmp 80) (.tmp 84) 38 rfl B 9 i1 _ 16 Try.underlying38 hi1 hy0 hy1 hy2 rfl (.slice A13 (j + 1) c13) (j + 1) (sts (stsL H ms)) rfl HM9.out.rs_ (some ⟨w8d.heap.size, 0, none⟩) 1 1 [.string (strOf tx)] rfl rfl HW9.out (by simp [Value.oneCell']) (by simp only [maxLen]; omega) (by omega) HM9.out.siz ?_)
                   intro vA wA hoA hgA hbA
                   have HMA := Lib.hid (HM9.out.text hoA hgA)
                   obtain ⟨exA, hxA, hxAs, hsA⟩ := HS9.out.grow (fun q hq => ⟨HX6.out.1 _ (HI.out.ex.s q hq).1, (HI.out.ex.s q hq).2⟩) hgA hoA hbA HS9.out.lt6
                   have HSA := Lib.hid hsA
                   have HXA := Lib.hid (And.intro hxA hxAs)
                   clear hoA hgA hbA hxA hxAs hsA)
      have hSK : SKI w wA B p bL bS bW g gN pt A n c xs H K (j + 1) (j + 1) vA v6 (comS s x ls) (comV x ls) v3 a2 u (ms ++ [ls]) (us ++ [.slice A4 nd c4]) exA := by
        have hl := HI.out.len
        refine { sto := HSA.out, ex := ⟨⟨HXA.out.1 _ (HX6.out.1 _ HI.out.ex.tp.1), HI.out.ex.tp.2⟩, HXA.out.2, fun q hq => ⟨HXA.out.1 _ (HX6.out.2 q hq).1, (HX6.out.2 q hq).2⟩⟩, k := HK3.out, home := HH3.out, L := HI.out.L, P := HI.out.P, E := HI.out.E, V := (apS_V _ _ _).trans HI.out.V, len := by rw [List.length_append, hl]; rfl, ub := fun hk => ?_, mt := ?_ }
        · rw [List.take_append_of_le_length (by omega)]
          exact HI.out.ub hk
        · have := HMA.out
          rw [HTX.out, ← HST.out, show ms.map bytesD ++ [bytesD ls] = (ms ++ [ls]).map bytesD by simp] at this
          exact this
      have HSK := Lib.hid hSK
      clear hSK
      go_roundw
      case rel => exact ⟨j + 1, _, _, by go_num, by omega, rfl, rfl, Lib.hid ⟨_, _, _, _, _, _, _, _, HSK.out⟩⟩
      case measure => simp [intOf]; omega
end
end Go.Proofs.Ytddjgncdjdjgeaa
