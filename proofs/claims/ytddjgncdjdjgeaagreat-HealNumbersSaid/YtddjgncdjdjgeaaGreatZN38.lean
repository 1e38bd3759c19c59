/-
  N: Dgm, Made1, LawHealA, RefDeeds.
-/
import Derived.Test.YtddjgncdjdjgeaaGreatZN6
import Derived.Test.YtddjgncdjdjgeaaGreatZN10
import Derived.Test.YtddjgncdjdjgeaaGreatZN29
import Derived.Test.YtddjgncdjdjgeaaGreatZN32
import Derived.Test.YtddjgncdjdjgeaaGreatZN33
import Derived.Test.YtddjgncdjdjgeaaGreatZN34
import Derived.Test.YtddjgncdjdjgeaaGreatZN37
namespace Go.Proofs.YtddjgncdjdjgeaaGreat
open Go.RowKit
def mW (m : Int) : Nat → Int
  | 0 => m
  | k + 1 => mW (wrap64 (m + 1)) k
theorem Dg.run_cut : ∀ (ds : List Deed) (s : St) (k : Nat) (m : Int), k ≤ 1000 → Dg.run ⟨s, (k : Int), m⟩ ds = ⟨doD s (ds.take k), ((k - ds.length : Nat) : Int), mW m (min k ds.length)⟩
  | [], s, k, m, _ => by simp [Dg.run, doD, mW]
  | d :: ds, s, 0, m, _ => by
    have e : Dg.step ⟨s, ((0 : Nat) : Int), m⟩ d = ⟨s, ((0 : Nat) : Int), m⟩ := by unfold Dg.step; exact if_pos rfl
    show Dg.run (Dg.step ⟨s, ((0 : Nat) : Int), m⟩ d) ds = _
    rw [e, Dg.run_cut ds s 0 m (by omega)]
    simp [doD, mW]
  | d :: ds, s, k + 1, m, hk => by
    have e : Dg.step ⟨s, ((k + 1 : Nat) : Int), m⟩ d = ⟨dOne s d, (k : Int), wrap64 (m + 1)⟩ := by
      unfold Dg.step lfD
      show (if ((k + 1 : Nat) : Int) = 0 then _ else _) = _
      rw [if_neg (by omega)]
      show Dg.mk _ (if 0 < ((k + 1 : Nat) : Int) then wrap64 (((k + 1 : Nat) : Int) - 1) else _) _ = _
      rw [if_pos (by omega), show wrap64 (((k + 1 : Nat) : Int) - 1) = (k : Int) from by unfold wrap64; omega]
    show Dg.run (Dg.step ⟨s, ((k + 1 : Nat) : Int), m⟩ d) ds = _
    rw [e, Dg.run_cut ds (dOne s d) k _ (by omega)]
    simp only [List.take_succ_cons, List.length_cons, Nat.add_sub_add_right, Nat.add_min_add_right]
    rfl
theorem Dg.run_all : ∀ (ds : List Deed) (s : St) (m : Int), Dg.run ⟨s, -1, m⟩ ds = ⟨doD s ds, -1, mW m ds.length⟩
  | [], s, m => rfl
  | d :: ds, s, m => by
    have e : Dg.step ⟨s, -1, m⟩ d = ⟨dOne s d, -1, wrap64 (m + 1)⟩ := by
      unfold Dg.step lfD
      show (if (-1 : Int) = 0 then _ else Dg.mk _ (if 0 < (-1 : Int) then _ else -1) _) = _
      rw [if_neg (by decide), if_neg (by decide)]
    show Dg.run (Dg.step ⟨s, -1, m⟩ d) ds = _
    rw [e, Dg.run_all ds (dOne s d) _]
    rfl
theorem mW_mod : ∀ (k : Nat) (m : Int), ∃ z : Int, mW m k = m + k + z * 18446744073709551616
  | 0, m => ⟨0, by simp [mW]⟩
  | k + 1, m => by
    obtain ⟨z, hz⟩ := mW_mod k (wrap64 (m + 1))
    have h1 : wrap64 (m + 1) = (m + 1) - ((m + 1 + 9223372036854775808) / 18446744073709551616) * 18446744073709551616 := by unfold wrap64; omega
    refine ⟨z - (m + 1 + 9223372036854775808) / 18446744073709551616, ?_⟩
    show mW (wrap64 (m + 1)) k = _
    rw [hz, h1]
    omega
theorem mW_sub (k : Nat) (m : Int) (hk : k ≤ 1000) : wrap64 (mW m k - m) = (k : Int) := by
  obtain ⟨z, hz⟩ := mW_mod k m
  rw [hz]; unfold wrap64; omega
theorem mW_nat : ∀ (k : Nat) (m : Nat), m + k ≤ 2000 → mW (m : Int) k = ((m + k : Nat) : Int)
  | 0, m, _ => rfl
  | k + 1, m, h => by
    show mW (wrap64 ((m : Int) + 1)) k = _
    rw [show wrap64 ((m : Int) + 1) = ((m + 1 : Nat) : Int) from by unfold wrap64; omega, mW_nat k (m + 1) (by omega)]
    omega
theorem homeDs_len (x : SV) : ∀ k, (homeDs x k).length ≤ k
  | 0 => Nat.le_refl _
  | k + 1 => by
    have ih := homeDs_len x k
    rw [homeDs, List.length_append]
    split
    · simp only [List.length_cons, List.length_nil]; omega
    · simp only [List.length_nil]; omega
theorem opDs_len (s : St) : (opDs s).length ≤ 68 := by
  unfold opDs
  split
  · rename_i h
    have hr := (bestK_right s.V.length s.S 2).resolve_left (by omega)
    have hr2 := rightR_true.1 hr
    have hp : (openV s (bestK s.V.length s.S 2)).P = (bestK s.V.length s.S 2).pages := (turn_same _ _).2.1
    have h3 := homeDs_len (openV s (bestK s.V.length s.S 2)) (openV s (bestK s.V.length s.S 2)).P
    unfold ckDs
    simp only [List.length_cons, List.length_append, List.length_nil]
    omega
  · simp
end Go.Proofs.YtddjgncdjdjgeaaGreat
namespace Go.Proofs.YtddjgncdjdjgeaaGreat
open Go.RowKit
theorem Crs.either {s : St} (h : Eqn s) (ws : List Nat) (cuts : List Int) (hw : ∀ k ∈ ws, k < s.V.length) (hcut : ∀ i, cutAt cuts i ≤ 64) : ∀ i, i ≤ ws.length → ∀ j : Nat, ((s.crash ws cuts i).S[j]? = s.S[j]? ∨ (s.crash ws cuts i).S[j]? = s.L[j]?) ∧ ((s.crash ws cuts i).L[j]? = s.S[j]? ∨ (s.crash ws cuts i).L[j]? = s.L[j]?)
  | 0, _, j => ⟨.inl rfl, .inr rfl⟩
  | i + 1, hi, j => by
    obtain ⟨h1, h2⟩ := Crs.either h ws cuts hw hcut i (by omega) j
    have ih := Crs.crash h ws cuts hw hcut i (by omega)
    have hk : ws.getD i 0 ∈ ws := by rw [List.getD_eq_getElem?_getD, List.getElem?_eq_getElem (by omega)]; exact List.getElem_mem _
    have hkv : ws.getD i 0 < (s.crash ws cuts i).V.length := by rw [ih.v]; exact hw _ hk
    show (((s.crash ws cuts i).settle (ws.getD i 0) (cutAt cuts i)).S[j]? = _ ∨ ((s.crash ws cuts i).settle (ws.getD i 0) (cutAt cuts i)).S[j]? = _) ∧ (((s.crash ws cuts i).settle (ws.getD i 0) (cutAt cuts i)).L[j]? = _ ∨ ((s.crash ws cuts i).settle (ws.getD i 0) (cutAt cuts i)).L[j]? = _)
    rw [settle_S ih.eq hkv (hcut i), settle_L ih.eq hkv (hcut i)]
    constructor
    · split
      · exact h2
      · exact h1
    · split
      · exact h1
      · exact h2
/-- .. with the roots that lie there, and how the log begins. -/
structure KeptM (s : St) (x : SV) (ms : List (List ChV)) (u : Nat) : Prop where
  k : KeptS s x ms u
  z4 : (∀ j : Nat, j < 4 → s.L[128 + j]? = some 0) ∨ 4 ≤ u
  r1 : secV s 1 = rootL x.L x.P 1
  r0 : secV s 0 = rootL x.L x.P 2
  e : x.E = 2
theorem flA_L {s : St} (h : Sa s) : (flA s).L = s.S := by rw [flA_is h]
theorem KeptM.flA {s : St} {x : SV} {ms : List (List ChV)} {u : Nat} (h : KeptM s x ms u) : KeptM (flA s) x ms x.used := by
  refine ⟨h.k.flA, ?_, (secV_flA _ _).trans h.r1, (secV_flA _ _).trans h.r0, h.e⟩
  have hz := h.k.k.z.z
  have h1 := rightR_true.1 h.k.k.z.k.rt
  cases ms with
  | nil =>
    refine .inl fun j hj => ?_
    rw [flA_L h.k.sa]
    have hl := hz.log
    have h3 : (frsL x.E 0 []).length = 0 := rfl
    have hl2 : (logB s x.L)[j]? = some 0 := by
      rw [hl]
      show ([] ++ zeros (x.L * 64 - x.used))[j]? = _
      have h4 := hz.len
      rw [h3] at h4
      rw [List.nil_append, zeros, List.getElem?_replicate, if_pos (by omega)]
    unfold logB at hl2
    rw [List.getElem?_take, if_pos (by omega), List.getElem?_drop] at hl2
    exact hl2
  | cons m ms =>
    have h3 := frsL_ge x.E (m :: ms) 0
    have h4 := hz.len
    rw [List.length_cons] at h3
    exact .inr (by omega)
theorem KeptM.com {s : St} {x : SV} {ms : List (List ChV)} {u : Nat} {m : List ChV} (h : KeptM s x ms u) (hm : InL x.P m) (hf : x.used + (18 + 66 * m.length) ≤ x.L * 64) : KeptM (comS s x m) (comV x m) (ms ++ [m]) u := by
  have h1 := rightR_true.1 h.k.k.z.k.rt
  have hl : (comL x m).length = 18 + 66 * m.length := by unfold comL; rw [frameL_len, back_len hm.1]; omega
  have h2 := h.k.k.eq.lenS
  exact ⟨h.k.com hm hf, h.z4, (secV_apS (by omega) 1 (by omega)).trans h.r1, (secV_apS (by omega) 0 (by omega)).trans h.r0, h.e⟩
theorem flA_LS {s : St} (h : Sa s) : (flA s).L = (flA s).S := by rw [flA_is h]
theorem ckS_LS {s : St} (h : Sa s) {x : SV} (hr : rightR x.L x.P x.E s.V.length = true) (hp : x.pages.length = x.P) (h64 : ∀ l ∈ x.pages, l.length = 64) : (ckS s x).L = (ckS s x).S := by
  have h1 := rightR_true.1 hr
  exact flA_LS (((h.flA.homeN (by rw [flA_len]; exact hr) hp h64 x.P (Nat.le_refl _)).flA).write (by rw [flA_len, homeN_len, flA_len]; omega) (rootL_len _ _ _))
theorem logB_get {s : St} {L j : Nat} (hj : j < L * 64) : (logB s L)[j]? = s.S[128 + j]? := by
  unfold logB
  rw [List.getElem?_take, if_pos hj, List.getElem?_drop]
theorem keptM_new {s : St} (h : Eqn s) (hs : Sa s) (L P : Nat) (hr : rightR L P 1 s.V.length = true) : KeptM (ckS (fmt s L P) (openV (fmt s L P) ⟨L, P, 1⟩)) (ckV (openV (fmt s L P) ⟨L, P, 1⟩)) [] 0 := by
  have h1 := rightR_true.1 hr
  have hS := keptS_new h hs L P hr
  obtain ⟨hk, _⟩ := kept_fmt h.lenS L P hr
  obtain ⟨o1, o2, o3, o4, o5⟩ := hk.open_
  obtain ⟨l1, l2, l3⟩ := hk.lens
  have hgf := hk.gd
  have hsa := hs.fmt L P (by omega)
  have o3' : (openV (fmt s L P) ⟨L, P, 1⟩).L = L := o3
  have o4' : (openV (fmt s L P) ⟨L, P, 1⟩).P = P := o4
  have o5' : (openV (fmt s L P) ⟨L, P, 1⟩).E = 1 := o5
  have o1' : (openV (fmt s L P) ⟨L, P, 1⟩).pages = (homeV (fmt s L P) ⟨L, P, 1⟩).pages := o1
  clear o1 o2 o3 o4 o5
  generalize openV (fmt s L P) ⟨L, P, 1⟩ = x at *
  have hr' : rightR x.L x.P x.E (fmt s L P).V.length = true := by rw [o3', o4', o5', fmt_len]; exact hr
  have hp' : x.pages.length = x.P := by rw [o4']; exact (congrArg List.length o1').trans l1
  have h64 : ∀ l ∈ x.pages, l.length = 64 := fun l hl => l3 l (by rw [← o1']; exact hl)
  have hsec := secV_ckS hgf hr' hp' h64
  have hf := secV_fmt h.lenS L P (by omega)
  have hLS := ckS_LS hsa hr' hp' h64
  refine ⟨hS, .inl fun j hj => ?_, ?_, ?_, by show x.E + 1 = 2; rw [o5']⟩
  · have hl := hS.k.z.z.log
    have e : (ckV x).L = L := o3'
    rw [e] at hl
    rw [hLS, ← logB_get (L := L) (by omega), hl]
    show ([] ++ zeros (L * 64 - 0))[j]? = _
    rw [List.nil_append, zeros, List.getElem?_replicate, if_pos (by omega)]
  · rw [hsec 1, o5', if_neg (by decide), if_neg (by omega), hf 1 (by omega), if_pos rfl]
    show _ = rootL x.L x.P 1
    rw [o3', o4']
  · rw [hsec 0, o5', if_pos (by decide)]; rfl
/-- A disk behind a crash. -/
def MadeI (n : Nat) (l : List UInt8) : Prop := ∃ (s : St) (x : SV) (ms : List (List ChV)) (u : Nat), KeptM s x ms u ∧ s.V.length = n ∧ l.length = 64 * n ∧ Crs s ⟨l, l, falses n⟩ (wl s.V s.V.length) ∧ ∀ j : Nat, l[j]? = s.S[j]? ∨ l[j]? = s.L[j]?
theorem KeptM.made {s : St} {x : SV} {ms : List (List ChV)} {u : Nat} (h : KeptM s x ms u) (cuts : List Int) : ∃ l, s.crash (wl s.V s.V.length) cuts (wl s.V s.V.length).length = ⟨l, l, falses s.V.length⟩ ∧ MadeI s.V.length l := by
  obtain ⟨l, hl, he⟩ := h.k.sa.crash cuts
  have hw : ∀ k ∈ wl s.V s.V.length, k < s.V.length := fun k hk => ((wl_mem s.V s.V.length k).1 hk).1
  have h1 := Crs.crash h.k.k.eq (wl s.V s.V.length) cuts hw (fun i => cutAt_le cuts i) (wl s.V s.V.length).length (Nat.le_refl _)
  have h2 := Crs.either h.k.k.eq (wl s.V s.V.length) cuts hw (fun i => cutAt_le cuts i) (wl s.V s.V.length).length (Nat.le_refl _)
  rw [he] at h1 h2
  exact ⟨l, he, s, x, ms, u, h, rfl, hl, h1, fun j => (h2 j).1⟩
end Go.Proofs.YtddjgncdjdjgeaaGreat
namespace Go.Proofs.YtddjgncdjdjgeaaGreat
open Go.RowKit
theorem opDs_eq {s s' : St} (hS : s'.S = s.S) (hV : s'.V.length = s.V.length) : opDs s' = opDs s := by
  unfold opDs
  rw [bestK_eq hS hV, openV_eq hS hV]
theorem opDs_new (n : Nat) (h : 2 ≤ n) : opDs (St.new n) = [] := by
  unfold opDs
  rw [best_new n h, if_neg (by show ¬ (0 < 0 ∧ _); omega)]
theorem homeDs_none {x : SV} (h : ∀ i, x.named.getD i false = false) : ∀ k, homeDs x k = []
  | 0 => rfl
  | k + 1 => by rw [homeDs, homeDs_none h k, h k, if_neg (by decide)]; rfl
theorem opDs_fmt {s : St} (h : Gd s) (L P : Nat) (hr : rightR L P 1 s.V.length = true) : ∃ r, opDs (fmt s L P) = [none, none, r, none] := by
  have hk := (kept_fmt h L P hr).1
  unfold opDs
  rw [best_fmt h L P hr, if_pos (by show (0 < 1 ∧ 1 < 4294967295); omega)]
  have h1 : openV (fmt s L P) ⟨L, P, 1⟩ = homeV (fmt s L P) ⟨L, P, 1⟩ := hk.recs _
  rw [h1]
  unfold ckDs
  rw [homeDs_none (fun i => by
    show (List.replicate P false).getD i false = false
    rw [List.getD_eq_getElem?_getD, List.getElem?_replicate]
    split <;> rfl)]
  exact ⟨_, rfl⟩
section
variable {w : World}
set_option maxHeartbeats 8000000 in
set_option maxRecDepth 100000 in
theorem known19 : Calls Tryz.prog 11 #[] w (fun e w' => e = .returned (.bool true) ∧ Chg [] w w') := by
  obtain ⟨r4, hr4⟩ := opDs_fmt (gd_new 12) 3 2 (by rw [newV]; decide)
  have HR4 := Lib.hid hr4
  have HN0 := Lib.hid (opDs_new 12 (by omega))
  clear hr4
  go_enter Tryz.func11, Tryz.ntmps11
  go_wp2_with fail
  refine (new_int 12 (by omega) (by omega)).mono ?_
  rintro e w1 ⟨p, bL, bS, bW, rfl, hd1, hp, hbL, hbS, hbW, hc1⟩
  have HD1 := Lib.hid (show DskS w1 p bL bS bW (St.new 12) from hd1)
  have HC1 := Lib.hid hc1
  have HFR := Lib.hid (show ∀ i ∈ [bL, bS, bW], w.heap.size ≤ i from fun i hi => by
    simp only [List.mem_cons, List.not_mem_nil, or_false] at hi
    rcases hi with rfl | rfl | rfl <;> omega)
  clear hd1 hc1 hp hbL hbS hbW
  go_wp2_with fail
  refine (hdeeds_any HD1.out).mono ?_
  rintro e w2 ⟨rfl, hc2⟩
  rw [HN0.out, show (([] : List Deed).length : Int) = 0 from rfl]
  have HD2 := Lib.hid (Dsk.keep HD1.out hc2)
  have HC2 := Lib.hid (HC1.out.new hc2)
  clear hc2
  go_wp2_with fail
  refine (part_any HD2.out 5).mono ?_
  rintro e w3 ⟨rfl, hd3, hc3⟩
  rw [HN0.out, show (clampN 5 ([] : List Deed).length : Nat) = 0 from rfl, show ((0 : Nat) : Int) = 0 from rfl]
  rw [HN0.out] at hd3
  have HD3 := Lib.hid (show DskS w3 p bL bS bW (St.new 12) from hd3)
  have HC3 := Lib.hid (HC2.out.then_ hc3 (fun i hi hw => by have := HFR.out i hi; omega))
  clear hd3 hc3
  go_wp2_with fail
  refine hdeeds_nil.mono ?_
  rintro e w4 ⟨rfl, hc4⟩
  have HD4 := Lib.hid (Dsk.keep HD3.out hc4)
  have HC4 := Lib.hid (HC3.out.new hc4)
  clear hc4
  go_wp2_with fail
  refine (format_any HD4.out 3 2).mono ?_
  rintro e w5 hF
  obtain ⟨rfl, hd5, hc5⟩ : e = .returned (.int .i64 0) ∧ DskS w5 p bL bS bW (fmt (St.new 12) 3 2) ∧ Chg [bL, bS, bW] w4 w5 := by
    rcases hF with ⟨_, h1, h2, h3⟩ | ⟨h0, _⟩
    · exact ⟨h1, h2, h3⟩
    · exact absurd h0 (by rw [newV]; decide)
  have HD5 := Lib.hid hd5
  have HC5 := Lib.hid (HC4.out.then_ hc5 (fun i hi hw => by have := HFR.out i hi; omega))
  clear hF hd5 hc5
  go_wp2_with fail
  refine (hdeeds_any HD5.out).mono ?_
  rintro e w6 ⟨rfl, hc6⟩
  rw [HR4.out, show (([none, none, r4, none] : List Deed).length : Int) = 4 from rfl]
  have HD6 := Lib.hid (Dsk.keep HD5.out hc6)
  have HC6 := Lib.hid (HC5.out.new hc6)
  clear hc6
  go_wp2_with fail
  refine (part_any HD6.out 0).mono ?_
  rintro e w7 ⟨rfl, hd7, hc7⟩
  rw [HR4.out, show (clampN 0 ([none, none, r4, none] : List Deed).length : Nat) = 0 from rfl, show ((0 : Nat) : Int) = 0 from rfl]
  rw [HR4.out] at hd7
  have HD7 := Lib.hid (show DskS w7 p bL bS bW (fmt (St.new 12) 3 2) from hd7)
  have HC7 := Lib.hid (HC6.out.then_ hc7 (fun i hi hw => by have := HFR.out i hi; omega))
  clear hd7 hc7
  go_wp2_with fail
  refine (part_any HD7.out 2).mono ?_
  rintro e w8 ⟨rfl, hd8, hc8⟩
  rw [HR4.out, show (clampN 2 ([none, none, r4, none] : List Deed).length : Nat) = 2 from rfl, show ((2 : Nat) : Int) = 2 from rfl]
  rw [HR4.out] at hd8
  have HD8 := Lib.hid (show DskS w8 p bL bS bW (flA (flA (fmt (St.new 12) 3 2))) from hd8)
  have HC8 := Lib.hid (HC7.out.then_ hc8 (fun i hi hw => by have := HFR.out i hi; omega))
  have hop : opDs (flA (flA (fmt (St.new 12) 3 2))) = [none, none, r4, none] := by rw [opDs_eq (s := fmt (St.new 12) 3 2) (by rw [flA_S, flA_S]) (by rw [flA_len, flA_len])]; exact HR4.out
  have HOP := Lib.hid hop
  clear hd8 hc8 hop
  go_wp2_with fail
  refine (part_any HD8.out 99).mono ?_
  rintro e w9 ⟨rfl, hd9, hc9⟩
  rw [HOP.out, show (clampN 99 ([none, none, r4, none] : List Deed).length : Nat) = 4 from rfl, show ((4 : Nat) : Int) = 4 from rfl]
  have HC9 := Lib.hid (HC8.out.then_ hc9 (fun i hi hw => by have := HFR.out i hi; omega))
  clear hd9 hc9
  go_wp2_with fail
  go_ret
  exact ⟨rfl, HC9.out⟩
/-- What pair makes of an image. -/
def PairPost (w : World) (n : Nat) (l : List UInt8) (e : Ending) (w' : World) : Prop := ∃ p bL bS bW q gL gN gW rL rN m, e = .returned (.tuple #[.pointer (some ⟨p, 0, none⟩), .pointer (some ⟨q, 0, none⟩)]) ∧ DskS w' p bL bS bW ⟨l, l, falses n⟩ ∧ Rfd w' q gL gN gW rL rN m ⟨l, l, falses n⟩ ∧
  (∀ i ∈ [p, bL, bS, bW, q, gL, gN, gW], w.heap.size ≤ i) ∧ (∀ i ∈ [p, bL, bS, bW], i ∉ [q, gL, gN, gW]) ∧ Chg [] w w'
set_option maxHeartbeats 4000000 in
set_option maxRecDepth 100000 in
theorem pair_yes {A : Option Addr} {n c : Nat} {l : List UInt8} (hl : l.length = n) (hs : Src w A (bts l)) (h1 : 64 ≤ n) (h2 : n < 10304) (h3 : n % 64 = 0) :
    Calls Tryz.prog 10 #[.slice A n c] w (PairPost w (n / 64) l) := by
  have HO := Lib.hid (of_yes (c := c) hl hs h1 h2 h3)
  have HRO := Lib.hid (fun (w' : World) (hc : Chg [] w w') => rof_yes (c := c) hl (hs.keep hc) h1 h2 h3)
  clear hl hs h1 h2 h3
  go_enter Tryz.func10, Tryz.ntmps10
  go_wp2_with fail
  refine HO.out.mono ?_
  rintro e w1 ⟨p, bL, bS, bW, rfl, hd1, hp, hbL, hbS, hbW, hc1⟩
  have HD1 := Lib.hid hd1
  have HC1 := Lib.hid hc1
  have HLT := Lib.hid (show p < w1.heap.size ∧ bL < w1.heap.size ∧ bS < w1.heap.size ∧ bW < w1.heap.size from ⟨(Dsk.rec_ hd1).lt, (Dsk.last hd1).lt, (Dsk.seen hd1).lt, (Dsk.wait hd1).lt⟩)
  have HGE := Lib.hid (show w.heap.size ≤ p ∧ w.heap.size ≤ bL ∧ w.heap.size ≤ bS ∧ w.heap.size ≤ bW from ⟨hp, hbL, hbS, hbW⟩)
  clear hd1 hc1 hp hbL hbS hbW
  go_wp2_with fail
  refine (HRO.out w1 HC1.out).mono ?_
  rintro e w2 ⟨q, gL, gN, gW, rL, rN, m, rfl, hr2, hq, hgL, hgN, hgW, hc2⟩
  have HP := Lib.hid (show PairPost w (n / 64) l (.returned (.tuple #[.pointer (some ⟨p, 0, none⟩), .pointer (some ⟨q, 0, none⟩)])) w2 from ⟨p, bL, bS, bW, q, gL, gN, gW, rL, rN, m, rfl, Dsk.keep HD1.out hc2, hr2, fun i hi => by
    have h1 := HGE.out
    have h2 := HC1.out.size
    simp only [List.mem_cons, List.not_mem_nil, or_false] at hi
    rcases hi with rfl | rfl | rfl | rfl | rfl | rfl | rfl | rfl <;> omega, fun i hi hm => by
    have h1 := HLT.out
    simp only [List.mem_cons, List.not_mem_nil, or_false] at hi hm
    omega, HC1.out.new hc2⟩)
  clear hr2 hq hgL hgN hgW hc2
  go_wp2_with fail
  go_ret2
  exact HP.out
end
end Go.Proofs.YtddjgncdjdjgeaaGreat
namespace Go.Proofs.YtddjgncdjdjgeaaGreat
open Go.RowKit
def RPartPost (w : World) (q gL gN gW : Nat) (rL rN : List Value) (s : St) (n : Int) (e : Ending) (w' : World) : Prop :=
  e = .returned (.int .i64 ((clampN n (opDs s).length : Nat) : Int)) ∧ (∃ gW' m', Rfd w' q gL gN gW' rL rN m' (doD s ((opDs s).take (clampN n (opDs s).length))) ∧ (gW' = gW ∨ w.heap.size ≤ gW')) ∧ Chg [q, gL, gN, gW] w w'
section
variable {w : World} {q gL gN gW : Nat} {rL rN : List Value} {lf m : Int} {s : St}
set_option maxHeartbeats 4000000 in
set_option maxRecDepth 100000 in
theorem rdeeds_any (h : Rfx w q gL gN gW rL rN lf m s) (h1 : 1 ≤ s.V.length) : Calls Tryz.prog 35 #[.pointer (some ⟨q, 0, none⟩)] w fun e w' => e = .returned (.int .i64 ((opDs s).length : Int)) ∧ Chg [] w w' := by
  have hS := h.lenS
  have hle := h.le
  have c1 := h.rec_.cell 1
  have hsrc : Src w (some ⟨gN, 0, none⟩) (bts s.S) := by
    have := Src.of_whole h.now 0 s.S.length
    rwa [List.drop_zero, List.take_append_of_le_length (by rw [bts_len]; exact Nat.le_refl _), List.take_of_length_le (by rw [bts_len]; exact Nat.le_refl _)] at this
  have HOF := Lib.hid (rof_zero (n := s.S.length) (c := s.S.length + rN.length) rfl hsrc (by omega) (by omega) (by omega))
  have HV := Lib.hid (show s.S.length / 64 = s.V.length by omega)
  rw [HV.out] at HOF
  obtain ⟨nS, hnS⟩ : ∃ nS, nS = s.S.length := ⟨_, rfl⟩
  rw [← hnS] at c1 HOF
  clear h h1 hS hle hsrc hnS
  go_enter Tryz.func35, Tryz.ntmps35
  go_wp2_with fail
  refine HOF.out.mono ?_
  rintro e w1 ⟨p, bL, bN, bW, r1, r2, rfl, hd1, hp, hbL, hbN, hbW, hc1⟩
  have HC1 := Lib.hid hc1
  have HFR := Lib.hid (show ∀ i ∈ [p, bL, bN, bW], w.heap.size ≤ i from fun i hi => by
    simp only [List.mem_cons, List.not_mem_nil, or_false] at hi
    rcases hi with rfl | rfl | rfl | rfl <;> omega)
  have HEQ := Lib.hid (opDs_eq (s := s) (s' := ⟨s.S, s.S, falses s.V.length⟩) rfl (falses_len _))
  obtain ⟨s1, hs1⟩ : ∃ s1, s1 = St.mk s.S s.S (falses s.V.length) := ⟨_, rfl⟩
  rw [← hs1] at hd1 HEQ
  have HOP := Lib.hid (ropen_any (d := ⟨s1, -1, 0⟩) hd1 (ex := []) (fun i hi => by cases hi))
  clear hd1 hc1 hp hbL hbN hbW HOF c1 hs1
  go_wp2_with fail
  refine HOP.out.mono ?_
  rintro e w2 hO
  unfold ROpenPost at hO
  simp only at hO
  rcases hO with ⟨h0, rfl, hc2⟩ | ⟨h0, rfl, hc2⟩ | ⟨h0, h1, g, gP, gM, gW', us, rP, rfl, _, _, _, _, hst, hc2⟩
  · have HP := Lib.hid (show (0 : Int) = ((opDs s).length : Int) ∧ Chg [] w w2 from ⟨by rw [← HEQ.out]; unfold opDs; rw [if_neg (by omega)]; rfl, HC1.out.new hc2⟩)
    clear hc2 h0 HOP
    go_wp2_with fail
    go_ret
    exact ⟨by rw [← HP.out.1]; rfl, HP.out.2⟩
  · have HP := Lib.hid (show (0 : Int) = ((opDs s).length : Int) ∧ Chg [] w w2 from ⟨by rw [← HEQ.out]; unfold opDs; rw [if_neg (by omega)]; rfl, HC1.out.new hc2⟩)
    clear hc2 h0 HOP
    go_wp2_with fail
    go_ret
    exact ⟨by rw [← HP.out.1]; rfl, HP.out.2⟩
  · have hop : opDs s1 = ckDs (openV s1 (bestK s1.V.length s1.S 2)) := by unfold opDs; rw [if_pos ⟨h0, h1⟩]
    rw [← hop, Dg.run_all] at hst
    have hm : mW 0 (opDs s1).length = ((opDs s).length : Int) := by
      have h2 := opDs_len s1
      have h3 := mW_nat (opDs s1).length 0 (by omega)
      rw [HEQ.out] at h3 ⊢
      simpa using h3
    rw [hm] at hst
    have k4 := hst.dsk.rec_.cell 4
    have HP := Lib.hid (show Chg [] w w2 from HC1.out.then_ hc2 (fun i hi hw => by have := HFR.out i hi; omega))
    clear hc2 h0 h1 HOP hst hop hm
    go_wp2_with fail
    go_ret
    exact ⟨rfl, HP.out⟩
theorem Rfx.left (h : Rfx w q gL gN gW rL rN lf m s) (k : Int) : Rfx (w.setCell ⟨q, 3, none⟩ (.int .i64 k)) q gL gN gW rL rN k m s :=
  ⟨h.rec_.set_ 3 _, h.last.far (h.last.ne_ h.rec_ (by decide)) _, h.now.far (h.now.ne_ h.rec_ (by decide)) _, h.wait.far (h.wait.ne_ h.rec_ (by decide)) _, h.lenL, h.lenS, h.le, h.ne⟩
set_option maxHeartbeats 4000000 in
set_option maxRecDepth 100000 in
theorem rpart_any (h : Rfd w q gL gN gW rL rN m s) (h1 : 1 ≤ s.V.length) (n : Int) : Calls Tryz.prog 38 #[.pointer (some ⟨q, 0, none⟩), .int .i64 n] w (RPartPost w q gL gN gW rL rN s n) := by
  have HDD := Lib.hid (rdeeds_any h h1)
  have H := Lib.hid h
  obtain ⟨D, hD⟩ : ∃ D, D = (opDs s).length := ⟨_, rfl⟩
  have HD := Lib.hid hD
  have h68 := opDs_len s
  rw [← hD] at HDD h68
  obtain ⟨z, hz⟩ : ∃ z : Nat, z = n.toNat := ⟨_, rfl⟩
  obtain ⟨K, hK⟩ : ∃ K, K = clampN n D := ⟨_, rfl⟩
  have e1 : max n 0 = (z : Int) := by omega
  have e2 : min (z : Int) (D : Int) = (K : Int) := by rw [hK]; unfold clampN; omega
  have hKD : K ≤ D := by rw [hK]; exact Nat.min_le_right _ _
  have HK := Lib.hid (show K = clampN n (opDs s).length by rw [hK, hD])
  clear h h1 hD hz hK
  go_enter Tryz.func38, Tryz.ntmps38
  go_wp2_with fail
  refine HDD.out.mono ?_
  rintro e w1 ⟨rfl, hc1⟩
  have HC1 := Lib.hid hc1
  have HR1 := Lib.hid (Rfx.keep H.out hc1)
  clear hc1
  by_cases h0 : K = 0
  · subst h0
    have e3 : (((0 : Nat) : Int) == 0) = true := rfl
    have HP := Lib.hid (show RPartPost w q gL gN gW rL rN s n (.returned (.int .i64 ((0 : Nat) : Int))) w1 from by
      unfold RPartPost
      rw [← HK.out]
      exact ⟨rfl, ⟨gW, m, HR1.out, .inl rfl⟩, HC1.out.sub (fun _ h => by cases h)⟩)
    go_wp2_with fail
    go_ret
    exact HP.out
  · have e3 : ((K : Int) == 0) = false := by simp; omega
    have f3 := HR1.out.rec_.frozen 3
    have k3 := HR1.out.rec_.cell 3
    have k4 := HR1.out.rec_.cell 4
    go_upto_region 6 with fail
    have HR2 := Lib.hid (Rfx.left HR1.out (K : Int))
    have HC2 := Lib.hid (show Chg [q] w (w1.setCell ⟨q, 3, none⟩ (.int .i64 (K : Int))) from (HC1.out.sub (fun _ h => by cases h)).setCell (by simp) _)
    generalize w1.setCell ⟨q, 3, none⟩ (.int .i64 (K : Int)) = w2 at HR2 HC2 ⊢
    have HOP := Lib.hid (ropen_any (d := ⟨s, (K : Int), m⟩) HR2.out (ex := []) (fun i hi => by cases hi))
    clear f3 k4 k3
    go_wp2_with fail
    refine HOP.out.mono ?_
    rintro e w3 hO
    unfold ROpenPost at hO
    simp only at hO
    obtain ⟨v3, gW', mm, rfl, hd3, hmm, hgw, hc3⟩ : ∃ v3 gW' mm, e = .returned (.tuple #[v3, .int .i64 0]) ∧ Rfx w3 q gL gN gW' rL rN ((K - D : Nat) : Int) mm (doD s ((opDs s).take K)) ∧ wrap64 (mm - m) = (K : Int) ∧ (gW' = gW ∨ w2.heap.size ≤ gW') ∧ Chg [q, gL, gN, gW] w2 w3 := by
      have hpos : (opDs s).length ≠ 0 := by rw [← HD.out]; omega
      rcases hO with ⟨h2, _⟩ | ⟨h2, _⟩ | ⟨h2, h3, g, gP, gM, gW', us, rP, rfl, _, _, _, hg, hst, hc2⟩
      · exact absurd (by unfold opDs; rw [if_neg (by omega)]; rfl) hpos
      · exact absurd (by unfold opDs; rw [if_neg (by omega)]; rfl) hpos
      · have hop : opDs s = ckDs (openV s (bestK s.V.length s.S 2)) := by unfold opDs; rw [if_pos ⟨h2, h3⟩]
        rw [← hop, Dg.run_cut _ _ _ _ (by omega), ← HD.out, Nat.min_eq_left hKD] at hst
        exact ⟨_, gW', mW m K, rfl, hst.dsk, mW_sub K m (by omega), hg, hc2⟩
    have f3 := hd3.rec_.frozen 3
    have k3 := hd3.rec_.cell 3
    have k4 := (Rfx.left hd3 (-1)).rec_.cell 4
    have HR4 := Lib.hid (Rfx.left hd3 (-1))
    have HC4 := Lib.hid (show Chg [q, gL, gN, gW] w (w3.setCell ⟨q, 3, none⟩ (.int .i64 (-1))) from ((HC2.out.sub (T' := [q, gL, gN, gW]) (fun i h => by simp only [List.mem_singleton] at h; subst h; simp)).trans hc3).setCell (by simp) _)
    have HGW := Lib.hid (show gW' = gW ∨ w.heap.size ≤ gW' from hgw.imp id (fun h => by have := HC2.out.size; omega))
    clear hO HOP hd3 hgw hc3
    go_upto_region 8 with fail
    generalize w3.setCell ⟨q, 3, none⟩ (.int .i64 (-1)) = w4 at HR4 HC4 k4 ⊢
    clear f3 k3
    go_wp2_with fail
    go_ret
    unfold RPartPost
    rw [← HK.out]
    refine ⟨?_, ⟨gW', mm, HR4.out, HGW.out⟩, HC4.out⟩
    rw [← hmm]; rfl
end
end Go.Proofs.YtddjgncdjdjgeaaGreat
