/-
  N: Rst5.
-/
import Derived.Test.YtddjgncdjdjgeaaGreatZN17
import Derived.Test.YtddjgncdjdjgeaaGreatZN36
namespace Go.Proofs.YtddjgncdjdjgeaaGreat
open Go.RowKit
theorem Dg.step_free {s : St} {m : Int} {x : Deed} : (⟨s, -1, m⟩ : Dg).step x = ⟨dOne s x, -1, wrap64 (m + 1)⟩ := by
  unfold Dg.step lfD
  rw [if_neg (by show ¬ (-1 : Int) = 0; decide), if_neg (by show ¬ (0 : Int) < -1; decide)]
section
variable {w : World} {p gL gN gW : Nat} {rL rN : List Value} {s : St} {m : Int}
/-- Writes, Flushes with all deeds let be done. -/
theorem rfwrite (h : Rfd w p gL gN gW rL rN m s) (k : Nat) (hk : k < s.V.length) {A : Option Addr} {c : Nat} {x : List UInt8} (hx : x.length = 64) (hs : Src w A (bts x)) (hA : ∀ ad, A = some ad → ad.block ≠ p) :
    Calls Tryz.prog 54 #[.pointer (some ⟨p, 0, none⟩), .int .i64 (k : Int), .slice A 64 c] w fun e w' => e = .returned (.bool true) ∧ (∃ m', Rfd w' p gL gN gW rL rN m' (s.write k x)) ∧ Chg [p, gN, gW] w w' := by
  refine (rdwrite_any (d := ⟨s, -1, m⟩) h k hk hx hs hA).mono ?_
  rintro e w' ⟨rfl, hd, hc⟩
  rw [Dg.step_free] at hd
  exact ⟨rfl, ⟨_, hd⟩, hc⟩
theorem rfflush (h : Rfd w p gL gN gW rL rN m s) :
    Calls Tryz.prog 28 #[.pointer (some ⟨p, 0, none⟩)] w fun e w' => e = .returned (.tuple #[]) ∧ (∃ gW' m', Rfd w' p gL gN gW' rL rN m' (flA s) ∧ (gW' = gW ∨ w.heap.size ≤ gW')) ∧ Chg [p, gL] w w' := by
  refine (rdflush_any (d := ⟨s, -1, m⟩) h).mono ?_
  rintro e w' ⟨gW', rfl, hd, hg, hc⟩
  rw [Dg.step_free] at hd
  exact ⟨rfl, ⟨gW', _, hd, hg⟩, hc⟩
def RFmtPost (w : World) (p gL gN gW : Nat) (rL rN : List Value) (s : St) (L P : Int) (e : Ending) (w' : World) : Prop :=
  (rightR L P 1 s.V.length = true ∧ e = .returned (.int .i64 0) ∧ (∃ gW' m', Rfd w' p gL gN gW' rL rN m' (fmt s L.toNat P.toNat) ∧ (gW' = gW ∨ w.heap.size ≤ gW')) ∧ Chg [p, gL, gN, gW] w w') ∨
  (rightR L P 1 s.V.length = false ∧ e = .returned (.int .i64 25) ∧ Chg [] w w')
set_option maxHeartbeats 8000000 in
set_option maxRecDepth 100000 in
theorem rformat_any (h : Rfd w p gL gN gW rL rN m s) (L P : Int) :
    Calls Tryz.prog 20 #[.pointer (some ⟨p, 0, none⟩), .int .i64 L, .int .i64 P] w (RFmtPost w p gL gN gW rL rN s L P) := by
  have H := Lib.hid h
  have HB := Lib.hid (show p < w.heap.size ∧ gL < w.heap.size ∧ gN < w.heap.size ∧ gW < w.heap.size from ⟨(Rfx.rec_ h).lt, (Rfx.last h).lt, (Rfx.now h).lt, (Rfx.wait h).lt⟩)
  clear h
  go_enter Tryz.func20, Tryz.ntmps20
  go_upto_region 2 with fail
  have hR := Whole.new w 58 [.int .i64 L, .int .i64 P, .int .u32 1]
  have hal := (Chg.refl [] w).alloc (.cells #[.int .i64 L, .int .i64 P, .int .u32 1] 58)
  have HD := Lib.hid (Rfx.keep H.out hal)
  have HC := Lib.hid hal
  obtain ⟨gr, hgr⟩ : ∃ g, g = w.heap.size := ⟨_, rfl⟩
  have HG := Lib.hid hgr
  rw [← hgr] at hR ⊢
  generalize w.alloc (.cells #[.int .i64 L, .int .i64 P, .int .u32 1] 58) = w1 at hR HD HC ⊢
  have HR := Lib.hid hR
  clear hR hal hgr
  refine wp_flow (by kernel_rfl) plainT plainT_ok (by kernel_rfl) ?_
  refine flow1h (r := rootV L P 1) plainT_ok rfl (.out rfl rfl) rfl (fun ev W he hW e1 => by have hx := HR.out.keep ((Chg.refl [] w1).drew.new hW); have r0 := hx.cell 0; have r1 := hx.cell 1; have r2 := hx.cell 2; clear hW hx; unfold rootV; go_simp) ?_
  refine flow_move_out plainT_ok rfl rfl rfl ?_
  refine flow_callv (.int .i64 (s.V.length : Int)) (by kernel_rfl) rfl (.cons (.inn rfl) .nil) (fun W hW => (rlen_any (Rfx.keep HD.out ((Chg.refl [] w1).drew.new hW))).mono ?_) ?_
  · rintro e w' ⟨rfl, rfl⟩; exact ⟨rfl, Chg.refl _ _⟩
  refine flow_callv (.bool (rightR L P 1 s.V.length)) (by kernel_rfl) rfl (.cons (.inn rfl) (.cons (.inn rfl) .nil)) (fun W hW => (rrright_any L P 1 _).mono ?_) ?_
  · rintro e w' ⟨rfl, hc⟩; exact ⟨rfl, hc⟩
  refine flow1 (r := .bool (!rightR L P 1 s.V.length)) plainT_ok rfl (.inn rfl) rfl (fun ev W he e1 => by go_simp) ?_
  intro vs W hW hF
  have e16 : vs 16 = .bool (!rightR L P 1 s.V.length) := hF 16 _ rfl rfl
  have hcw : Chg [] w1 W := (Chg.refl [] w1).drew.new hW
  have HD2 := Lib.hid (Rfx.keep HD.out hcw)
  have HR2 := Lib.hid (HR.out.keep hcw)
  have HC2 := Lib.hid (HC.out.new hcw)
  simp only [putAll, Act.put, List.setIfInBounds_toArray, List.set_cons_zero, List.set_cons_succ]
  rw [e16]
  clear hF hW e16 hcw
  obtain ⟨w2, hw2⟩ : ∃ w2 : World, w2 = W := ⟨_, rfl⟩
  rw [← hw2] at HD2 HR2 HC2 ⊢
  clear hw2
  by_cases hr : rightR L P 1 s.V.length = true
  rotate_left
  · have hr' : rightR L P 1 s.V.length = false := by simpa using hr
    have HP := Lib.hid (show RFmtPost w p gL gN gW rL rN s L P (.returned (.int .i64 25)) w2 from .inr ⟨hr', rfl, HC2.out⟩)
    rw [hr']
    clear hr hr'
    go_wp2_with fail
    go_ret
    exact HP.out
  obtain ⟨a1, a2, a3, a4, a5, _⟩ := rightR_true.1 hr
  have HRT := Lib.hid hr
  rw [hr]
  obtain ⟨l, hl⟩ : ∃ l, l = L.toNat := ⟨_, rfl⟩
  obtain ⟨q, hq⟩ : ∃ q, q = P.toNat := ⟨_, rfl⟩
  have HLQ := Lib.hid (And.intro hl hq)
  obtain rfl : L = (l : Int) := by omega
  obtain rfl : P = (q : Int) := by omega
  have hlq : 1 ≤ l ∧ l ≤ 64 ∧ 1 ≤ q ∧ q ≤ 64 ∧ 2 + l + q ≤ s.V.length := by omega
  obtain ⟨m1, hm1⟩ : ∃ m1, m1 = 2 + l := ⟨_, rfl⟩
  obtain ⟨mm, hm⟩ : ∃ mm, mm = 2 + l + q := ⟨_, rfl⟩
  have hs1 : IntKind.i64.wrap (2 + (l : Int)) = (m1 : Int) := by rw [IntKind.wrap_i64]; omega
  have hs2 : IntKind.i64.wrap ((m1 : Int) + (q : Int)) = (mm : Int) := by rw [IntKind.wrap_i64]; omega
  have HL2 := Lib.hid hlq
  have HM := Lib.hid hm
  have HGR := Lib.hid (show ∀ (T : List Nat), (∀ i ∈ T, i = p ∨ i = gL ∨ i = gN ∨ i = gW ∨ gr < i) → gr ∉ T from fun T hT hmm => by
    have h1 := HB.out
    have h2 := HG.out
    have h3 := hT _ hmm
    omega)
  clear a1 a2 a3 a4 a5 hl hq hr hm hm1 hlq
  have hmk := make_z64
  go_wp2_with fail
  have hal := (Chg.refl [] w2).alloc (.cells (bts (zeros 64)).toArray 5)
  have hW := Whole.new w2 5 (bts (zeros 64))
  have hpl := HB.out
  have hsz := HC2.out.size
  refine (rfwrite (Rfx.keep HD2.out hal) 0 (by have := HL2.out; omega) (zeros_len 64) (Src.of_all hW) (fun ad e => by injection e with e; subst e; show w2.heap.size ≠ p; omega)).mono ?_
  rintro e w3 ⟨rfl, ⟨md3, hd3⟩, hc3⟩
  have HD3 := Lib.hid hd3
  have HC3 := Lib.hid (show Chg [p, gL, gN, gW] w w3 from ((HC2.out.new hal).sub (T' := [p, gL, gN, gW]) (fun _ h => by cases h)).trans (hc3.sub (by simp)))
  have HR3 := Lib.hid ((HR2.out.keep hal).chg hc3 (HGR.out _ (fun i hi => by simp only [List.mem_cons, List.not_mem_nil, or_false] at hi; rcases hi with h | h | h <;> simp [h])))
  clear hal hW hd3 hc3 hpl hsz
  go_wp2_with fail
  have hal := (Chg.refl [] w3).alloc (.cells (bts (zeros 64)).toArray 5)
  have hW := Whole.new w3 5 (bts (zeros 64))
  have hpl := HB.out
  have hsz := HC3.out.size
  refine (rfwrite (Rfx.keep HD3.out hal) 1 (by have := HL2.out; rw [write_len]; omega) (zeros_len 64) (Src.of_all hW) (fun ad e => by injection e with e; subst e; show w3.heap.size ≠ p; omega)).mono ?_
  rintro e w4 ⟨rfl, ⟨md4, hd4⟩, hc4⟩
  have HD4 := Lib.hid (show Rfd w4 p gL gN gW rL rN md4 (wipeN s 0 2) from hd4)
  have HC4 := Lib.hid (show Chg [p, gL, gN, gW] w w4 from (HC3.out.new hal).trans (hc4.sub (by simp)))
  have HR4 := Lib.hid ((HR3.out.keep hal).chg hc4 (HGR.out _ (fun i hi => by simp only [List.mem_cons, List.not_mem_nil, or_false] at hi; rcases hi with h | h | h <;> simp [h])))
  clear hal hW hd4 hc4 hpl hsz
  go_wp2_with fail
  refine (rfflush HD4.out).mono ?_
  rintro e w5 ⟨rfl, ⟨gV, md5, hd5, hgv⟩, hc5⟩
  have HD5 := Lib.hid (show Rfd w5 p gL gN gV rL rN md5 (wipeN (flA (wipeN s 0 2)) 2 0) from hd5)
  have HGV := Lib.hid (show gV = gW ∨ w2.heap.size < gV ∨ w4.heap.size ≤ gV from by rcases hgv with h | h; exact .inl h; exact .inr (.inr h))
  have HC5 := Lib.hid (show Chg [p, gL, gN, gW] w w5 from HC4.out.trans (hc5.sub (by simp)))
  have HR5 := Lib.hid (HR4.out.chg hc5 (HGR.out _ (fun i hi => by simp only [List.mem_cons, List.not_mem_nil, or_false] at hi; rcases hi with h | h <;> simp [h])))
  have HGV2 := Lib.hid (show gV = gW ∨ gr < gV from by
    rcases hgv with h | h
    · exact .inl h
    · have h1 := HR4.out.lt
      exact .inr (by omega))
  clear hd5 hc5 hgv
  go_wp2_with fail
  go_loopw [8] (fun i wr => ∃ j : Nat, i = .int .i64 ((2 + j : Nat) : Int) ∧ 2 + j ≤ mm ∧ Hid (∃ md, Rfd wr p gL gN gV rL rN md (wipeN (flA (wipeN s 0 2)) 2 j)) ∧ Hid (Whole wr gr 58 [.int .i64 (l : Int), .int .i64 (q : Int), .int .u32 1]) ∧ Hid (Chg [p, gL, gN, gW] w wr)) (fun i _ => mm - (intOf i).toNat)
  case atStart => exact ⟨0, rfl, by have := HM.out; omega, Lib.hid ⟨_, HD5.out⟩, HR5, HC5⟩
  case round =>
    obtain ⟨j, rfl, hj, HDr, HRr, HCr⟩ := hrel
    obtain ⟨md6, hd6⟩ := HDr.out
    have HD6 := Lib.hid hd6
    clear hd6 HDr HD5 HR5 HC5
    obtain ⟨jj, hjj⟩ : ∃ jj, jj = 2 + j := ⟨_, rfl⟩
    have HJ := Lib.hid hjj
    rw [← hjj] at hj ⊢
    clear hjj
    have hmm : mm ≤ 1000 := by have h1 := HM.out; have h2 := HL2.out; omega
    by_cases hlt : jj < mm
    · have hjI : (jj : Int) < (mm : Int) := by omega
      go_wp2_with fail
      have hal := (Chg.refl [] wr).alloc (.cells (bts (zeros 64)).toArray 5)
      have hW := Whole.new wr 5 (bts (zeros 64))
      have hpl := HB.out
      have hsz := HCr.out.size
      refine (rfwrite (Rfx.keep HD6.out hal) jj (by have := HL2.out; have := HM.out; rw [wipeN_len, flA_len, wipeN_len]; omega) (zeros_len 64) (Src.of_all hW) (fun ad e => by injection e with e; subst e; show wr.heap.size ≠ p; omega)).mono ?_
      rintro e w7 ⟨rfl, ⟨md7, hd7⟩, hc7⟩
      have HD7 := Lib.hid (show ∃ md, Rfd w7 p gL gN gV rL rN md (wipeN (flA (wipeN s 0 2)) 2 (j + 1)) from ⟨md7, by rw [wipeN, ← HJ.out]; exact hd7⟩)
      have HR7 := Lib.hid ((HRr.out.keep hal).chg hc7 (HGR.out _ (fun i hi => by
        have h1 := HGV2.out
        simp only [List.mem_cons, List.not_mem_nil, or_false] at hi
        rcases hi with h | h | h
        · simp [h]
        · simp [h]
        · rcases h1 with h1 | h1
          · simp [h, h1]
          · simp [h, h1])))
      have HC7 := Lib.hid (show Chg [p, gL, gN, gW] w w7 from (HCr.out.new hal).then_ hc7 (fun i hi hw => by
        have h1 := HGV2.out
        have h2 := HG.out
        simp only [List.mem_cons, List.not_mem_nil, or_false] at hi ⊢
        rcases hi with h | h | h
        · simp [h]
        · simp [h]
        · rcases h1 with h1 | h1
          · simp [h, h1]
          · omega))
      clear hal hW hd7 hc7 hpl hsz
      go_wp2_with fail
      go_roundw
      case rel => exact ⟨j + 1, by rw [show ((2 + (j + 1) : Nat) : Int) = (jj : Int) + 1 by have := HJ.out; omega], by have := HJ.out; omega, HD7, HR7, HC7⟩
      case measure => simp [intOf]; omega
    · have hjI : ¬ (jj : Int) < (mm : Int) := by omega
      have HJQ := Lib.hid (show j = l + q by have := HJ.out; have := HM.out; omega)
      go_wp2_with fail
      refine (rfflush HD6.out).mono ?_
      rintro e w7 ⟨rfl, ⟨gU, md7, hd7, hgu⟩, hc7⟩
      have HD7 := Lib.hid (show Rfd w7 p gL gN gU rL rN md7 (flA (wipeN (flA (wipeN s 0 2)) 2 (l + q))) from by rw [← HJQ.out]; exact hd7)
      have HC7 := Lib.hid (show Chg [p, gL, gN, gW] w w7 from HCr.out.trans (hc7.sub (by simp)))
      have HR7 := Lib.hid (HRr.out.chg hc7 (HGR.out _ (fun i hi => by simp only [List.mem_cons, List.not_mem_nil, or_false] at hi; rcases hi with h | h <;> simp [h])))
      have HGU := Lib.hid (show gU = gW ∨ gr < gU from by
        rcases hgu with h | h
        · rw [h]; exact HGV2.out
        · have h1 := HRr.out.lt
          exact .inr (by omega))
      clear hd7 hc7 hgu
      have r0 := HR7.out.cell 0
      have r1 := HR7.out.cell 1
      have r2 := HR7.out.cell 2
      have hrr := fun W => rroot_any (w := W) l q 1 (by have := HL2.out; omega) (by have := HL2.out; omega) (by omega)
      unfold rootV at hrr
      go_wp2_with fail
      refine (hrr _).mono ?_
      rintro e w8 ⟨v8, rfl, ho8, hc8⟩
      rw [rootL_len] at ho8
      obtain ⟨A8, c8, rfl, _, _, hs8, hA8⟩ := own_slice ho8
      have HD8 := Lib.hid (Rfx.keep HD7.out hc8)
      have HS8 := Lib.hid hs8
      have HA8 := Lib.hid (show ∀ ad, A8 = some ad → ad.block ≠ p from fun ad e => by
        have h1 := (hA8 ad e).2.1
        have h2 := HB.out
        have h3 := HC7.out.size
        omega)
      have HC8 := Lib.hid (HC7.out.new hc8)
      clear r0 r1 r2 hrr ho8 hs8 hA8 hc8
      go_wp2_with fail
      refine (rfwrite HD8.out 1 (by have := HL2.out; rw [flA_len, wipeN_len, flA_len, wipeN_len]; omega) (rootL_len _ _ _) HS8.out HA8.out).mono ?_
      rintro e w9 ⟨rfl, ⟨md9, hd9⟩, hc9⟩
      have HD9 := Lib.hid hd9
      have HC9 := Lib.hid (show Chg [p, gL, gN, gW] w w9 from HC8.out.then_ hc9 (fun i hi hw => by
        have h1 := HGU.out
        have h2 := HG.out
        simp only [List.mem_cons, List.not_mem_nil, or_false] at hi ⊢
        rcases hi with h | h | h
        · simp [h]
        · simp [h]
        · rcases h1 with h1 | h1
          · simp [h, h1]
          · omega))
      clear hd9 hc9
      go_wp2_with fail
      refine (rfflush HD9.out).mono ?_
      rintro e w10 ⟨rfl, ⟨gX, md10, hd10, hgx⟩, hc10⟩
      have HP := Lib.hid (show RFmtPost w p gL gN gW rL rN s (l : Int) (q : Int) (.returned (.int .i64 0)) w10 from .inl ⟨HRT.out, rfl, ⟨gX, md10, by
        have h1 := HLQ.out
        rw [← h1.1, ← h1.2]
        exact hd10, by
        have h1 := HGU.out
        have h2 := HG.out
        have h3 := HC9.out.size
        rcases hgx with h | h
        · rcases h1 with h1 | h1
          · exact .inl (h.trans h1)
          · exact .inr (by omega)
        · exact .inr (by omega)⟩, HC9.out.trans (hc10.sub (by simp))⟩)
      clear hd10 hgx hc10
      go_wp2_with fail
      go_ret
      exact HP.out
end
end Go.Proofs.YtddjgncdjdjgeaaGreat
