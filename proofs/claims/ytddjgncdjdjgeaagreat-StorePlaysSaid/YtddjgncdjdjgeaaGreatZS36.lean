/-
  S: Rst5, SameS.
-/
import Derived.Test.YtddjgncdjdjgeaaGreatZS7
import Derived.Test.YtddjgncdjdjgeaaGreatZS15
import Derived.Test.YtddjgncdjdjgeaaGreatZS17
import Derived.Test.YtddjgncdjdjgeaaGreatZS31
import Derived.Test.YtddjgncdjdjgeaaGreatZS35
namespace Go.Proofs.YtddjgncdjdjgeaaGreat
open Go.RowKit
theorem Dg.step_free {s : St} {m : Int} {x : Deed} : (⟨s, -1, m⟩ : Dg).step x = ⟨dOne s x, -1, wrap64 (m + 1)⟩ := by
  unfold Dg.step lfD
  rw [if_neg (by show ¬ (-1 : Int) = 0; decide), if_neg (by show ¬ (0 : Int) < -1; decide)]
section
variable {w : World} {p gL gN gW : Nat} {rL rN : List Value} {s : St} {m : Int}
/-- Writes, Flushes with all deeds let be done. -/
theorem rfwrite (h : Rfd w p gL gN gW rL rN m s) (k : Nat) (hk : k < s.V.length) {A : Option Addr} {c : Nat} {x : List UInt8} (hx : x.length = 64) (hs : Src w A (bts x)) (hA : ∀ ad, A = some ad → ad.block ≠ p) :
    Calls Tryz.prog 54 #[.pointer (some ⟨p, 0, none⟩), .int .i64 (k : Int), .slice A 64 c] w fun e w' => e = .returned (.bool true) ∧ (∃ m', Rfd w' p gL gN gW rL rN m' (s.write k x)) ∧ Chg [p, gN, gW] w w' := by
  refine (rdwrite_any (d := ⟨s, -1, m⟩) h k hk hx hs hA).mono ?_
  rintro e w' ⟨rfl, hd, hc⟩
  rw [Dg.step_free] at hd
  exact ⟨rfl, ⟨_, hd⟩, hc⟩
theorem rfflush (h : Rfd w p gL gN gW rL rN m s) :
    Calls Tryz.prog 28 #[.pointer (some ⟨p, 0, none⟩)] w fun e w' => e = .returned (.tuple #[]) ∧ (∃ gW' m', Rfd w' p gL gN gW' rL rN m' (flA s) ∧ (gW' = gW ∨ w.heap.size ≤ gW')) ∧ Chg [p, gL] w w' := by
  refine (rdflush_any (d := ⟨s, -1, m⟩) h).mono ?_
  rintro e w' ⟨gW', rfl, hd, hg, hc⟩
  rw [Dg.step_free] at hd
  exact ⟨rfl, ⟨gW', _, hd, hg⟩, hc⟩
def RFmtPost (w : World) (p gL gN gW : Nat) (rL rN : List Value) (s : St) (L P : Int) (e : Ending) (w' : World) : Prop :=
  (rightR L P 1 s.V.length = true ∧ e = .returned (.int .i64 0) ∧ (∃ gW' m', Rfd w' p gL gN gW' rL rN m' (fmt s L.toNat P.toNat) ∧ (gW' = gW ∨ w.heap.size ≤ gW')) ∧ Chg [p, gL, gN, gW] w w') ∨
  (rightR L P 1 s.V.length = false ∧ e = .returned (.int .i64 25) ∧ Chg [] w w')
set_option maxHeartbeats 8000000 in
set_option maxRecDepth 100000 in
theorem rformat_any (h : Rfd w p gL gN gW rL rN m s) (L P : Int) :
    Calls Tryz.prog 20 #[.pointer (some ⟨p, 0, none⟩), .int .i64 L, .int .i64 P] w (RFmtPost w p gL gN gW rL rN s L P) := by
  have H := Lib.hid h
  have HB := Lib.hid (show p < w.heap.size ∧ gL < w.heap.size ∧ gN < w.heap.size ∧ gW < w.heap.size from ⟨(Rfx.rec_ h).lt, (Rfx.last h).lt, (Rfx.now h).lt, (Rfx.wait h).lt⟩)
  clear h
  go_enter Tryz.func20, Tryz.ntmps20
  go_upto_region 2 with fail
  have hR := Whole.new w 58 [.int .i64 L, .int .i64 P, .int .u32 1]
  have hal := (Chg.refl [] w).alloc (.cells #[.int .i64 L, .int .i64 P, .int .u32 1] 58)
  have HD := Lib.hid (Rfx.keep H.out hal)
  have HC := Lib.hid hal
  obtain ⟨gr, hgr⟩ : ∃ g, g = w.heap.size := ⟨_, rfl⟩
  have HG := Lib.hid hgr
  rw [← hgr] at hR ⊢
  generalize w.alloc (.cells #[.int .i64 L, .int .i64 P, .int .u32 1] 58) = w1 at hR HD HC ⊢
  have HR := Lib.hid hR
  clear hR hal hgr
  refine wp_flow (by kernel_rfl) plainT plainT_ok (by kernel_rfl) ?_
  refine flow1h (r := rootV L P 1) plainT_ok rfl (.out rfl rfl) rfl (fun ev W he hW e1 => by have hx := HR.out.keep ((Chg.refl [] w1).drew.new hW); have r0 := hx.cell 0; have r1 := hx.cell 1; have r2 := hx.cell 2; clear hW hx; unfold rootV; go_simp) ?_
  refine flow_move_out plainT_ok rfl rfl rfl ?_
  refine flow_callv (.int .i64 (s.V.length : Int)) (by kernel_rfl) rfl (.cons (.inn rfl) .nil) (fun W hW => (rlen_any (Rfx.keep HD.out ((Chg.refl [] w1).drew.new hW))).mono ?_) ?_
  · rintro e w' ⟨rfl, rfl⟩; exact ⟨rfl, Chg.refl _ _⟩
  refine flow_callv (.bool (rightR L P 1 s.V.length)) (by kernel_rfl) rfl (.cons (.inn rfl) (.cons (.inn rfl) .nil)) (fun W hW => (rrright_any L P 1 _).mono ?_) ?_
  · rintro e w' ⟨rfl, hc⟩; exact ⟨rfl, hc⟩
  refine flow1 (r := .bool (!rightR L P 1 s.V.length)) plainT_ok rfl (.inn rfl) rfl (fun ev W he e1 => by go_simp) ?_
  intro vs W hW hF
  have e16 : vs 16 = .bool (!rightR L P 1 s.V.length) := hF 16 _ rfl rfl
  have hcw : Chg [] w1 W := (Chg.refl [] w1).drew.new hW
  have HD2 := Lib.hid (Rfx.keep HD.out hcw)
  have HR2 := Lib.hid (HR.out.keep hcw)
  have HC2 := Lib.hid (HC.out.new hcw)
  simp only [putAll, Act.put, List.setIfInBounds_toArray, List.set_cons_zero, List.set_cons_succ]
  rw [e16]
  clear hF hW e16 hcw
  obtain ⟨w2, hw2⟩ : ∃ w2 : World, w2 = W := ⟨_, rfl⟩
  rw [← hw2] at HD2 HR2 HC2 ⊢
  clear hw2
  by_cases hr : rightR L P 1 s.V.length = true
  rotate_left
  · have hr' : rightR L P 1 s.V.length = false := by simpa using hr
    have HP := Lib.hid (show RFmtPost w p gL gN gW rL rN s L P (.returned (.int .i64 25)) w2 from .inr ⟨hr', rfl, HC2.out⟩)
    rw [hr']
    clear hr hr'
    go_wp2_with fail
    go_ret
    exact HP.out
  obtain ⟨a1, a2, a3, a4, a5, _⟩ := rightR_true.1 hr
  have HRT := Lib.hid hr
  rw [hr]
  obtain ⟨l, hl⟩ : ∃ l, l = L.toNat := ⟨_, rfl⟩
  obtain ⟨q, hq⟩ : ∃ q, q = P.toNat := ⟨_, rfl⟩
  have HLQ := Lib.hid (And.intro hl hq)
  obtain rfl : L = (l : Int) := by omega
  obtain rfl : P = (q : Int) := by omega
  have hlq : 1 ≤ l ∧ l ≤ 64 ∧ 1 ≤ q ∧ q ≤ 64 ∧ 2 + l + q ≤ s.V.length := by omega
  obtain ⟨m1, hm1⟩ : ∃ m1, m1 = 2 + l := ⟨_, rfl⟩
  obtain ⟨mm, hm⟩ : ∃ mm, mm = 2 + l + q := ⟨_, rfl⟩
  have hs1 : IntKind.i64.wrap (2 + (l : Int)) = (m1 : Int) := by rw [IntKind.wrap_i64]; omega
  have hs2 : IntKind.i64.wrap ((m1 : Int) + (q : Int)) = (mm : Int) := by rw [IntKind.wrap_i64]; omega
  have HL2 := Lib.hid hlq
  have HM := Lib.hid hm
  have HGR := Lib.hid (show ∀ (T : List Nat), (∀ i ∈ T, i = p ∨ i = gL ∨ i = gN ∨ i = gW ∨ gr < i) → gr ∉ T from fun T hT hmm => by
    have h1 := HB.out
    have h2 := HG.out
    have h3 := hT _ hmm
    omega)
  clear a1 a2 a3 a4 a5 hl hq hr hm hm1 hlq
  have hmk := make_z64
  go_wp2_with fail
  have hal := (Chg.refl [] w2).alloc (.cells (bts (zeros 64)).toArray 5)
  have hW := Whole.new w2 5 (bts (zeros 64))
  have hpl := HB.out
  have hsz := HC2.out.size
  refine (rfwrite (Rfx.keep HD2.out hal) 0 (by have := HL2.out; omega) (zeros_len 64) (Src.of_all hW) (fun ad e => by injection e with e; subst e; show w2.heap.size ≠ p; omega)).mono ?_
  rintro e w3 ⟨rfl, ⟨md3, hd3⟩, hc3⟩
  have HD3 := Lib.hid hd3
  have HC3 := Lib.hid (show Chg [p, gL, gN, gW] w w3 from ((HC2.out.new hal).sub (T' := [p, gL, gN, gW]) (fun _ h => by cases h)).trans (hc3.sub (by simp)))
  have HR3 := Lib.hid ((HR2.out.keep hal).chg hc3 (HGR.out _ (fun i hi => by simp only [List.mem_cons, List.not_mem_nil, or_false] at hi; rcases hi with h | h | h <;> simp [h])))
  clear hal hW hd3 hc3 hpl hsz
  go_wp2_with fail
  have hal := (Chg.refl [] w3).alloc (.cells (bts (zeros 64)).toArray 5)
  have hW := Whole.new w3 5 (bts (zeros 64))
  have hpl := HB.out
  have hsz := HC3.out.size
  refine (rfwrite (Rfx.keep HD3.out hal) 1 (by have := HL2.out; rw [write_len]; omega) (zeros_len 64) (Src.of_all hW) (fun ad e => by injection e with e; subst e; show w3.heap.size ≠ p; omega)).mono ?_
  rintro e w4 ⟨rfl, ⟨md4, hd4⟩, hc4⟩
  have HD4 := Lib.hid (show Rfd w4 p gL gN gW rL rN md4 (wipeN s 0 2) from hd4)
  have HC4 := Lib.hid (show Chg [p, gL, gN, gW] w w4 from (HC3.out.new hal).trans (hc4.sub (by simp)))
  have HR4 := Lib.hid ((HR3.out.keep hal).chg hc4 (HGR.out _ (fun i hi => by simp only [List.mem_cons, List.not_mem_nil, or_false] at hi; rcases hi with h | h | h <;> simp [h])))
  clear hal hW hd4 hc4 hpl hsz
  go_wp2_with fail
  refine (rfflush HD4.out).mono ?_
  rintro e w5 ⟨rfl, ⟨gV, md5, hd5, hgv⟩, hc5⟩
  have HD5 := Lib.hid (show Rfd w5 p gL gN gV rL rN md5 (wipeN (flA (wipeN s 0 2)) 2 0) from hd5)
  have HGV := Lib.hid (show gV = gW ∨ w2.heap.size < gV ∨ w4.heap.size ≤ gV from by rcases hgv with h | h; exact .inl h; exact .inr (.inr h))
  have HC5 := Lib.hid (show Chg [p, gL, gN, gW] w w5 from HC4.out.trans (hc5.sub (by simp)))
  have HR5 := Lib.hid (HR4.out.chg hc5 (HGR.out _ (fun i hi => by simp only [List.mem_cons, List.not_mem_nil, or_false] at hi; rcases hi with h | h <;> simp [h])))
  have HGV2 := Lib.hid (show gV = gW ∨ gr < gV from by
    rcases hgv with h | h
    · exact .inl h
    · have h1 := HR4.out.lt
      exact .inr (by omega))
  clear hd5 hc5 hgv
  go_wp2_with fail
  go_loopw [8] (fun i wr => ∃ j : Nat, i = .int .i64 ((2 + j : Nat) : Int) ∧ 2 + j ≤ mm ∧ Hid (∃ md, Rfd wr p gL gN gV rL rN md (wipeN (flA (wipeN s 0 2)) 2 j)) ∧ Hid (Whole wr gr 58 [.int .i64 (l : Int), .int .i64 (q : Int), .int .u32 1]) ∧ Hid (Chg [p, gL, gN, gW] w wr)) (fun i _ => mm - (intOf i).toNat)
  case atStart => exact ⟨0, rfl, by have := HM.out; omega, Lib.hid ⟨_, HD5.out⟩, HR5, HC5⟩
  case round =>
    obtain ⟨j, rfl, hj, HDr, HRr, HCr⟩ := hrel
    obtain ⟨md6, hd6⟩ := HDr.out
    have HD6 := Lib.hid hd6
    clear hd6 HDr HD5 HR5 HC5
    obtain ⟨jj, hjj⟩ : ∃ jj, jj = 2 + j := ⟨_, rfl⟩
    have HJ := Lib.hid hjj
    rw [← hjj] at hj ⊢
    clear hjj
    have hmm : mm ≤ 1000 := by have h1 := HM.out; have h2 := HL2.out; omega
    by_cases hlt : jj < mm
    · have hjI : (jj : Int) < (mm : Int) := by omega
      go_wp2_with fail
      have hal := (Chg.refl [] wr).alloc (.cells (bts (zeros 64)).toArray 5)
      have hW := Whole.new wr 5 (bts (zeros 64))
      have hpl := HB.out
      have hsz := HCr.out.size
      refine (rfwrite (Rfx.keep HD6.out hal) jj (by have := HL2.out; have := HM.out; rw [wipeN_len, flA_len, wipeN_len]; omega) (zeros_len 64) (Src.of_all hW) (fun ad e => by injection e with e; subst e; show wr.heap.size ≠ p; omega)).mono ?_
      rintro e w7 ⟨rfl, ⟨md7, hd7⟩, hc7⟩
      have HD7 := Lib.hid (show ∃ md, Rfd w7 p gL gN gV rL rN md (wipeN (flA (wipeN s 0 2)) 2 (j + 1)) from ⟨md7, by rw [wipeN, ← HJ.out]; exact hd7⟩)
      have HR7 := Lib.hid ((HRr.out.keep hal).chg hc7 (HGR.out _ (fun i hi => by
        have h1 := HGV2.out
        simp only [List.mem_cons, List.not_mem_nil, or_false] at hi
        rcases hi with h | h | h
        · simp [h]
        · simp [h]
        · rcases h1 with h1 | h1
          · simp [h, h1]
          · simp [h, h1])))
      have HC7 := Lib.hid (show Chg [p, gL, gN, gW] w w7 from (HCr.out.new hal).then_ hc7 (fun i hi hw => by
        have h1 := HGV2.out
        have h2 := HG.out
        simp only [List.mem_cons, List.not_mem_nil, or_false] at hi ⊢
        rcases hi with h | h | h
        · simp [h]
        · simp [h]
        · rcases h1 with h1 | h1
          · simp [h, h1]
          · omega))
      clear hal hW hd7 hc7 hpl hsz
      go_wp2_with fail
      go_roundw
      case rel => exact ⟨j + 1, by rw [show ((2 + (j + 1) : Nat) : Int) = (jj : Int) + 1 by have := HJ.out; omega], by have := HJ.out; omega, HD7, HR7, HC7⟩
      case measure => simp [intOf]; omega
    · have hjI : ¬ (jj : Int) < (mm : Int) := by omega
      have HJQ := Lib.hid (show j = l + q by have := HJ.out; have := HM.out; omega)
      go_wp2_with fail
      refine (rfflush HD6.out).mono ?_
      rintro e w7 ⟨rfl, ⟨gU, md7, hd7, hgu⟩, hc7⟩
      have HD7 := Lib.hid (show Rfd w7 p gL gN gU rL rN md7 (flA (wipeN (flA (wipeN s 0 2)) 2 (l + q))) from by rw [← HJQ.out]; exact hd7)
      have HC7 := Lib.hid (show Chg [p, gL, gN, gW] w w7 from HCr.out.trans (hc7.sub (by simp)))
      have HR7 := Lib.hid (HRr.out.chg hc7 (HGR.out _ (fun i hi => by simp only [List.mem_cons, List.not_mem_nil, or_false] at hi; rcases hi with h | h <;> simp [h])))
      have HGU := Lib.hid (show gU = gW ∨ gr < gU from by
        rcases hgu with h | h
        · rw [h]; exact HGV2.out
        · have h1 := HRr.out.lt
          exact .inr (by omega))
      clear hd7 hc7 hgu
      have r0 := HR7.out.cell 0
      have r1 := HR7.out.cell 1
      have r2 := HR7.out.cell 2
      have hrr := fun W => rroot_any (w := W) l q 1 (by have := HL2.out; omega) (by have := HL2.out; omega) (by omega)
      unfold rootV at hrr
      go_wp2_with fail
      refine (hrr _).mono ?_
      rintro e w8 ⟨v8, rfl, ho8, hc8⟩
      rw [rootL_len] at ho8
      obtain ⟨A8, c8, rfl, _, _, hs8, hA8⟩ := own_slice ho8
      have HD8 := Lib.hid (Rfx.keep HD7.out hc8)
      have HS8 := Lib.hid hs8
      have HA8 := Lib.hid (show ∀ ad, A8 = some ad → ad.block ≠ p from fun ad e => by
        have h1 := (hA8 ad e).2.1
        have h2 := HB.out
        have h3 := HC7.out.size
        omega)
      have HC8 := Lib.hid (HC7.out.new hc8)
      clear r0 r1 r2 hrr ho8 hs8 hA8 hc8
      go_wp2_with fail
      refine (rfwrite HD8.out 1 (by have := HL2.out; rw [flA_len, wipeN_len, flA_len, wipeN_len]; omega) (rootL_len _ _ _) HS8.out HA8.out).mono ?_
      rintro e w9 ⟨rfl, ⟨md9, hd9⟩, hc9⟩
      have HD9 := Lib.hid hd9
      have HC9 := Lib.hid (show Chg [p, gL, gN, gW] w w9 from HC8.out.then_ hc9 (fun i hi hw => by
        have h1 := HGU.out
        have h2 := HG.out
        simp only [List.mem_cons, List.not_mem_nil, or_false] at hi ⊢
        rcases hi with h | h | h
        · simp [h]
        · simp [h]
        · rcases h1 with h1 | h1
          · simp [h, h1]
          · omega))
      clear hd9 hc9
      go_wp2_with fail
      refine (rfflush HD9.out).mono ?_
      rintro e w10 ⟨rfl, ⟨gX, md10, hd10, hgx⟩, hc10⟩
      have HP := Lib.hid (show RFmtPost w p gL gN gW rL rN s (l : Int) (q : Int) (.returned (.int .i64 0)) w10 from .inl ⟨HRT.out, rfl, ⟨gX, md10, by
        have h1 := HLQ.out
        rw [← h1.1, ← h1.2]
        exact hd10, by
        have h1 := HGU.out
        have h2 := HG.out
        have h3 := HC9.out.size
        rcases hgx with h | h
        · rcases h1 with h1 | h1
          · exact .inl (h.trans h1)
          · exact .inr (by omega)
        · exact .inr (by omega)⟩, HC9.out.trans (hc10.sub (by simp))⟩)
      clear hd10 hgx hc10
      go_wp2_with fail
      go_ret
      exact HP.out
end
end Go.Proofs.YtddjgncdjdjgeaaGreat
namespace Go.Proofs.YtddjgncdjdjgeaaGreat
open Go.RowKit
theorem Fr.zeroS {B : Nat} {w : World} {g n : Nat} {us : List Value} {P : List (List UInt8)} {k : Nat} (h : Fr B w g n us P k) : Fr 0 w g n us P k := ⟨h.len, h.lenP, h.row, fun j hj r hr => by obtain ⟨x, h1, h2, _⟩ := h.at_ j hj r hr; exact ⟨x, h1, h2, Nat.zero_le _⟩⟩
def allS (P : Nat) (ps : List (List UInt8)) : Fact := fun v W => ∃ g us, v = .slice (some ⟨g, 0, none⟩) P P ∧ Fr 0 W g P us ps P
theorem keeps_allS (P : Nat) (ps : List (List UInt8)) : Keeps (Chg []) (allS P ps) := fun _ _ _ ⟨g, us, e, h⟩ hc => ⟨g, us, e, h.keep hc⟩
def ptrS (P : Nat) (ps : List (List UInt8)) (j : Nat) : Fact := fun v W => ∃ g us, v = .pointer (some ⟨g, j, none⟩) ∧ Fr 0 W g P us ps P
theorem keeps_ptrS (P : Nat) (ps : List (List UInt8)) (j : Nat) : Keeps (Chg []) (ptrS P ps j) := fun _ _ _ ⟨g, us, e, h⟩ hc => ⟨g, us, e, h.keep hc⟩
def bsS (l : List UInt8) : Fact := fun v W => ∃ A n c, v = .slice A n c ∧ Bs W A n c l
theorem keeps_bsS (l : List UInt8) : Keeps (Chg []) (bsS l) := fun _ _ _ ⟨A, n, c, e, h⟩ hc => ⟨A, n, c, e, h.keep hc⟩
theorem leaves_of {P : Program} {R : World → World → Prop} {φ : Fact} {W : World} {r : Result Next} {v : Value} (h : r = .ok (.value v) W) (hr : R W W) (hφ : φ v W) : Leaves P R φ W r := by
  rw [h]; exact ⟨hr, hφ⟩
section
variable {w : World} {k : SK} {kr : RK} {gW : Nat} {rL rN : List Value} {m : Int} {s : St} {x : SV} {v : Value} {us rP : List Value}
set_option maxHeartbeats 8000000 in
set_option maxRecDepth 100000 in
theorem sameS_any (h : Sto w k s x v) (r : RSto w kr gW rL rN ⟨s, -1, m⟩ x us rP) :
    Calls Tryz.prog 23 #[.pointer (some ⟨k.p, 0, none⟩), .pointer (some ⟨kr.q, 0, none⟩), .pointer (some ⟨k.g, 0, none⟩), .pointer (some ⟨kr.g, 0, none⟩)] w (LawPost w) := by
  have H := Lib.hid h
  have R := Lib.hid r
  have hP64 : x.P ≤ 64 := by have := rightR_true.1 h.rt; omega
  obtain ⟨gr, hgr⟩ : ∃ g, g = kr.g := ⟨_, rfl⟩
  obtain ⟨gP, hgP⟩ : ∃ g, g = kr.gP := ⟨_, rfl⟩
  have hrec := r.rec_
  have hpgw := r.pg
  rw [← hgr, ← hgP] at hrec
  rw [← hgP] at hpgw
  have HREC := Lib.hid hrec
  have HPG := Lib.hid hpgw
  rw [← hgr]
  obtain ⟨t, ht⟩ : ∃ t, t = x.P := ⟨_, rfl⟩
  have HT := Lib.hid ht
  clear h r hrec hpgw hgr hgP
  go_enter Tryz.func23, Tryz.ntmps23
  go_wp2_with fail
  have hC0 := (Chg.refl [] w).drew
  refine wp_flow (by kernel_rfl) plainT plainT_ok (by kernel_rfl) ?_
  refine flow_move_out plainT_ok rfl rfl rfl ?_
  refine flow_move_out plainT_ok rfl rfl rfl ?_
  refine flow_callv (.bool true) (by kernel_rfl) rfl (.cons (.inn rfl) (.cons (.inn rfl) .nil)) (fun W hW => (alikeS_yes (Dsk.keep H.out.dsk (hC0.new hW)) (Rfx.keep R.out.dsk (hC0.new hW))).mono ?_) ?_
  · rintro e w' ⟨rfl, hc⟩; exact ⟨rfl, hc⟩
  refine flow1 (r := .bool false) plainT_ok rfl (.inn rfl) rfl (fun ev W he e1 => by go_simp) ?_
  refine flow_move plainT_ok rfl (keeps_isV _) (.inr (keeps_isV _)) rfl ?_
  refine flow_move_out plainT_ok rfl rfl rfl ?_
  refine flow_callv (rootV x.L x.P x.E) (by kernel_rfl) rfl (.cons (.inn rfl) .nil) (fun W hW => (sroot_any (H.out.keep (hC0.new hW))).mono ?_) ?_
  · rintro e w' ⟨rfl, hc⟩; exact ⟨rfl, hc⟩
  refine flow_move_out plainT_ok rfl rfl rfl ?_
  refine flow1 (r := .pointer (some ⟨gr, 0, none⟩)) plainT_ok rfl (.inn rfl) rfl (fun ev W he e1 => by go_simp) ?_
  refine flow1 (r := .pointer (some ⟨gr, 1, none⟩)) plainT_ok rfl (.inn rfl) rfl (fun ev W he e1 => by go_simp) ?_
  refine flow1h (r := rootV x.L x.P x.E) plainT_ok rfl (.inn rfl) rfl (fun ev W he hW e1 => by have hx := HREC.out.keep (hC0.new hW); have r0 := hx.cell 1; have r1 := hx.cell 2; have r2 := hx.cell 3; clear hW hx; unfold rootV; go_simp) ?_
  refine flow2 (r := .bool false) plainT_ok rfl (.inn rfl) (.inn rfl) rfl (fun ev W he e1 e2 => by unfold rootV at e1 e2; go_simp) ?_
  refine flow_or_false plainT_ok rfl rfl rfl ?_
  refine flow_move plainT_ok rfl (keeps_isV _) (.inr (keeps_isV _)) rfl ?_
  refine flow_move_out plainT_ok rfl rfl rfl ?_
  refine flow_callv (.int .i64 (x.used : Int)) (by kernel_rfl) rfl (.cons (.inn rfl) .nil) (fun W hW => (used_any (H.out.keep (hC0.new hW))).mono ?_) ?_
  · rintro e w' ⟨rfl, hc⟩; exact ⟨rfl, hc⟩
  refine flow_move_out plainT_ok rfl rfl rfl ?_
  refine flow1 (r := .pointer (some ⟨gr, 0, none⟩)) plainT_ok rfl (.inn rfl) rfl (fun ev W he e1 => by go_simp) ?_
  refine flow1 (r := .pointer (some ⟨gr, 6, none⟩)) plainT_ok rfl (.inn rfl) rfl (fun ev W he e1 => by go_simp) ?_
  refine flow1h (r := .int .i64 (x.used : Int)) plainT_ok rfl (.inn rfl) rfl (fun ev W he hW e1 => by have r0 := (HREC.out.keep (hC0.new hW)).cell 6; clear hW; go_simp) ?_
  refine flow2 (r := .bool false) plainT_ok rfl (.inn rfl) (.inn rfl) rfl (fun ev W he e1 e2 => by go_simp) ?_
  refine flow_or_false plainT_ok rfl rfl rfl ?_
  refine flow_move plainT_ok rfl (keeps_isV _) (.inr (keeps_isV _)) rfl ?_
  refine flow_move_out plainT_ok rfl rfl rfl ?_
  refine flow_callv (.int .u32 (x.seq : Int)) (by kernel_rfl) rfl (.cons (.inn rfl) .nil) (fun W hW => (seq_any (H.out.keep (hC0.new hW))).mono ?_) ?_
  · rintro e w' ⟨rfl, hc⟩; exact ⟨rfl, hc⟩
  refine flow_move_out plainT_ok rfl rfl rfl ?_
  refine flow1 (r := .pointer (some ⟨gr, 0, none⟩)) plainT_ok rfl (.inn rfl) rfl (fun ev W he e1 => by go_simp) ?_
  refine flow1 (r := .pointer (some ⟨gr, 7, none⟩)) plainT_ok rfl (.inn rfl) rfl (fun ev W he e1 => by go_simp) ?_
  refine flow1h (r := .int .u32 (x.seq : Int)) plainT_ok rfl (.inn rfl) rfl (fun ev W he hW e1 => by have r0 := (HREC.out.keep (hC0.new hW)).cell 7; clear hW; go_simp) ?_
  refine flow2 (r := .bool false) plainT_ok rfl (.inn rfl) (.inn rfl) rfl (fun ev W he e1 e2 => by go_simp) ?_
  refine flow_or_false plainT_ok rfl rfl rfl ?_
  refine flow_move plainT_ok rfl (keeps_isV _) (.inr (keeps_isV _)) rfl ?_
  refine flow_move_out plainT_ok rfl rfl rfl ?_
  refine flow_calld (allS x.P x.pages) (keeps_allS _ _) (.inr (keeps_allS _ _)) (by kernel_rfl) rfl (.cons (.inn rfl) .nil) (fun W hW => (sall_any (H.out.keep (hC0.new hW))).mono ?_) ?_
  · rintro e w' ⟨g, us, rfl, hfr, _, hc⟩
    exact ⟨_, rfl, hc, g, us, rfl, hfr.zeroS⟩
  refine flow_op (isV (.int .i64 (x.P : Int))) (keeps_isV _) (.inr (keeps_isV _)) rfl (fun ev W he hW hfs => ?_) ?_
  · obtain ⟨f1, _⟩ := hfs
    have f1' : allS x.P x.pages (ev (.tmp 43)) W := f1
    obtain ⟨g, us, e1, _⟩ := f1'
    exact leaves_of (v := .int .i64 (x.P : Int)) (by go_simp) (plainT_ok.by_refl _ W) rfl
  refine flow_move_out plainT_ok rfl rfl rfl ?_
  refine flow1 (r := .pointer (some ⟨gr, 0, none⟩)) plainT_ok rfl (.inn rfl) rfl (fun ev W he e1 => by go_simp) ?_
  refine flow1 (r := .pointer (some ⟨gr, 4, none⟩)) plainT_ok rfl (.inn rfl) rfl (fun ev W he e1 => by go_simp) ?_
  refine flow1h (r := .slice (some ⟨gP, 0, none⟩) x.P (x.P + rP.length)) plainT_ok rfl (.inn rfl) rfl (fun ev W he hW e1 => by have r0 := (HREC.out.keep (hC0.new hW)).cell 4; clear hW; go_simp) ?_
  refine flow_lend plainT_ok (.inn rfl) (fun ev W he e1 => by go_simp) rfl ?_
  refine flow2 (r := .bool false) plainT_ok rfl (.inn rfl) (.inn rfl) rfl (fun ev W he e1 e2 => by go_simp) ?_
  refine flow_or_false plainT_ok rfl rfl rfl ?_
  intro vs W hW hF
  have e51 : vs 51 = .bool false := hF 51 _ rfl rfl
  have HCW := Lib.hid (hC0.new hW)
  simp only [putAll, Act.put, List.setIfInBounds_toArray, List.set_cons_zero, List.set_cons_succ, e51]
  clear hW hF hC0 e51
  obtain ⟨w1, hw1⟩ : ∃ w1 : World, w1 = W := ⟨_, rfl⟩
  rw [← hw1] at HCW ⊢
  clear hw1
  have HREC1 := Lib.hid (HREC.out.keep HCW.out)
  have k4 := HREC1.out.cell 4
  rw [← HT.out] at hP64 k4
  have HST := Lib.hid (H.out.keep HCW.out)
  have HRS := Lib.hid (R.out.keep HCW.out)
  have HPG1 := Lib.hid (HPG.out.keep HCW.out)
  clear H R HREC HPG
  go_wp2_with fail
  go_loopw [57, 9] (fun i _ wr => (∃ j : Nat, j ≤ t ∧ i = .int .i64 (j : Int)) ∧ Hid (Chg [] w1 wr)) (fun i _ _ => t - (intOf i).toNat)
  case atStart => exact ⟨⟨0, Nat.zero_le _, rfl⟩, Lib.hid (Chg.refl _ _)⟩
  case round =>
    obtain ⟨⟨j, hj, rfl⟩, HCr⟩ := hrel
    by_cases hlt : j < t
    · have hjI : (j : Int) < (t : Int) := by omega
      have hj0 : (0 : Int) ≤ (j : Int) := by omega
      have hjP : j < x.pages.length := by rw [HST.out.pl, ← HT.out]; exact hlt
      have hju : j < us.length := by rw [HRS.out.ul, ← HT.out]; exact hlt
      obtain ⟨A9, n9, c9, hu9, hB9, _⟩ := HRS.out.els.2 j us[j] x.pages[j] (List.getElem?_eq_getElem hju) (List.getElem?_eq_getElem hjP)
      have hcl := (HPG1.out.keep HCr.out).cell j
      rw [List.getElem?_append_left hju, List.getElem?_eq_getElem hju, hu9] at hcl
      have hgd : x.pages.getD j [] = x.pages[j] := by rw [List.getD_eq_getElem?_getD, List.getElem?_eq_getElem hjP]; rfl
      have HGD := Lib.hid hgd
      have HGX := Lib.hid (List.getElem?_eq_getElem hjP)
      have hl64 : x.pages[j].length = 64 := HST.out.p64 _ (List.getElem_mem hjP)
      generalize x.pages[j] = l at HGD HGX hB9 hl64
      have HB9 := Lib.hid (hB9.keep HCr.out)
      have HC0 := Lib.hid ((Chg.refl [] wr).drew)
      have HSr := Lib.hid (HST.out.keep HCr.out)
      have HRr := Lib.hid (HREC1.out.keep HCr.out)
      clear hB9 hu9 hjP hju hgd
      go_wp2_with fail
      refine wp_flow (by kernel_rfl) plainT plainT_ok (by kernel_rfl) ?_
      refine flow_move_out plainT_ok rfl rfl rfl ?_
      refine flow_move_out plainT_ok rfl rfl rfl ?_
      refine flow_calld (ownF wr.drew.heap.size 5 (bts l)) (keeps_own _ _ _) (.inr (keeps_own _ _ _)) (by kernel_rfl) rfl (.cons (.inn rfl) (.cons (.inn rfl) .nil)) (fun W hW => (spage_any (HSr.out.keep (HC0.out.new hW)) j (by rw [← HT.out]; exact hlt)).mono ?_) ?_
      · rintro e w' ⟨v, rfl, ho, hc⟩
        rw [HGD.out] at ho
        exact ⟨_, rfl, hc, by rw [ownF, bts_len]; exact own_more ho (Chg.size hW)⟩
      refine flow_str plainT_ok rfl Tryz.underlying30 Tryz.underlying5 Tryz.underlying9 rfl ?_
      refine flow_move_out plainT_ok rfl rfl rfl ?_
      refine flow1 (r := .pointer (some ⟨gr, 0, none⟩)) plainT_ok rfl (.inn rfl) rfl (fun ev W he e1 => by go_simp) ?_
      refine flow1 (r := .pointer (some ⟨gr, 4, none⟩)) plainT_ok rfl (.inn rfl) rfl (fun ev W he e1 => by go_simp) ?_
      refine flow1h (r := .slice (some ⟨gP, 0, none⟩) t (t + rP.length)) plainT_ok rfl (.inn rfl) rfl (fun ev W he hW e1 => by have r0 := (HRr.out.keep (HC0.out.new hW)).cell 4; rw [← HT.out] at r0; clear hW; go_simp) ?_
      refine flow_move_out plainT_ok rfl rfl rfl ?_
      refine flow2 (r := .pointer (some ⟨gP, j, none⟩)) plainT_ok rfl (.inn rfl) (.inn rfl) rfl (fun ev W he e1 e2 => by go_simp) ?_
      refine flow1h (r := .slice A9 n9 c9) plainT_ok rfl (.inn rfl) rfl (fun ev W he hW e1 => by have c0 := cell_keep hcl (HC0.out.new hW); clear hW; go_simp) ?_
      refine flow_strd plainT_ok (.inn rfl) (fun W hW => HB9.out.keep (HC0.out.new hW)) Tryz.underlying30 Tryz.underlying5 Tryz.underlying9 rfl ?_
      refine flow2 (r := .bool false) plainT_ok rfl (.inn rfl) (.inn rfl) rfl (fun ev W he e1 e2 => by go_simp) ?_
      refine flow_move plainT_ok rfl (keeps_isV _) (.inr (keeps_isV _)) rfl ?_
      refine flow_move_out plainT_ok rfl rfl rfl ?_
      refine flow_calld (allS t x.pages) (keeps_allS _ _) (.inr (keeps_allS _ _)) (by kernel_rfl) rfl (.cons (.inn rfl) .nil) (fun W hW => (sall_any (HSr.out.keep (HC0.out.new hW))).mono ?_) ?_
      · rintro e w' ⟨g, us, rfl, hfr, _, hc⟩
        rw [HT.out]
        exact ⟨_, rfl, hc, g, us, rfl, hfr.zeroS⟩
      refine flow_move_out plainT_ok rfl rfl rfl ?_
      refine flow_op (ptrS t x.pages j) (keeps_ptrS _ _ _) (.inr (keeps_ptrS _ _ _)) rfl (fun ev W he hW hfs => ?_) ?_
      · obtain ⟨f1, f2, _⟩ := hfs
        have f1' : allS t x.pages (ev (.tmp 75)) W := f1
        have e2 : ev (.tmp 76) = .int .i64 (j : Int) := f2
        obtain ⟨g, us, e1, hfr⟩ := f1'
        exact leaves_of (v := .pointer (some ⟨g, j, none⟩)) (by clear hfr hW; go_simp) (plainT_ok.by_refl _ W) ⟨g, us, rfl, hfr⟩
      refine flow_op (bsS l) (keeps_bsS _) (.inr (keeps_bsS _)) rfl (fun ev W he hW hfs => ?_) ?_
      · obtain ⟨f1, _⟩ := hfs
        have f1' : ptrS t x.pages j (ev (.tmp 77)) W := f1
        obtain ⟨g, us, e1, hfr⟩ := f1'
        obtain ⟨x5, hx5, hW5, _⟩ := hfr.at_ j hlt l HGX.out
        have c0 := hfr.row.cell j
        rw [hx5] at c0
        exact leaves_of (v := .slice (some ⟨x5, 0, none⟩) l.length l.length) (by clear hfr hW hW5; go_simp) (plainT_ok.by_refl _ W) ⟨_, _, _, rfl, Bs.of_all hW5 (by omega)⟩
      refine flow_op (isV (.string (strOf l))) (keeps_isV _) (.inr (keeps_isV _)) rfl (fun ev W he hW hfs => ?_) ?_
      · obtain ⟨f1, _⟩ := hfs
        have f1' : bsS l (ev (.tmp 78)) W := f1
        obtain ⟨A5, n5, c5, e1, hB5⟩ := f1'
        have hr := hB5.str (P := Tryz.prog) 30 5 9 Tryz.underlying30 Tryz.underlying5 Tryz.underlying9
        simp only [execOp, e1, Sem.run_bind, hr, Result.andThen_ok, Sem.run_pure]
        exact ⟨plainT_ok.by_refl _ W, rfl⟩
      refine flow_move_out plainT_ok rfl rfl rfl ?_
      refine flow1 (r := .pointer (some ⟨gr, 0, none⟩)) plainT_ok rfl (.inn rfl) rfl (fun ev W he e1 => by go_simp) ?_
      refine flow1 (r := .pointer (some ⟨gr, 4, none⟩)) plainT_ok rfl (.inn rfl) rfl (fun ev W he e1 => by go_simp) ?_
      refine flow1h (r := .slice (some ⟨gP, 0, none⟩) t (t + rP.length)) plainT_ok rfl (.inn rfl) rfl (fun ev W he hW e1 => by have r0 := (HRr.out.keep (HC0.out.new hW)).cell 4; rw [← HT.out] at r0; clear hW; go_simp) ?_
      refine flow_move_out plainT_ok rfl rfl rfl ?_
      refine flow2 (r := .pointer (some ⟨gP, j, none⟩)) plainT_ok rfl (.inn rfl) (.inn rfl) rfl (fun ev W he e1 e2 => by go_simp) ?_
      refine flow1h (r := .slice A9 n9 c9) plainT_ok rfl (.inn rfl) rfl (fun ev W he hW e1 => by have c0 := cell_keep hcl (HC0.out.new hW); clear hW; go_simp) ?_
      refine flow_strd plainT_ok (.inn rfl) (fun W hW => HB9.out.keep (HC0.out.new hW)) Tryz.underlying30 Tryz.underlying5 Tryz.underlying9 rfl ?_
      refine flow2 (r := .bool false) plainT_ok rfl (.inn rfl) (.inn rfl) rfl (fun ev W he e1 e2 => by go_simp) ?_
      refine flow_or_false plainT_ok rfl rfl rfl ?_
      intro vs W2 hW2 hF
      have e89 : vs 89 = .bool false := hF 89 _ rfl rfl
      have HCW2 := Lib.hid (HCr.out.new (HC0.out.new hW2))
      simp only [putAll, Act.put, List.setIfInBounds_toArray, List.set_cons_zero, List.set_cons_succ, e89]
      clear hW2 hF hcl
      go_wp2_with fail
      go_roundw
      case rel => exact ⟨⟨j + 1, by omega, by go_num⟩, HCW2⟩
      case measure => simp [intOf]; omega
    · obtain rfl : j = t := by omega
      have hjI : ¬ (j : Int) < (j : Int) := by omega
      go_wp2_with fail
      go_ret
      exact ⟨rfl, HCW.out.new HCr.out⟩
end
end Go.Proofs.YtddjgncdjdjgeaaGreat
