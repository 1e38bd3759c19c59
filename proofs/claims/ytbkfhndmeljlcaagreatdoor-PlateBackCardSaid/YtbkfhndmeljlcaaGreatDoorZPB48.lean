/-
  PB: LawPlB.
-/
import Derived.Test.YtbkfhndmeljlcaaGreatDoorZPB4
import Derived.Test.YtbkfhndmeljlcaaGreatDoorZPB5
import Derived.Test.YtbkfhndmeljlcaaGreatDoorZPB42
import Derived.Test.YtbkfhndmeljlcaaGreatDoorZPB44
import Derived.Test.YtbkfhndmeljlcaaGreatDoorZPB47
namespace Go.Proofs.YtbkfhndmeljlcaaGreatDoor
open Go.RowKit
def bsF (l : List UInt8) : Fact := fun v W => ∃ A c, v = .slice A l.length c ∧ Bs W A l.length c l
theorem keeps_bs (l : List UInt8) : Keeps (Chg []) (bsF l) := fun _ _ _ ⟨A, c, e, h⟩ hc => ⟨A, c, e, h.keep hc⟩
section
variable {T : Turns} {w0 : World} {a0 : Act} {ops : List Oper} {Q : Exit → Act → World → Prop} {F : Said} {k : Nat} {rest : List Oper} {d : Option Tmp} {ty : TypeId} {pos : String} {af : Array Go.Edge} {g : Option (Nat × Bool)}
set_option maxRecDepth 100000 in
theorem flow_bstr {t : Tmp} {l : List UInt8} (hT : T.Ok) (hs : look F t = some (bsF l))
    (hg : guardIs ops F true ⟨d, .convert 33 9 (.tmp t), ty, pos, af, g⟩) (h : Flow Tryz.prog T w0 a0 ops Q ((d, isV (.string (strOf l))) :: F) (k + 1) rest) :
    Flow Tryz.prog T w0 a0 ops Q F k (⟨d, .convert 33 9 (.tmp t), ty, pos, af, g⟩ :: rest) := by
  refine flow_op _ (keeps_isV _) (.inr (keeps_isV _)) hg (fun ev W he hW hf => ?_) h
  have hf1 : factOf a0 F (.tmp t) (ev (.tmp t)) W := hf.1
  simp only [factOf, hs] at hf1
  obtain ⟨A, c, e1, hb⟩ := hf1
  have q := hb.str (P := Tryz.prog) 33 5 9 Tryz.underlying33 Tryz.underlying5 Tryz.underlying9
  have : (execOp ev ⟨d, .convert 33 9 (.tmp t), ty, pos, af, g⟩).run Tryz.prog W = .ok (.value (.string (strOf l))) W := by
    generalize strOf l = S at q
    generalize l.length = n at q e1
    go_simp
  rw [this]
  exact ⟨hT.by_refl k W, rfl⟩
end
/-- A page that lies elsewhere than its row. -/
def PgAt (W : World) (gp : Nat) (y : Value) (z : List UInt8) : Prop := ∃ B d, y = .slice B 64 d ∧ Bs W B 64 d z ∧ (∀ ad, B = some ad → ad.block ≠ gp)
theorem PgAt.keep {W W' : World} {gp : Nat} {y : Value} {z : List UInt8} (h : PgAt W gp y z) (hc : Chg [] W W') : PgAt W' gp y z := by
  obtain ⟨B, d, e, h1, h2⟩ := h; exact ⟨B, d, e, h1.keep hc, h2⟩
theorem PgAt.cell_ {W : World} {gp i : Nat} {u y : Value} {z : List UInt8} (h : PgAt W gp y z) : PgAt (W.setCell ⟨gp, i, none⟩ u) gp y z := by
  obtain ⟨B, d, e, h1, h2⟩ := h
  have hc : Chg [gp] W (W.setCell ⟨gp, i, none⟩ u) := ⟨rfl, rfl, rfl, by rw [size_set]; exact Nat.le_refl _, fun k _ hk => Below.heap_setCell W ⟨gp, i, none⟩ u k (by simpa using hk)⟩
  exact ⟨B, d, e, ⟨h1.len, src_away h1.src hc h2, h1.cap, h1.max, h1.spot⟩, h2⟩
theorem make_rows (P : Nat) (hP : P ≤ 1000) (W : World) : ∃ ys : List Value, ys.length = P ∧ (Instr.makeSlice 30 (.int .i64 (P : Int)) (.int .i64 (P : Int))).run Tryz.prog W = .ok (.slice (some ⟨W.heap.size, 0, none⟩) P P) (W.alloc (.cells ys.toArray 33)) := by
  have hinf : (Tryz.prog.info? 33).map (fun i => (i.zero, i.size, i.bytes)) = some (some (.slice none 0 0), 1, 24) := by kernel_rfl
  obtain ⟨i, hi, hz, hs, hb⟩ := info_parts hinf
  have h := run_make (P := Tryz.prog) W 30 33 i _ Tryz.underlying30 hi hz .i64 .i64 (P : Int) (P : Int) (by omega) (by omega) (by rw [hb]; omega) (by omega)
  rw [hs] at h
  refine ⟨(madeCells (Value.slice none 0 0).cells (P * 1)).toList, by rw [Array.length_toList, size_madeCells]; omega, ?_⟩
  rw [Array.toArray_toList]
  simpa only [Int.toNat_natCast] using h
section
variable {w : World} {A : Option Addr} {n c : Nat}
set_option maxHeartbeats 16000000 in
set_option maxRecDepth 100000 in
theorem plateBack_any (HUN : Hid (Calls Tryz.prog 10 #[.slice A n c] w (UnitPost w))) (mo : Int) (hmo : -9223372036854775808 ≤ mo ∧ mo ≤ 9223372036854775807) (hP : PowB w.heap.size w) : Calls Tryz.prog 5 #[.slice A n c, .int .i64 mo] w (BoolPost true w) := by
  have HP := Lib.hid hP
  have HKN := Lib.hid (fun (W : World) (h : PowB W.heap.size W) => pl_known h)
  have HWI := Lib.hid (fun (W : World) => within_any (w := W) mo 0 3 (by omega) (by omega) (by omega) hmo.1 hmo.2)
  unfold BoolPost at HKN ⊢
  clear hP hmo
  go_enter Tryz.func5, Tryz.ntmps5
  go_upto_region 2 with (go_at_call 10
                         refine HUN.out.mono ?_
                         rintro e w1 ⟨pg, ms, v, fl, rfl, hp0, hp1, hm0, hm1, ho, hg, hfl0, hc1⟩
                         obtain ⟨FA, fc, rfl, hFr⟩ := Fnr.of_own ho (by have := hg.lo; omega) (fun f hf => by have := hg.args f hf; omega)
                         have HGT := Lib.hid (good_text hg (pg := pg) (ms := ms) hp0 (by omega) (by omega))
                         have HSM := Lib.hid (show ∀ f ∈ fl, f.code.size ≤ 9223372036854775807 from fun f hf => by have := hg.size f hf; omega)
                         have HFR := Lib.hid hFr
                         have HLO := Lib.hid hg.lo
                         have HC1 := Lib.hid hc1
                         clear ho hg hFr hc1 hfl0)
  obtain ⟨p, rfl⟩ : ∃ p : Nat, pg = (p : Int) := ⟨pg.toNat, by omega⟩
  obtain ⟨m, rfl⟩ : ∃ m : Nat, ms = (m : Int) := ⟨ms.toNat, by omega⟩
  obtain ⟨fn, hfn⟩ : ∃ fn, fn = fl.length := ⟨_, rfl⟩
  have HFN := Lib.hid hfn
  rw [← hfn] at HFR ⊢
  clear hfn
  have hp2 : p ≤ 2 := by omega
  have hm5 : m ≤ 5 := by omega
  have hpm : p ≤ m := by omega
  clear hp0 hp1 hm0 hm1
  have HTX := Lib.hid (TxOk.of_fnr (pg := (p : Int)) (ms := (m : Int)) HFR.out HSM.out)
  rw [HGT.out.1] at HTX
  simp only at HTX
  have hTl := HGT.out.2.1
  have HPB := Lib.hid (parse_back HGT.out.2.2 (by omega))
  obtain ⟨T, hT⟩ : ∃ T, T = utx (p : Int) (m : Int) fl := ⟨_, rfl⟩
  rw [← hT] at HTX hTl HPB
  clear hT HGT HUN
  have hN := Whole.new w1 24 [.int .i64 (p : Int), .int .i64 (m : Int), .slice FA fn fc]
  have hal := (Chg.refl [] w1).alloc (.cells #[.int .i64 (p : Int), .int .i64 (m : Int), .slice FA fn fc] 24)
  have HU2 := Lib.hid hN
  have HX2 := Lib.hid (HTX.out.keep hal)
  have HF2 := Lib.hid (HFR.out.keep hal)
  have HC2 := Lib.hid (HC1.out.trans hal)
  clear hN hal HTX HC1 HFR
  generalize w1.heap.size = gu at HU2 ⊢
  generalize w1.alloc (.cells #[.int .i64 (p : Int), .int .i64 (m : Int), .slice FA fn fc] 24) = w2 at HU2 HX2 HF2 HC2 ⊢
  have HPU := Lib.hid (fun (W : World) (pages : Int) (hc : Chg [] w2 W) (hp : PowB W.heap.size W) => plput_any (HX2.out.keep hc) (by omega) (fun _ => by omega) pages hp)
  have HND := Lib.hid (plneed_any HX2.out (by omega) (fun _ => by omega) (HP.out.here HC2.out))
  obtain ⟨h, hh⟩ : ∃ h, h = holdN T.length := ⟨_, rfl⟩
  have hh29 : h ≤ 29 := by rw [hh]; unfold holdN; omega
  rw [show needZ T 0 (m : Int) = 1 + (h : Int) + (m : Int) from by unfold needZ; rw [if_pos rfl, hh]] at HND
  have HHE := Lib.hid hh
  clear hh
  have u0 := HU2.out.cell 0
  have u1 := HU2.out.cell 1
  have u2 := HU2.out.cell 2
  go_upto_region 4 with (first
    | (go_at_call 19
       refine HND.out.mono ?_
       rintro e w3 ⟨rfl, hc3⟩
       have HK3 := Lib.hid hc3
       have v0 := (HU2.out.keep hc3).cell 0
       have v1 := (HU2.out.keep hc3).cell 1
       have v2 := (HU2.out.keep hc3).cell 2
       clear hc3)
    | (go_at_call 18
       refine (HWI.out _).mono ?_
       rintro e wq ⟨r, hr, rfl, rfl⟩
       have hr0 : 0 ≤ r := hr.1
       have hr3 : r ≤ 3 := hr.2.1
       clear hr))
  obtain ⟨P, hPe⟩ : ∃ P : Nat, (P : Int) = 1 + (h : Int) + (m : Int) + r := ⟨(1 + (h : Int) + (m : Int) + r).toNat, by omega⟩
  have hP38 : P ≤ 40 := by omega
  have hPm : 1 + h + m ≤ P := by omega
  rw [show 1 + (h : Int) + (m : Int) + r = (P : Int) from hPe.symm]
  clear u0 u1 u2 v0 v1 v2 hPe hr0 hr3
  have HP64 := Lib.hid (fun (W : World) (hc : Chg [] w2 W) (hp : PowB W.heap.size W) => HPU.out W (P : Int) hc hp)
  rw [rPut_ok (T := T) (p := p) (m := m) (pages := (P : Int)) (by rw [← HHE.out]; omega) (by omega)] at HP64
  unfold PtPost at HP64
  simp only at HP64
  have HU3 := Lib.hid (HU2.out.keep HK3.out)
  have u0 := HU3.out.cell 0
  have u1 := HU3.out.cell 1
  have u2 := HU3.out.cell 2
  have HBP := Lib.hid (fun (W : World) (h : Chg [] w2 W) => (HP.out.here (HC2.out.trans h)))
  go_upto_region 7 with (go_at_call 20
                         refine (HP64.out _ HK3.out (HBP.out _ HK3.out)).mono ?_
                         rintro e w4 ⟨v4, ls, rfl, ho4, hr4, hs4, hc4⟩
                         have HK4 := Lib.hid (HK3.out.trans hc4)
                         have HO4 := Lib.hid ho4
                         have HS4 := Lib.hid hs4
                         have HR4 := Lib.hid hr4
                         clear ho4 hs4 hc4 hr4)
  clear u0 u1 u2
  obtain ⟨LA, lc, rfl, hll, hch, _, hlcap, _⟩ := chs_own' HO4.out (fun a ha => (HR4.out a ha).ok)
  have hlen : ls.length = 1 + h + p := by rw [HS4.out.len, plCs_len, ← HHE.out]
  have HLN := Lib.hid hlen
  rw [hlen] at hlcap ⊢
  have HCH := Lib.hid hch
  clear hch hll
  obtain ⟨q, hq⟩ : ∃ q, q = 1 + h + p := ⟨_, rfl⟩
  rw [← hq] at hlcap ⊢
  have HQ := Lib.hid hq
  have hqP : q ≤ P := by omega
  clear hq hlen
  have HCA := Lib.hid (fun (i : Nat) (hi : i < q) => plCs_at T p i (by rw [← HHE.out, ← HQ.out]; exact hi))
  have HPGE := Lib.hid (show ∀ (k : Nat) (a : ChV), ls[k]? = some a → a.page = (k : Int) ∧ a.bn = 64 ∧ ∃ b, (plCs T p)[k]? = some (k, b) ∧ a.B = b from fun k a ha => by
    have hk : k < q := by rw [HQ.out, ← HLN.out]; exact (List.getElem?_eq_some_iff.1 ha).1
    obtain ⟨b, hb, _⟩ := HCA.out k hk
    exact ⟨(HS4.out.at ha hb).1, (HR4.out a (List.mem_of_getElem? ha)).bn, b, hb, (HS4.out.at ha hb).2⟩)
  -- the row of pages
  obtain ⟨ys0, hys0, hmk⟩ := make_rows P (by omega) w4
  have hN := Whole.new w4 33 ys0
  have hal := (Chg.refl [] w4).alloc (.cells ys0.toArray 33)
  obtain ⟨gp, hgp⟩ : ∃ gp, gp = w4.heap.size := ⟨_, rfl⟩
  have HGP := Lib.hid hgp
  rw [← hgp] at hN hmk
  clear hgp
  obtain ⟨w5, hw5⟩ : ∃ w5, w5 = w4.alloc (.cells ys0.toArray 33) := ⟨_, rfl⟩
  rw [← hw5] at hN hal hmk
  have HRW := Lib.hid hN
  have HK5 := Lib.hid hal
  have HYL := Lib.hid hys0
  clear hN hal hw5 hys0
  go_wp2_with fail
  clear hmk
  go_loopw [43] (fun i wr => ∃ (k : Nat) (ys : List Value), i = .int .i64 (k : Int) ∧ k ≤ P ∧ Hid (ys.length = P) ∧ Hid (Whole wr gp 33 ys) ∧ Hid (∀ j : Nat, j < k → ∃ y : Value, ys[j]? = some y ∧ PgAt wr gp y (zeros 64)) ∧ Hid (Chg [] w4 wr)) (fun i _ => P - (intOf i).toNat)
  case atStart => exact ⟨0, ys0, rfl, by omega, HYL, HRW, Lib.hid (by omega), HK5⟩
  case round =>
    clear HYL HRW HK5
    obtain ⟨k, ys, rfl, hk, HYL, HRW, HPA, HKr⟩ := hrel
    have HGW := Lib.hid (show w4.heap.size ≤ gp ∧ gp < wr.heap.size from ⟨by rw [← HGP.out]; exact Nat.le_refl _, HRW.out.lt⟩)
    by_cases hkP : k < P
    · have hkI : (k : Int) < (P : Int) := by omega
      obtain ⟨y, hy⟩ : ∃ y, ys[k]? = some y := ⟨ys[k]'(by rw [HYL.out]; exact hkP), by simp⟩
      have hN := Whole.new wr 5 (bts (zeros 64))
      have hal := (Chg.refl [] wr).alloc (.cells (bts (zeros 64)).toArray 5)
      have hmk := make64z wr
      obtain ⟨g5, hg5⟩ : ∃ g5, g5 = wr.heap.size := ⟨_, rfl⟩
      have HG5 := Lib.hid hg5
      rw [← hg5] at hN hmk
      clear hg5
      obtain ⟨w6, hw6⟩ : ∃ w6, w6 = wr.alloc (.cells (bts (zeros 64)).toArray 5) := ⟨_, rfl⟩
      rw [← hw6] at hN hal hmk
      clear hw6
      have HR6 := Lib.hid (HRW.out.keep hal)
      have c0 := (HR6.out.cell k).trans hy
      have f0 := HR6.out.frozen k
      have HB6 := Lib.hid (show PgAt w6 gp (.slice (some ⟨g5, 0, none⟩) 64 64) (zeros 64) from ⟨_, 64, rfl, by
        have := Bs.of_all hN (by rw [zeros_len]; omega)
        rwa [zeros_len] at this, fun ad e => by injection e with e; subst e; have h1 := HGW.out.2; have h2 := HG5.out; simp only; omega⟩)
      have HK6 := Lib.hid (HKr.out.trans hal)
      have HAL6 := Lib.hid hal
      clear hN hal hy
      go_wp2_with fail
      clear hmk
      have HR7 := Lib.hid (HR6.out.set_ k (.slice (some ⟨g5, 0, none⟩) 64 64))
      have HK7 := Lib.hid (HK6.out.setCell (p := ⟨gp, k, none⟩) (fun hh => absurd hh (by have := HGW.out.1; simp only; omega)) (.slice (some ⟨g5, 0, none⟩) 64 64))
      go_roundw
      case rel =>
        refine ⟨k + 1, ys.set k (.slice (some ⟨g5, 0, none⟩) 64 64), by go_num, by omega, Lib.hid (by rw [List.length_set]; exact HYL.out), HR7, Lib.hid (fun j hj => ?_), HK7⟩
        rcases Nat.lt_or_ge j k with h1 | h1
        · obtain ⟨y, hy, hp⟩ := HPA.out j h1
          exact ⟨y, by rw [List.getElem?_set, if_neg (by omega)]; exact hy, (hp.keep HAL6.out).cell_⟩
        · obtain rfl : j = k := by omega
          exact ⟨_, by rw [List.getElem?_set, if_pos rfl, if_pos (by rw [HYL.out]; exact hkP)], HB6.out.cell_⟩
      case measure => simp [intOf]; omega
    · have hkI : ¬ (k : Int) < (P : Int) := by omega
      obtain rfl : P = k := by omega
      clear hkP hk
      go_wp2_with fail
      go_loopw [53] (fun i wr => ∃ (k : Nat) (ys : List Value), i = .int .i64 (k : Int) ∧ k ≤ q ∧ Hid (ys.length = P) ∧ Hid (Whole wr gp 33 ys) ∧ Hid (∀ (j : Nat) (z : List UInt8), (zsAt T p P k)[j]? = some z → ∃ y : Value, ys[j]? = some y ∧ PgAt wr gp y z) ∧ Hid (Chg [] w4 wr)) (fun i _ => q - (intOf i).toNat)
      case atStart => exact ⟨0, ys, rfl, by omega, HYL, HRW, Lib.hid (fun j z hz => by
        have h0 : zsAt T p P 0 = List.replicate P (zeros 64) := by unfold zsAt; simp
        rw [h0, List.getElem?_replicate] at hz
        split at hz
        · injection hz with hz
          subst hz
          exact HPA.out j (by assumption)
        · cases hz), HKr⟩
      case round =>
        clear HYL HRW HPA HKr HGW hkI
        obtain ⟨k, ys, rfl, hk, HYL, HRW, HPA, HKr⟩ := hrel
        have HGW := Lib.hid (show w4.heap.size ≤ gp ∧ gp < wr.heap.size from ⟨by rw [← HGP.out]; exact Nat.le_refl _, HRW.out.lt⟩)
        by_cases hkq : k < q
        · have hkI : (k : Int) < (q : Int) := by omega
          have hkPI : (k : Int) < (P : Int) := by omega
          have hkP : k < P := by omega
          obtain ⟨a, ha⟩ : ∃ a, ls[k]? = some a := ⟨ls[k]'(by rw [HLN.out, ← HQ.out]; exact hkq), by simp⟩
          obtain ⟨gc, co, rfl, _, hcc⟩ := (HCH.out.keep HKr.out).cells (by rw [HLN.out]; omega)
          obtain ⟨y0, y1⟩ := hcc k a ha
          obtain ⟨e0, e1, b, hb, e2⟩ := HPGE.out k a ha
          have HRM := Lib.hid ((HR4.out a (List.mem_of_getElem? ha)).chg HKr.out (by simp))
          obtain ⟨gB, rB, hbA, _, _, hbc, _⟩ := HRM.out.b
          have HOK := Lib.hid HRM.out.ok.bs
          rw [hbA, e1, e2] at HOK
          have HGB := Lib.hid (show gB < w4.heap.size from by
            obtain ⟨g', r', hbA', _, hW', _⟩ := (HR4.out a (List.mem_of_getElem? ha)).b
            rw [hbA] at hbA'
            injection hbA' with e
            injection e with e
            subst e
            exact hW'.lt)
          rw [e0] at y0
          rw [hbA, e1] at y1
          generalize a.bc = bc at HOK y1
          have hkc : k < lc := by omega
          obtain ⟨yk, hyk⟩ : ∃ y, ys[k]? = some y := ⟨ys[k]'(by rw [HYL.out]; exact hkP), by simp⟩
          clear hcc ha e0 e1 e2 hbA hbc HRM
          have HBE := Lib.hid hb
          clear hb
          go_upto_region 16 with fail
          have hN := Whole.new wr 44 [.int .i64 (k : Int), .slice (some ⟨gB, 0, none⟩) 64 bc]
          have hal := (Chg.refl [] wr).alloc (.cells #[.int .i64 (k : Int), .slice (some ⟨gB, 0, none⟩) 64 bc] 44)
          have HX6 := Lib.hid hN
          have HR6 := Lib.hid (HRW.out.keep hal)
          have HO6 := Lib.hid (HOK.out.keep hal)
          have HK6 := Lib.hid (HKr.out.trans hal)
          have HAL6 := Lib.hid hal
          clear hN hal y0 y1
          generalize wr.heap.size = gx at HX6 ⊢
          generalize wr.alloc (.cells #[.int .i64 (k : Int), .slice (some ⟨gB, 0, none⟩) 64 bc] 44) = w6 at HX6 HR6 HO6 HK6 HAL6 ⊢
          have x0 := HX6.out.cell 0
          have x1 := HX6.out.cell 1
          have c0 := (HR6.out.cell k).trans hyk
          have f0 := HR6.out.frozen k
          go_wp2_with fail
          have HR7 := Lib.hid (HR6.out.set_ k (.slice (some ⟨gB, 0, none⟩) 64 bc))
          have HK7 := Lib.hid (HK6.out.setCell (p := ⟨gp, k, none⟩) (fun hh => absurd hh (by have := HGW.out.1; simp only; omega)) (.slice (some ⟨gB, 0, none⟩) 64 bc))
          go_roundw
          case rel =>
            refine ⟨k + 1, ys.set k (.slice (some ⟨gB, 0, none⟩) 64 bc), by go_num, by omega, Lib.hid (by rw [List.length_set]; exact HYL.out), HR7, Lib.hid (fun j z hz => ?_), HK7⟩
            rcases zsAt_put T p P k (by rw [← HHE.out, ← HQ.out]; exact hkq) hkP HBE.out j hz with ⟨rfl, rfl⟩ | ⟨hne, hz2⟩
            · exact ⟨_, by rw [List.getElem?_set, if_pos rfl, if_pos (by rw [HYL.out]; exact hkP)], PgAt.cell_ ⟨_, _, rfl, HO6.out, fun ad e => by injection e with e; subst e; have h1 := HGW.out.1; have h2 := HGB.out; simp only; omega⟩⟩
            · obtain ⟨y, hy, hp⟩ := HPA.out j z hz2
              exact ⟨y, by rw [List.getElem?_set, if_neg (by omega)]; exact hy, (hp.keep HAL6.out).cell_⟩
          case measure => simp [intOf]; omega
        · have hkI : ¬ (k : Int) < (q : Int) := by omega
          obtain rfl : q = k := by omega
          clear hkq hk
          have HZL := Lib.hid (zsAt_len T p P q (by rw [HQ.out, HHE.out]; exact Nat.le_refl _) hqP)
          have HPGS := Lib.hid (show Pgs wr (some ⟨gp, 0, none⟩) P P ys (zsAt T p P q) from ⟨HYL.out, fun _ => ⟨_, rfl, HRW.out.lt, fun j v hj => by rw [add_plain, Nat.zero_add, HRW.out.cell j]; exact hj⟩, ⟨by rw [HYL.out, HZL.out], fun i v X hv hX => by
            obtain ⟨y, hy, B, d, e, hb, _⟩ := HPA.out i X hX
            rw [hv] at hy
            injection hy with hy
            exact ⟨B, 64, d, hy.trans e, hb⟩⟩, Nat.le_refl _, by omega, fun _ ad e => by injection e with e; subst e; rfl⟩)
          have hrd := zsAt_read T p P (by omega) (by omega) (by rw [← HHE.out]; omega)
          rw [← HHE.out, ← HQ.out] at hrd
          have HRY := Lib.hid hrd.1
          have HRF := Lib.hid hrd.2
          have hKW := HK4.out.trans HKr.out
          have HGT := Lib.hid ((plget_any HPGS.out (by omega) (HBP.out _ hKW)).mono (R' := fun e w' => ∃ (v : Value) (pm gC gD : Nat), e = .returned (.tuple #[.agg #[.int .i64 (p : Int), .int .i64 (m : Int), v], .pointer (some ⟨pm, 0, none⟩), .int .i64 (1 + (h : Int)), .int .i64 0]) ∧ w'.ownsRow wr.heap.size 58 3 v fl.length (fnCs (fl.map plainF)) ∧ Mm w' pm gC gD (zeros (p * 64)) [] (falses p) [] m ∧ Chg [] wr w') (by
            rintro e w' (⟨r, hno, rfl, hc⟩ | ⟨T', p', pg', ms', fs', v8, pm, gC, gD, hyes, rfl, ho8, hl8, hk8, hM8, _, _, _, hc8⟩)
            · exfalso
              rcases hno with ⟨_, h1 | ⟨T', p', hy', hne⟩⟩ | ⟨_, T', p', pg', ms', fs', hy', hpr', hbad⟩
              · exact h1 ⟨T, p, HRY.out⟩
              · obtain ⟨rfl, rfl⟩ := hy'.one HRY.out
                rw [HPB.out] at hne
                exact hne rfl
              · obtain ⟨e1, e2⟩ := hy'.one HRY.out
                subst e1; subst e2
                rw [HPB.out] at hpr'
                injection hpr' with _ h2
                injection h2 with h2 h3
                injection h3 with h3 h4
                rw [HZL.out, ← HHE.out, ← h2, ← h3] at hbad
                omega
            · obtain ⟨hy', hpr', _, _, _⟩ := hyes
              obtain ⟨e1, e2⟩ := hy'.one HRY.out
              subst e1; subst e2
              rw [HPB.out] at hpr'
              injection hpr' with _ h2
              injection h2 with h2 h3
              injection h3 with h3 h4
              subst h4
              rw [← HHE.out, HRF.out, ← h3] at hM8
              rw [List.length_map] at ho8
              refine ⟨v8, pm, gC, gD, ?_, ho8, hM8, hc8⟩
              rw [← h2, ← h3, ← HHE.out, show ((1 + h : Nat) : Int) = 1 + (h : Int) from by omega]))
          clear HPGS HRW HPA HYL hrd HCA HPGE HR4 HS4 HO4 HCH HLN hkI
          have HKW := Lib.hid hKW
          clear hKW
          go_upto_region 21 with (go_at_call 21
                                  refine HGT.out.mono ?_
                                  rintro e w8 ⟨v8, pm, gC, gD, rfl, ho8, hM8, hc8⟩
                                  obtain ⟨VA, vc, rfl, hF8⟩ := Fnr.of_own (l := fl.map plainF) ho8 (by have := HLO.out; omega) (fun f hf => by
                                    rw [List.mem_map] at hf
                                    obtain ⟨f0, hf0, rfl⟩ := hf
                                    exact HF2.out.args f0 hf0)
                                  have HV8 := Lib.hid hF8
                                  have HM8 := Lib.hid hM8
                                  have HK8 := Lib.hid (HKW.out.trans hc8)
                                  clear ho8 hM8 hc8 hF8)
          obtain ⟨vn, hvn⟩ : ∃ vn, vn = fl.length := ⟨_, rfl⟩
          rw [← hvn] at HV8 ⊢
          have HFNL := Lib.hid (show fl.length ≤ 1000 from by have := HLO.out; omega)
          clear hvn
          have hN := Whole.new w8 24 [.int .i64 (p : Int), .int .i64 (m : Int), .slice VA vn vc]
          have hal := (Chg.refl [] w8).alloc (.cells #[.int .i64 (p : Int), .int .i64 (m : Int), .slice VA vn vc] 24)
          have HVB := Lib.hid hN
          have HVF := Lib.hid (HV8.out.keep hal)
          have HMM := Lib.hid (HM8.out.keep hal)
          have HK9 := Lib.hid (HK8.out.trans hal)
          clear hN hal
          generalize w8.heap.size = gv at HVB ⊢
          generalize w8.alloc (.cells #[.int .i64 (p : Int), .int .i64 (m : Int), .slice VA vn vc] 24) = w9 at HVB HVF HMM HK9 ⊢
          have HUB := Lib.hid (HU2.out.keep HK9.out)
          have HFB := Lib.hid (HF2.out.keep HK9.out)
          have HFA := Lib.hid HVF.out.args
          have HPL := Lib.hid (fun (W : World) (hc : Chg [] w9 W) => rplain_any (p := (p : Int)) (m := (m : Int)) (HFB.out.keep hc) HSM.out)
          unfold PlPost at HPL
          unfold unitV at HPL
          have HSA := Lib.hid (fun (W : World) (A B : Option Addr) (n c n' c' : Nat) (h : Fnr W A n c (fl.map plainF)) (h' : Fnr W B n' c' (fl.map plainF)) => rsame_any (p := (p : Int)) (m := (m : Int)) (p2 := (p : Int)) (m2 := (m : Int)) h h')
          unfold EqPost at HSA
          unfold unitV at HSA
          obtain ⟨p64, hp64⟩ : ∃ p64, p64 = p * 64 := ⟨_, rfl⟩
          have hp64b : p64 ≤ 128 := by omega
          have HPQ := Lib.hid hp64
          have HWP := Lib.hid (show IntKind.i64.wrap ((p : Int) * 64) = ((p64 : Nat) : Int) from by rw [IntWalk.i64_in _ (by omega)]; omega)
          have HWN := Lib.hid (show IntKind.i64.wrap (1 + (h : Int) + (m : Int)) = 1 + (h : Int) + (m : Int) from IntWalk.i64_in _ (by omega))
          have HBP2 := Lib.hid (fun (W : World) (h : Chg [] w9 W) => HBP.out W (HK9.out.trans h))
          have HHW := Lib.hid (fun (W : World) (h : Chg [] w9.drew W) => (show Chg [] w9 W from (Chg.refl [] w9).drew.trans h))
          clear hp64
          refine wp_flow (by kernel_rfl) plainT plainT_ok (by kernel_rfl) ?_
          refine flow_move_out plainT_ok rfl rfl rfl ?_
          refine flow_eql plainT_ok (.inn rfl) (.const _) (fun ev W he e1 e2 => by go_simp) rfl ?_
          refine flow_move plainT_ok rfl (keeps_isV _) (.inr (keeps_isV _)) rfl ?_
          refine flow_move_out plainT_ok rfl rfl rfl ?_
          refine flow_eql plainT_ok (.inn rfl) (.const _) (fun ev W he e1 e2 => by go_simp) rfl ?_
          refine flow_and plainT_ok rfl rfl rfl ?_
          refine flow_move plainT_ok rfl (keeps_isV _) (.inr (keeps_isV _)) rfl ?_
          refine flow_move_out plainT_ok rfl rfl rfl ?_
          refine flow2 (r := .bool true) plainT_ok rfl (.inn rfl) (.const _) rfl (fun ev W he e1 e2 => by go_simp) ?_
          refine flow_and plainT_ok rfl rfl rfl ?_
          refine flow_move plainT_ok rfl (keeps_isV _) (.inr (keeps_isV _)) rfl ?_
          refine flow1h (r := .agg #[.int .i64 (p : Int), .int .i64 (m : Int), .slice VA vn vc]) plainT_ok rfl (.out rfl rfl) rfl (fun ev W he hW e1 => by
            have hk := HVB.out.keep (HHW.out W hW)
            have q0 := hk.cell 0
            have q1 := hk.cell 1
            have q2 := hk.cell 2
            clear hW hk
            go_simp) ?_
          refine flow1h (r := .agg #[.int .i64 (p : Int), .int .i64 (m : Int), .slice FA fn fc]) plainT_ok rfl (.out rfl rfl) rfl (fun ev W he hW e1 => by
            have hk := HUB.out.keep (HHW.out W hW)
            have q0 := hk.cell 0
            have q1 := hk.cell 1
            have q2 := hk.cell 2
            clear hW hk
            go_simp) ?_
          refine flow_calld (plF (p : Int) (m : Int) (fl.map plainF)) (keeps_pl _ _ _) (.inr (keeps_pl _ _ _)) (by kernel_rfl) rfl (.cons (.inn rfl) .nil) (fun W hW => (HPL.out W (HHW.out W hW)).mono ?_) ?_
          · rintro e w' ⟨v8, rfl, ho8, hc8⟩
            rw [plain_by]
            obtain ⟨A8, c8, rfl, hF8⟩ := Fnr.of_own (l := fl.map plainF) ho8 HFNL.out HFA.out
            exact ⟨_, rfl, hc8, A8, _, c8, rfl, hF8⟩
          refine flow_call (isV (.bool true)) (keeps_isV _) (.inr (keeps_isV _)) (by kernel_rfl) rfl (fun ev W he hW hf => ?_) ?_
          · have e1 : ev (.tmp 91) = .agg #[.int .i64 (p : Int), .int .i64 (m : Int), .slice VA vn vc] := hf.1
            obtain ⟨A8, n8, c8, e2, hF8⟩ : plF (p : Int) (m : Int) (fl.map plainF) (ev (.tmp 93)) W := hf.2.1
            rw [show (#[Operand.tmp 91, Operand.tmp 93].toList.map ev).toArray = #[ev (.tmp 91), ev (.tmp 93)] from rfl, e1, e2]
            refine (HSA.out W VA A8 vn vc n8 c8 (HVF.out.keep (HHW.out W hW)) hF8).mono ?_
            rintro e w' ⟨b9, rfl, hb9, hc9⟩
            rw [plain_by]
            exact ⟨_, rfl, hc9, by rw [show b9 = true from by simpa using hb9]; rfl⟩
          refine flow_and plainT_ok rfl rfl rfl ?_
          refine flow_move plainT_ok rfl (keeps_isV _) (.inr (keeps_isV _)) rfl ?_
          refine flow_move_out plainT_ok rfl rfl rfl ?_
          refine flow_calld (bsF (zeros (p * 64))) (keeps_bs _) (.inr (keeps_bs _)) (by kernel_rfl) rfl (.cons (.inn rfl) .nil) (fun W hW => (mbytes_any (HMM.out.keep (HHW.out W hW))).mono ?_) ?_
          · rintro e w' ⟨v9, rfl, ho9, hc9⟩
            rw [plain_by]
            obtain ⟨A9, c9, rfl, hb9, _⟩ := Bs.of_own ho9
            exact ⟨_, rfl, hc9, A9, c9, rfl, hb9⟩
          refine flow_bstr plainT_ok rfl rfl ?_
          refine flow1 (r := .pointer (some ⟨gu, 0, none⟩)) plainT_ok rfl (.out rfl rfl) rfl (fun ev W he e1 => by go_simp) ?_
          refine flow1h (r := .int .i64 (p : Int)) plainT_ok rfl (.inn rfl) rfl (fun ev W he hW e1 => by
            have hk := HUB.out.keep (HHW.out W hW)
            have q0 := hk.cell 0
            clear hW hk
            go_simp) ?_
          refine flow2 (r := .int .i64 ((p64 : Nat) : Int)) plainT_ok rfl (.inn rfl) (.const _) rfl (fun ev W he e1 e2 => by have q := HWP.out; go_simp) ?_
          refine flow_op (bsF (zeros (p * 64))) (keeps_bs _) (.inr (keeps_bs _)) rfl (fun ev W he hW hf => ?_) ?_
          · have e1 : ev (.tmp 102) = .int .i64 ((p64 : Nat) : Int) := hf.1
            have hmk := make_u8 p64 (by omega) W
            have hN := Whole.new W 5 (bts (zeros p64))
            have hal := (Chg.refl [] W).alloc (.cells (bts (zeros p64)).toArray 5)
            have hbs := Bs.of_all hN (by rw [zeros_len]; omega)
            rw [zeros_len] at hbs
            have hb2 : ∃ A c, Value.slice (some ⟨W.heap.size, 0, none⟩) p64 p64 = .slice A (zeros (p * 64)).length c ∧ Bs (W.alloc (.cells (bts (zeros p64)).toArray 5)) A (zeros (p * 64)).length c (zeros (p * 64)) := by
              rw [← HPQ.out, zeros_len]
              exact ⟨_, _, rfl, hbs⟩
            clear hf hW hbs hN
            generalize bts (zeros p64) = BZ at hmk hal hb2
            go_simp
            exact ⟨hal, hb2⟩
          refine flow_bstr plainT_ok rfl rfl ?_
          refine flow_eql plainT_ok (.inn rfl) (.inn rfl) (fun ev W he e1 e2 => by go_simp) rfl ?_
          refine flow_and plainT_ok rfl rfl rfl ?_
          refine flow_move plainT_ok rfl (keeps_isV _) (.inr (keeps_isV _)) rfl ?_
          refine flow_move_out plainT_ok rfl rfl rfl ?_
          refine flow1 (r := .pointer (some ⟨gu, 1, none⟩)) plainT_ok rfl (.out rfl rfl) rfl (fun ev W he e1 => by go_simp) ?_
          refine flow1h (r := .int .i64 (m : Int)) plainT_ok rfl (.inn rfl) rfl (fun ev W he hW e1 => by
            have hk := HUB.out.keep (HHW.out W hW)
            have q0 := hk.cell 1
            clear hW hk
            go_simp) ?_
          refine flow2 (r := .int .i64 (1 + (h : Int) + (m : Int))) plainT_ok rfl (.inn rfl) (.inn rfl) rfl (fun ev W he e1 e2 => by have q := HWN.out; go_simp) ?_
          refine flow_move_out plainT_ok rfl rfl rfl ?_
          refine flow_eql plainT_ok (.inn rfl) (.inn rfl) (fun ev W he e1 e2 => by go_simp) rfl ?_
          refine flow_and plainT_ok rfl rfl rfl ?_
          refine flow_move plainT_ok rfl (keeps_isV _) (.inr (keeps_isV _)) rfl ?_
          refine flow_callv (.bool true) (by kernel_rfl) rfl .nil (fun W hW => (HKN.out W (HBP2.out W (HHW.out W hW))).mono ?_) ?_
          · rintro e w' ⟨rfl, hc⟩
            rw [plain_by]
            exact ⟨rfl, hc⟩
          refine flow_and plainT_ok rfl rfl rfl ?_
          refine flow_assign plainT_ok rfl (keeps_isV _) (.inr (keeps_isV _)) rfl ?_
          intro vs W hW hF
          have e4 : vs 4 = .bool true := hF 4 _ rfl rfl
          have HCW := Lib.hid (HC2.out.trans (HK9.out.trans (HHW.out W hW)))
          simp only [putAll, Act.put, List.setIfInBounds_toArray, List.set_cons_zero, List.set_cons_succ]
          rw [e4]
          clear hF hW e4
          obtain ⟨wz, hwz⟩ : ∃ wz : World, wz = W := ⟨_, rfl⟩
          rw [← hwz] at HCW ⊢
          clear hwz
          go_wp2_with fail
          go_ret
          exact ⟨rfl, HCW.out⟩
theorem plateBack_full {l : List Int} (hs : Src w A (nms l)) (hlen : l.length = n) (hspot : 0 < n → ∀ ad, A = some ad → ad.spot = none) (hn : n ≤ 9223372036854775807) (hrng : ∀ x ∈ l, -9223372036854775808 ≤ x ∧ x ≤ 9223372036854775807) (mo : Int) (hmo : -9223372036854775808 ≤ mo ∧ mo ≤ 9223372036854775807) (hP : PowB w.heap.size w) :
    Calls Tryz.prog 5 #[.slice A n c, .int .i64 mo] w (BoolPost true w) := plateBack_any (Lib.hid (unit_any (c := c) hs hlen hspot hn hrng)) mo hmo hP
end
end Go.Proofs.YtbkfhndmeljlcaaGreatDoor
