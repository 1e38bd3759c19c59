/-
  PN: PlGet0, PlKnown, LawPlN.
-/
import Derived.Test.YtbkfhndmeljlcaaGreatDoorZPN46
import Derived.Test.YtbkfhndmeljlcaaGreatDoorZPN47
namespace Go.Proofs.YtbkfhndmeljlcaaGreatDoor
open Go.RowKit
theorem zero_meta : ¬ isMeta (zeros 64) := by
  intro h
  have h2 := h.2.2
  have h3 := congrArg (fun l : List UInt8 => l.getD 0 0) h2
  simp [metaL, unitL, zeros] at h3
/-- Nothing is read. -/
def RdNo (w : World) (e : Ending) (w' : World) : Prop := e = .returned (.tuple #[.string ⟨#[]⟩, .int .i64 0, .bool false]) ∧ Chg [] w w'
/-- Nothing is got. -/
def GtNo (r : Int) (w : World) (e : Ending) (w' : World) : Prop := e = .returned (.tuple #[.agg #[.int .i64 0, .int .i64 0, .slice none 0 0], .pointer none, .int .i64 0, .int .i64 r]) ∧ Chg [] w w'
theorem results_row_tmp3 {fn : Func} {p a b c : Tmp} {ty : TypeId} (h : fn.results = #[.cell p ty, .tmp a, .tmp b, .tmp c]) (tmps : Array Value) (w : World) (g : Nat) (t : TypeId) (cs : List Value) (fs : Array Field)
    (hp : tmps.getD p undef = .pointer (some ⟨g, 0, none⟩)) (hg : Whole w g t cs) (hu : Tryz.prog.underlying ty = some (.struct fs)) (hi : (Tryz.prog.info? ty).map (·.size) = some cs.toArray.size) :
    (results fn tmps).run Tryz.prog w = .ok (.tuple #[.agg cs.toArray, tmps.getD a undef, tmps.getD b undef, tmps.getD c undef]) w := by
  have hp' : tmps[p]?.getD undef = .pointer (some ⟨g, 0, none⟩) := by simpa using hp
  unfold results
  simp [h, hp', asAddr, run_loadVar_row w g t ty cs.toArray (0, 0) (.struct fs) hg hu rfl hi]
section
variable {w : World}
set_option maxHeartbeats 4000000 in
set_option maxRecDepth 100000 in
theorem plread_nil : Calls Tryz.prog 47 #[.slice none 0 0] w (RdNo w) := by
  have HPO := Lib.hid (show ∀ w', Chg [] w w' → RdNo w (.returned (.tuple #[.string ⟨#[]⟩, .int .i64 0, .bool false])) w' from fun w' hc => ⟨rfl, hc⟩)
  generalize RdNo w = PO at HPO ⊢
  go_enter Tryz.func47, Tryz.ntmps47
  go_wp2_with fail
  go_loopw [15] (fun i wr => i = .int .i64 0 ∧ wr = w) (fun _ _ => 0)
  case atStart => exact ⟨rfl, rfl⟩
  case round =>
    obtain ⟨rfl, rfl⟩ := hrel
    go_wp2_with fail
    go_ret3
    exact HPO.out _ (Chg.refl [] _)
set_option maxHeartbeats 4000000 in
set_option maxRecDepth 100000 in
theorem plread_zero {gr gb : Nat} (hr : Whole w gr 33 [.slice (some ⟨gb, 0, none⟩) 64 64]) (hb : Whole w gb 5 (bts (zeros 64))) : Calls Tryz.prog 47 #[.slice (some ⟨gr, 0, none⟩) 1 1] w (RdNo w) := by
  have HPO := Lib.hid (show ∀ w', Chg [] w w' → RdNo w (.returned (.tuple #[.string ⟨#[]⟩, .int .i64 0, .bool false])) w' from fun w' hc => ⟨rfl, hc⟩)
  generalize RdNo w = PO at HPO ⊢
  have r0 := hr.cell 0
  have hbs : Bs w (some ⟨gb, 0, none⟩) 64 64 (zeros 64) := by
    have := Bs.of_all hb (by rw [zeros_len]; omega)
    rwa [zeros_len] at this
  have HSR := Lib.hid (shread_any hbs)
  clear hb hbs hr
  go_enter Tryz.func47, Tryz.ntmps47
  go_wp2_with fail
  go_loopw [15] (fun i wr => ∃ k : Nat, i = .int .i64 (k : Int) ∧ k ≤ 1 ∧ wr = w) (fun i _ => 1 - (intOf i).toNat)
  case atStart => exact ⟨0, rfl, by omega, rfl⟩
  case round =>
    obtain ⟨k, rfl, hk, hwr⟩ := hrel
    subst hwr
    by_cases hk1 : k < 1
    · obtain rfl : k = 0 := by omega
      go_wp2_with fail
      go_roundw
      case rel => exact ⟨1, by go_num, by omega, by first | rfl | trivial⟩
      case measure => simp [intOf]
    · obtain rfl : k = 1 := by omega
      go_wp2_with (go_at_call 73
                   refine HSR.out.mono ?_
                   rintro e w2 (⟨hm, _⟩ | ⟨_, rfl, hc2⟩)
                   · exact absurd hm zero_meta
                   have HC2 := Lib.hid hc2
                   clear hc2)
      go_ret3
      exact HPO.out _ HC2.out
set_option maxHeartbeats 4000000 in
set_option maxRecDepth 100000 in
theorem plget_no {V : Value} (HR0 : ∀ W, Chg [] w W → Calls Tryz.prog 47 #[V] W (RdNo W)) : Calls Tryz.prog 21 #[V] w (GtNo 12 w) := by
  have HR := Lib.hid HR0
  clear HR0
  unfold RdNo at HR
  have HPO := Lib.hid (show ∀ w', Chg [] w w' → GtNo 12 w (.returned (.tuple #[.agg #[.int .i64 0, .int .i64 0, .slice none 0 0], .pointer none, .int .i64 0, .int .i64 12])) w' from fun w' hc => ⟨rfl, hc⟩)
  generalize GtNo 12 w = PO at HPO ⊢
  go_enter Tryz.func21, Tryz.ntmps21
  go_upto_region 1 with fail
  have hN := Whole.new w 24 [.int .i64 0, .int .i64 0, .slice none 0 0]
  have hal := (Chg.refl [] w).alloc (.cells #[.int .i64 0, .int .i64 0, .slice none 0 0] 24)
  obtain ⟨g, hg⟩ : ∃ g, g = w.heap.size := ⟨_, rfl⟩
  have hnl : ¬ g < w.heap.size := by omega
  rw [← hg] at hN ⊢
  have HG := Lib.hid hN
  have HW1 := Lib.hid hal
  generalize w.alloc (.cells #[.int .i64 0, .int .i64 0, .slice none 0 0] 24) = w1 at HG HW1 ⊢
  clear hN hal hg
  go_wp2_with (go_at_call 47
               refine (HR.out _ HW1.out).mono ?_
               rintro e w2 ⟨rfl, hc2⟩
               have HG2 := Lib.hid (HG.out.keep hc2)
               have HW2 := Lib.hid (HW1.out.trans hc2)
               have z0 := HG2.out.cell 0
               have z1 := HG2.out.cell 1
               have z2 := HG2.out.cell 2
               have f0 := HG2.out.frozen 0
               have f1 := HG2.out.frozen 1
               have f2 := HG2.out.frozen 2
               clear hc2)
  have HCF := ((HW2.out.setCell (p := ⟨g, 0, none⟩) (fun h => absurd h hnl) (.int .i64 0)).setCell (p := ⟨g, 1, none⟩) (fun h => absurd h hnl) (.int .i64 0)).setCell (p := ⟨g, 2, none⟩) (fun h => absurd h hnl) (.slice none 0 0)
  have HSS := ((HG2.out.set_ 0 (.int .i64 0)).set_ 1 (.int .i64 0)).set_ 2 (.slice none 0 0)
  exact bodyPost_ret_by (results_row_tmp3 (p := 2) (a := 3) (b := 4) (c := 5) (ty := 24) rfl _ _ g 24 [.int .i64 0, .int .i64 0, .slice none 0 0] _ rfl HSS Tryz.underlying24 (by kernel_rfl)) rfl (HPO.out _ HCF)
end
end Go.Proofs.YtbkfhndmeljlcaaGreatDoor
namespace Go.Proofs.YtbkfhndmeljlcaaGreatDoor
open Go.RowKit
open Go.Lib (decDigits encodeRune)
def kpT : List UInt8 := [117, 110, 105, 116, 32, 49, 32, 50, 10, 102, 48, 32, 49, 10]
theorem kp_text : rText 1 2 [kuG] = (kpT, 0) := by
  have ht : txC ⟨#[49]⟩ = [49] := by
    have h : tokR ⟨#[49]⟩ = some [⟨48, 1, 0⟩] := by rfl
    unfold txC toksOf
    rw [h]
    show txB false [⟨48, 1, 0⟩] = _
    rw [txB_cons_num _ _ _ rfl, show (1 : Int).toNat = 1 from rfl, dg1]
    rfl
  have hf : utF kuG = [102, 48, 32, 49, 10] := by
    unfold utF
    show encodeRune 102 ++ (decDigits ((0 : Int).toNat) ++ (32 :: (txC ⟨#[49]⟩ ++ [10]))) = _
    rw [ht, show (0 : Int).toNat = 0 from rfl, dg0]
    rfl
  have hu : utx 1 2 [kuG] = kpT := by
    unfold utx utFs
    rw [hf, show (1 : Int).toNat = 1 from rfl, show (2 : Int).toNat = 2 from rfl, dg1, dg2]
    rfl
  have hr : rRight 1 2 [kuG] = 0 := by decide +kernel
  unfold rText
  rw [if_pos hr, hu]
  rfl
theorem fnr_sole {W : World} {g : Nat} {f : FnV} (h0 : -9223372036854775808 ≤ f.args ∧ f.args ≤ 9223372036854775807) (h : Whole W g 58 (fnC f)) : Fnr W (some ⟨g, 0, none⟩) 1 1 [f] := by
  refine ⟨rfl, fun _ => ⟨_, rfl, h.lt, fun j v hj => ?_⟩, Nat.le_refl _, by omega, fun _ ad e => by injection e with e; subst e; rfl, fun x hx => ?_⟩
  · rw [add_plain, Nat.zero_add, h.cell j]
    have : fnCs [f] = fnC f := List.append_nil _
    rw [this] at hj
    exact hj
  · rw [List.mem_singleton] at hx; subst hx; exact h0
theorem kp_need : needZ kpT 0 2 = 4 := by rfl
theorem kp_put4 : rPut kpT 0 1 2 4 = (plCs kpT 1, 0) := by rfl
theorem kp_put3 : rPut kpT 0 1 2 3 = ([], 25) := by rfl
theorem kp_len : (plCs kpT 1).length = 3 := by rw [plCs_len]; rfl
theorem str_zeros (W : World) : (convert 33 9 (.slice (some ⟨W.heap.size, 0, none⟩) 64 64)).run Tryz.prog (W.alloc (.cells (bts (zeros 64)).toArray 5)) = .ok (.string (strOf (zeros 64))) (W.alloc (.cells (bts (zeros 64)).toArray 5)) := by
  have hN := Whole.new W 5 (bts (zeros 64))
  have hbs := Bs.of_all hN (by rw [zeros_len]; omega)
  rw [zeros_len] at hbs
  exact hbs.str (P := Tryz.prog) 33 5 9 Tryz.underlying33 Tryz.underlying5 Tryz.underlying9
section
variable {w : World}
set_option maxHeartbeats 8000000 in
set_option maxRecDepth 100000 in
theorem pl_known (hP : PowB w.heap.size w) : Calls Tryz.prog 16 #[] w (BoolPost true w) := by
  have HP := Lib.hid hP
  unfold BoolPost
  clear hP
  go_enter Tryz.func16, Tryz.ntmps16
  go_upto_region 2 with fail
  have hW := Whole.new w 58 [.int .i32 102, .int .i64 0, .string ⟨#[49]⟩]
  have hal := (Chg.refl [] w).alloc (.cells #[.int .i32 102, .int .i64 0, .string ⟨#[49]⟩] 58)
  have hal2 := hal.alloc (.cells #[.int .i64 1, .int .i64 2, .slice (some ⟨w.heap.size, 0, none⟩) 1 1] 24)
  have hU := Whole.new (w.alloc (.cells #[.int .i32 102, .int .i64 0, .string ⟨#[49]⟩] 58)) 24 [.int .i64 1, .int .i64 2, .slice (some ⟨w.heap.size, 0, none⟩) 1 1]
  rw [show (w.alloc (.cells #[.int .i32 102, .int .i64 0, .string ⟨#[49]⟩] 58)).heap.size = w.heap.size + 1 by simp] at hU
  have hW2 := hW.keep ((Chg.refl [] (w.alloc (.cells #[.int .i32 102, .int .i64 0, .string ⟨#[49]⟩] 58))).alloc (.cells #[.int .i64 1, .int .i64 2, .slice (some ⟨w.heap.size, 0, none⟩) 1 1] 24))
  have HU2 := Lib.hid hU
  have HW2 := Lib.hid hW2
  have HC2 := Lib.hid hal2
  clear hW hal hal2 hU hW2
  generalize w.heap.size = gf at HU2 HW2 HC2 ⊢
  generalize (w.alloc (.cells #[.int .i32 102, .int .i64 0, .string ⟨#[49]⟩] 58)).alloc (.cells #[.int .i64 1, .int .i64 2, .slice (some ⟨gf, 0, none⟩) 1 1] 24) = w2 at HU2 HW2 HC2 ⊢
  have HF2 := Lib.hid (show Fnr w2 (some ⟨gf, 0, none⟩) 1 1 [kuG] from fnr_sole (f := kuG) (by decide) HW2.out)
  have HTX := Lib.hid (TxOk.of_fnr (pg := 1) (ms := 2) HF2.out (fun f hf => by rw [List.mem_singleton] at hf; subst hf; decide))
  rw [kp_text] at HTX
  simp only at HTX
  have HPU := Lib.hid (fun (W : World) (hc : Chg [] w2 W) (hp : PowB W.heap.size W) (pages : Int) => plput_any (HTX.out.keep hc) (by decide) (fun _ => by decide) pages hp)
  have HPND := Lib.hid (fun (W : World) (hc : Chg [] w2 W) (hp : PowB W.heap.size W) => plneed_any (HTX.out.keep hc) (by decide) (fun _ => by decide) hp)
  rw [kp_need] at HPND
  have HP4 := Lib.hid (fun (W : World) (hc : Chg [] w2 W) (hp : PowB W.heap.size W) => HPU.out W hc hp 4)
  have HP3 := Lib.hid (fun (W : World) (hc : Chg [] w2 W) (hp : PowB W.heap.size W) => HPU.out W hc hp 3)
  rw [kp_put4] at HP4
  rw [kp_put3] at HP3
  unfold PtPost at HP4 HP3
  simp only at HP4 HP3
  have u0 := HU2.out.cell 0
  have u1 := HU2.out.cell 1
  have u2 := HU2.out.cell 2
  have HGN := Lib.hid (fun (W : World) => plget_no (w := W) (V := .slice none 0 0) (fun _ _ => plread_nil))
  unfold GtNo at HGN
  have HBP := Lib.hid (fun (W : World) (h : Chg [] w2 W) => (HP.out.here (HC2.out.trans h)))
  clear HW2 HF2 HTX HPU
  go_upto_region 5 with (first
    | (go_at_call 20
       with_reducible refine (HP4.out _ (Chg.refl [] _) (HBP.out _ (Chg.refl [] _))).mono ?_
       rintro e w3 ⟨v3, ls3, rfl, ho3, _, hs3, hc3⟩
       obtain ⟨A3, c3, rfl, _⟩ := rown_slice ho3
       have HL3 := Lib.hid (show ls3.length = 3 from by rw [hs3.len, kp_len])
       have HK3 := Lib.hid hc3
       have v0 := (HU2.out.keep hc3).cell 0
       have v1 := (HU2.out.keep hc3).cell 1
       have v2 := (HU2.out.keep hc3).cell 2
       clear ho3 hs3 hc3)
    | (go_at_call 20
       with_reducible refine (HP3.out _ HK3.out (HBP.out _ HK3.out)).mono ?_
       rintro e w4 ⟨v4, ls4, rfl, ho4, _, hs4, hc4⟩
       obtain ⟨A4, c4, rfl, _⟩ := rown_slice ho4
       have HK4 := Lib.hid (HK3.out.trans hc4)
       clear ho4 hs4 hc4)
    | (go_at_call 21
       refine (HGN.out _).mono ?_
       rintro e w5 ⟨rfl, hc5⟩
       have HK5 := Lib.hid (HK4.out.trans hc5)
       clear hc5))
  clear u0 u1 u2 v0 v1 v2
  have hl3 := HL3.out
  rw [hl3]
  generalize ls4.length = n4
  have HK6 := Lib.hid (HK5.out.alloc (.cells #[.int .i64 0, .int .i64 0, .slice none 0 0] 24))
  generalize w5.heap.size = ga
  generalize w5.alloc (.cells #[.int .i64 0, .int .i64 0, .slice none 0 0] 24) = w6 at HK6 ⊢
  -- a page of zeros
  have hN := Whole.new w6 5 (bts (zeros 64))
  have hal := (Chg.refl [] w6).alloc (.cells (bts (zeros 64)).toArray 5)
  have hmk0 := make64z w6
  obtain ⟨gz, hgz⟩ : ∃ gz, gz = w6.heap.size := ⟨_, rfl⟩
  rw [← hgz] at hN hmk0
  clear hgz
  obtain ⟨w7, hw7⟩ : ∃ w7, w7 = w6.alloc (.cells (bts (zeros 64)).toArray 5) := ⟨_, rfl⟩
  rw [← hw7] at hN hal hmk0
  clear hw7
  have HZ7 := Lib.hid hN
  have HK7 := Lib.hid (HK6.out.trans hal)
  clear hN hal
  have hN := Whole.new w7 33 [.slice (some ⟨gz, 0, none⟩) 64 64]
  have hal := (Chg.refl [] w7).alloc (.cells #[.slice (some ⟨gz, 0, none⟩) 64 64] 33)
  have HGZ := Lib.hid (plget_no (w := w7.alloc (.cells #[.slice (some ⟨gz, 0, none⟩) 64 64] 33)) (V := .slice (some ⟨w7.heap.size, 0, none⟩) 1 1) (fun W hc => plread_zero (hN.keep hc) ((HZ7.out.keep hal).keep hc)))
  unfold GtNo at HGZ
  have HKA := Lib.hid (HK7.out.trans hal)
  clear hN hal
  go_upto_region 6 with (go_at_call 21
                         with_reducible refine HGZ.out.mono ?_
                         rintro e w8 ⟨rfl, hc8⟩
                         have HK8 := Lib.hid (HKA.out.trans hc8)
                         clear hc8)
  clear hmk0
  have HK9 := Lib.hid (HK8.out.alloc (.cells #[.int .i64 0, .int .i64 0, .slice none 0 0] 24))
  generalize w8.heap.size = gb
  generalize w8.alloc (.cells #[.int .i64 0, .int .i64 0, .slice none 0 0] 24) = w9 at HK9 ⊢
  have HU9 := Lib.hid (HU2.out.keep HK9.out)
  have u0 := HU9.out.cell 0
  have u1 := HU9.out.cell 1
  have u2 := HU9.out.cell 2
  have hmkA := make64z
  have hstA := str_zeros
  have HPZ := Lib.hid (fun (W : World) => plpages_any (zeros 64) (by rw [zeros_len]; omega) W)
  rw [zeros_len, show holdN 64 = 1 from rfl] at HPZ
  have HPN := Lib.hid (fun (W : World) => plpages_any [] (by decide) W)
  rw [show strOf [] = ⟨#[]⟩ from rfl, show (([] : List UInt8).length) = 0 from rfl, show holdN 0 = 0 from rfl] at HPN
  generalize strOf (zeros 64) = SZ at hstA HPZ
  generalize (bts (zeros 64)).toArray = BZ at hmkA hstA
  have HMK := Lib.hid hmkA
  have HST := Lib.hid hstA
  clear hmkA hstA
  go_wp2_with (first
    | (go_at_call 19
       refine (HPND.out _ HK9.out (HBP.out _ HK9.out)).mono ?_
       rintro e wa ⟨rfl, hca⟩
       have hmk := HMK.out wa
       have hst := HST.out wa
       have HCA := Lib.hid ((HK9.out.trans hca).alloc (.cells BZ 5))
       clear hca)
    | (go_at_call 44
       with_reducible refine (HPZ.out _).mono ?_
       rintro e wb ⟨rfl, rfl⟩)
    | (go_at_call 44
       with_reducible refine (HPN.out _).mono ?_
       rintro e wb ⟨rfl, rfl⟩))
  go_ret
  exact ⟨rfl, HC2.out.trans HCA.out⟩
end
end Go.Proofs.YtbkfhndmeljlcaaGreatDoor
namespace Go.Proofs.YtbkfhndmeljlcaaGreatDoor
open Go.RowKit
theorem rPut_ok {T : List UInt8} {p m : Nat} {pages : Int} (h : 1 + (holdN T.length : Int) + (m : Int) ≤ pages) (h2 : pages ≤ 64) : rPut T 0 (p : Int) (m : Int) pages = (plCs T p, 0) := by
  unfold rPut needZ
  rw [if_neg (by simp), if_pos rfl, if_neg (by omega)]
  rfl
theorem rPut_few {T : List UInt8} {p m : Nat} {pages : Int} (h : pages < 1 + (holdN T.length : Int) + (m : Int)) : rPut T 0 (p : Int) (m : Int) pages = ([], 25) := by
  unfold rPut needZ
  rw [if_neg (by simp), if_pos rfl, if_pos (by omega)]
section
variable {w : World} {A : Option Addr} {n c : Nat}
set_option maxHeartbeats 8000000 in
set_option maxRecDepth 100000 in
theorem plateNeeds_any (HUN : Hid (Calls Tryz.prog 10 #[.slice A n c] w (UnitPost w))) (hP : PowB w.heap.size w) : Calls Tryz.prog 6 #[.slice A n c] w (BoolPost true w) := by
  have HP := Lib.hid hP
  have HKN := Lib.hid (fun (W : World) (h : PowB W.heap.size W) => pl_known h)
  unfold BoolPost at HKN ⊢
  clear hP
  go_enter Tryz.func6, Tryz.ntmps6
  go_upto_region 2 with (go_at_call 10
                         refine HUN.out.mono ?_
                         rintro e w1 ⟨pg, ms, v, fl, rfl, hp0, hp1, hm0, hm1, ho, hg, hfl0, hc1⟩
                         obtain ⟨FA, fc, rfl, hFr⟩ := Fnr.of_own ho (by have := hg.lo; omega) (fun f hf => by have := hg.args f hf; omega)
                         have HGT := Lib.hid (good_text hg (pg := pg) (ms := ms) hp0 (by omega) (by omega))
                         have HTX := Lib.hid (TxOk.of_fnr (pg := pg) (ms := ms) hFr (fun f hf => by have := hg.size f hf; omega))
                         have HC1 := Lib.hid hc1
                         clear ho hg hFr hc1 hfl0)
  obtain ⟨p, rfl⟩ : ∃ p : Nat, pg = (p : Int) := ⟨pg.toNat, by omega⟩
  obtain ⟨m, rfl⟩ : ∃ m : Nat, ms = (m : Int) := ⟨ms.toNat, by omega⟩
  obtain ⟨fn, hfn⟩ : ∃ fn, fn = fl.length := ⟨_, rfl⟩
  rw [← hfn] at HTX ⊢
  clear hfn
  rw [HGT.out.1] at HTX
  simp only at HTX
  have hTl := HGT.out.2.1
  obtain ⟨T, hT⟩ : ∃ T, T = utx (p : Int) (m : Int) fl := ⟨_, rfl⟩
  rw [← hT] at HTX hTl
  clear hT HGT HUN
  have hp2 : p ≤ 2 := by omega
  have hm5 : m ≤ 5 := by omega
  have hpm : p ≤ m := by omega
  clear hp0 hp1 hm0 hm1
  have hN := Whole.new w1 24 [.int .i64 (p : Int), .int .i64 (m : Int), .slice FA fn fc]
  have hal := (Chg.refl [] w1).alloc (.cells #[.int .i64 (p : Int), .int .i64 (m : Int), .slice FA fn fc] 24)
  have HU2 := Lib.hid hN
  have HX2 := Lib.hid (HTX.out.keep hal)
  have HC2 := Lib.hid (HC1.out.trans hal)
  clear hN hal HTX HC1
  generalize w1.heap.size = gu at HU2 ⊢
  generalize w1.alloc (.cells #[.int .i64 (p : Int), .int .i64 (m : Int), .slice FA fn fc] 24) = w2 at HU2 HX2 HC2 ⊢
  have HPU := Lib.hid (fun (W : World) (pages : Int) (hc : Chg [] w2 W) (hp : PowB W.heap.size W) => plput_any (HX2.out.keep hc) (by omega) (fun _ => by omega) pages hp)
  have HND := Lib.hid (fun (W : World) (hc : Chg [] w2 W) (hp : PowB W.heap.size W) => plneed_any (HX2.out.keep hc) (by omega) (fun _ => by omega) hp)
  obtain ⟨h, hh⟩ : ∃ h, h = holdN T.length := ⟨_, rfl⟩
  have hh29 : h ≤ 29 := by rw [hh]; unfold holdN; omega
  have HNZ := Lib.hid (show needZ T 0 (m : Int) = 1 + (h : Int) + (m : Int) from by unfold needZ; rw [if_pos rfl, hh])
  have HP64 := Lib.hid (fun (W : World) (hc : Chg [] w2 W) (hp : PowB W.heap.size W) => HPU.out W 64 hc hp)
  rw [rPut_ok (T := T) (p := p) (m := m) (pages := 64) (by rw [← hh]; omega) (by omega)] at HP64
  have HPF := Lib.hid (fun (W : World) (hc : Chg [] w2 W) (hp : PowB W.heap.size W) => HPU.out W (1 + (h : Int) + (m : Int) - 1) hc hp)
  rw [rPut_few (T := T) (p := p) (m := m) (pages := 1 + (h : Int) + (m : Int) - 1) (by rw [← hh]; omega)] at HPF
  rw [HNZ.out] at HND
  unfold PtPost at HP64 HPF
  simp only at HP64 HPF
  have HCL := Lib.hid (show (plCs T p).length = 1 + h + p from by rw [plCs_len, ← hh])
  have HCA := Lib.hid (fun (i : Nat) (hi : i < 1 + h + p) => plCs_at T p i (by rw [← hh]; exact hi))
  have HBP := Lib.hid (fun (W : World) (h : Chg [] w2 W) => (HP.out.here (HC2.out.trans h)))
  clear hh hTl HX2 HPU HNZ
  have u0 := HU2.out.cell 0
  have u1 := HU2.out.cell 1
  have u2 := HU2.out.cell 2
  go_upto_region 4 with (first
    | (go_at_call 19
       refine (HND.out _ (Chg.refl [] _) (HBP.out _ (Chg.refl [] _))).mono ?_
       rintro e w3 ⟨rfl, hc3⟩
       have HK3 := Lib.hid hc3
       have v0 := (HU2.out.keep hc3).cell 0
       have v1 := (HU2.out.keep hc3).cell 1
       have v2 := (HU2.out.keep hc3).cell 2
       clear hc3)
    | (go_at_call 20
       with_reducible refine (HP64.out _ HK3.out (HBP.out _ HK3.out)).mono ?_
       rintro e w4 ⟨v4, ls, rfl, ho4, hr4, hs4, hc4⟩
       have HK4 := Lib.hid (HK3.out.trans hc4)
       have HO4 := Lib.hid ho4
       have HS4 := Lib.hid hs4
       have HR4 := Lib.hid hr4
       clear ho4 hs4 hc4 hr4))
  clear u0 u1 u2 v0 v1 v2
  obtain ⟨LA, lc, rfl, hll, hch, _, hlcap, hlsp⟩ := chs_own' HO4.out (fun a ha => (HR4.out a ha).ok)
  have hlen : ls.length = 1 + h + p := by rw [HS4.out.len, HCL.out]
  have HLN := Lib.hid hlen
  rw [hlen] at hlcap ⊢
  have HCH := Lib.hid hch
  clear hch hll hlsp
  obtain ⟨q, hq⟩ : ∃ q, q = 1 + h + p := ⟨_, rfl⟩
  rw [← hq] at hlcap ⊢
  have hqI : (q : Int) = 1 + (h : Int) + (p : Int) := by omega
  have HQ := Lib.hid hq
  have HQI := Lib.hid hqI
  clear hq hlen
  have HU4 := Lib.hid (HU2.out.keep HK4.out)
  have u0 := HU4.out.cell 0
  have u1 := HU4.out.cell 1
  have u2 := HU4.out.cell 2
  have hw1 : IntKind.i64.wrap (1 + (h : Int) + (m : Int) - (m : Int)) = 1 + (h : Int) := by rw [IntWalk.i64_in _ (by omega)]; omega
  have hw2 : IntKind.i64.wrap (1 + (h : Int) + (p : Int)) = (q : Int) := by rw [IntWalk.i64_in _ (by omega)]; omega
  go_wp2_with fail
  clear u0 u1 u2 hw1 hw2
  have HPG := Lib.hid (show ∀ (k : Nat) (a : ChV), ls[k]? = some a → a.page = (k : Int) ∧ a.bn = 64 from fun k a ha => by
    have hk : k < 1 + h + p := by rw [← HLN.out]; exact (List.getElem?_eq_some_iff.1 ha).1
    obtain ⟨b, hb, _⟩ := HCA.out k hk
    exact ⟨(HS4.out.at ha hb).1, (HR4.out a (List.mem_of_getElem? ha)).bn⟩)
  go_loopw [42] (fun i wr => ∃ k : Nat, i = .int .i64 (k : Int) ∧ k ≤ q ∧ wr = w4) (fun i _ => q - (intOf i).toNat)
  case atStart => exact ⟨0, rfl, by omega, rfl⟩
  case round =>
    obtain ⟨k, rfl, hk, hwr⟩ := hrel
    subst hwr
    by_cases hkq : k < q
    · have hkI : (k : Int) < (q : Int) := by omega
      obtain ⟨a, ha⟩ : ∃ a, ls[k]? = some a := ⟨ls[k]'(by rw [HLN.out, ← HQ.out]; exact hkq), by simp⟩
      obtain ⟨gc, co, rfl, _, hcc⟩ := HCH.out.cells (by rw [HLN.out]; omega)
      obtain ⟨y0, y1⟩ := hcc k a ha
      obtain ⟨e0, e1⟩ := HPG.out k a ha
      rw [e0] at y0
      rw [e1] at y1
      clear ha hcc e0 e1
      have hkc : k < lc := by omega
      go_wp2_with fail
      go_roundw
      case rel => exact ⟨k + 1, by go_num, by omega, by first | rfl | trivial⟩
      case measure => simp [intOf]; omega
    · have hkI : ¬ (k : Int) < (q : Int) := by omega
      obtain rfl : q = k := by omega
      clear hkI hkq hk
      have u0 := HU4.out.cell 0
      have u1 := HU4.out.cell 1
      have u2 := HU4.out.cell 2
      have hw3 : IntKind.i64.wrap (1 + (h : Int) + (m : Int) - 1) = 1 + (h : Int) + (m : Int) - 1 := IntWalk.i64_in _ (by omega)
      go_wp2_with (first
        | (go_at_call 20
           with_reducible refine (HPF.out _ HK4.out (HBP.out _ HK4.out)).mono ?_
           rintro e w5 ⟨v5, ls5, rfl, ho5, _, _, hc5⟩
           obtain ⟨A5, c5, rfl, _⟩ := rown_slice ho5
           have HK5 := Lib.hid (HK4.out.trans hc5)
           clear ho5 hc5)
        | (go_at_call 16
           refine (HKN.out _ (HBP.out _ HK5.out)).mono ?_
           rintro e w6 ⟨rfl, hc6⟩
           have HK6 := Lib.hid (HK5.out.trans hc6)
           clear hc6))
      go_ret
      exact ⟨rfl, HC2.out.trans HK6.out⟩
theorem plateNeeds_full {l : List Int} (hs : Src w A (nms l)) (hlen : l.length = n) (hspot : 0 < n → ∀ ad, A = some ad → ad.spot = none) (hn : n ≤ 9223372036854775807) (hrng : ∀ x ∈ l, -9223372036854775808 ≤ x ∧ x ≤ 9223372036854775807) (hP : PowB w.heap.size w) :
    Calls Tryz.prog 6 #[.slice A n c] w (BoolPost true w) := plateNeeds_any (Lib.hid (unit_any (c := c) hs hlen hspot hn hrng)) hP
end
end Go.Proofs.YtbkfhndmeljlcaaGreatDoor
