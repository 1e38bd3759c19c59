/-
  UU: LawUNw.
-/
import Derived.Test.YtbkfhndmeljlcaaGreatDoorZUU47
namespace Go.Proofs.YtbkfhndmeljlcaaGreatDoor
open Go.RowKit
def unS6 : List ByteArray := [⟨#[]⟩, ⟨#[32]⟩, ⟨#[10]⟩, ⟨#[48]⟩, ⟨#[102]⟩, ⟨#[255]⟩]
def unS18 : List ByteArray := [⟨#[117, 110, 105, 116, 32, 48, 32, 48]⟩, ⟨#[117, 110, 105, 116, 32, 48, 48, 32, 48, 10]⟩, ⟨#[117, 110, 105, 116, 32, 48, 32, 32, 48, 10]⟩, ⟨#[117, 110, 105, 116, 32, 48, 32, 48, 32, 10]⟩, ⟨#[117, 110, 105, 116, 32, 45, 49, 32, 48, 10]⟩, ⟨#[117, 110, 105, 116, 32, 48, 32, 54, 53, 10]⟩, ⟨#[117, 110, 105, 116, 32, 48, 32, 57, 57, 57, 57, 57, 57, 57, 57, 57, 57, 57, 57, 57, 57, 57, 57, 57, 57, 57, 57, 10]⟩, ⟨#[117, 110, 105, 116, 32, 48, 32, 57, 50, 50, 51, 51, 55, 50, 48, 51, 54, 56, 53, 52, 55, 55, 53, 56, 48, 55, 10]⟩, ⟨#[117, 110, 105, 116, 32, 48, 32, 48, 10, 10]⟩, ⟨#[117, 110, 105, 116, 32, 48, 32, 48, 10, 102, 48, 32, 49, 10, 102, 48, 32, 49, 10]⟩, ⟨#[117, 110, 105, 116, 32, 48, 32, 48, 10, 102, 48, 32, 32, 49, 10]⟩, ⟨#[117, 110, 105, 116, 32, 48, 32, 48, 10, 102, 57, 32, 49, 10]⟩, ⟨#[117, 110, 105, 116, 32, 48, 32, 48, 10, 228, 184, 150, 49, 32, 97, 10]⟩, ⟨#[117, 110, 105, 116, 32, 48, 32, 48, 10, 65, 48, 32, 49, 10]⟩, ⟨#[117, 110, 105, 116, 32, 48, 32, 48, 10, 102, 48, 49, 10]⟩, ⟨#[117, 110, 105, 116, 32, 48, 32, 48, 10, 102, 48, 32, 49, 32, 50, 43, 10]⟩, ⟨#[117, 110, 105, 116, 32, 48, 32, 48, 10, 102, 48, 32, 48, 49, 10]⟩, ⟨#[10, 117, 110, 105, 116, 32, 48, 32, 48, 10]⟩]
def unStrs (l : List ByteArray) : List Value := l.map Value.string
theorem unStrs_get {l : List ByteArray} {k m : Nat} (hm : ∀ y ∈ l, y.size ≤ m) (hk : k < l.length) : ∃ x, (unStrs l)[k]? = some (.string x) ∧ x.size ≤ m :=
  ⟨l[k], by simp [unStrs, hk], hm _ (List.getElem_mem _)⟩
theorem unAdd (a b : ByteArray) (n : Nat) (h : a.size + b.size ≤ n) (hn : n ≤ 9223372036854775807) : ∃ y : ByteArray, y.size ≤ n ∧ ∀ W, (Op.stringOp .add a b).run Tryz.prog W = .ok (.string y) W :=
  ⟨a ++ b, by rw [ByteArray.size_append']; exact h, fun W => run_string_add_sum _ _ _ (by omega)⟩
theorem fnr_one_at {W : World} {g : Nat} {f : FnV} (h0 : -9223372036854775808 ≤ f.args ∧ f.args ≤ 9223372036854775807) (h : Whole W g 58 (fnC f)) : Fnr W (some ⟨g, 0, none⟩) 1 1 [f] := by
  refine ⟨rfl, fun _ => ⟨_, rfl, h.lt, fun j v hj => ?_⟩, Nat.le_refl _, by omega, fun _ ad e => by injection e with e; subst e; rfl, fun x hx => ?_⟩
  · rw [add_plain, Nat.zero_add, h.cell j]
    have : fnCs [f] = fnC f := List.append_nil _
    rw [this] at hj
    exact hj
  · rw [List.mem_singleton] at hx; subst hx; exact h0
section
variable {w : World}
set_option maxHeartbeats 16000000 in
set_option maxRecDepth 100000 in
theorem unitNumbers_any (hP : PowB w.heap.size w) : Calls Tryz.prog 7 #[] w (BoolPost true w) := by
  have HP := Lib.hid hP
  have HKN := Lib.hid (fun (W : World) (h : PowB W.heap.size W) => ul_known h)
  have HSM := Lib.hid (fun (W : World) (pg ms : Int) (A : Option Addr) (n c : Nat) (l : List FnV) (h : Fnr W A n c l) (hs : ∀ f ∈ l, f.code.size ≤ 9223372036854775807) (hp : PowB W.heap.size W) => lsame_any (UOk.of_fnr (pg := pg) (ms := ms) h hs) hp)
  have HRD := Lib.hid (fun (W : World) (s : ByteArray) (hs : s.size ≤ 1000000) (hp : PowB W.heap.size W) => lreads_s s hs hp)
  unfold BoolPost at HKN HSM HRD ⊢
  clear hP
  go_enter Tryz.func7, Tryz.ntmps7
  go_wp2_with fail
  go_loopw [1] (fun i wr => ∃ k : Nat, i = .int .i64 (k : Int) ∧ k ≤ 60 ∧ Hid (Chg [] w wr)) (fun i _ => 60 - (intOf i).toNat)
  case atStart => exact ⟨0, rfl, by omega, Lib.hid (Chg.refl [] _)⟩
  case round =>
    obtain ⟨k, rfl, hk, HCr⟩ := hrel
    by_cases hkn : k < 60
    · have hkI : (k : Int) < 60 := by omega
      have HTP := Lib.hid (tape13_any (w := wr) k hk)
      go_upto_region 5 with (first
        | (go_at_call 25
           refine HTP.out.mono ?_
           rintro e w1 ⟨A1, c1, xs, rfl, hlen, hs1, hsp, hrng, hc1⟩
           have HUN := Lib.hid (unit_any (c := c1) hs1 hlen (fun _ ad e => (hsp ad e).1) (by omega) hrng)
           have HC1 := Lib.hid (HCr.out.trans hc1)
           clear hs1 hlen hsp hrng hc1)
        | (go_at_call 10
           refine HUN.out.mono ?_
           rintro e w2 ⟨pg, ms, v, fl, rfl, hp0, hp1, hm0, hm1, ho, hg, hfl0, hc2⟩
           obtain ⟨FA, fc, rfl, hFr⟩ := Fnr.of_own ho (by have := hg.lo; omega) (fun f hf => by have := hg.args f hf; omega)
           have HSU := Lib.hid (show ∀ f ∈ fl, f.code.size ≤ 9223372036854775807 from fun f hf => by have := hg.size f hf; omega)
           have HF2 := Lib.hid hFr
           have HC2 := Lib.hid (HC1.out.trans hc2)
           clear ho hg hFr hp0 hp1 hm0 hm1 hc2 hfl0))
      obtain ⟨fn, hfn⟩ : ∃ fn, fn = fl.length := ⟨_, rfl⟩
      rw [← hfn] at HF2 ⊢
      clear hfn
      have hN := Whole.new w2 24 [.int .i64 pg, .int .i64 ms, .slice FA fn fc]
      have hal := (Chg.refl [] w2).alloc (.cells #[.int .i64 pg, .int .i64 ms, .slice FA fn fc] 24)
      have HU3 := Lib.hid hN
      have HF3 := Lib.hid (HF2.out.keep hal)
      have HC3 := Lib.hid (HC2.out.trans hal)
      clear hN hal HF2 HC2 HC1
      generalize w2.heap.size = gu at HU3 ⊢
      generalize w2.alloc (.cells #[.int .i64 pg, .int .i64 ms, .slice FA fn fc] 24) = w3 at HU3 HF3 HC3 ⊢
      have u0 := HU3.out.cell 0
      have u1 := HU3.out.cell 1
      have u2 := HU3.out.cell 2
      have HTX := Lib.hid (rutext_any (pages := pg) (most := ms) HF3.out HSU.out)
      unfold UTextPost at HTX
      unfold unitV at HTX
      have hTl := text_short pg ms fl
      generalize (rText pg ms fl).2 = TE at HTX
      generalize (rText pg ms fl).1 = T at HTX hTl
      obtain ⟨S, hS⟩ : ∃ S, S = strOf T := ⟨_, rfl⟩
      rw [← hS] at HTX
      have hSz : S.size ≤ 2048 := by rw [hS, strOf_len]; exact hTl
      clear hS hTl
      go_upto_region 6 with (go_at_call 26
                             refine HTX.out.mono ?_
                             rintro e w6 ⟨rfl, hc6⟩
                             have HK6 := Lib.hid hc6
                             clear hc6)
      clear u0 u1 u2
      have HF6 := Lib.hid (HF3.out.keep HK6.out)
      have HU6 := Lib.hid (HU3.out.keep HK6.out)
      have HC6 := Lib.hid (HC3.out.trans HK6.out)
      clear HF3 HU3 HC3 HK6 HTX HTP HUN
      have HS0 := Lib.hid (show S.size ≤ 1000000 by omega)
      obtain ⟨y1, hy1, hA1⟩ := unAdd S ⟨#[10]⟩ 1000000 (by have : (⟨#[10]⟩ : ByteArray).size = 1 := rfl; omega) (by omega)
      obtain ⟨y2, hy2, hA2⟩ := unAdd S ⟨#[107, 48, 32, 49, 10]⟩ 1000000 (by have : (⟨#[107, 48, 32, 49, 10]⟩ : ByteArray).size = 5 := rfl; omega) (by omega)
      have HY1 := Lib.hid hy1
      have HY2 := Lib.hid hy2
      clear hy1 hy2
      have u0 := HU6.out.cell 0
      have u1 := HU6.out.cell 1
      have u2 := HU6.out.cell 2
      have HBP := Lib.hid (fun (W : World) (h : Chg [] w6 W) => (HP.out.here (HC6.out.trans h)))
      go_wp2_with (first
        | (go_at_call 27
           refine (HSM.out _ _ _ _ _ _ _ HF6.out HSU.out (HBP.out _ (Chg.refl [] _))).mono ?_
           rintro e w7 ⟨rfl, hc7⟩
           have HK7 := Lib.hid hc7
           clear hc7)
        | (go_at_call 28
           with_reducible refine (HRD.out _ S HS0.out (HBP.out _ HK7.out)).mono ?_
           rintro e w8 ⟨rfl, hc8⟩
           have HK8 := Lib.hid (HK7.out.trans hc8)
           clear hc8)
        | (go_at_call 28
           with_reducible refine (HRD.out _ y1 HY1.out (HBP.out _ HK8.out)).mono ?_
           rintro e w9 ⟨rfl, hc9⟩
           have HK9 := Lib.hid (HK8.out.trans hc9)
           clear hc9)
        | (go_at_call 28
           with_reducible refine (HRD.out _ y2 HY2.out (HBP.out _ HK9.out)).mono ?_
           rintro e w10 ⟨rfl, hc10⟩
           have HK10 := Lib.hid (HK9.out.trans hc10)
           clear hc10))
      have HCW := Lib.hid (HC6.out.trans HK10.out)
      go_roundw
      case rel => exact ⟨k + 1, by go_num, by omega, HCW⟩
      case measure => simp [intOf]; omega
    · have hkI : ¬ (k : Int) < 60 := by omega
      go_wp2_with fail
      have HCA := HCr
      clear hk hkn hkI
      go_loopw [5] (fun i wr => ∃ z : Int, i = .int .i64 z ∧ -1 ≤ z ∧ z ≤ 4 ∧ Hid (Chg [] w wr)) (fun i _ => (4 - intOf i).toNat)
      case atStart => exact ⟨-1, rfl, by omega, by omega, HCA⟩
      case round =>
        clear HCr HCA
        obtain ⟨z, rfl, hz0, hz1, HCr⟩ := hrel
        by_cases hz4 : z < 4
        · have HZ := Lib.hid (And.intro hz0 (And.intro hz1 hz4))
          go_upto_region 12 with fail
          clear hz0 hz1
          have hN := Whole.new wr 3 [.int .i64 (-1), .int .i64 0, .int .i64 1, .int .i64 2, .int .i64 64, .int .i64 65]
          have hal := (Chg.refl [] wr).alloc (.cells #[.int .i64 (-1), .int .i64 0, .int .i64 1, .int .i64 2, .int .i64 64, .int .i64 65] 3)
          have HW4 := Lib.hid hN
          have HC4 := Lib.hid (HCr.out.trans hal)
          clear hN hal HCr
          generalize wr.heap.size = gs at HW4 ⊢
          generalize wr.alloc (.cells #[.int .i64 (-1), .int .i64 0, .int .i64 1, .int .i64 2, .int .i64 64, .int .i64 65] 3) = w4 at HW4 HC4 ⊢
          go_loopw [54] (fun i wr => ∃ q : Nat, i = .int .i64 (q : Int) ∧ q ≤ 6 ∧ Hid (Chg [] w4 wr)) (fun i _ => 6 - (intOf i).toNat)
          case atStart => exact ⟨0, rfl, by omega, Lib.hid (Chg.refl [] _)⟩
          case round =>
            obtain ⟨q, rfl, hq, HCq⟩ := hrel
            by_cases hq6 : q < 6
            · have hqI : (q : Int) < 6 := by omega
              obtain ⟨b, hb⟩ : ∃ b : Int, ([.int .i64 (-1), .int .i64 0, .int .i64 1, .int .i64 2, .int .i64 64, .int .i64 65] : List Value)[q]? = some (.int .i64 b) := by
                have : q = 0 ∨ q = 1 ∨ q = 2 ∨ q = 3 ∨ q = 4 ∨ q = 5 := by omega
                rcases this with rfl | rfl | rfl | rfl | rfl | rfl <;> exact ⟨_, rfl⟩
              have z0 : wr.cell? ⟨gs, q, none⟩ = some (.int .i64 b) := ((HW4.out.keep HCq.out).cell q).trans hb
              clear hb
              go_wp2_with fail
              clear z0
              have HCB := HCq
              have HQ6 := Lib.hid hq6
              clear hq hq6 hqI
              go_loopw [8] (fun i wr => ∃ n : Int, i = .int .i64 n ∧ -1 ≤ n ∧ n ≤ 6 ∧ Hid (Chg [] w4 wr)) (fun i _ => (6 - intOf i).toNat)
              case atStart => exact ⟨-1, rfl, by omega, by omega, HCB⟩
              case round =>
                clear HCq HCB
                obtain ⟨n, rfl, hn0, hn1, HCn⟩ := hrel
                by_cases hn6 : n < 6
                · obtain ⟨m, hm⟩ : ∃ m : Nat, (m : Int) = 30 + n := ⟨(30 + n).toNat, by omega⟩
                  have hm36 : m ≤ 36 := by omega
                  have hw30 : IntKind.i64.wrap (30 + n) = (m : Int) := by rw [hm]; exact IntWalk.i64_in _ (by omega)
                  have hN := Whole.new wr 58 [.int .i32 102, .int .i64 n, .string ⟨#[49]⟩]
                  have hal := (Chg.refl [] wr).alloc (.cells #[.int .i32 102, .int .i64 n, .string ⟨#[49]⟩] 58)
                  have HS1 := Lib.hid (HSM.out _ z b _ 1 1 [⟨102, n, ⟨#[49]⟩⟩] (fnr_one_at (f := ⟨102, n, ⟨#[49]⟩⟩) ⟨by show _ ≤ n; omega, by show n ≤ _; omega⟩ hN) (fun f hf => by rw [List.mem_singleton] at hf; subst hf; show (1 : Nat) ≤ _; omega) (HP.out.here ((HC4.out.trans HCn.out).trans hal)))
                  have HAL := Lib.hid hal
                  clear hN hal hm
                  go_wp2_with (first
                    | (go_at_call 27
                       with_reducible refine HS1.out.mono ?_
                       rintro e w7 ⟨rfl, hc7⟩
                       have HC7 := Lib.hid (HCn.out.trans (HAL.out.trans hc7))
                       obtain ⟨g8, w8, hmk, hc8, hF8⟩ := make_funcs m (by omega) w7
                       have HC8 := Lib.hid (HC7.out.trans hc8)
                       have HS2 := Lib.hid (HSM.out w8 0 1 _ m m _ hF8 (fun f hf => by rw [List.mem_replicate] at hf; rw [hf.2]; decide) (HP.out.here (HC4.out.trans HC8.out)))
                       clear hc7 hc8 hF8)
                    | (go_at_call 27
                       with_reducible refine HS2.out.mono ?_
                       rintro e w9 ⟨rfl, hc9⟩
                       have HC9 := Lib.hid (HC8.out.trans hc9)
                       clear hc9))
                  go_roundw
                  case rel => exact ⟨n + 1, by first | rfl | go_num, by omega, by omega, HC9⟩
                  case measure => simp [intOf]; omega
                · have hn6' : ¬ n < 6 := hn6
                  have HQQ := HQ6.out
                  go_wp2_with fail
                  go_roundw
                  case rel => exact ⟨q + 1, by go_num, by omega, HCn⟩
                  case measure => simp [intOf]; omega
            · have hqI : ¬ (q : Int) < 6 := by omega
              have hzz := HZ.out
              have hzw : IntKind.i64.wrap (z + 1) = z + 1 := IntWalk.i64_in _ (by omega)
              have HCZ := Lib.hid (HC4.out.trans HCq.out)
              go_wp2_with fail
              go_roundw
              case rel => exact ⟨z + 1, by first | rfl | go_num, by omega, by omega, HCZ⟩
              case measure => simp [intOf]; omega
        · clear hz0 hz1
          have HT7 := Lib.hid (fun (W : World) => (show Calls Tryz.prog 25 #[.int .i64 7] W (UTapePost W) from tape13_any (w := W) 7 (by omega)))
          go_upto_region 21 with (first
            | (go_at_call 25
               refine (HT7.out _).mono ?_
               rintro e w1 ⟨A1, c1, xs, rfl, hlen, hs1, hsp, hrng, hc1⟩
               have HUN := Lib.hid (unit_any (c := c1) hs1 hlen (fun _ ad e => (hsp ad e).1) (by omega) hrng)
               have HC1 := Lib.hid (HCr.out.trans hc1)
               clear hs1 hlen hsp hrng hc1)
            | (go_at_call 10
               refine HUN.out.mono ?_
               rintro e w2 ⟨pg, ms, v, fl, rfl, hp0, hp1, hm0, hm1, ho, hg, hfl0, hc2⟩
               obtain ⟨FA, fc, rfl, hFr⟩ := Fnr.of_own ho (by have := hg.lo; omega) (fun f hf => by have := hg.args f hf; omega)
               have HTX := Lib.hid (rutext_any (pages := pg) (most := ms) hFr (fun f hf => by have := hg.size f hf; omega))
               unfold UTextPost at HTX
               unfold unitV at HTX
               have HTL := Lib.hid (text_short pg ms fl)
               have HC2 := Lib.hid (HC1.out.trans hc2)
               clear ho hg hFr hp0 hp1 hm0 hm1 hc2 hfl0)
            | (go_at_call 26
               refine HTX.out.mono ?_
               rintro e w3 ⟨rfl, hc3⟩
               have HC3 := Lib.hid (HC2.out.trans hc3)
               clear hc3))
          obtain ⟨S, hS⟩ : ∃ S, S = strOf (rText pg ms fl).1 := ⟨_, rfl⟩
          have hSz : S.size ≤ 2048 := by rw [hS, strOf_len]; exact HTL.out
          rw [← hS]
          generalize (rText pg ms fl).2 = TE
          clear hS HTX HTL HUN HC1 HC2 HT7
          go_wp2_with fail
          go_loopw [11] (fun v wr => ∃ i : Nat, v = .int .i64 (i : Int) ∧ i ≤ 300 ∧ Hid (Chg [] w wr)) (fun v _ => 300 - (intOf v).toNat)
          case atStart => exact ⟨0, rfl, by omega, HC3⟩
          case round =>
            clear HC3
            obtain ⟨i, rfl, hi, HCr⟩ := hrel
            by_cases hiS : i ≤ S.size ∧ i < 300
            · obtain ⟨hiS, hi3⟩ := hiS
              have h3I : (i : Int) < 300 := by omega
              have hiI : (i : Int) ≤ (S.size : Int) := by omega
              have HI := Lib.hid (And.intro hiS hi3)
              have HXT := Lib.hid (HRD.out wr (S.extract 0 i) (by rw [ByteArray.size_extract]; omega) (HP.out.here HCr.out))
              clear hi hi3
              go_upto_region 27 with (go_at_call 28
                                      refine HXT.out.mono ?_
                                      rintro e w5 ⟨rfl, hc5⟩
                                      have HC5 := Lib.hid (HCr.out.trans hc5)
                                      clear hc5)
              have hN := Whole.new w5 9 (unStrs unS6)
              have hal := (Chg.refl [] w5).alloc (.cells #[.string ⟨#[]⟩, .string ⟨#[32]⟩, .string ⟨#[10]⟩, .string ⟨#[48]⟩, .string ⟨#[102]⟩, .string ⟨#[255]⟩] 9)
              have HW6 := Lib.hid (show Whole (w5.alloc (.cells #[.string ⟨#[]⟩, .string ⟨#[32]⟩, .string ⟨#[10]⟩, .string ⟨#[48]⟩, .string ⟨#[102]⟩, .string ⟨#[255]⟩] 9)) w5.heap.size 9 (unStrs unS6) from hN)
              have HC6 := Lib.hid (HC5.out.trans hal)
              clear hN hal HCr HXT HC5 h3I hiI hiS
              generalize w5.heap.size = gs at HW6 ⊢
              generalize w5.alloc (.cells #[.string ⟨#[]⟩, .string ⟨#[32]⟩, .string ⟨#[10]⟩, .string ⟨#[48]⟩, .string ⟨#[102]⟩, .string ⟨#[255]⟩] 9) = w6 at HW6 HC6 ⊢
              go_loopw [102] (fun v wr => ∃ q : Nat, v = .int .i64 (q : Int) ∧ q ≤ 6 ∧ Hid (Chg [] w6 wr)) (fun v _ => 6 - (intOf v).toNat)
              case atStart => exact ⟨0, rfl, by omega, Lib.hid (Chg.refl [] _)⟩
              case round =>
                obtain ⟨q, rfl, hq, HCq⟩ := hrel
                by_cases hq6 : q < 6
                · have hqI : (q : Int) < 6 := by omega
                  obtain ⟨x, hx, hxs⟩ := unStrs_get (l := unS6) (k := q) (m := 2) (by decide) hq6
                  have z0 : wr.cell? ⟨gs, q, none⟩ = some (.string x) := ((HW6.out.keep HCq.out).cell q).trans hx
                  clear hx
                  have hI := HI.out
                  by_cases hlt : i < S.size
                  · obtain ⟨y3, hy3, hA3⟩ := unAdd (S.extract 0 i) x 500000 (by rw [ByteArray.size_extract]; omega) (by omega)
                    obtain ⟨y4, hy4, hA4⟩ := unAdd y3 (S.extract (i + 1) S.size) 1000000 (by rw [ByteArray.size_extract]; omega) (by omega)
                    have HA3 := Lib.hid hA3
                    have HA4 := Lib.hid hA4
                    have HY4 := Lib.hid hy4
                    have HIS := Lib.hid (show (i : Int) < (S.size : Int) by omega)
                    have HIL := Lib.hid (show i ≤ S.size by omega)
                    have HIS1 := Lib.hid (show i + 1 ≤ S.size by omega)
                    have HWI := Lib.hid (show IntKind.i64.wrap ((i : Int) + 1) = ((i + 1 : Nat) : Int) from by rw [IntWalk.i64_in _ (by omega)]; omega)
                    have HC6q := Lib.hid (HC6.out.trans HCq.out)
                    clear hA3 hA4 hy3 hy4 hlt hI hxs
                    go_upto_region 29 with fail
                    clear z0
                    have HHW := Lib.hid (fun (W : World) (h : Chg [] wr.drew W) => (show Chg [] wr W from (Chg.refl [] wr).drew.trans h))
                    have HBP := Lib.hid (fun (W : World) (h : Chg [] wr W) => (HP.out.here (HC6q.out.trans h)))
                    refine wp_flow (by kernel_rfl) plainT plainT_ok (by kernel_rfl) ?_
                    refine flow_move_out plainT_ok rfl rfl rfl ?_
                    refine flow_move_out plainT_ok rfl rfl rfl ?_
                    refine flow_len_str (s := S) plainT_ok (.inn rfl) Tryz.underlying9 rfl ?_
                    refine flow2 (r := .bool true) plainT_ok rfl (.inn rfl) (.inn rfl) rfl (fun ev W he e1 e2 => by have q := HIS.out; go_simp) ?_
                    refine flow_move plainT_ok rfl (keeps_isV _) (.inr (keeps_isV _)) rfl ?_
                    refine flow_move_out plainT_ok rfl rfl rfl ?_
                    refine flow_move_out plainT_ok rfl rfl rfl ?_
                    refine flow_cut_str (s := S) (n := i) plainT_ok (.inn rfl) (.inn rfl) Tryz.underlying9 HIL.out rfl ?_
                    refine flow_move_out plainT_ok rfl rfl rfl ?_
                    refine flow2 (r := .string y3) plainT_ok rfl (.inn rfl) (.inn rfl) rfl (fun ev W he e1 e2 => by have q := HA3.out W; go_simp) ?_
                    refine flow_move_out plainT_ok rfl rfl rfl ?_
                    refine flow_move_out plainT_ok rfl rfl rfl ?_
                    refine flow2 (r := .int .i64 ((i + 1 : Nat) : Int)) plainT_ok rfl (.inn rfl) (.const _) rfl (fun ev W he e1 e2 => by have q := HWI.out; go_simp) ?_
                    refine flow_drop_str (s := S) (n := i + 1) plainT_ok (.inn rfl) (.inn rfl) Tryz.underlying9 HIS1.out rfl ?_
                    refine flow2 (r := .string y4) plainT_ok rfl (.inn rfl) (.inn rfl) rfl (fun ev W he e1 e2 => by have q := HA4.out W; go_simp) ?_
                    refine flow_callv (.bool true) (by kernel_rfl) rfl (.cons (.inn rfl) .nil) (fun W hW => (HRD.out W y4 HY4.out (HBP.out W (HHW.out W hW))).mono ?_) ?_
                    · rintro e w' ⟨rfl, hc⟩
                      rw [plain_by]
                      exact ⟨rfl, hc⟩
                    refine flow1 (r := .bool false) plainT_ok rfl (.inn rfl) rfl (fun ev W he e1 => by go_simp) ?_
                    refine flow_and plainT_ok rfl rfl rfl ?_
                    intro vs W hW hF
                    have e123 : vs 123 = .bool false := hF 123 _ rfl rfl
                    have HCV := Lib.hid (HHW.out W hW)
                    simp only [putAll, Act.put, List.setIfInBounds_toArray, List.set_cons_zero, List.set_cons_succ]
                    rw [e123]
                    clear hF hW e123
                    obtain ⟨wz, hwz⟩ : ∃ wz : World, wz = W := ⟨_, rfl⟩
                    rw [← hwz] at HCV ⊢
                    clear hwz
                    have HCW2 := Lib.hid (HCq.out.trans HCV.out)
                    go_wp2_with fail
                    go_roundw
                    case rel => exact ⟨q + 1, by go_num, by omega, HCW2⟩
                    case measure => simp [intOf]; omega
                  · have HIS := Lib.hid (show ¬ (i : Int) < (S.size : Int) by omega)
                    clear hxs hI hlt
                    go_upto_region 29 with fail
                    clear z0
                    have HHW := Lib.hid (fun (W : World) (h : Chg [] wr.drew W) => (show Chg [] wr W from (Chg.refl [] wr).drew.trans h))
                    refine wp_flow (by kernel_rfl) plainT plainT_ok (by kernel_rfl) ?_
                    refine flow_move_out plainT_ok rfl rfl rfl ?_
                    refine flow_move_out plainT_ok rfl rfl rfl ?_
                    refine flow_len_str (s := S) plainT_ok (.inn rfl) Tryz.underlying9 rfl ?_
                    refine flow2 (r := .bool false) plainT_ok rfl (.inn rfl) (.inn rfl) rfl (fun ev W he e1 e2 => by have q := HIS.out; go_simp) ?_
                    refine flow_move plainT_ok rfl (keeps_isV _) (.inr (keeps_isV _)) rfl ?_
                    refine flow_skip rfl ?_
                    refine flow_skip rfl ?_
                    refine flow_skip rfl ?_
                    refine flow_skip rfl ?_
                    refine flow_skip rfl ?_
                    refine flow_skip rfl ?_
                    refine flow_skip rfl ?_
                    refine flow_skip rfl ?_
                    refine flow_skip rfl ?_
                    refine flow_skip rfl ?_
                    refine flow_skip rfl ?_
                    refine flow_skip rfl ?_
                    refine flow_and_false plainT_ok rfl rfl rfl ?_
                    intro vs W hW hF
                    have e123 : vs 123 = .bool false := hF 123 _ rfl rfl
                    have HCV := Lib.hid (HHW.out W hW)
                    simp only [putAll, Act.put, List.setIfInBounds_toArray, List.set_cons_zero, List.set_cons_succ]
                    rw [e123]
                    clear hF hW e123
                    obtain ⟨wz, hwz⟩ : ∃ wz : World, wz = W := ⟨_, rfl⟩
                    rw [← hwz] at HCV ⊢
                    clear hwz
                    have HCW2 := Lib.hid (HCq.out.trans HCV.out)
                    go_wp2_with fail
                    go_roundw
                    case rel => exact ⟨q + 1, by go_num, by omega, HCW2⟩
                    case measure => simp [intOf]; omega
                · have hqI : ¬ (q : Int) < 6 := by omega
                  have HCZ := Lib.hid (HC6.out.trans HCq.out)
                  have hI := HI.out
                  go_wp2_with fail
                  go_roundw
                  case rel => exact ⟨i + 1, by go_num, by omega, HCZ⟩
                  case measure => simp [intOf]; omega
            · have HCB := HCr
              have HNI := Lib.hid hiS
              have hmk : ∀ W : World, (Instr.makeSlice 33 (.int .i64 2049) (.int .i64 2049)).run Tryz.prog W = .ok (.slice (some ⟨W.heap.size, 0, none⟩) 2049 2049) (W.alloc (.cells (bts (zeros 2049)).toArray 5)) := fun W => make_u8 2049 (by omega) W
              by_cases hiL : i ≤ S.size
              · have hiI : (i : Int) ≤ (S.size : Int) := by omega
                have h3I : ¬ (i : Int) < 300 := by have := HNI.out; omega
                clear hiS hi hiL
                go_upto_region 33 with fail
                have hN := Whole.new wr 9 (unStrs unS18)
                have hal := (Chg.refl [] wr).alloc (.cells #[.string ⟨#[117, 110, 105, 116, 32, 48, 32, 48]⟩, .string ⟨#[117, 110, 105, 116, 32, 48, 48, 32, 48, 10]⟩, .string ⟨#[117, 110, 105, 116, 32, 48, 32, 32, 48, 10]⟩, .string ⟨#[117, 110, 105, 116, 32, 48, 32, 48, 32, 10]⟩, .string ⟨#[117, 110, 105, 116, 32, 45, 49, 32, 48, 10]⟩, .string ⟨#[117, 110, 105, 116, 32, 48, 32, 54, 53, 10]⟩, .string ⟨#[117, 110, 105, 116, 32, 48, 32, 57, 57, 57, 57, 57, 57, 57, 57, 57, 57, 57, 57, 57, 57, 57, 57, 57, 57, 57, 57, 10]⟩, .string ⟨#[117, 110, 105, 116, 32, 48, 32, 57, 50, 50, 51, 51, 55, 50, 48, 51, 54, 56, 53, 52, 55, 55, 53, 56, 48, 55, 10]⟩, .string ⟨#[117, 110, 105, 116, 32, 48, 32, 48, 10, 10]⟩, .string ⟨#[117, 110, 105, 116, 32, 48, 32, 48, 10, 102, 48, 32, 49, 10, 102, 48, 32, 49, 10]⟩, .string ⟨#[117, 110, 105, 116, 32, 48, 32, 48, 10, 102, 48, 32, 32, 49, 10]⟩, .string ⟨#[117, 110, 105, 116, 32, 48, 32, 48, 10, 102, 57, 32, 49, 10]⟩, .string ⟨#[117, 110, 105, 116, 32, 48, 32, 48, 10, 228, 184, 150, 49, 32, 97, 10]⟩, .string ⟨#[117, 110, 105, 116, 32, 48, 32, 48, 10, 65, 48, 32, 49, 10]⟩, .string ⟨#[117, 110, 105, 116, 32, 48, 32, 48, 10, 102, 48, 49, 10]⟩, .string ⟨#[117, 110, 105, 116, 32, 48, 32, 48, 10, 102, 48, 32, 49, 32, 50, 43, 10]⟩, .string ⟨#[117, 110, 105, 116, 32, 48, 32, 48, 10, 102, 48, 32, 48, 49, 10]⟩, .string ⟨#[10, 117, 110, 105, 116, 32, 48, 32, 48, 10]⟩] 9)
                have HW6 := Lib.hid (show Whole (wr.alloc (.cells #[.string ⟨#[117, 110, 105, 116, 32, 48, 32, 48]⟩, .string ⟨#[117, 110, 105, 116, 32, 48, 48, 32, 48, 10]⟩, .string ⟨#[117, 110, 105, 116, 32, 48, 32, 32, 48, 10]⟩, .string ⟨#[117, 110, 105, 116, 32, 48, 32, 48, 32, 10]⟩, .string ⟨#[117, 110, 105, 116, 32, 45, 49, 32, 48, 10]⟩, .string ⟨#[117, 110, 105, 116, 32, 48, 32, 54, 53, 10]⟩, .string ⟨#[117, 110, 105, 116, 32, 48, 32, 57, 57, 57, 57, 57, 57, 57, 57, 57, 57, 57, 57, 57, 57, 57, 57, 57, 57, 57, 57, 10]⟩, .string ⟨#[117, 110, 105, 116, 32, 48, 32, 57, 50, 50, 51, 51, 55, 50, 48, 51, 54, 56, 53, 52, 55, 55, 53, 56, 48, 55, 10]⟩, .string ⟨#[117, 110, 105, 116, 32, 48, 32, 48, 10, 10]⟩, .string ⟨#[117, 110, 105, 116, 32, 48, 32, 48, 10, 102, 48, 32, 49, 10, 102, 48, 32, 49, 10]⟩, .string ⟨#[117, 110, 105, 116, 32, 48, 32, 48, 10, 102, 48, 32, 32, 49, 10]⟩, .string ⟨#[117, 110, 105, 116, 32, 48, 32, 48, 10, 102, 57, 32, 49, 10]⟩, .string ⟨#[117, 110, 105, 116, 32, 48, 32, 48, 10, 228, 184, 150, 49, 32, 97, 10]⟩, .string ⟨#[117, 110, 105, 116, 32, 48, 32, 48, 10, 65, 48, 32, 49, 10]⟩, .string ⟨#[117, 110, 105, 116, 32, 48, 32, 48, 10, 102, 48, 49, 10]⟩, .string ⟨#[117, 110, 105, 116, 32, 48, 32, 48, 10, 102, 48, 32, 49, 32, 50, 43, 10]⟩, .string ⟨#[117, 110, 105, 116, 32, 48, 32, 48, 10, 102, 48, 32, 48, 49, 10]⟩, .string ⟨#[10, 117, 110, 105, 116, 32, 48, 32, 48, 10]⟩] 9)) wr.heap.size 9 (unStrs unS18) from hN)
                have HC6 := Lib.hid (HCB.out.trans hal)
                clear hN hal HCr HCB hiI
                generalize wr.heap.size = gs at HW6 ⊢
                generalize wr.alloc (.cells #[.string ⟨#[117, 110, 105, 116, 32, 48, 32, 48]⟩, .string ⟨#[117, 110, 105, 116, 32, 48, 48, 32, 48, 10]⟩, .string ⟨#[117, 110, 105, 116, 32, 48, 32, 32, 48, 10]⟩, .string ⟨#[117, 110, 105, 116, 32, 48, 32, 48, 32, 10]⟩, .string ⟨#[117, 110, 105, 116, 32, 45, 49, 32, 48, 10]⟩, .string ⟨#[117, 110, 105, 116, 32, 48, 32, 54, 53, 10]⟩, .string ⟨#[117, 110, 105, 116, 32, 48, 32, 57, 57, 57, 57, 57, 57, 57, 57, 57, 57, 57, 57, 57, 57, 57, 57, 57, 57, 57, 57, 10]⟩, .string ⟨#[117, 110, 105, 116, 32, 48, 32, 57, 50, 50, 51, 51, 55, 50, 48, 51, 54, 56, 53, 52, 55, 55, 53, 56, 48, 55, 10]⟩, .string ⟨#[117, 110, 105, 116, 32, 48, 32, 48, 10, 10]⟩, .string ⟨#[117, 110, 105, 116, 32, 48, 32, 48, 10, 102, 48, 32, 49, 10, 102, 48, 32, 49, 10]⟩, .string ⟨#[117, 110, 105, 116, 32, 48, 32, 48, 10, 102, 48, 32, 32, 49, 10]⟩, .string ⟨#[117, 110, 105, 116, 32, 48, 32, 48, 10, 102, 57, 32, 49, 10]⟩, .string ⟨#[117, 110, 105, 116, 32, 48, 32, 48, 10, 228, 184, 150, 49, 32, 97, 10]⟩, .string ⟨#[117, 110, 105, 116, 32, 48, 32, 48, 10, 65, 48, 32, 49, 10]⟩, .string ⟨#[117, 110, 105, 116, 32, 48, 32, 48, 10, 102, 48, 49, 10]⟩, .string ⟨#[117, 110, 105, 116, 32, 48, 32, 48, 10, 102, 48, 32, 49, 32, 50, 43, 10]⟩, .string ⟨#[117, 110, 105, 116, 32, 48, 32, 48, 10, 102, 48, 32, 48, 49, 10]⟩, .string ⟨#[10, 117, 110, 105, 116, 32, 48, 32, 48, 10]⟩] 9) = w6 at HW6 HC6 ⊢
                go_loopw [127] (fun v wr => ∃ q : Nat, v = .int .i64 (q : Int) ∧ q ≤ 18 ∧ Hid (Chg [] w6 wr)) (fun v _ => 18 - (intOf v).toNat)
                case atStart => exact ⟨0, rfl, by omega, Lib.hid (Chg.refl [] _)⟩
                case round =>
                  obtain ⟨q, rfl, hq, HCq⟩ := hrel
                  by_cases hq6 : q < 18
                  · have hqI : (q : Int) < 18 := by omega
                    obtain ⟨x, hx, hxs⟩ := unStrs_get (l := unS18) (k := q) (m := 40) (by decide) hq6
                    have z0 : wr.cell? ⟨gs, q, none⟩ = some (.string x) := ((HW6.out.keep HCq.out).cell q).trans hx
                    have HXT := Lib.hid (HRD.out wr x (by omega) (HP.out.here (HC6.out.trans HCq.out)))
                    clear hx hxs
                    go_wp2_with (go_at_call 28
                                 refine HXT.out.mono ?_
                                 rintro e w5 ⟨rfl, hc5⟩
                                 have HC5 := Lib.hid (HCq.out.trans hc5)
                                 clear hc5)
                    go_roundw
                    case rel => exact ⟨q + 1, by go_num, by omega, HC5⟩
                    case measure => simp [intOf]; omega
                  · have hqI : ¬ (q : Int) < 18 := by omega
                    have hN := Whole.new wr 5 (bts (zeros 2049))
                    have hal := (Chg.refl [] wr).alloc (.cells (bts (zeros 2049)).toArray 5)
                    have hbs := Bs.of_all hN (by simp [zeros])
                    rw [show (zeros 2049).length = 2049 by simp [zeros]] at hbs
                    have hstr := hbs.str (P := Tryz.prog) 33 5 9 Tryz.underlying33 Tryz.underlying5 Tryz.underlying9
                    have HRZ := Lib.hid (HRD.out (wr.alloc (.cells (bts (zeros 2049)).toArray 5)) (strOf (zeros 2049)) (by rw [strOf_len]; simp [zeros]) (HP.out.here ((HC6.out.trans HCq.out).trans hal)))
                    have HAL := Lib.hid ((HC6.out.trans HCq.out).trans hal)
                    clear hN hal hbs
                    generalize strOf (zeros 2049) = SZ at hstr HRZ
                    generalize bts (zeros 2049) = BZ at hmk hstr HRZ HAL
                    go_wp2_with (first
                      | (go_at_call 28
                         refine HRZ.out.mono ?_
                         rintro e w5 ⟨rfl, hc5⟩
                         have HC5 := Lib.hid (HAL.out.trans hc5)
                         clear hc5)
                      | (go_at_call 29
                         refine (HKN.out _ (HP.out.here HC5.out)).mono ?_
                         rintro e w7 ⟨rfl, hc7⟩
                         have HC7 := Lib.hid (HC5.out.trans hc7)
                         clear hc7))
                    go_ret
                    exact ⟨rfl, HC7.out⟩
              · have hiI : ¬ (i : Int) ≤ (S.size : Int) := by omega
                clear hiS hi hiL
                go_upto_region 33 with fail
                have hN := Whole.new wr 9 (unStrs unS18)
                have hal := (Chg.refl [] wr).alloc (.cells #[.string ⟨#[117, 110, 105, 116, 32, 48, 32, 48]⟩, .string ⟨#[117, 110, 105, 116, 32, 48, 48, 32, 48, 10]⟩, .string ⟨#[117, 110, 105, 116, 32, 48, 32, 32, 48, 10]⟩, .string ⟨#[117, 110, 105, 116, 32, 48, 32, 48, 32, 10]⟩, .string ⟨#[117, 110, 105, 116, 32, 45, 49, 32, 48, 10]⟩, .string ⟨#[117, 110, 105, 116, 32, 48, 32, 54, 53, 10]⟩, .string ⟨#[117, 110, 105, 116, 32, 48, 32, 57, 57, 57, 57, 57, 57, 57, 57, 57, 57, 57, 57, 57, 57, 57, 57, 57, 57, 57, 57, 10]⟩, .string ⟨#[117, 110, 105, 116, 32, 48, 32, 57, 50, 50, 51, 51, 55, 50, 48, 51, 54, 56, 53, 52, 55, 55, 53, 56, 48, 55, 10]⟩, .string ⟨#[117, 110, 105, 116, 32, 48, 32, 48, 10, 10]⟩, .string ⟨#[117, 110, 105, 116, 32, 48, 32, 48, 10, 102, 48, 32, 49, 10, 102, 48, 32, 49, 10]⟩, .string ⟨#[117, 110, 105, 116, 32, 48, 32, 48, 10, 102, 48, 32, 32, 49, 10]⟩, .string ⟨#[117, 110, 105, 116, 32, 48, 32, 48, 10, 102, 57, 32, 49, 10]⟩, .string ⟨#[117, 110, 105, 116, 32, 48, 32, 48, 10, 228, 184, 150, 49, 32, 97, 10]⟩, .string ⟨#[117, 110, 105, 116, 32, 48, 32, 48, 10, 65, 48, 32, 49, 10]⟩, .string ⟨#[117, 110, 105, 116, 32, 48, 32, 48, 10, 102, 48, 49, 10]⟩, .string ⟨#[117, 110, 105, 116, 32, 48, 32, 48, 10, 102, 48, 32, 49, 32, 50, 43, 10]⟩, .string ⟨#[117, 110, 105, 116, 32, 48, 32, 48, 10, 102, 48, 32, 48, 49, 10]⟩, .string ⟨#[10, 117, 110, 105, 116, 32, 48, 32, 48, 10]⟩] 9)
                have HW6 := Lib.hid (show Whole (wr.alloc (.cells #[.string ⟨#[117, 110, 105, 116, 32, 48, 32, 48]⟩, .string ⟨#[117, 110, 105, 116, 32, 48, 48, 32, 48, 10]⟩, .string ⟨#[117, 110, 105, 116, 32, 48, 32, 32, 48, 10]⟩, .string ⟨#[117, 110, 105, 116, 32, 48, 32, 48, 32, 10]⟩, .string ⟨#[117, 110, 105, 116, 32, 45, 49, 32, 48, 10]⟩, .string ⟨#[117, 110, 105, 116, 32, 48, 32, 54, 53, 10]⟩, .string ⟨#[117, 110, 105, 116, 32, 48, 32, 57, 57, 57, 57, 57, 57, 57, 57, 57, 57, 57, 57, 57, 57, 57, 57, 57, 57, 57, 57, 10]⟩, .string ⟨#[117, 110, 105, 116, 32, 48, 32, 57, 50, 50, 51, 51, 55, 50, 48, 51, 54, 56, 53, 52, 55, 55, 53, 56, 48, 55, 10]⟩, .string ⟨#[117, 110, 105, 116, 32, 48, 32, 48, 10, 10]⟩, .string ⟨#[117, 110, 105, 116, 32, 48, 32, 48, 10, 102, 48, 32, 49, 10, 102, 48, 32, 49, 10]⟩, .string ⟨#[117, 110, 105, 116, 32, 48, 32, 48, 10, 102, 48, 32, 32, 49, 10]⟩, .string ⟨#[117, 110, 105, 116, 32, 48, 32, 48, 10, 102, 57, 32, 49, 10]⟩, .string ⟨#[117, 110, 105, 116, 32, 48, 32, 48, 10, 228, 184, 150, 49, 32, 97, 10]⟩, .string ⟨#[117, 110, 105, 116, 32, 48, 32, 48, 10, 65, 48, 32, 49, 10]⟩, .string ⟨#[117, 110, 105, 116, 32, 48, 32, 48, 10, 102, 48, 49, 10]⟩, .string ⟨#[117, 110, 105, 116, 32, 48, 32, 48, 10, 102, 48, 32, 49, 32, 50, 43, 10]⟩, .string ⟨#[117, 110, 105, 116, 32, 48, 32, 48, 10, 102, 48, 32, 48, 49, 10]⟩, .string ⟨#[10, 117, 110, 105, 116, 32, 48, 32, 48, 10]⟩] 9)) wr.heap.size 9 (unStrs unS18) from hN)
                have HC6 := Lib.hid (HCB.out.trans hal)
                clear hN hal HCr HCB hiI
                generalize wr.heap.size = gs at HW6 ⊢
                generalize wr.alloc (.cells #[.string ⟨#[117, 110, 105, 116, 32, 48, 32, 48]⟩, .string ⟨#[117, 110, 105, 116, 32, 48, 48, 32, 48, 10]⟩, .string ⟨#[117, 110, 105, 116, 32, 48, 32, 32, 48, 10]⟩, .string ⟨#[117, 110, 105, 116, 32, 48, 32, 48, 32, 10]⟩, .string ⟨#[117, 110, 105, 116, 32, 45, 49, 32, 48, 10]⟩, .string ⟨#[117, 110, 105, 116, 32, 48, 32, 54, 53, 10]⟩, .string ⟨#[117, 110, 105, 116, 32, 48, 32, 57, 57, 57, 57, 57, 57, 57, 57, 57, 57, 57, 57, 57, 57, 57, 57, 57, 57, 57, 57, 10]⟩, .string ⟨#[117, 110, 105, 116, 32, 48, 32, 57, 50, 50, 51, 51, 55, 50, 48, 51, 54, 56, 53, 52, 55, 55, 53, 56, 48, 55, 10]⟩, .string ⟨#[117, 110, 105, 116, 32, 48, 32, 48, 10, 10]⟩, .string ⟨#[117, 110, 105, 116, 32, 48, 32, 48, 10, 102, 48, 32, 49, 10, 102, 48, 32, 49, 10]⟩, .string ⟨#[117, 110, 105, 116, 32, 48, 32, 48, 10, 102, 48, 32, 32, 49, 10]⟩, .string ⟨#[117, 110, 105, 116, 32, 48, 32, 48, 10, 102, 57, 32, 49, 10]⟩, .string ⟨#[117, 110, 105, 116, 32, 48, 32, 48, 10, 228, 184, 150, 49, 32, 97, 10]⟩, .string ⟨#[117, 110, 105, 116, 32, 48, 32, 48, 10, 65, 48, 32, 49, 10]⟩, .string ⟨#[117, 110, 105, 116, 32, 48, 32, 48, 10, 102, 48, 49, 10]⟩, .string ⟨#[117, 110, 105, 116, 32, 48, 32, 48, 10, 102, 48, 32, 49, 32, 50, 43, 10]⟩, .string ⟨#[117, 110, 105, 116, 32, 48, 32, 48, 10, 102, 48, 32, 48, 49, 10]⟩, .string ⟨#[10, 117, 110, 105, 116, 32, 48, 32, 48, 10]⟩] 9) = w6 at HW6 HC6 ⊢
                go_loopw [127] (fun v wr => ∃ q : Nat, v = .int .i64 (q : Int) ∧ q ≤ 18 ∧ Hid (Chg [] w6 wr)) (fun v _ => 18 - (intOf v).toNat)
                case atStart => exact ⟨0, rfl, by omega, Lib.hid (Chg.refl [] _)⟩
                case round =>
                  obtain ⟨q, rfl, hq, HCq⟩ := hrel
                  by_cases hq6 : q < 18
                  · have hqI : (q : Int) < 18 := by omega
                    obtain ⟨x, hx, hxs⟩ := unStrs_get (l := unS18) (k := q) (m := 40) (by decide) hq6
                    have z0 : wr.cell? ⟨gs, q, none⟩ = some (.string x) := ((HW6.out.keep HCq.out).cell q).trans hx
                    have HXT := Lib.hid (HRD.out wr x (by omega) (HP.out.here (HC6.out.trans HCq.out)))
                    clear hx hxs
                    go_wp2_with (go_at_call 28
                                 refine HXT.out.mono ?_
                                 rintro e w5 ⟨rfl, hc5⟩
                                 have HC5 := Lib.hid (HCq.out.trans hc5)
                                 clear hc5)
                    go_roundw
                    case rel => exact ⟨q + 1, by go_num, by omega, HC5⟩
                    case measure => simp [intOf]; omega
                  · have hqI : ¬ (q : Int) < 18 := by omega
                    have hN := Whole.new wr 5 (bts (zeros 2049))
                    have hal := (Chg.refl [] wr).alloc (.cells (bts (zeros 2049)).toArray 5)
                    have hbs := Bs.of_all hN (by simp [zeros])
                    rw [show (zeros 2049).length = 2049 by simp [zeros]] at hbs
                    have hstr := hbs.str (P := Tryz.prog) 33 5 9 Tryz.underlying33 Tryz.underlying5 Tryz.underlying9
                    have HRZ := Lib.hid (HRD.out (wr.alloc (.cells (bts (zeros 2049)).toArray 5)) (strOf (zeros 2049)) (by rw [strOf_len]; simp [zeros]) (HP.out.here ((HC6.out.trans HCq.out).trans hal)))
                    have HAL := Lib.hid ((HC6.out.trans HCq.out).trans hal)
                    clear hN hal hbs
                    generalize strOf (zeros 2049) = SZ at hstr HRZ
                    generalize bts (zeros 2049) = BZ at hmk hstr HRZ HAL
                    go_wp2_with (first
                      | (go_at_call 28
                         refine HRZ.out.mono ?_
                         rintro e w5 ⟨rfl, hc5⟩
                         have HC5 := Lib.hid (HAL.out.trans hc5)
                         clear hc5)
                      | (go_at_call 29
                         refine (HKN.out _ (HP.out.here HC5.out)).mono ?_
                         rintro e w7 ⟨rfl, hc7⟩
                         have HC7 := Lib.hid (HC5.out.trans hc7)
                         clear hc7))
                    go_ret
                    exact ⟨rfl, HC7.out⟩
end
end Go.Proofs.YtbkfhndmeljlcaaGreatDoor
