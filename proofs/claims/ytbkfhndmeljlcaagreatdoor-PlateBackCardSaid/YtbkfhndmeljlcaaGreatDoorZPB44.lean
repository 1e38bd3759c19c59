/-
  PB: PlGet0, PlPages, PlKnown, LawPlN.
-/
import Derived.Test.YtbkfhndmeljlcaaGreatDoorZPB3
import Derived.Test.YtbkfhndmeljlcaaGreatDoorZPB4
import Derived.Test.YtbkfhndmeljlcaaGreatDoorZPB42
import Derived.Test.YtbkfhndmeljlcaaGreatDoorZPB43
namespace Go.Proofs.YtbkfhndmeljlcaaGreatDoor
open Go.RowKit
theorem zero_meta : ¬ isMeta (zeros 64) := by
  intro h
  have h2 := h.2.2
  have h3 := congrArg (fun l : List UInt8 => l.getD 0 0) h2
  simp [metaL, unitL, zeros] at h3
/-- Nothing is read. -/
def RdNo (w : World) (e : Ending) (w' : World) : Prop := e = .returned (.tuple #[.string ⟨#[]⟩, .int .i64 0, .bool false]) ∧ Chg [] w w'
/-- Nothing is got. -/
def GtNo (r : Int) (w : World) (e : Ending) (w' : World) : Prop := e = .returned (.tuple #[.agg #[.int .i64 0, .int .i64 0, .slice none 0 0], .pointer none, .int .i64 0, .int .i64 r]) ∧ Chg [] w w'
theorem results_row_tmp3 {fn : Func} {p a b c : Tmp} {ty : TypeId} (h : fn.results = #[.cell p ty, .tmp a, .tmp b, .tmp c]) (tmps : Array Value) (w : World) (g : Nat) (t : TypeId) (cs : List Value) (fs : Array Field)
    (hp : tmps.getD p undef = .pointer (some ⟨g, 0, none⟩)) (hg : Whole w g t cs) (hu : Tryz.prog.underlying ty = some (.struct fs)) (hi : (Tryz.prog.info? ty).map (·.size) = some cs.toArray.size) :
    (results fn tmps).run Tryz.prog w = .ok (.tuple #[.agg cs.toArray, tmps.getD a undef, tmps.getD b undef, tmps.getD c undef]) w := by
  have hp' : tmps[p]?.getD undef = .pointer (some ⟨g, 0, none⟩) := by simpa using hp
  unfold results
  simp [h, hp', asAddr, run_loadVar_row w g t ty cs.toArray (0, 0) (.struct fs) hg hu rfl hi]
section
variable {w : World}
set_option maxHeartbeats 4000000 in
set_option maxRecDepth 100000 in
theorem plread_nil : Calls Tryz.prog 47 #[.slice none 0 0] w (RdNo w) := by
  have HPO := Lib.hid (show ∀ w', Chg [] w w' → RdNo w (.returned (.tuple #[.string ⟨#[]⟩, .int .i64 0, .bool false])) w' from fun w' hc => ⟨rfl, hc⟩)
  generalize RdNo w = PO at HPO ⊢
  go_enter Tryz.func47, Tryz.ntmps47
  go_wp2_with fail
  go_loopw [15] (fun i wr => i = .int .i64 0 ∧ wr = w) (fun _ _ => 0)
  case atStart => exact ⟨rfl, rfl⟩
  case round =>
    obtain ⟨rfl, rfl⟩ := hrel
    go_wp2_with fail
    go_ret3
    exact HPO.out _ (Chg.refl [] _)
set_option maxHeartbeats 4000000 in
set_option maxRecDepth 100000 in
theorem plread_zero {gr gb : Nat} (hr : Whole w gr 33 [.slice (some ⟨gb, 0, none⟩) 64 64]) (hb : Whole w gb 5 (bts (zeros 64))) : Calls Tryz.prog 47 #[.slice (some ⟨gr, 0, none⟩) 1 1] w (RdNo w) := by
  have HPO := Lib.hid (show ∀ w', Chg [] w w' → RdNo w (.returned (.tuple #[.string ⟨#[]⟩, .int .i64 0, .bool false])) w' from fun w' hc => ⟨rfl, hc⟩)
  generalize RdNo w = PO at HPO ⊢
  have r0 := hr.cell 0
  have hbs : Bs w (some ⟨gb, 0, none⟩) 64 64 (zeros 64) := by
    have := Bs.of_all hb (by rw [zeros_len]; omega)
    rwa [zeros_len] at this
  have HSR := Lib.hid (shread_any hbs)
  clear hb hbs hr
  go_enter Tryz.func47, Tryz.ntmps47
  go_wp2_with fail
  go_loopw [15] (fun i wr => ∃ k : Nat, i = .int .i64 (k : Int) ∧ k ≤ 1 ∧ wr = w) (fun i _ => 1 - (intOf i).toNat)
  case atStart => exact ⟨0, rfl, by omega, rfl⟩
  case round =>
    obtain ⟨k, rfl, hk, hwr⟩ := hrel
    subst hwr
    by_cases hk1 : k < 1
    · obtain rfl : k = 0 := by omega
      go_wp2_with fail
      go_roundw
      case rel => exact ⟨1, by go_num, by omega, by first | rfl | trivial⟩
      case measure => simp [intOf]
    · obtain rfl : k = 1 := by omega
      go_wp2_with (go_at_call 73
                   refine HSR.out.mono ?_
                   rintro e w2 (⟨hm, _⟩ | ⟨_, rfl, hc2⟩)
                   · exact absurd hm zero_meta
                   have HC2 := Lib.hid hc2
                   clear hc2)
      go_ret3
      exact HPO.out _ HC2.out
set_option maxHeartbeats 4000000 in
set_option maxRecDepth 100000 in
theorem plget_no {V : Value} (HR0 : ∀ W, Chg [] w W → Calls Tryz.prog 47 #[V] W (RdNo W)) : Calls Tryz.prog 21 #[V] w (GtNo 12 w) := by
  have HR := Lib.hid HR0
  clear HR0
  unfold RdNo at HR
  have HPO := Lib.hid (show ∀ w', Chg [] w w' → GtNo 12 w (.returned (.tuple #[.agg #[.int .i64 0, .int .i64 0, .slice none 0 0], .pointer none, .int .i64 0, .int .i64 12])) w' from fun w' hc => ⟨rfl, hc⟩)
  generalize GtNo 12 w = PO at HPO ⊢
  go_enter Tryz.func21, Tryz.ntmps21
  go_upto_region 1 with fail
  have hN := Whole.new w 24 [.int .i64 0, .int .i64 0, .slice none 0 0]
  have hal := (Chg.refl [] w).alloc (.cells #[.int .i64 0, .int .i64 0, .slice none 0 0] 24)
  obtain ⟨g, hg⟩ : ∃ g, g = w.heap.size := ⟨_, rfl⟩
  have hnl : ¬ g < w.heap.size := by omega
  rw [← hg] at hN ⊢
  have HG := Lib.hid hN
  have HW1 := Lib.hid hal
  generalize w.alloc (.cells #[.int .i64 0, .int .i64 0, .slice none 0 0] 24) = w1 at HG HW1 ⊢
  clear hN hal hg
  go_wp2_with (go_at_call 47
               refine (HR.out _ HW1.out).mono ?_
               rintro e w2 ⟨rfl, hc2⟩
               have HG2 := Lib.hid (HG.out.keep hc2)
               have HW2 := Lib.hid (HW1.out.trans hc2)
               have z0 := HG2.out.cell 0
               have z1 := HG2.out.cell 1
               have z2 := HG2.out.cell 2
               have f0 := HG2.out.frozen 0
               have f1 := HG2.out.frozen 1
               have f2 := HG2.out.frozen 2
               clear hc2)
  have HCF := ((HW2.out.setCell (p := ⟨g, 0, none⟩) (fun h => absurd h hnl) (.int .i64 0)).setCell (p := ⟨g, 1, none⟩) (fun h => absurd h hnl) (.int .i64 0)).setCell (p := ⟨g, 2, none⟩) (fun h => absurd h hnl) (.slice none 0 0)
  have HSS := ((HG2.out.set_ 0 (.int .i64 0)).set_ 1 (.int .i64 0)).set_ 2 (.slice none 0 0)
  exact bodyPost_ret_by (results_row_tmp3 (p := 2) (a := 3) (b := 4) (c := 5) (ty := 24) rfl _ _ g 24 [.int .i64 0, .int .i64 0, .slice none 0 0] _ rfl HSS Tryz.underlying24 (by kernel_rfl)) rfl (HPO.out _ HCF)
end
end Go.Proofs.YtbkfhndmeljlcaaGreatDoor
namespace Go.Proofs.YtbkfhndmeljlcaaGreatDoor
open Go.RowKit
/-- The slice value '.slice A n c' is the pages zs. -/
structure Pgs (W : World) (A : Option Addr) (n c : Nat) (ys : List Value) (zs : List (List UInt8)) : Prop where
  len : ys.length = n
  src : Src W A ys
  ls : Lists W ys zs
  cap : n ≤ c
  max : c ≤ 9223372036854775807
  spot : 0 < n → ∀ ad, A = some ad → ad.spot = none
theorem Pgs.keep {W W' : World} {A : Option Addr} {n c : Nat} {ys : List Value} {zs : List (List UInt8)} (h : Pgs W A n c ys zs) (hc : Chg [] W W') : Pgs W' A n c ys zs := ⟨h.len, h.src.keep hc, h.ls.keep hc, h.cap, h.max, h.spot⟩
theorem Pgs.zlen {W : World} {A : Option Addr} {n c : Nat} {ys : List Value} {zs : List (List UInt8)} (h : Pgs W A n c ys zs) : zs.length = n := by rw [← h.ls.1, h.len]
theorem Pgs.form {W : World} {A : Option Addr} {n c : Nat} {ys : List Value} {zs : List (List UInt8)} (h : Pgs W A n c ys zs) (hn : 0 < n) : ∃ b o, A = some ⟨b, o, none⟩ ∧ b < W.heap.size ∧ ∀ i y, ys[i]? = some y → W.cell? ⟨b, o + i, none⟩ = some y := by
  obtain ⟨⟨b, o, s⟩, e, hb, hx⟩ := h.src (by rw [h.len]; exact hn)
  obtain rfl : s = none := h.spot hn _ e
  refine ⟨b, o, e, hb, fun i y hy => ?_⟩
  have := hx i y hy
  rwa [add_plain] at this
theorem Pgs.at_ {W : World} {A : Option Addr} {n c i : Nat} {ys : List Value} {zs : List (List UInt8)} {z : List UInt8} (h : Pgs W A n c ys zs) (hz : zs[i]? = some z) : ∃ y B m d, ys[i]? = some y ∧ y = .slice B m d ∧ Bs W B m d z := by
  have hi : i < ys.length := by rw [h.ls.1]; exact (List.getElem?_eq_some_iff.1 hz).1
  obtain ⟨B, m, d, e, hB⟩ := h.ls.2 i ys[i] z (List.getElem?_eq_getElem hi) hz
  exact ⟨_, B, m, d, List.getElem?_eq_getElem hi, e, hB⟩
theorem Pgs.part {W : World} {b o n c : Nat} {ys : List Value} {zs : List (List UInt8)} (h : Pgs W (some ⟨b, o, none⟩) n c ys zs) {lo k : Nat} (hk : lo + k ≤ n) (hn : 0 < n) : Pgs W (some ⟨b, o + lo, none⟩) k (c - lo) ((ys.drop lo).take k) ((zs.drop lo).take k) := by
  have hl := h.len
  have hc := h.cap
  have hm := h.max
  obtain ⟨b', o', e, hb, hx⟩ := h.form hn
  injection e with e
  injection e with e1 e2
  subst e1; subst e2
  refine ⟨by rw [List.length_take, List.length_drop]; omega, fun _ => ⟨_, rfl, hb, fun i y hy => ?_⟩, ⟨by rw [List.length_take, List.length_take, List.length_drop, List.length_drop, h.ls.1], fun i v X hv hX => ?_⟩, by omega, by omega, fun _ ad e => by injection e with e; subst e; rfl⟩
  · rw [add_plain]
    rw [List.getElem?_take] at hy
    split at hy
    · rw [List.getElem?_drop] at hy
      have := hx (lo + i) y hy
      rw [show o + lo + i = o + (lo + i) from by omega]
      exact this
    · cases hy
  · rw [List.getElem?_take] at hv hX
    split at hv
    · rename_i hik
      rw [if_pos hik] at hX
      rw [List.getElem?_drop] at hv hX
      exact h.ls.2 (lo + i) v X hv hX
    · cases hv
/-- 'pages[lo:lo+k]', with the model's own 'if' on the address. -/
theorem Pgs.cut {W : World} {A : Option Addr} {n c : Nat} {ys : List Value} {zs : List (List UInt8)} (h : Pgs W A n c ys zs) {lo k : Nat} (hk : lo + k ≤ n) : Pgs W (if c = lo then A else A.map (·.add lo)) k (c - lo) ((ys.drop lo).take k) ((zs.drop lo).take k) := by
  have hc := h.cap
  have hm := h.max
  rcases Nat.eq_zero_or_pos k with h0 | h0
  · subst h0
    exact ⟨by simp, fun hp => absurd hp (by simp), ⟨by simp, fun i v X hv => by simp at hv⟩, by omega, by omega, fun hp => absurd hp (by omega)⟩
  · obtain ⟨b, o, rfl, _, _⟩ := h.form (by omega)
    rw [if_neg (by omega), Option.map_some, add_plain]
    exact h.part hk (by omega)
theorem join_nosep (ls : List (List UInt8)) : Lib.join ls [] = ls.flatten := by
  cases ls with
  | nil => rfl
  | cons x r =>
    rw [Lib.join_cons]
    unfold Lib.joinTail
    simp
theorem lens_64 (zs : List (List UInt8)) (h : ∀ z ∈ zs, z.length = 64) : Lib.lens zs = 64 * zs.length ∧ zs.flatten.length = 64 * zs.length := by
  induction zs with
  | nil => exact ⟨rfl, rfl⟩
  | cons z zs ih =>
    have hz := h z (by simp)
    obtain ⟨h1, h2⟩ := ih (fun x hx => h x (by simp [hx]))
    refine ⟨?_, ?_⟩
    · have : Lib.lens (z :: zs) = z.length + Lib.lens zs := Lib.lens_cons z zs
      rw [this, hz, h1, List.length_cons]; omega
    · rw [List.flatten_cons, List.length_append, hz, h2, List.length_cons]; omega
theorem bs_holds {W : World} {A : Option Addr} {n c : Nat} {l : List UInt8} (h : Bs W A n c l) : Lib.HoldsBytes W (.slice A n c) l := by
  refine ⟨A, c, by rw [h.len], fun e => ?_, fun a e i x hx => ?_⟩
  · cases l with
    | nil => rfl
    | cons b l =>
      obtain ⟨ad, e2, _⟩ := h.src (by simp [bts])
      rw [e] at e2; cases e2
  · have hil := (List.getElem?_eq_some_iff.1 hx).1
    obtain ⟨ad, e2, _, hc⟩ := h.src (by rw [bts_len]; omega)
    rw [e] at e2
    injection e2 with e2
    subst e2
    exact hc i _ (by unfold bts; rw [List.getElem?_map, hx]; rfl)
theorem fresh_bs {B : Nat} {W : World} {v : Value} {l : List UInt8} (h : Lib.FreshBytes B W v l) (hW : ∀ g cap, v = .slice (some ⟨g, 0, none⟩) l.length cap → 0 < cap → g < W.heap.size) : ∃ g c, v = .slice (some ⟨g, 0, none⟩) l.length c ∧ B ≤ g ∧ Bs W (some ⟨g, 0, none⟩) l.length c l := by
  obtain ⟨g, cap, zs, rfl, hB, hlc, hcm, hzl, hr, hb, hcell, _⟩ := h
  refine ⟨g, cap, rfl, hB, rfl, fun hp => ?_, hlc, by unfold maxLen at hcm; omega, fun _ ad e => by injection e with e; subst e; rfl⟩
  rw [bts_len] at hp
  refine ⟨_, rfl, hW g cap rfl (by omega), fun j u hj => ?_⟩
  rw [add_plain, Nat.zero_add]
  have hjl : j < l.length := by have := (List.getElem?_eq_some_iff.1 hj).1; rwa [bts_len] at this
  rw [hcell j (by omega)]
  have h2 : (Lib.bytesOf (zs.take l.length))[j]? = some (UInt8.ofNat (zs.getD j 0).toNat) := by
    unfold Lib.bytesOf
    rw [List.getElem?_map, List.getElem?_take, if_pos hjl, List.getElem?_eq_getElem (by omega), Option.map_some, List.getD_eq_getElem?_getD, List.getElem?_eq_getElem (by omega), Option.getD_some]
  rw [hb] at h2
  unfold bts at hj
  rw [List.getElem?_map, h2, Option.map_some] at hj
  rw [← hj]
  have hm := hr (zs.getD j 0) (by rw [List.getD_eq_getElem?_getD, List.getElem?_eq_getElem (by omega), Option.getD_some]; exact List.getElem_mem _)
  unfold B8
  have e3 : ((UInt8.ofNat (zs.getD j 0).toNat).toNat : Int) = zs.getD j 0 := by
    rw [UInt8.toNat_ofNat']
    omega
  rw [e3]
def JnPost (l : List UInt8) (w : World) (e : Ending) (w' : World) : Prop := ∃ A c, e = .returned (.slice A l.length c) ∧ Bs w' A l.length c l ∧ Chg [] w w' ∧ (∀ ad, A = some ad → w.heap.size ≤ ad.block)
theorem fresh_lt {W : World} {g : Nat} {x : Value} (h : W.cell? ⟨g, 0, none⟩ = some x) : g < W.heap.size := by
  unfold World.cell? at h
  rcases Nat.lt_or_ge g W.heap.size with hlt | hge
  · exact hlt
  · simp only [Array.getElem?_eq_none hge] at h
    cases h
theorem pljoin_any {w : World} {A : Option Addr} {n c : Nat} {ys : List Value} {zs : List (List UInt8)} (h : Pgs w A n c ys zs) (h64 : ∀ z ∈ zs, z.length = 64) (hn : n ≤ 100000) : Calls Tryz.prog 49 #[.slice A n c, .slice none 0 0] w (JnPost zs.flatten w) := by
  have hzl := h.zlen
  obtain ⟨hl1, hl2⟩ := lens_64 zs h64
  have hfr : ∀ {B : Nat} {w' : World} {v : Value} {l : List UInt8}, Lib.FreshBytes B w' v l → ∃ g c, v = .slice (some ⟨g, 0, none⟩) l.length c ∧ B ≤ g ∧ Bs w' (some ⟨g, 0, none⟩) l.length c l := fun hf => fresh_bs hf (fun g cap e hc0 => by
    obtain ⟨g', cap', zs', e', _, _, _, _, _, _, hcell, _⟩ := hf
    rw [e] at e'
    injection e' with e1 _ e2
    injection e1 with e1
    injection e1 with e1
    subst e1; subst e2
    exact fresh_lt (hcell 0 hc0))
  rcases Nat.lt_or_ge n 2 with h2 | h2
  · rcases Nat.lt_or_ge n 1 with h1 | h1
    · obtain rfl : n = 0 := by omega
      obtain rfl : zs = [] := List.length_eq_zero_iff.1 hzl
      refine (Tryz.bytes_Join_none A c (.slice none 0 0) w).mono ?_
      rintro e w' ⟨rfl, rfl⟩
      exact ⟨_, _, rfl, ⟨rfl, fun hp => absurd hp (by simp [bts]), Nat.le_refl _, by omega, fun h0 => absurd h0 (by omega)⟩, (Chg.refl [] w).alloc _, fun ad e => by injection e with e; subst e; exact Nat.le_refl _⟩
    · obtain rfl : n = 1 := by omega
      obtain ⟨z, rfl⟩ := List.length_eq_one_iff.1 hzl
      obtain ⟨b, o, rfl, _, hx⟩ := h.form (by omega)
      obtain ⟨y, B, m, d, hy, rfl, hB⟩ := h.at_ (i := 0) (z := z) rfl
      have hz64 := h64 z (by simp)
      have hm : m = z.length := hB.len.symm
      subst hm
      obtain ⟨ad, rfl, _, hc⟩ := hB.src (by rw [bts_len]; omega)
      have hc0 := hx 0 _ hy
      rw [Nat.add_zero] at hc0
      refine (Tryz.bytes_Join_one b o c ad d z (.slice none 0 0) w hc0 (fun i x hxi => hc i _ (by unfold bts; rw [List.getElem?_map, hxi]; rfl)) (by omega) (by omega)).mono ?_
      rintro e w' ⟨v', rfl, hf, hbel⟩
      obtain ⟨g, c', rfl, hgB, hbs⟩ := hfr hf
      rw [show [z].flatten = z from by simp]
      exact ⟨_, _, rfl, hbs, Chg.of_below hbel, fun ad e => by injection e with e; subst e; exact hgB⟩
  · obtain ⟨b, o, rfl, _, hx⟩ := h.form (by omega)
    have hP : Lib.PartsAt w ⟨b, o, none⟩ ys zs := ⟨h.ls.1, fun i v hv => by rw [add_plain]; exact hx i v hv, fun i v l hv hl => by
      obtain ⟨B, m, d, e, hB⟩ := h.ls.2 i v l hv hl
      rw [e]; exact bs_holds hB⟩
    have hS : Lib.HoldsBytes w (.slice none 0 0) [] := ⟨none, 0, rfl, fun _ => rfl, fun a e => by cases e⟩
    refine (Tryz.bytes_Join_many b o n c ys zs (.slice none 0 0) [] w hzl h2 hP h.cap hS (by omega) (by rw [hl1, hzl]; simp; omega)).mono ?_
    rintro e w' ⟨v', rfl, hf, hbel⟩
    rw [join_nosep] at hf
    obtain ⟨g, c', rfl, hgB, hbs⟩ := hfr hf
    exact ⟨_, _, rfl, hbs, Chg.of_below hbel, fun ad e => by injection e with e; subst e; exact hgB⟩
end Go.Proofs.YtbkfhndmeljlcaaGreatDoor
namespace Go.Proofs.YtbkfhndmeljlcaaGreatDoor
open Go.RowKit
open Go.Lib (decDigits encodeRune)
def kpT : List UInt8 := [117, 110, 105, 116, 32, 49, 32, 50, 10, 102, 48, 32, 49, 10]
theorem kp_text : rText 1 2 [kuG] = (kpT, 0) := by
  have ht : txC ⟨#[49]⟩ = [49] := by
    have h : tokR ⟨#[49]⟩ = some [⟨48, 1, 0⟩] := by rfl
    unfold txC toksOf
    rw [h]
    show txB false [⟨48, 1, 0⟩] = _
    rw [txB_cons_num _ _ _ rfl, show (1 : Int).toNat = 1 from rfl, dg1]
    rfl
  have hf : utF kuG = [102, 48, 32, 49, 10] := by
    unfold utF
    show encodeRune 102 ++ (decDigits ((0 : Int).toNat) ++ (32 :: (txC ⟨#[49]⟩ ++ [10]))) = _
    rw [ht, show (0 : Int).toNat = 0 from rfl, dg0]
    rfl
  have hu : utx 1 2 [kuG] = kpT := by
    unfold utx utFs
    rw [hf, show (1 : Int).toNat = 1 from rfl, show (2 : Int).toNat = 2 from rfl, dg1, dg2]
    rfl
  have hr : rRight 1 2 [kuG] = 0 := by decide +kernel
  unfold rText
  rw [if_pos hr, hu]
  rfl
theorem fnr_sole {W : World} {g : Nat} {f : FnV} (h0 : -9223372036854775808 ≤ f.args ∧ f.args ≤ 9223372036854775807) (h : Whole W g 58 (fnC f)) : Fnr W (some ⟨g, 0, none⟩) 1 1 [f] := by
  refine ⟨rfl, fun _ => ⟨_, rfl, h.lt, fun j v hj => ?_⟩, Nat.le_refl _, by omega, fun _ ad e => by injection e with e; subst e; rfl, fun x hx => ?_⟩
  · rw [add_plain, Nat.zero_add, h.cell j]
    have : fnCs [f] = fnC f := List.append_nil _
    rw [this] at hj
    exact hj
  · rw [List.mem_singleton] at hx; subst hx; exact h0
theorem kp_need : needZ kpT 0 2 = 4 := by rfl
theorem kp_put4 : rPut kpT 0 1 2 4 = (plCs kpT 1, 0) := by rfl
theorem kp_put3 : rPut kpT 0 1 2 3 = ([], 25) := by rfl
theorem kp_len : (plCs kpT 1).length = 3 := by rw [plCs_len]; rfl
theorem str_zeros (W : World) : (convert 33 9 (.slice (some ⟨W.heap.size, 0, none⟩) 64 64)).run Tryz.prog (W.alloc (.cells (bts (zeros 64)).toArray 5)) = .ok (.string (strOf (zeros 64))) (W.alloc (.cells (bts (zeros 64)).toArray 5)) := by
  have hN := Whole.new W 5 (bts (zeros 64))
  have hbs := Bs.of_all hN (by rw [zeros_len]; omega)
  rw [zeros_len] at hbs
  exact hbs.str (P := Tryz.prog) 33 5 9 Tryz.underlying33 Tryz.underlying5 Tryz.underlying9
section
variable {w : World}
set_option maxHeartbeats 8000000 in
set_option maxRecDepth 100000 in
theorem pl_known (hP : PowB w.heap.size w) : Calls Tryz.prog 16 #[] w (BoolPost true w) := by
  have HP := Lib.hid hP
  unfold BoolPost
  clear hP
  go_enter Tryz.func16, Tryz.ntmps16
  go_upto_region 2 with fail
  have hW := Whole.new w 58 [.int .i32 102, .int .i64 0, .string ⟨#[49]⟩]
  have hal := (Chg.refl [] w).alloc (.cells #[.int .i32 102, .int .i64 0, .string ⟨#[49]⟩] 58)
  have hal2 := hal.alloc (.cells #[.int .i64 1, .int .i64 2, .slice (some ⟨w.heap.size, 0, none⟩) 1 1] 24)
  have hU := Whole.new (w.alloc (.cells #[.int .i32 102, .int .i64 0, .string ⟨#[49]⟩] 58)) 24 [.int .i64 1, .int .i64 2, .slice (some ⟨w.heap.size, 0, none⟩) 1 1]
  rw [show (w.alloc (.cells #[.int .i32 102, .int .i64 0, .string ⟨#[49]⟩] 58)).heap.size = w.heap.size + 1 by simp] at hU
  have hW2 := hW.keep ((Chg.refl [] (w.alloc (.cells #[.int .i32 102, .int .i64 0, .string ⟨#[49]⟩] 58))).alloc (.cells #[.int .i64 1, .int .i64 2, .slice (some ⟨w.heap.size, 0, none⟩) 1 1] 24))
  have HU2 := Lib.hid hU
  have HW2 := Lib.hid hW2
  have HC2 := Lib.hid hal2
  clear hW hal hal2 hU hW2
  generalize w.heap.size = gf at HU2 HW2 HC2 ⊢
  generalize (w.alloc (.cells #[.int .i32 102, .int .i64 0, .string ⟨#[49]⟩] 58)).alloc (.cells #[.int .i64 1, .int .i64 2, .slice (some ⟨gf, 0, none⟩) 1 1] 24) = w2 at HU2 HW2 HC2 ⊢
  have HF2 := Lib.hid (show Fnr w2 (some ⟨gf, 0, none⟩) 1 1 [kuG] from fnr_sole (f := kuG) (by decide) HW2.out)
  have HTX := Lib.hid (TxOk.of_fnr (pg := 1) (ms := 2) HF2.out (fun f hf => by rw [List.mem_singleton] at hf; subst hf; decide))
  rw [kp_text] at HTX
  simp only at HTX
  have HPU := Lib.hid (fun (W : World) (hc : Chg [] w2 W) (hp : PowB W.heap.size W) (pages : Int) => plput_any (HTX.out.keep hc) (by decide) (fun _ => by decide) pages hp)
  have HPND := Lib.hid (fun (W : World) (hc : Chg [] w2 W) (hp : PowB W.heap.size W) => plneed_any (HTX.out.keep hc) (by decide) (fun _ => by decide) hp)
  rw [kp_need] at HPND
  have HP4 := Lib.hid (fun (W : World) (hc : Chg [] w2 W) (hp : PowB W.heap.size W) => HPU.out W hc hp 4)
  have HP3 := Lib.hid (fun (W : World) (hc : Chg [] w2 W) (hp : PowB W.heap.size W) => HPU.out W hc hp 3)
  rw [kp_put4] at HP4
  rw [kp_put3] at HP3
  unfold PtPost at HP4 HP3
  simp only at HP4 HP3
  have u0 := HU2.out.cell 0
  have u1 := HU2.out.cell 1
  have u2 := HU2.out.cell 2
  have HGN := Lib.hid (fun (W : World) => plget_no (w := W) (V := .slice none 0 0) (fun _ _ => plread_nil))
  unfold GtNo at HGN
  have HBP := Lib.hid (fun (W : World) (h : Chg [] w2 W) => (HP.out.here (HC2.out.trans h)))
  clear HW2 HF2 HTX HPU
  go_upto_region 5 with (first
    | (go_at_call 20
       with_reducible refine (HP4.out _ (Chg.refl [] _) (HBP.out _ (Chg.refl [] _))).mono ?_
       rintro e w3 ⟨v3, ls3, rfl, ho3, _, hs3, hc3⟩
       obtain ⟨A3, c3, rfl, _⟩ := rown_slice ho3
       have HL3 := Lib.hid (show ls3.length = 3 from by rw [hs3.len, kp_len])
       have HK3 := Lib.hid hc3
       have v0 := (HU2.out.keep hc3).cell 0
       have v1 := (HU2.out.keep hc3).cell 1
       have v2 := (HU2.out.keep hc3).cell 2
       clear ho3 hs3 hc3)
    | (go_at_call 20
       with_reducible refine (HP3.out _ HK3.out (HBP.out _ HK3.out)).mono ?_
       rintro e w4 ⟨v4, ls4, rfl, ho4, _, hs4, hc4⟩
       obtain ⟨A4, c4, rfl, _⟩ := rown_slice ho4
       have HK4 := Lib.hid (HK3.out.trans hc4)
       clear ho4 hs4 hc4)
    | (go_at_call 21
       refine (HGN.out _).mono ?_
       rintro e w5 ⟨rfl, hc5⟩
       have HK5 := Lib.hid (HK4.out.trans hc5)
       clear hc5))
  clear u0 u1 u2 v0 v1 v2
  have hl3 := HL3.out
  rw [hl3]
  generalize ls4.length = n4
  have HK6 := Lib.hid (HK5.out.alloc (.cells #[.int .i64 0, .int .i64 0, .slice none 0 0] 24))
  generalize w5.heap.size = ga
  generalize w5.alloc (.cells #[.int .i64 0, .int .i64 0, .slice none 0 0] 24) = w6 at HK6 ⊢
  -- a page of zeros
  have hN := Whole.new w6 5 (bts (zeros 64))
  have hal := (Chg.refl [] w6).alloc (.cells (bts (zeros 64)).toArray 5)
  have hmk0 := make64z w6
  obtain ⟨gz, hgz⟩ : ∃ gz, gz = w6.heap.size := ⟨_, rfl⟩
  rw [← hgz] at hN hmk0
  clear hgz
  obtain ⟨w7, hw7⟩ : ∃ w7, w7 = w6.alloc (.cells (bts (zeros 64)).toArray 5) := ⟨_, rfl⟩
  rw [← hw7] at hN hal hmk0
  clear hw7
  have HZ7 := Lib.hid hN
  have HK7 := Lib.hid (HK6.out.trans hal)
  clear hN hal
  have hN := Whole.new w7 33 [.slice (some ⟨gz, 0, none⟩) 64 64]
  have hal := (Chg.refl [] w7).alloc (.cells #[.slice (some ⟨gz, 0, none⟩) 64 64] 33)
  have HGZ := Lib.hid (plget_no (w := w7.alloc (.cells #[.slice (some ⟨gz, 0, none⟩) 64 64] 33)) (V := .slice (some ⟨w7.heap.size, 0, none⟩) 1 1) (fun W hc => plread_zero (hN.keep hc) ((HZ7.out.keep hal).keep hc)))
  unfold GtNo at HGZ
  have HKA := Lib.hid (HK7.out.trans hal)
  clear hN hal
  go_upto_region 6 with (go_at_call 21
                         with_reducible refine HGZ.out.mono ?_
                         rintro e w8 ⟨rfl, hc8⟩
                         have HK8 := Lib.hid (HKA.out.trans hc8)
                         clear hc8)
  clear hmk0
  have HK9 := Lib.hid (HK8.out.alloc (.cells #[.int .i64 0, .int .i64 0, .slice none 0 0] 24))
  generalize w8.heap.size = gb
  generalize w8.alloc (.cells #[.int .i64 0, .int .i64 0, .slice none 0 0] 24) = w9 at HK9 ⊢
  have HU9 := Lib.hid (HU2.out.keep HK9.out)
  have u0 := HU9.out.cell 0
  have u1 := HU9.out.cell 1
  have u2 := HU9.out.cell 2
  have hmkA := make64z
  have hstA := str_zeros
  have HPZ := Lib.hid (fun (W : World) => plpages_any (zeros 64) (by rw [zeros_len]; omega) W)
  rw [zeros_len, show holdN 64 = 1 from rfl] at HPZ
  have HPN := Lib.hid (fun (W : World) => plpages_any [] (by decide) W)
  rw [show strOf [] = ⟨#[]⟩ from rfl, show (([] : List UInt8).length) = 0 from rfl, show holdN 0 = 0 from rfl] at HPN
  generalize strOf (zeros 64) = SZ at hstA HPZ
  generalize (bts (zeros 64)).toArray = BZ at hmkA hstA
  have HMK := Lib.hid hmkA
  have HST := Lib.hid hstA
  clear hmkA hstA
  go_wp2_with (first
    | (go_at_call 19
       refine (HPND.out _ HK9.out (HBP.out _ HK9.out)).mono ?_
       rintro e wa ⟨rfl, hca⟩
       have hmk := HMK.out wa
       have hst := HST.out wa
       have HCA := Lib.hid ((HK9.out.trans hca).alloc (.cells BZ 5))
       clear hca)
    | (go_at_call 44
       with_reducible refine (HPZ.out _).mono ?_
       rintro e wb ⟨rfl, rfl⟩)
    | (go_at_call 44
       with_reducible refine (HPN.out _).mono ?_
       rintro e wb ⟨rfl, rfl⟩))
  go_ret
  exact ⟨rfl, HC2.out.trans HCA.out⟩
end
end Go.Proofs.YtbkfhndmeljlcaaGreatDoor
namespace Go.Proofs.YtbkfhndmeljlcaaGreatDoor
open Go.RowKit
theorem rPut_ok {T : List UInt8} {p m : Nat} {pages : Int} (h : 1 + (holdN T.length : Int) + (m : Int) ≤ pages) (h2 : pages ≤ 64) : rPut T 0 (p : Int) (m : Int) pages = (plCs T p, 0) := by
  unfold rPut needZ
  rw [if_neg (by simp), if_pos rfl, if_neg (by omega)]
  rfl
end Go.Proofs.YtbkfhndmeljlcaaGreatDoor
