/-
  UN: RTxt, UNum, LawGl, UNmP.
-/
import Derived.Test.YtodbeeodhekpeaaDoorZUN4
import Derived.Test.YtodbeeodhekpeaaDoorZUN7
import Derived.Test.YtodbeeodhekpeaaDoorZUN9
import Derived.Test.YtodbeeodhekpeaaDoorZUN13
import Derived.Test.YtodbeeodhekpeaaDoorZUN14
import Derived.Test.YtodbeeodhekpeaaDoorZUN32
import Derived.Test.YtodbeeodhekpeaaDoorZUN34
import Derived.Test.YtodbeeodhekpeaaDoorZUN36
import Derived.Laws.Cover4
namespace Go.Proofs.YtodbeeodhekpeaaDoor
open Go.RowKit
open Go.Lib (decDigits encodeRune)
theorem enc_is (r : Int) : Utf8.encode r = strOf (encodeRune r) := by
  unfold strOf encodeRune
  by_cases hv : okR r
  · have hc : (0 ≤ r ∧ r ≤ 127) ∨ (128 ≤ r ∧ r ≤ 2047) ∨ ((2048 ≤ r ∧ r < 55296) ∨ (57343 < r ∧ r ≤ 65535)) ∨ (65536 ≤ r ∧ r ≤ 1114111) := by unfold okR at hv; omega
    have hval : Utf8.valid r = true := by unfold Utf8.valid; unfold okR at hv; simp; omega
    unfold Utf8.encode
    simp only [hval, if_true]
    have b : ∀ (z : Int) (n : Nat), z = (n : Int) → z.toNat.toUInt8 = UInt8.ofNat n := fun z n h => by subst h; rfl
    rcases hc with h | h | h | h
    · rw [if_pos (by omega), Lib.encodeRuneZ_one h.1 h.2]
      simp only [List.map_cons, List.map_nil]
    · rw [if_neg (by omega), if_pos (by omega), Lib.encodeRuneZ_two h.1 h.2]
      simp only [List.map_cons, List.map_nil]
      rw [b (192 + r / 64) (0xC0 + r.toNat / 64) (by omega), b (128 + r % 64) (0x80 + r.toNat % 64) (by omega)]
    · rw [if_neg (by omega), if_neg (by omega), if_pos (by omega), Lib.encodeRuneZ_three h]
      simp only [List.map_cons, List.map_nil]
      rw [b (224 + r / 4096) (0xE0 + r.toNat / 4096) (by omega), b (128 + r / 64 % 64) (0x80 + r.toNat / 64 % 64) (by omega), b (128 + r % 64) (0x80 + r.toNat % 64) (by omega)]
    · rw [if_neg (by omega), if_neg (by omega), if_neg (by omega), Lib.encodeRuneZ_four h.1 h.2]
      simp only [List.map_cons, List.map_nil]
      rw [b (240 + r / 262144) (0xF0 + r.toNat / 262144) (by omega), b (128 + r / 4096 % 64) (0x80 + r.toNat / 4096 % 64) (by omega), b (128 + r / 64 % 64) (0x80 + r.toNat / 64 % 64) (by omega), b (128 + r % 64) (0x80 + r.toNat % 64) (by omega)]
  · have hval : Utf8.valid r = false := by
      unfold Utf8.valid
      unfold okR at hv
      simp
      omega
    unfold Utf8.encode
    rw [Lib.encodeRuneZ_bad (by unfold okR at hv; omega)]
    simp only [hval, Bool.false_eq_true, if_false, Utf8.runeError]
    rfl
theorem strOf_cat (a b : List UInt8) : strOf a ++ strOf b = strOf (a ++ b) := by
  apply ByteArray.ext
  simp [strOf, ByteArray.data_append]
theorem strOf_len (a : List UInt8) : (strOf a).size = a.length := by
  show a.toArray.size = _
  simp
theorem str_add (a b : List UInt8) (h : a.length + b.length ≤ 1000000) (W : World) : (Op.stringOp .add (strOf a) (strOf b)).run Tryd.prog W = .ok (.string (strOf (a ++ b))) W := by
  rw [← strOf_cat]
  exact run_string_add_sum _ _ _ (by rw [strOf_len, strOf_len]; omega)
theorem str_add_enc (a : List UInt8) (r : Int) (h : a.length ≤ 900000) (W : World) : (Op.stringOp .add (strOf a) (Utf8.encode r)).run Tryd.prog W = .ok (.string (strOf (a ++ encodeRune r))) W := by
  rw [enc_is]
  exact str_add _ _ (by have := (Lib.encodeRuneZ_length r).2; unfold encodeRune; rw [List.length_map]; omega) W
theorem enc_dig (r : Nat) (h : r < 10) : encodeRune (48 + (r : Int)) = [UInt8.ofNat (48 + r)] := by
  unfold encodeRune
  rw [Lib.encodeRuneZ_one (by omega) (by omega)]
  simp only [List.map_cons, List.map_nil]
  rw [show (48 + (r : Int)).toNat = 48 + r from by omega]
end Go.Proofs.YtodbeeodhekpeaaDoor
namespace Go.Proofs.YtodbeeodhekpeaaDoor
open Go.RowKit
theorem strOf_toList (l : List UInt8) : (strOf l).data.toList = l := by simp [strOf]
theorem strOf_ext (l : List UInt8) (a b : Nat) : (strOf l).extract a b = strOf ((l.drop a).take (b - a)) := by
  apply ByteArray.ext
  rw [ByteArray.data_extract]
  apply Array.toList_inj.1
  rw [Array.toList_extract]
  simp [strOf, List.extract]
theorem cut_idx : ∀ l : List UInt8, Lib.indexByte l 32 = (match cut1 l with | none => -1 | some (a, _) => (a.length : Int))
  | [] => rfl
  | b :: l => by
    rw [Lib.indexByte, cut1, cut_idx l]
    by_cases h : b = 32
    · subst h
      simp
    · rw [if_neg (by simpa using h), if_neg h]
      cases cut1 l with
      | none => rfl
      | some p =>
        obtain ⟨x, y⟩ := p
        simp only [Option.map_some, List.length_cons]
        rw [if_neg (by simp)]
        simp
theorem cut_some : ∀ {l a b : List UInt8}, cut1 l = some (a, b) → a = l.take a.length ∧ b = l.drop (a.length + 1) ∧ a.length < l.length
  | [], a, b, h => by simp [cut1] at h
  | x :: l, a, b, h => by
    rw [cut1] at h
    by_cases hx : x = 32
    · rw [if_pos hx] at h
      injection h with h
      injection h with h1 h2
      subst h1 h2
      simp
    · rw [if_neg hx] at h
      cases hc : cut1 l with
      | none => rw [hc] at h; simp at h
      | some p =>
        obtain ⟨y, z⟩ := p
        rw [hc] at h
        simp only [Option.map_some, Option.some.injEq, Prod.mk.injEq] at h
        obtain ⟨rfl, rfl⟩ := h
        obtain ⟨h1, h2, h3⟩ := cut_some hc
        refine ⟨?_, ?_, by simp; omega⟩
        · rw [List.length_cons, List.take_succ_cons, ← h1]
        · rw [List.length_cons, List.drop_succ_cons, ← h2]
def cutV (l : List UInt8) : Value := match cut1 l with
  | some (a, b) => .tuple #[.string (strOf a), .string (strOf b), .bool true]
  | none => .tuple #[.string (strOf l), .string (strOf []), .bool false]
def CutPost (l : List UInt8) (w : World) (e : Ending) (w' : World) : Prop := e = .returned (cutV l) ∧ Chg [] w w'
section
variable {w : World}
set_option maxHeartbeats 2000000 in
set_option maxRecDepth 100000 in
theorem litecut_any (l : List UInt8) (hl : l.length ≤ 1000000) : Calls Tryd.prog 94 #[.string (strOf l), .string ⟨#[32]⟩] w (CutPost l w) := by
  have HX := Lib.hid (Tryd.stringslite_Index_one (strOf l) 32 w)
  rw [strOf_toList, cut_idx] at HX
  obtain ⟨V, hV⟩ : ∃ V, V = cutV l := ⟨_, rfl⟩
  unfold CutPost
  rw [← hV]
  unfold cutV at hV
  cases hc : cut1 l with
  | none =>
    rw [hc] at HX hV
    simp only at HX hV
    have HV := Lib.hid hV
    clear hV hc
    go_enter Tryd.func94, Tryd.ntmps94
    go_wp2_with (go_at_call 102; refine HX.out.mono ?_; rintro e w1 ⟨rfl, rfl⟩)
    go_ret3
    exact ⟨by rw [HV.out]; rfl, Chg.refl _ _⟩
  | some p =>
    obtain ⟨a, b⟩ := p
    rw [hc] at HX hV
    simp only at HX hV
    obtain ⟨h1, h2, h3⟩ := cut_some hc
    have HV := Lib.hid hV
    have e1 : (strOf l).extract 0 a.length = strOf a := by rw [strOf_ext, List.drop_zero, Nat.sub_zero, ← h1]
    have e2 : (strOf l).extract (a.length + 1) (strOf l).size = strOf b := by
      rw [strOf_ext, strOf_len, List.take_of_length_le (by rw [List.length_drop]; omega), ← h2]
    have hsz := strOf_len l
    have HE := Lib.hid (And.intro e1 e2)
    clear hV hc h1 h2
    obtain ⟨n, hn⟩ : ∃ n, n = a.length := ⟨_, rfl⟩
    rw [← hn] at HX h3 HE
    obtain ⟨N, hN⟩ : ∃ N, N = l.length := ⟨_, rfl⟩
    rw [← hN] at hsz h3 hl
    clear hn hN e1 e2
    generalize strOf l = S at *
    have c1 : (0 : Int) ≤ (n : Int) := by omega
    have c2 : (n : Int) ≤ (S.size : Int) := by omega
    have c3 : (0 : Int) ≤ (n : Int) + 1 := by omega
    have c4 : (n : Int) + 1 ≤ (S.size : Int) := by omega
    have HSZ := Lib.hid hsz
    clear hsz
    go_enter Tryd.func94, Tryd.ntmps94
    go_wp2_with (go_at_call 102; refine HX.out.mono ?_; rintro e w1 ⟨rfl, rfl⟩)
    have HD := Lib.hid ((Chg.refl [] w1).drew)
    go_region
    all_goals go_wp2_with fail
    all_goals go_ret3
    all_goals exact ⟨by rw [HV.out, ← HE.out.1, ← HE.out.2]; rfl, HD.out⟩
set_option maxHeartbeats 1000000 in
set_option maxRecDepth 100000 in
theorem cut_any (l : List UInt8) (hl : l.length ≤ 1000000) : Calls Tryd.prog 80 #[.string (strOf l), .string ⟨#[32]⟩] w (CutPost l w) := by
  have HX := Lib.hid (litecut_any (w := w) l hl)
  obtain ⟨V, hV⟩ : ∃ V, V = cutV l := ⟨_, rfl⟩
  unfold CutPost at HX ⊢
  rw [← hV] at HX ⊢
  obtain ⟨x, y, z, hxyz⟩ : ∃ x y z, V = .tuple #[.string x, .string y, .bool z] := by
    rw [hV]; unfold cutV; split <;> exact ⟨_, _, _, rfl⟩
  clear hV
  subst hxyz
  go_enter Tryd.func80, Tryd.ntmps80
  go_wp2_with (go_at_call 94; refine HX.out.mono ?_; rintro e w1 ⟨rfl, hc1⟩; have HC1 := Lib.hid hc1; clear hc1)
  go_ret3
  exact ⟨rfl, HC1.out⟩
end
end Go.Proofs.YtodbeeodhekpeaaDoor
namespace Go.Proofs.YtodbeeodhekpeaaDoor
open Go.RowKit
open Go.Lib (decDigits encodeRune)
theorem TkOk.rng {t : TkV} (h : TkOk t) : TkRng t := by
  rcases h with ⟨h1, h2, h3, h4⟩ | ⟨h1, h2, h3⟩ | ⟨h0, h1, h2, h3, h4⟩
  · exact ⟨by omega, by omega, by omega⟩
  · have a := (known_okR (named_known h1).1).1
    have b := (name_okR h3).1
    unfold okR at a b
    exact ⟨by omega, by omega, by omega⟩
  · have a := (known_okR h2).1
    unfold okR at a
    exact ⟨by omega, by omega, by omega⟩
theorem PowB.here {w w' : World} (h : PowB w.heap.size w) (hc : Chg [] w w') : PowB w'.heap.size w' := (h.keep (Nat.le_refl _) hc).less hc.size
end Go.Proofs.YtodbeeodhekpeaaDoor
namespace Go.Proofs.YtodbeeodhekpeaaDoor
open Go.RowKit
open Go.Lib (decDigits encodeRune)
theorem GoodU.find13 {l : List FnV} (h : GoodU l) {k : Nat} {f : FnV} (hk : l[k]? = some f) : findI l f.name = (k : Int) ∧ nameB f.name = true ∧ (f.name = 102 ∨ f.name = 103 ∨ f.name = 945) := by
  have nm : ∀ (i : Nat) (g : FnV), l[i]? = some g → nmL[i]? = some g.name := fun i g hg => (h.fn i g hg).1
  have hlo := h.lo
  have hkl := (List.getElem?_eq_some_iff.1 hk).1
  have e := nm k f hk
  have hk3 : k = 0 ∨ k = 1 ∨ k = 2 := by omega
  rcases hk3 with rfl | rfl | rfl
  · have hn : f.name = 102 := by simpa [nmL] using e.symm
    match l, hk with
    | a :: r, hk =>
      simp only [List.getElem?_cons_zero, Option.some.injEq] at hk
      subst hk
      refine ⟨?_, by rw [hn]; decide, .inl hn⟩
      simp [findI, findK]
  · have hn : f.name = 103 := by simpa [nmL] using e.symm
    match l, hk with
    | a :: b :: r, hk =>
      have h0 := nm 0 a rfl
      have hn0 : a.name = 102 := by simpa [nmL] using h0.symm
      simp only [List.getElem?_cons_zero, List.getElem?_cons_succ, Option.some.injEq] at hk
      subst hk
      refine ⟨?_, by rw [hn]; decide, .inr (.inl hn)⟩
      simp [findI, findK, hn0, hn]
  · have hn : f.name = 945 := by simpa [nmL] using e.symm
    match l, hk with
    | a :: b :: d :: r, hk =>
      have h0 := nm 0 a rfl
      have hn0 : a.name = 102 := by simpa [nmL] using h0.symm
      have h1 := nm 1 b rfl
      have hn1 : b.name = 103 := by simpa [nmL] using h1.symm
      simp only [List.getElem?_cons_zero, List.getElem?_cons_succ, Option.some.injEq] at hk
      subst hk
      refine ⟨?_, by rw [hn]; decide, .inr (.inr hn)⟩
      simp [findI, findK, hn0, hn1, hn]
theorem nameE_of {L : List FnV} : ∀ {r : List FnV} {k : Nat}, (∀ (j : Nat) (f : FnV), r[j]? = some f → nameB f.name = true ∧ findI L f.name = ((k + j : Nat) : Int) ∧ 0 ≤ f.args ∧ f.args ≤ 4) → nameE L r k = true
  | [], _, _ => rfl
  | g :: r, k, h => by
    rw [nameE]
    obtain ⟨h1, h2, h3, h4⟩ := h 0 g rfl
    simp only [Bool.and_eq_true, decide_eq_true_eq, beq_iff_eq]
    refine ⟨⟨⟨⟨h1, h2⟩, h3⟩, h4⟩, nameE_of fun j f hj => ?_⟩
    have := h (j + 1) f (by simpa using hj)
    rw [show k + 1 + j = k + (j + 1) from by omega]
    exact this
theorem GoodU.rightF {l : List FnV} (h : GoodU l) {pg ms : Int} (h0 : 0 ≤ pg) (h1 : pg ≤ ms) (h2 : ms ≤ 64) : RightF pg ms l := by
  refine ⟨h0, h1, h2, by have := h.lo; omega, nameE_of fun j f hj => ?_, fun k hk => ?_⟩
  · have ha := h.args f (List.mem_of_getElem? hj)
    rw [Nat.zero_add]
    exact ⟨(h.find13 hj).2.1, (h.find13 hj).1, ha.1, by omega⟩
  · have hf := h.func (List.getElem?_eq_getElem hk)
    rw [hf.2]
    exact hf.1
theorem RightF.rfn {pg ms : Int} {l : List FnV} (h : RightF pg ms l) {k : Nat} {f : FnV} (hk : l[k]? = some f) : (rFunc l f.code).1 = 0 := by
  have := h.ok k (List.getElem?_eq_some_iff.1 hk).1
  rwa [rFn_at hk] at this
theorem findK_end {name : Int} {x : FnV} (hx : x.name = name) : ∀ (l : List FnV) (k : Nat), (∀ f ∈ l, f.name ≠ name) → findK name (l ++ [x]) k = some (k + l.length)
  | [], k, _ => by rw [List.nil_append, findK, if_pos hx]; rfl
  | f :: l, k, h => by
    rw [List.cons_append, findK, if_neg (h f (by simp)), findK_end hx l (k + 1) (fun g hg => h g (by simp [hg]))]
    simp; omega
theorem findI_more {name : Int} {l m : List FnV} {k : Nat} (h : findI l name = (k : Int)) : findI (l ++ m) name = (k : Int) := by
  unfold findI at h ⊢
  cases hf : findK name l 0 with
  | none => rw [hf] at h; simp only at h; omega
  | some j => rw [hf] at h; rw [findK_add l m 0 j hf]; exact h
def sevenC : ByteArray := ⟨#[55]⟩
theorem seven_tok : tokR sevenC = some [⟨48, 7, 0⟩] := by rfl
theorem seven_ok (l : List FnV) : (rFunc l sevenC).1 = 0 := by
  unfold rFunc
  rw [seven_tok]
  simp only
  rw [show rNest (signs [⟨48, 7, 0⟩]) = some ([-1], 0) from by decide +kernel]
  simp only
  rw [rWalk_next, show rTok l 0 [] (TkV.mk 48 7 0).sign (TkV.mk 48 7 0).name = (0, 1, []) from rfl]
  rfl
theorem RightF.more {pg ms : Int} {l : List FnV} (h : RightF pg ms l) (hl : l.length < 32) {n name : Int} (hn : 0 ≤ n ∧ n ≤ 4) (hb : nameB name = true) (hne : ∀ f ∈ l, f.name ≠ name) : RightF pg ms (l ++ [⟨name, n, sevenC⟩]) := by
  refine ⟨h.p0, h.pm, h.m64, by simp; omega, nameE_of fun j f hj => ?_, fun k hk => ?_⟩
  · rw [Nat.zero_add]
    by_cases hjl : j < l.length
    · rw [List.getElem?_append_left hjl] at hj
      obtain ⟨a, b, c, d⟩ := h.fn hj
      exact ⟨a, findI_more b, c, d⟩
    · have hjl2 := (List.getElem?_eq_some_iff.1 hj).1
      simp at hjl2
      have : j = l.length := by omega
      subst this
      simp at hj
      subst hj
      refine ⟨hb, ?_, hn.1, hn.2⟩
      unfold findI
      rw [findK_end rfl l 0 hne]
      simp
  · by_cases hkl : k < l.length
    · have hk2 := List.getElem?_eq_getElem hkl
      rw [rFn_at (by rw [List.getElem?_append_left hkl]; exact hk2), rFunc_add _ _ _ (h.rfn hk2)]
      exact h.rfn hk2
    · simp at hk
      have : k = l.length := by omega
      subst this
      rw [rFn_at (f := ⟨name, n, sevenC⟩) (by simp)]
      exact seven_ok _
theorem RightF.again {pg ms : Int} {l : List FnV} (h : RightF pg ms l) (hl : l.length < 32) {f : FnV} (hf : l[0]? = some f) (n : Int) : rRight pg ms (l ++ [⟨f.name, n, sevenC⟩]) = 12 := by
  unfold rRight
  have h1 := h.p0
  have h2 := h.pm
  have h3 := h.m64
  rw [if_neg (by omega), if_neg (by simp; omega), if_neg]
  intro hh
  have := nameE_at hh l.length ⟨f.name, n, sevenC⟩ (by simp)
  have h0 : findI l f.name = ((0 : Nat) : Int) := (h.fn hf).2.1
  have e := findI_more (m := [⟨f.name, n, sevenC⟩]) h0
  have hp := (List.getElem?_eq_some_iff.1 hf).1
  have := this.2.1
  simp only at this
  rw [e] at this
  omega
theorem utFs_app : ∀ (l m : List FnV), utFs (l ++ m) = utFs l ++ utFs m
  | [], m => rfl
  | f :: l, m => by rw [List.cons_append, utFs, utFs, utFs_app l m, List.append_assoc]
theorem utx_app (pg ms : Int) (l m : List FnV) : utx pg ms (l ++ m) = utx pg ms l ++ utFs m := by
  unfold utx
  rw [utFs_app]
  simp only [List.cons_append, List.append_assoc]
theorem seven_txt (n : Nat) (hn : n ≤ 4) (name : Int) : utF ⟨name, (n : Int), sevenC⟩ = encodeRune name ++ [UInt8.ofNat (48 + n), 32, 55, 10] := by
  have h : txC sevenC = [55] := by
    unfold txC toksOf
    rw [seven_tok]
    show txB false [⟨48, 7, 0⟩] = _
    rw [txB, if_pos rfl, show (7 : Int).toNat = 7 from rfl, Lib.decDigits_one (by omega)]
    rfl
  unfold utF
  simp only
  rw [h, show ((n : Int)).toNat = n from rfl, Lib.decDigits_one (by omega)]
  rfl
end Go.Proofs.YtodbeeodhekpeaaDoor
