/-
  UN: StPure, Find, NestOf, Door.
-/
import Derived.Test.YtodbeeodhekpeaaDoorZUN4
import Derived.Test.YtodbeeodhekpeaaDoorZUN5
import Derived.Test.YtodbeeodhekpeaaDoorZUN7
import Derived.Test.YtodbeeodhekpeaaDoorZUN10
import Derived.Test.YtodbeeodhekpeaaDoorZUN14
import Derived.Test.YtodbeeodhekpeaaDoorZUN18
import Derived.Test.YtodbeeodhekpeaaDoorRows
import Derived.LaidMore
import Derived.Stop.LaidErr
import Derived.Lib.LaidTab
namespace Go.Proofs.YtodbeeodhekpeaaDoor
open Go.RowKit
structure BkV where
  sign : Int
  base : Int
  other : Int
  left : Bool
/-- The place of the first function of a name. -/
def findK (name : Int) : List FnV → Nat → Option Nat
  | [], _ => none
  | f :: l, k => if f.name = name then some k else findK name l (k + 1)
def findI (l : List FnV) (name : Int) : Int := match findK name l 0 with | some k => (k : Int) | none => -1
theorem findK_at {name : Int} : ∀ {l : List FnV} {k j : Nat}, findK name l k = some j → ∃ f, k ≤ j ∧ l[j - k]? = some f ∧ f.name = name
  | [], k, j, h => by simp [findK] at h
  | f :: l, k, j, h => by
    rw [findK] at h
    by_cases hn : f.name = name
    · rw [if_pos hn] at h; injection h with h; subst h; exact ⟨f, Nat.le_refl _, by simp, hn⟩
    · rw [if_neg hn] at h
      obtain ⟨g, h1, h2, h3⟩ := findK_at h
      refine ⟨g, by omega, ?_, h3⟩
      rw [show j - k = (j - (k + 1)) + 1 from by omega]
      simpa using h2
theorem findK_add {name : Int} : ∀ (l m : List FnV) (k j : Nat), findK name l k = some j → findK name (l ++ m) k = some j
  | [], m, k, j, h => by simp [findK] at h
  | f :: l, m, k, j, h => by
    rw [List.cons_append, findK]
    rw [findK] at h
    by_cases hn : f.name = name
    · rw [if_pos hn] at h ⊢; exact h
    · rw [if_neg hn] at h ⊢; exact findK_add l m (k + 1) j h
def binL : List Nat := [43, 45, 42, 47, 37, 38, 124, 94, 60, 61, 171, 187]
def unL : List Nat := [33, 64, 169, 164, 960]
def zeL : List Nat := [58, 59, 91, 93, 126, 161]
def inL (l : List Nat) (r : Int) : Bool := l.any fun x => (x : Int) == r
/-- What a call takes. -/
def callA (l : List FnV) (name : Int) : Int × Int × Bool :=
  match findK name l 0 with
  | none => (0, 0, false)
  | some k => match l[k]? with
    | none => (0, 0, false)
    | some f => if 0 ≤ f.args ∧ f.args ≤ 4 then (f.args, 1, true) else (0, 0, false)
def rTakes (l : List FnV) (s name : Int) : Int × Int × Bool :=
  if (s = 48 ∨ (97 ≤ s ∧ s ≤ 122)) ∨ s = 35 then (0, 1, true)
  else if (65 ≤ s ∧ s ≤ 90) ∨ s = 44 then (1, 0, true)
  else if s = 46 then (1, 2, true)
  else if inL binL s = true then (2, 1, true)
  else if inL unL s = true then (1, 1, true)
  else if s = 36 ∨ s = 174 then (2, 0, true)
  else if s = 63 then (1, 0, true)
  else if inL zeL s = true then (0, 0, true)
  else if s = 955 then callA l name
  else (0, 0, false)
theorem callA_in (l : List FnV) (name : Int) : 0 ≤ (callA l name).1 ∧ (callA l name).1 ≤ 4 ∧ 0 ≤ (callA l name).2.1 ∧ (callA l name).2.1 ≤ 2 := by
  unfold callA
  split
  · simp
  · split
    · simp
    · split
      · rename_i h; simp; omega
      · simp
theorem rTakes_in (l : List FnV) (s name : Int) : 0 ≤ (rTakes l s name).1 ∧ (rTakes l s name).1 ≤ 4 ∧ 0 ≤ (rTakes l s name).2.1 ∧ (rTakes l s name).2.1 ≤ 2 := by
  unfold rTakes
  repeat' split
  all_goals first | exact callA_in l name | simp
def baseOf (bs : List BkV) : Int := match bs.getLast? with | none => 0 | some b => b.base
/-- : ; ] -/
def rEnds (h : Int) (ys : List BkV) (x : BkV) (r : Int) : Bool × Int × List BkV :=
  if r = 58 then (true, x.base, ys ++ [⟨58, x.base, h, x.left⟩])
  else if x.sign = 58 then (if 0 ≤ x.other ∧ 0 ≤ h ∧ x.other ≠ h then (false, h, ys) else (true, max h x.other, ys))
  else if 0 ≤ h ∧ h ≠ x.base then (false, h, ys)
  else (true, (if x.sign = 91 ∧ x.left = false then -1 else x.base), ys)
/-- ~ -/
def rLeave (h : Int) (bs : List BkV) : Nat → Bool × Int × List BkV
  | 0 => (false, h, bs)
  | k + 1 => match bs[k]? with
    | none => (false, h, bs)
    | some x => if x.sign = 91 then (h == x.base, -1, bs.set k ⟨x.sign, x.base, x.other, true⟩) else rLeave h bs k
def isEnd (s : Int) : Prop := s = 58 ∨ s = 59 ∨ s = 93
instance (s : Int) : Decidable (isEnd s) := by unfold isEnd; exact inferInstance
/-- A token: the fault's number, or the height and the blocks behind it. -/
def rTok (l : List FnV) (h : Int) (bs : List BkV) (s name : Int) : Int × Int × List BkV :=
  if isEnd s then (match bs.getLast? with
    | none => (14, h, bs)
    | some x => match rEnds h bs.dropLast x s with | (true, h', bs') => (0, h', bs') | (false, h', bs') => (14, h', bs'))
  else if h < 0 then (15, h, bs)
  else match rTakes l s name with
    | (_, _, false) => (22, h, bs)
    | (p, g, true) =>
      if h - baseOf bs < p ∨ 64 < h - p + g then (14, h, bs)
      else if s = 63 ∨ s = 91 then (0, h - p + g, bs ++ [⟨s, h - p + g, 0, false⟩])
      else if s = 126 then (match rLeave (h - p + g) bs bs.length with | (true, h', bs') => (0, h', bs') | (false, h', bs') => (14, h', bs'))
      else if s = 161 then (0, -1, bs)
      else (0, h - p + g, bs)
/-- The tokens from one on. -/
def rWalk (l : List FnV) : List TkV → Int → List BkV → List Int → Int × List Int
  | [], h, _, out => if h ≠ 1 ∧ 0 ≤ h then (14, []) else (0, out)
  | t :: ts, h, bs, out => match rTok l h bs t.sign t.name with
    | (e, h', bs') => if e = 0 then rWalk l ts h' bs' (out ++ [h]) else (e, [])
def rFunc (l : List FnV) (code : ByteArray) : Int × List Int :=
  match tokR code with
  | none => (tokE code, [])
  | some ts => match rNest (signs ts) with
    | none => (13, [])
    | some _ => rWalk l ts 0 [] []
/-- How many blocks are open behind a sign. -/
def tokLen (s : Int) (n : Nat) : Nat := if s = 63 ∨ s = 91 then n + 1 else if s = 59 ∨ s = 93 then n - 1 else n
theorem rLeave_len (h : Int) (bs : List BkV) : ∀ k, (rLeave h bs k).2.2.length = bs.length
  | 0 => rfl
  | k + 1 => by
    rw [rLeave]
    split
    · rfl
    · split
      · simp
      · exact rLeave_len h bs k
theorem rTok_len {l : List FnV} {h : Int} {bs : List BkV} {s name : Int} (he : (rTok l h bs s name).1 = 0) : (rTok l h bs s name).2.2.length = tokLen s bs.length := by
  unfold rTok at he ⊢
  by_cases hs : isEnd s
  · rw [if_pos hs] at he ⊢
    rcases List.eq_nil_or_concat bs with rfl | ⟨ys, x, rfl⟩
    · simp at he
    · rw [List.concat_eq_append] at he ⊢
      simp only [List.getLast?_append, List.getLast?_singleton, Option.some_or, List.dropLast_concat, List.length_append, List.length_singleton] at he ⊢
      unfold rEnds at he ⊢
      rcases hs with rfl | rfl | rfl
      · simp [tokLen]
      · simp only [tokLen] at he ⊢
        split <;> simp_all
        all_goals (repeat' split at *) <;> simp_all
      · simp only [tokLen] at he ⊢
        split <;> simp_all
        all_goals (repeat' split at *) <;> simp_all
  · rw [if_neg hs] at he ⊢
    have hn : ¬ s = 59 ∧ ¬ s = 93 := by unfold isEnd at hs; omega
    by_cases hh : h < 0
    · rw [if_pos hh] at he; simp at he
    · rw [if_neg hh] at he ⊢
      rcases hT : rTakes l s name with ⟨p, g, ok⟩
      rw [hT] at he
      cases ok
      · simp at he
      · simp only at he ⊢
        by_cases hb : h - baseOf bs < p ∨ 64 < h - p + g
        · rw [if_pos hb] at he; simp at he
        · rw [if_neg hb] at he ⊢
          by_cases h6 : s = 63 ∨ s = 91
          · rw [if_pos h6]; simp [tokLen, h6]
          · rw [if_neg h6] at he ⊢
            have e : tokLen s bs.length = bs.length := by unfold tokLen; rw [if_neg h6, if_neg (by omega)]
            rw [e]
            by_cases h7 : s = 126
            · rw [if_pos h7] at he ⊢
              have := rLeave_len (h - p + g) bs bs.length
              rcases hR : rLeave (h - p + g) bs bs.length with ⟨b, h', bs'⟩
              rw [hR] at this
              cases b <;> exact this
            · rw [if_neg h7]
              split <;> rfl
end Go.Proofs.YtodbeeodhekpeaaDoor
namespace Go.Proofs.YtodbeeodhekpeaaDoor
open Go.RowKit
/-- A unit, as an argument. -/
def unitV (pages most : Int) (A : Option Addr) (n c : Nat) : Value := .agg #[.int .i64 pages, .int .i64 most, .slice A n c]
/-- The slice value '.slice A n c' is the functions l, whatever they are. -/
structure Fnr (W : World) (A : Option Addr) (n c : Nat) (l : List FnV) : Prop where
  len : l.length = n
  src : Src W A (fnCs l)
  cap : n ≤ c
  max : n ≤ 1000
  spot : 0 < n → ∀ ad, A = some ad → ad.spot = none
  args : ∀ f ∈ l, -9223372036854775808 ≤ f.args ∧ f.args ≤ 9223372036854775807
section
variable {W W' : World} {p : Nat} {A : Option Addr} {n c : Nat} {l : List FnV}
theorem Fnr.keep (h : Fnr W A n c l) (hc : Chg [] W W') : Fnr W' A n c l := ⟨h.len, h.src.keep hc, h.cap, h.max, h.spot, h.args⟩
theorem Fnr.cell (h : Fnr W A n c l) {k : Nat} {t : FnV} (hk : l[k]? = some t) : ∃ b o, A = some ⟨b, o, none⟩ ∧ b < W.heap.size ∧ W.cell? ⟨b, o + k * 3, none⟩ = some (.int .i32 t.name) ∧ W.cell? ⟨b, o + k * 3 + 1, none⟩ = some (.int .i64 t.args) ∧ W.cell? ⟨b, o + k * 3 + 2, none⟩ = some (.string t.code) := by
  have hkl := (List.getElem?_eq_some_iff.1 hk).1
  obtain ⟨⟨b, o, s⟩, e, hb, hx⟩ := h.src (by rw [fnCs_len]; omega)
  obtain rfl : s = none := h.spot (by have := h.len; omega) _ e
  refine ⟨b, o, e, hb, ?_, ?_, ?_⟩
  · have := hx _ _ ((fnCs_get l k t 0 hk (by omega)).trans rfl); rwa [add_plain] at this
  · have := hx _ _ ((fnCs_get l k t 1 hk (by omega)).trans rfl); rwa [add_plain] at this
  · have := hx _ _ ((fnCs_get l k t 2 hk (by omega)).trans rfl); rwa [add_plain] at this
end
section
variable {w : World} {A : Option Addr} {n c : Nat} {l : List FnV} {pages most : Int}
def FindPost (i : Int) (w : World) (e : Ending) (w' : World) : Prop := e = .returned (.int .i64 i) ∧ Chg [] w w'
set_option maxHeartbeats 2000000 in
set_option maxRecDepth 100000 in
theorem find_any (h : Fnr w A n c l) (name : Int) : Calls Tryd.prog 75 #[unitV pages most A n c, .int .i32 name] w (FindPost (findI l name) w) := by
  unfold unitV
  have hmax := h.max
  have H := Lib.hid h
  have HL := Lib.hid h.len
  have HI := Lib.hid (show findK name l 0 = findK name (l.drop 0) 0 from rfl)
  have HN := Lib.hid (show findI l name = match findK name l 0 with | some k => (k : Int) | none => -1 from rfl)
  generalize findI l name = fi at HN ⊢
  clear h
  go_enter Tryd.func75, Tryd.ntmps75
  go_upto_region 1 with fail
  have hN := Whole.new w 25 [.int .i64 pages, .int .i64 most, .slice A n c]
  have hal : Chg [] w (w.alloc (.cells #[.int .i64 pages, .int .i64 most, .slice A n c] 25)) := (Chg.refl [] w).alloc _
  have c2 := hN.cell 2
  have HN := Lib.hid hN
  have HC := Lib.hid hal
  have HF := Lib.hid (H.out.keep hal)
  obtain ⟨g, hg⟩ : ∃ g, g = w.heap.size := ⟨_, rfl⟩
  rw [← hg] at c2 ⊢
  generalize w.alloc (.cells #[.int .i64 pages, .int .i64 most, .slice A n c] 25) = w1 at c2 HC HF ⊢
  clear hN hal hg HN
  go_wp2_with fail
  go_loopw [9] (fun i wr => ∃ k : Nat, i = .int .i64 (k : Int) ∧ k ≤ n ∧ Hid (findK name l 0 = findK name (l.drop k) k) ∧ wr = w1) (fun i _ => n - (intOf i).toNat)
  case atStart => exact ⟨0, rfl, by omega, HI, rfl⟩
  case round =>
    obtain ⟨k, rfl, hk, HK, hwr⟩ := hrel
    subst hwr
    by_cases hkn : k < n
    · have hkI : (k : Int) < (n : Int) := by omega
      obtain ⟨t, htk⟩ : ∃ t, l[k]? = some t := ⟨l[k]'(by rw [HF.out.len]; exact hkn), by simp⟩
      have HD := Lib.hid (show l.drop k = t :: l.drop (k + 1) from List.drop_eq_getElem?_toList_append.trans (by rw [htk]; rfl))
      obtain ⟨fb, fo, rfl, hfbl, e0, e1, e2⟩ := HF.out.cell htk
      clear htk e1 e2
      by_cases hnm : t.name = name
      · have hq : (t.name == name) = true := by simpa using hnm
        have HP := Lib.hid (show FindPost fi w (.returned (.int .i64 (k : Int))) wr from ⟨by rw [HN.out, HK.out, HD.out, findK, if_pos hnm], HC.out⟩)
        clear hnm
        go_wp2_with fail
        go_ret
        exact HP.out
      · have hq : (t.name == name) = false := by simpa using hnm
        have HK2 := Lib.hid (show findK name l 0 = findK name (l.drop (k + 1)) (k + 1) from by rw [HK.out, HD.out, findK, if_neg hnm])
        go_wp2_with fail
        go_roundw
        case rel => exact ⟨k + 1, by go_num, by omega, HK2, by first | rfl | trivial⟩
        case measure => simp [intOf]; omega
    · have hkI : (n : Int) ≤ (k : Int) := by omega
      have HP := Lib.hid (show FindPost fi w (.returned (.int .i64 (-1))) wr from ⟨by rw [HN.out, HK.out, List.drop_eq_nil_of_le (by rw [HL.out]; omega)]; rfl, HC.out⟩)
      go_wp2_with fail
      go_ret
      exact HP.out
end
end Go.Proofs.YtodbeeodhekpeaaDoor
namespace Go.Proofs.YtodbeeodhekpeaaDoor
open Go.RowKit
def OfPost8 (n : Nat) (r : Option (List Int × Nat)) (W : World) (e : Ending) (w' : World) : Prop :=
  Chg [] W w' ∧ ((∃ t d g, r = some (t, d) ∧ t.length = n ∧ e = .returned (.tuple #[.slice (some ⟨g, 0, none⟩) n n, .int .i64 0]) ∧ Whole w' g 3 (nms t)) ∨
    (r = none ∧ e = .returned (.tuple #[.slice none 0 0, .int .i64 13])))
section
variable {W : World} {A : Option Addr} {n c : Nat} {l : List TkV}
set_option maxHeartbeats 1000000 in
set_option maxRecDepth 100000 in
theorem nof_any (h : Tks W A n c l) : Calls Tryd.prog 53 #[.slice A n c] W (OfPost8 n (nNest (signs l)) W) := by
  go_enter Tryd.func53, Tryd.ntmps53
  go_wp2_with fail
  refine (match_any h).mono ?_
  rintro e w1 ⟨hc, ⟨t, d, g, hr, htl, rfl, hT, _⟩ | ⟨hr, v, d, rfl⟩⟩
  · have HPO := Lib.hid (show OfPost8 n (nNest (signs l)) W (.returned (.tuple #[.slice (some ⟨g, 0, none⟩) n n, .int .i64 0])) w1 from ⟨hc, .inl ⟨t, d, g, hr, htl, rfl, hT⟩⟩)
    clear hr htl hT hc h
    go_wp2_with fail
    go_ret2
    exact HPO.out
  · have HPO := Lib.hid (show OfPost8 n (nNest (signs l)) W (.returned (.tuple #[.slice none 0 0, .int .i64 13])) w1 from ⟨hc, .inr ⟨hr, rfl⟩⟩)
    clear hr hc h
    go_wp2_with fail
    go_ret2
    exact HPO.out
end
end Go.Proofs.YtodbeeodhekpeaaDoor
namespace Go.Proofs.YtodbeeodhekpeaaDoor
open Go.RowKit
abbrev laidL : List (String × DataW Unit) := [("math/bits.deBruijn32tab", Rows.laid_math_bits_deBruijn32tab), ("math/bits.deBruijn64tab", Rows.laid_math_bits_deBruijn64tab), ("internal/strconv.uint64pow10", Rows.laid_internal_strconv_uint64pow10)]
theorem door_met (os : Os) (args : Array Value) : laidMetH Tryd.prog laidL ((World.doorLaid Tryd.prog 400 os).forCall (fun _ _ => 0) ⟨#[], args, []⟩).memory :=
  laidMetH_of_parts3 (fuel := 8) (laidMet_of_run' 8 (by kernel_rfl) (by kernel_rfl)) (by kernel_rfl) (by kernel_rfl)
theorem pow_data : (Rows.laid_internal_strconv_uint64pow10 : DataW Unit) = Lib.tabData .u64 Lib.pow10Tab := by rfl
theorem pow_of {W : World} (h : laidMetH Tryd.prog laidL W) : PowB W.heap.size W := by
  rw [MakeChecks.laidMetH_plain _ _ _ (by kernel_rfl)] at h
  have h3 := laidMet.tail (laidMet.tail h)
  rw [pow_data] at h3
  exact Lib.tabBelow_of_tabIs (Lib.tabIs_of_head (g := 0) (t := 133) (e := 91) (n := 20) (by kernel_rfl) (by kernel_rfl) Tryd.underlying133 Tryd.underlying91 (by kernel_rfl) (by kernel_rfl) h3)
end Go.Proofs.YtodbeeodhekpeaaDoor
