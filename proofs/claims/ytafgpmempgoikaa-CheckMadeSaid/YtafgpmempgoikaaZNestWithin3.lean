/-
  NestWithin, part 3: StPure, Find, Takes, StMem, StLeave, StEnds, StTok, StTokB, NestIn, NestHalf, NestEnd, NestLoop.
-/
import Derived.Test.YtafgpmempgoikaaZNestWithin1
import Derived.Test.YtafgpmempgoikaaZNestWithin2
import Derived.BigRegion
import Derived.Deep.RegionLaw
namespace Go.Proofs.Ytafgpmempgoikaa
open Go.RowKit
structure BkV where
  sign : Int
  base : Int
  other : Int
  left : Bool
/-- The place of the first function of a name. -/
def findK (name : Int) : List FnV → Nat → Option Nat
  | [], _ => none
  | f :: l, k => if f.name = name then some k else findK name l (k + 1)
def findI (l : List FnV) (name : Int) : Int := match findK name l 0 with | some k => (k : Int) | none => -1
theorem findK_at {name : Int} : ∀ {l : List FnV} {k j : Nat}, findK name l k = some j → ∃ f, k ≤ j ∧ l[j - k]? = some f ∧ f.name = name
  | [], k, j, h => by simp [findK] at h
  | f :: l, k, j, h => by
    rw [findK] at h
    by_cases hn : f.name = name
    · rw [if_pos hn] at h; injection h with h; subst h; exact ⟨f, Nat.le_refl _, by simp, hn⟩
    · rw [if_neg hn] at h
      obtain ⟨g, h1, h2, h3⟩ := findK_at h
      refine ⟨g, by omega, ?_, h3⟩
      rw [show j - k = (j - (k + 1)) + 1 from by omega]
      simpa using h2
theorem findK_add {name : Int} : ∀ (l m : List FnV) (k j : Nat), findK name l k = some j → findK name (l ++ m) k = some j
  | [], m, k, j, h => by simp [findK] at h
  | f :: l, m, k, j, h => by
    rw [List.cons_append, findK]
    rw [findK] at h
    by_cases hn : f.name = name
    · rw [if_pos hn] at h ⊢; exact h
    · rw [if_neg hn] at h ⊢; exact findK_add l m (k + 1) j h
def binL : List Nat := [43, 45, 42, 47, 37, 38, 124, 94, 60, 61, 171, 187]
def unL : List Nat := [33, 64, 169, 164, 960]
def zeL : List Nat := [58, 59, 91, 93, 126, 161]
def inL (l : List Nat) (r : Int) : Bool := l.any fun x => (x : Int) == r
/-- What a call takes. -/
def callA (l : List FnV) (name : Int) : Int × Int × Bool :=
  match findK name l 0 with
  | none => (0, 0, false)
  | some k => match l[k]? with
    | none => (0, 0, false)
    | some f => if 0 ≤ f.args ∧ f.args ≤ 4 then (f.args, 1, true) else (0, 0, false)
def rTakes (l : List FnV) (s name : Int) : Int × Int × Bool :=
  if (s = 48 ∨ (97 ≤ s ∧ s ≤ 122)) ∨ s = 35 then (0, 1, true)
  else if (65 ≤ s ∧ s ≤ 90) ∨ s = 44 then (1, 0, true)
  else if s = 46 then (1, 2, true)
  else if inL binL s = true then (2, 1, true)
  else if inL unL s = true then (1, 1, true)
  else if s = 36 ∨ s = 174 then (2, 0, true)
  else if s = 63 then (1, 0, true)
  else if inL zeL s = true then (0, 0, true)
  else if s = 955 then callA l name
  else (0, 0, false)
theorem callA_in (l : List FnV) (name : Int) : 0 ≤ (callA l name).1 ∧ (callA l name).1 ≤ 4 ∧ 0 ≤ (callA l name).2.1 ∧ (callA l name).2.1 ≤ 2 := by
  unfold callA
  split
  · simp
  · split
    · simp
    · split
      · rename_i h; simp; omega
      · simp
theorem rTakes_in (l : List FnV) (s name : Int) : 0 ≤ (rTakes l s name).1 ∧ (rTakes l s name).1 ≤ 4 ∧ 0 ≤ (rTakes l s name).2.1 ∧ (rTakes l s name).2.1 ≤ 2 := by
  unfold rTakes
  repeat' split
  all_goals first | exact callA_in l name | simp
def baseOf (bs : List BkV) : Int := match bs.getLast? with | none => 0 | some b => b.base
/-- : ; ] -/
def rEnds (h : Int) (ys : List BkV) (x : BkV) (r : Int) : Bool × Int × List BkV :=
  if r = 58 then (true, x.base, ys ++ [⟨58, x.base, h, x.left⟩])
  else if x.sign = 58 then (if 0 ≤ x.other ∧ 0 ≤ h ∧ x.other ≠ h then (false, h, ys) else (true, max h x.other, ys))
  else if 0 ≤ h ∧ h ≠ x.base then (false, h, ys)
  else (true, (if x.sign = 91 ∧ x.left = false then -1 else x.base), ys)
/-- ~ -/
def rLeave (h : Int) (bs : List BkV) : Nat → Bool × Int × List BkV
  | 0 => (false, h, bs)
  | k + 1 => match bs[k]? with
    | none => (false, h, bs)
    | some x => if x.sign = 91 then (h == x.base, -1, bs.set k ⟨x.sign, x.base, x.other, true⟩) else rLeave h bs k
def isEnd (s : Int) : Prop := s = 58 ∨ s = 59 ∨ s = 93
instance (s : Int) : Decidable (isEnd s) := by unfold isEnd; exact inferInstance
/-- A token: the fault's number, or the height and the blocks behind it. -/
def rTok (l : List FnV) (h : Int) (bs : List BkV) (s name : Int) : Int × Int × List BkV :=
  if isEnd s then (match bs.getLast? with
    | none => (14, h, bs)
    | some x => match rEnds h bs.dropLast x s with | (true, h', bs') => (0, h', bs') | (false, h', bs') => (14, h', bs'))
  else if h < 0 then (15, h, bs)
  else match rTakes l s name with
    | (_, _, false) => (22, h, bs)
    | (p, g, true) =>
      if h - baseOf bs < p ∨ 64 < h - p + g then (14, h, bs)
      else if s = 63 ∨ s = 91 then (0, h - p + g, bs ++ [⟨s, h - p + g, 0, false⟩])
      else if s = 126 then (match rLeave (h - p + g) bs bs.length with | (true, h', bs') => (0, h', bs') | (false, h', bs') => (14, h', bs'))
      else if s = 161 then (0, -1, bs)
      else (0, h - p + g, bs)
/-- The tokens from one on. -/
def rWalk (l : List FnV) : List TkV → Int → List BkV → List Int → Int × List Int
  | [], h, _, out => if h ≠ 1 ∧ 0 ≤ h then (14, []) else (0, out)
  | t :: ts, h, bs, out => match rTok l h bs t.sign t.name with
    | (e, h', bs') => if e = 0 then rWalk l ts h' bs' (out ++ [h]) else (e, [])
def rFunc (l : List FnV) (code : ByteArray) : Int × List Int :=
  match tokR code with
  | none => (tokE code, [])
  | some ts => match rNest (signs ts) with
    | none => (13, [])
    | some _ => rWalk l ts 0 [] []
/-- How many blocks are open behind a sign. -/
def tokLen (s : Int) (n : Nat) : Nat := if s = 63 ∨ s = 91 then n + 1 else if s = 59 ∨ s = 93 then n - 1 else n
theorem rLeave_len (h : Int) (bs : List BkV) : ∀ k, (rLeave h bs k).2.2.length = bs.length
  | 0 => rfl
  | k + 1 => by
    rw [rLeave]
    split
    · rfl
    · split
      · simp
      · exact rLeave_len h bs k
theorem rTok_len {l : List FnV} {h : Int} {bs : List BkV} {s name : Int} (he : (rTok l h bs s name).1 = 0) : (rTok l h bs s name).2.2.length = tokLen s bs.length := by
  unfold rTok at he ⊢
  by_cases hs : isEnd s
  · rw [if_pos hs] at he ⊢
    rcases List.eq_nil_or_concat bs with rfl | ⟨ys, x, rfl⟩
    · simp at he
    · rw [List.concat_eq_append] at he ⊢
      simp only [List.getLast?_append, List.getLast?_singleton, Option.some_or, List.dropLast_concat, List.length_append, List.length_singleton] at he ⊢
      unfold rEnds at he ⊢
      rcases hs with rfl | rfl | rfl
      · simp [tokLen]
      · simp only [tokLen] at he ⊢
        split <;> simp_all
        all_goals (repeat' split at *) <;> simp_all
      · simp only [tokLen] at he ⊢
        split <;> simp_all
        all_goals (repeat' split at *) <;> simp_all
  · rw [if_neg hs] at he ⊢
    have hn : ¬ s = 59 ∧ ¬ s = 93 := by unfold isEnd at hs; omega
    by_cases hh : h < 0
    · rw [if_pos hh] at he; simp at he
    · rw [if_neg hh] at he ⊢
      rcases hT : rTakes l s name with ⟨p, g, ok⟩
      rw [hT] at he
      cases ok
      · simp at he
      · simp only at he ⊢
        by_cases hb : h - baseOf bs < p ∨ 64 < h - p + g
        · rw [if_pos hb] at he; simp at he
        · rw [if_neg hb] at he ⊢
          by_cases h6 : s = 63 ∨ s = 91
          · rw [if_pos h6]; simp [tokLen, h6]
          · rw [if_neg h6] at he ⊢
            have e : tokLen s bs.length = bs.length := by unfold tokLen; rw [if_neg h6, if_neg (by omega)]
            rw [e]
            by_cases h7 : s = 126
            · rw [if_pos h7] at he ⊢
              have := rLeave_len (h - p + g) bs bs.length
              rcases hR : rLeave (h - p + g) bs bs.length with ⟨b, h', bs'⟩
              rw [hR] at this
              cases b <;> exact this
            · rw [if_neg h7]
              split <;> rfl
end Go.Proofs.Ytafgpmempgoikaa
namespace Go.Proofs.Ytafgpmempgoikaa
open Go.RowKit
/-- A unit, as an argument. -/
def unitV (pages most : Int) (A : Option Addr) (n c : Nat) : Value := .agg #[.int .i64 pages, .int .i64 most, .slice A n c]
/-- The slice value '.slice A n c' is the functions l, whatever they are. -/
structure Fnr (W : World) (A : Option Addr) (n c : Nat) (l : List FnV) : Prop where
  len : l.length = n
  src : Src W A (fnCs l)
  cap : n ≤ c
  max : n ≤ 1000
  spot : 0 < n → ∀ ad, A = some ad → ad.spot = none
  args : ∀ f ∈ l, -9223372036854775808 ≤ f.args ∧ f.args ≤ 9223372036854775807
section
variable {W W' : World} {p : Nat} {A : Option Addr} {n c : Nat} {l : List FnV}
theorem Fnr.keep (h : Fnr W A n c l) (hc : Chg [] W W') : Fnr W' A n c l := ⟨h.len, h.src.keep hc, h.cap, h.max, h.spot, h.args⟩
theorem Fns.raw (h : Fns W p A n c l) : Fnr W A n c l := ⟨h.len, h.src, h.cap, h.max, fun hn ad e => (h.spot hn ad e).1, fun f hf => by have := h.args f hf; omega⟩
theorem Fnr.cell (h : Fnr W A n c l) {k : Nat} {t : FnV} (hk : l[k]? = some t) : ∃ b o, A = some ⟨b, o, none⟩ ∧ b < W.heap.size ∧ W.cell? ⟨b, o + k * 3, none⟩ = some (.int .i32 t.name) ∧ W.cell? ⟨b, o + k * 3 + 1, none⟩ = some (.int .i64 t.args) ∧ W.cell? ⟨b, o + k * 3 + 2, none⟩ = some (.string t.code) := by
  have hkl := (List.getElem?_eq_some_iff.1 hk).1
  obtain ⟨⟨b, o, s⟩, e, hb, hx⟩ := h.src (by rw [fnCs_len]; omega)
  obtain rfl : s = none := h.spot (by have := h.len; omega) _ e
  refine ⟨b, o, e, hb, ?_, ?_, ?_⟩
  · have := hx _ _ ((fnCs_get l k t 0 hk (by omega)).trans rfl); rwa [add_plain] at this
  · have := hx _ _ ((fnCs_get l k t 1 hk (by omega)).trans rfl); rwa [add_plain] at this
  · have := hx _ _ ((fnCs_get l k t 2 hk (by omega)).trans rfl); rwa [add_plain] at this
end
section
variable {w : World} {A : Option Addr} {n c : Nat} {l : List FnV} {pages most : Int}
def FindPost (i : Int) (w : World) (e : Ending) (w' : World) : Prop := e = .returned (.int .i64 i) ∧ Chg [] w w'
set_option maxHeartbeats 2000000 in
set_option maxRecDepth 100000 in
theorem find_any (h : Fnr w A n c l) (name : Int) : Calls Try.prog 41 #[unitV pages most A n c, .int .i32 name] w (FindPost (findI l name) w) := by
  unfold unitV
  have hmax := h.max
  have H := Lib.hid h
  have HL := Lib.hid h.len
  have HI := Lib.hid (show findK name l 0 = findK name (l.drop 0) 0 from rfl)
  have HN := Lib.hid (show findI l name = match findK name l 0 with | some k => (k : Int) | none => -1 from rfl)
  generalize findI l name = fi at HN ⊢
  clear h
  go_enter Try.func41, Try.ntmps41
  go_upto_region 1 with fail
  have hN := Whole.new w 26 [.int .i64 pages, .int .i64 most, .slice A n c]
  have hal : Chg [] w (w.alloc (.cells #[.int .i64 pages, .int .i64 most, .slice A n c] 26)) := (Chg.refl [] w).alloc _
  have c2 := hN.cell 2
  have HN := Lib.hid hN
  have HC := Lib.hid hal
  have HF := Lib.hid (H.out.keep hal)
  obtain ⟨g, hg⟩ : ∃ g, g = w.heap.size := ⟨_, rfl⟩
  rw [← hg] at c2 ⊢
  generalize w.alloc (.cells #[.int .i64 pages, .int .i64 most, .slice A n c] 26) = w1 at c2 HC HF ⊢
  clear hN hal hg HN
  go_wp2_with fail
  go_loopw [9] (fun i wr => ∃ k : Nat, i = .int .i64 (k : Int) ∧ k ≤ n ∧ Hid (findK name l 0 = findK name (l.drop k) k) ∧ wr = w1) (fun i _ => n - (intOf i).toNat)
  case atStart => exact ⟨0, rfl, by omega, HI, rfl⟩
  case round =>
    obtain ⟨k, rfl, hk, HK, hwr⟩ := hrel
    subst hwr
    by_cases hkn : k < n
    · have hkI : (k : Int) < (n : Int) := by omega
      obtain ⟨t, htk⟩ : ∃ t, l[k]? = some t := ⟨l[k]'(by rw [HF.out.len]; exact hkn), by simp⟩
      have HD := Lib.hid (show l.drop k = t :: l.drop (k + 1) from List.drop_eq_getElem?_toList_append.trans (by rw [htk]; rfl))
      obtain ⟨fb, fo, rfl, hfbl, e0, e1, e2⟩ := HF.out.cell htk
      clear htk e1 e2
      by_cases hnm : t.name = name
      · have hq : (t.name == name) = true := by simpa using hnm
        have HP := Lib.hid (show FindPost fi w (.returned (.int .i64 (k : Int))) wr from ⟨by rw [HN.out, HK.out, HD.out, findK, if_pos hnm], HC.out⟩)
        clear hnm
        go_wp2_with fail
        go_ret
        exact HP.out
      · have hq : (t.name == name) = false := by simpa using hnm
        have HK2 := Lib.hid (show findK name l 0 = findK name (l.drop (k + 1)) (k + 1) from by rw [HK.out, HD.out, findK, if_neg hnm])
        go_wp2_with fail
        go_roundw
        case rel => exact ⟨k + 1, by go_num, by omega, HK2, by first | rfl | trivial⟩
        case measure => simp [intOf]; omega
    · have hkI : (n : Int) ≤ (k : Int) := by omega
      have HP := Lib.hid (show FindPost fi w (.returned (.int .i64 (-1))) wr from ⟨by rw [HN.out, HK.out, List.drop_eq_nil_of_le (by rw [HL.out]; omega)]; rfl, HC.out⟩)
      go_wp2_with fail
      go_ret
      exact HP.out
end
end Go.Proofs.Ytafgpmempgoikaa
namespace Go.Proofs.Ytafgpmempgoikaa
open Go.RowKit
section
variable {w : World} {A : Option Addr} {n c : Nat} {l : List FnV} {pages most : Int}
def TakesPost (r : Int × Int × Bool) (w : World) (e : Ending) (w' : World) : Prop := e = .returned (.tuple #[.int .i64 r.1, .int .i64 r.2.1, .bool r.2.2]) ∧ Chg [] w w'
theorem takes_ok {R : Int × Int × Bool} {w' : World} (a b : Nat) (ok : Bool) (hR : R = ((a : Int), (b : Int), ok)) (h : Chg [] w w') : TakesPost R w (.returned (.tuple #[.int .i64 (a : Int), .int .i64 (b : Int), .bool ok])) w' := by subst hR; exact ⟨rfl, h⟩
theorem has_bin (r : Int) (w : World) : Calls Try.prog 49 #[.string ⟨#[43, 45, 42, 47, 37, 38, 124, 94, 60, 61, 194, 171, 194, 187]⟩, .int .i32 r] w (BoolPost (inL binL r) w) :=
  (has_any _ r w (by decide)).mono fun _ _ h => by
    unfold hasB at h
    rw [show runesL ⟨#[43, 45, 42, 47, 37, 38, 124, 94, 60, 61, 194, 171, 194, 187]⟩ = binL from by decide +kernel] at h
    exact h
theorem has_un (r : Int) (w : World) : Calls Try.prog 49 #[.string ⟨#[33, 64, 194, 169, 194, 164, 207, 128]⟩, .int .i32 r] w (BoolPost (inL unL r) w) :=
  (has_any _ r w (by decide)).mono fun _ _ h => by
    unfold hasB at h
    rw [show runesL ⟨#[33, 64, 194, 169, 194, 164, 207, 128]⟩ = unL from by decide +kernel] at h
    exact h
theorem has_ze (r : Int) (w : World) : Calls Try.prog 49 #[.string ⟨#[58, 59, 91, 93, 126, 194, 161]⟩, .int .i32 r] w (BoolPost (inL zeL r) w) :=
  (has_any _ r w (by decide)).mono fun _ _ h => by
    unfold hasB at h
    rw [show runesL ⟨#[58, 59, 91, 93, 126, 194, 161]⟩ = zeL from by decide +kernel] at h
    exact h
set_option maxHeartbeats 4000000 in
set_option maxRecDepth 100000 in
theorem takes_any (h : Fnr w A n c l) (t : TkV) : Calls Try.prog 39 #[unitV pages most A n c, .agg (tkC t).toArray] w (TakesPost (rTakes l t.sign t.name) w) := by
  unfold unitV
  obtain ⟨r, tn, nm⟩ := t
  simp only [tkC]
  have hmax := h.max
  have H := Lib.hid h
  clear h
  obtain ⟨R, hR⟩ : ∃ R, R = rTakes l r nm := ⟨_, rfl⟩
  rw [← hR]
  have HR := Lib.hid hR
  clear hR
  go_enter Try.func39, Try.ntmps39
  go_upto_region 1 with fail
  have hN := Whole.new w 26 [.int .i64 pages, .int .i64 most, .slice A n c]
  have hal : Chg [] w (w.alloc (.cells #[.int .i64 pages, .int .i64 most, .slice A n c] 26)) := (Chg.refl [] w).alloc _
  have hsz : (w.alloc (.cells #[.int .i64 pages, .int .i64 most, .slice A n c] 26)).heap.size = w.heap.size + 1 := Array.size_push _
  obtain ⟨w1, hw1⟩ : ∃ w1, w1 = w.alloc (.cells #[.int .i64 pages, .int .i64 most, .slice A n c] 26) := ⟨_, rfl⟩
  rw [← hw1] at hN hal hsz ⊢
  have hN2 := Whole.new w1 42 [.int .i32 r, .int .i64 tn, .int .i32 nm]
  have hal2 : Chg [] w1 (w1.alloc (.cells #[.int .i32 r, .int .i64 tn, .int .i32 nm] 42)) := (Chg.refl [] w1).alloc _
  rw [hsz] at hN2
  have hU2 := hN.keep hal2
  have hc := hal.trans hal2
  generalize w1.alloc (.cells #[.int .i32 r, .int .i64 tn, .int .i32 nm] 42) = w2 at hN2 hU2 hc ⊢
  have HF2 := Lib.hid (H.out.keep hc)
  generalize w.heap.size = g at hU2 hN2 ⊢
  have HU2 := Lib.hid hU2
  have HT2 := Lib.hid hN2
  have HC2 := Lib.hid hc
  clear hN hal hsz hw1 hN2 hal2 hU2 hc
  have t0 := HT2.out.cell 0
  go_upto_region 2 with fail
  go_cut [11] (fun s wx => s = .bool (decide ((r = 48 ∨ (97 ≤ r ∧ r ≤ 122)) ∨ r = 35)) ∧ wx = w2)
  case first =>
    by_cases h48 : r = 48
    · have q1 : (r == 48) = true := by simpa using h48
      have HALL := Lib.hid (show (r = 48 ∨ (97 ≤ r ∧ r ≤ 122)) ∨ r = 35 from .inl (.inl h48))
      clear h48
      go_wp2_with fail
      go_meet
      exact ⟨congrArg Value.bool (decide_eq_true HALL.out).symm, rfl⟩
    · have q1 : (r == 48) = false := by simpa using h48
      by_cases h97 : 97 ≤ r
      · have q2 : decide (97 ≤ r) = true := by simpa using h97
        by_cases h122 : r ≤ 122
        · have q3 : decide (r ≤ 122) = true := by simpa using h122
          have HALL := Lib.hid (show (r = 48 ∨ (97 ≤ r ∧ r ≤ 122)) ∨ r = 35 from .inl (.inr ⟨h97, h122⟩))
          clear h48
          go_wp2_with fail
          go_meet
          exact ⟨congrArg Value.bool (decide_eq_true HALL.out).symm, rfl⟩
        · have q3 : decide (r ≤ 122) = false := by simpa using h122
          by_cases h9 : r = 35
          · have q9 : (r == 35) = true := by simpa using h9
            have HALL := Lib.hid (show (r = 48 ∨ (97 ≤ r ∧ r ≤ 122)) ∨ r = 35 from .inr h9)
            clear h9 h48 h97 h122
            go_wp2_with fail
            go_meet
            exact ⟨congrArg Value.bool (decide_eq_true HALL.out).symm, rfl⟩
          · have q9 : (r == 35) = false := by simpa using h9
            have HALL := Lib.hid (show ¬ ((r = 48 ∨ (97 ≤ r ∧ r ≤ 122)) ∨ r = 35) from by omega)
            clear h9 h48 h97 h122
            go_wp2_with fail
            go_meet
            exact ⟨congrArg Value.bool (decide_eq_false HALL.out).symm, rfl⟩
      · have q2 : decide (97 ≤ r) = false := by simpa using h97
        by_cases h9 : r = 35
        · have q9 : (r == 35) = true := by simpa using h9
          have HALL := Lib.hid (show (r = 48 ∨ (97 ≤ r ∧ r ≤ 122)) ∨ r = 35 from .inr h9)
          clear h9 h48 h97
          go_wp2_with fail
          go_meet
          exact ⟨congrArg Value.bool (decide_eq_true HALL.out).symm, rfl⟩
        · have q9 : (r == 35) = false := by simpa using h9
          have HALL := Lib.hid (show ¬ ((r = 48 ∨ (97 ≤ r ∧ r ≤ 122)) ∨ r = 35) from by omega)
          clear h9 h48 h97
          go_wp2_with fail
          go_meet
          exact ⟨congrArg Value.bool (decide_eq_false HALL.out).symm, rfl⟩
  case rest =>
    obtain ⟨hs, hcw⟩ := hcut
    rw [hcw]
    clear hcw
    by_cases hP : (r = 48 ∨ (97 ≤ r ∧ r ≤ 122)) ∨ r = 35
    · rw [decide_eq_true hP] at hs
      subst hs
      have H1 := Lib.hid hP
      clear hP
      have HP := Lib.hid (takes_ok (R := R) 0 1 true (by rw [HR.out]; unfold rTakes; rw [if_pos H1.out]; rfl) HC2.out)
      go_wp2_with fail
      exact bodyPost_ret (v := .tuple #[.int .i64 ((0 : Nat) : Int), .int .i64 ((1 : Nat) : Int), .bool true]) (by simp [results, Try.results39, go_sem]) rfl HP.out
    rw [decide_eq_false hP] at hs
    subst hs
    have H1 := Lib.hid hP
    clear hP
    go_upto_region 4 with fail
    go_cut [26] (fun s wx => s = .bool (decide ((65 ≤ r ∧ r ≤ 90) ∨ r = 44)) ∧ wx = w2)
    case first =>
      by_cases h65 : 65 ≤ r
      · have q2 : decide (65 ≤ r) = true := by simpa using h65
        by_cases h90 : r ≤ 90
        · have q3 : decide (r ≤ 90) = true := by simpa using h90
          have HALL := Lib.hid (show (65 ≤ r ∧ r ≤ 90) ∨ r = 44 from .inl ⟨h65, h90⟩)
          go_wp2_with fail
          go_meet
          exact ⟨congrArg Value.bool (decide_eq_true HALL.out).symm, rfl⟩
        · have q3 : decide (r ≤ 90) = false := by simpa using h90
          by_cases h9 : r = 44
          · have q9 : (r == 44) = true := by simpa using h9
            have HALL := Lib.hid (show (65 ≤ r ∧ r ≤ 90) ∨ r = 44 from .inr h9)
            clear h9 h65 h90
            go_wp2_with fail
            go_meet
            exact ⟨congrArg Value.bool (decide_eq_true HALL.out).symm, rfl⟩
          · have q9 : (r == 44) = false := by simpa using h9
            have HALL := Lib.hid (show ¬ ((65 ≤ r ∧ r ≤ 90) ∨ r = 44) from by omega)
            clear h9 h65 h90
            go_wp2_with fail
            go_meet
            exact ⟨congrArg Value.bool (decide_eq_false HALL.out).symm, rfl⟩
      · have q2 : decide (65 ≤ r) = false := by simpa using h65
        by_cases h9 : r = 44
        · have q9 : (r == 44) = true := by simpa using h9
          have HALL := Lib.hid (show (65 ≤ r ∧ r ≤ 90) ∨ r = 44 from .inr h9)
          clear h9 h65
          go_wp2_with fail
          go_meet
          exact ⟨congrArg Value.bool (decide_eq_true HALL.out).symm, rfl⟩
        · have q9 : (r == 44) = false := by simpa using h9
          have HALL := Lib.hid (show ¬ ((65 ≤ r ∧ r ≤ 90) ∨ r = 44) from by omega)
          clear h9 h65
          go_wp2_with fail
          go_meet
          exact ⟨congrArg Value.bool (decide_eq_false HALL.out).symm, rfl⟩
    case rest =>
      obtain ⟨hs, hcw⟩ := hcut
      rw [hcw]
      clear hcw
      by_cases hP : (65 ≤ r ∧ r ≤ 90) ∨ r = 44
      · rw [decide_eq_true hP] at hs
        subst hs
        have H2 := Lib.hid hP
        clear hP
        have HP := Lib.hid (takes_ok (R := R) 1 0 true (by rw [HR.out]; unfold rTakes; rw [if_neg H1.out, if_pos H2.out]; rfl) HC2.out)
        go_wp2_with fail
        exact bodyPost_ret (v := .tuple #[.int .i64 ((1 : Nat) : Int), .int .i64 ((0 : Nat) : Int), .bool true]) (by simp [results, Try.results39, go_sem]) rfl HP.out
      rw [decide_eq_false hP] at hs
      subst hs
      have H2 := Lib.hid hP
      clear hP
      by_cases h46 : r = 46
      · have q1 : (r == 46) = true := by simpa using h46
        have H3 := Lib.hid h46
        clear h46
        have HP := Lib.hid (takes_ok (R := R) 1 2 true (by rw [HR.out]; unfold rTakes; rw [if_neg H1.out, if_neg H2.out, if_pos H3.out]; rfl) HC2.out)
        go_wp2_with fail
        exact bodyPost_ret (v := .tuple #[.int .i64 ((1 : Nat) : Int), .int .i64 ((2 : Nat) : Int), .bool true]) (by simp [results, Try.results39, go_sem]) rfl HP.out
      have q46 : (r == 46) = false := by simpa using h46
      have H3 := Lib.hid h46
      clear h46
      go_wp2_with fail
      refine (has_bin r w2).mono ?_
      rintro e w3 ⟨rfl, hc3⟩
      have HU3 := Lib.hid (HU2.out.keep hc3)
      have HT3 := Lib.hid (HT2.out.keep hc3)
      have HF3 := Lib.hid (HF2.out.keep hc3)
      have HC3 := Lib.hid (HC2.out.trans hc3)
      clear hc3
      by_cases hb : inL binL r = true
      · rw [hb]
        have H4 := Lib.hid hb
        clear hb
        have HP := Lib.hid (takes_ok (R := R) 2 1 true (by rw [HR.out]; unfold rTakes; rw [if_neg H1.out, if_neg H2.out, if_neg H3.out, if_pos H4.out]; rfl) HC3.out)
        go_wp2_with fail
        exact bodyPost_ret (v := .tuple #[.int .i64 ((2 : Nat) : Int), .int .i64 ((1 : Nat) : Int), .bool true]) (by simp [results, Try.results39, go_sem]) rfl HP.out
      have H4 := Lib.hid hb
      rw [eq_false_of_ne_true hb]
      clear hb
      go_wp2_with fail
      refine (has_un r w3).mono ?_
      rintro e w4 ⟨rfl, hc4⟩
      have HU4 := Lib.hid (HU3.out.keep hc4)
      have HT4 := Lib.hid (HT3.out.keep hc4)
      have HF4 := Lib.hid (HF3.out.keep hc4)
      have HC4 := Lib.hid (HC3.out.trans hc4)
      clear hc4
      by_cases hb : inL unL r = true
      · rw [hb]
        have H5 := Lib.hid hb
        clear hb
        have HP := Lib.hid (takes_ok (R := R) 1 1 true (by rw [HR.out]; unfold rTakes; rw [if_neg H1.out, if_neg H2.out, if_neg H3.out, if_neg H4.out, if_pos H5.out]; rfl) HC4.out)
        go_wp2_with fail
        exact bodyPost_ret (v := .tuple #[.int .i64 ((1 : Nat) : Int), .int .i64 ((1 : Nat) : Int), .bool true]) (by simp [results, Try.results39, go_sem]) rfl HP.out
      have H5 := Lib.hid hb
      rw [eq_false_of_ne_true hb]
      clear hb
      go_upto_region 12 with fail
      go_cut [46] (fun s wx => s = .bool (decide (r = 36 ∨ r = 174)) ∧ wx = w4)
      case first =>
        by_cases h36 : r = 36
        · have q1 : (r == 36) = true := by simpa using h36
          have HALL := Lib.hid (show r = 36 ∨ r = 174 from .inl h36)
          clear h36
          go_wp2_with fail
          go_meet
          exact ⟨congrArg Value.bool (decide_eq_true HALL.out).symm, rfl⟩
        · have q1 : (r == 36) = false := by simpa using h36
          by_cases h9 : r = 174
          · have q9 : (r == 174) = true := by simpa using h9
            have HALL := Lib.hid (show r = 36 ∨ r = 174 from .inr h9)
            clear h9 h36
            go_wp2_with fail
            go_meet
            exact ⟨congrArg Value.bool (decide_eq_true HALL.out).symm, rfl⟩
          · have q9 : (r == 174) = false := by simpa using h9
            have HALL := Lib.hid (show ¬ (r = 36 ∨ r = 174) from by omega)
            clear h9 h36
            go_wp2_with fail
            go_meet
            exact ⟨congrArg Value.bool (decide_eq_false HALL.out).symm, rfl⟩
      case rest =>
        obtain ⟨hs, hcw⟩ := hcut
        rw [hcw]
        clear hcw
        by_cases hP : r = 36 ∨ r = 174
        · rw [decide_eq_true hP] at hs
          subst hs
          have H6 := Lib.hid hP
          clear hP
          have HP := Lib.hid (takes_ok (R := R) 2 0 true (by rw [HR.out]; unfold rTakes; rw [if_neg H1.out, if_neg H2.out, if_neg H3.out, if_neg H4.out, if_neg H5.out, if_pos H6.out]; rfl) HC4.out)
          go_wp2_with fail
          exact bodyPost_ret (v := .tuple #[.int .i64 ((2 : Nat) : Int), .int .i64 ((0 : Nat) : Int), .bool true]) (by simp [results, Try.results39, go_sem]) rfl HP.out
        rw [decide_eq_false hP] at hs
        subst hs
        have H6 := Lib.hid hP
        clear hP
        by_cases h63 : r = 63
        · have q1 : (r == 63) = true := by simpa using h63
          have H7 := Lib.hid h63
          clear h63
          have HP := Lib.hid (takes_ok (R := R) 1 0 true (by rw [HR.out]; unfold rTakes; rw [if_neg H1.out, if_neg H2.out, if_neg H3.out, if_neg H4.out, if_neg H5.out, if_neg H6.out, if_pos H7.out]; rfl) HC4.out)
          go_wp2_with fail
          exact bodyPost_ret (v := .tuple #[.int .i64 ((1 : Nat) : Int), .int .i64 ((0 : Nat) : Int), .bool true]) (by simp [results, Try.results39, go_sem]) rfl HP.out
        have q63 : (r == 63) = false := by simpa using h63
        have H7 := Lib.hid h63
        clear h63
        go_wp2_with fail
        refine (has_ze r w4).mono ?_
        rintro e w5 ⟨rfl, hc5⟩
        have HU5 := Lib.hid (HU4.out.keep hc5)
        have HT5 := Lib.hid (HT4.out.keep hc5)
        have HF5 := Lib.hid (HF4.out.keep hc5)
        have HC5 := Lib.hid (HC4.out.trans hc5)
        clear hc5
        by_cases hb : inL zeL r = true
        · rw [hb]
          have H8 := Lib.hid hb
          clear hb
          have HP := Lib.hid (takes_ok (R := R) 0 0 true (by rw [HR.out]; unfold rTakes; rw [if_neg H1.out, if_neg H2.out, if_neg H3.out, if_neg H4.out, if_neg H5.out, if_neg H6.out, if_neg H7.out, if_pos H8.out]; rfl) HC5.out)
          go_wp2_with fail
          exact bodyPost_ret (v := .tuple #[.int .i64 ((0 : Nat) : Int), .int .i64 ((0 : Nat) : Int), .bool true]) (by simp [results, Try.results39, go_sem]) rfl HP.out
        have H8 := Lib.hid hb
        rw [eq_false_of_ne_true hb]
        clear hb
        by_cases h955 : r = 955
        · have q1 : (r == 955) = true := by simpa using h955
          have H9 := Lib.hid h955
          clear h955
          have u0 := HU5.out.cell 0
          have u1 := HU5.out.cell 1
          have u2 := HU5.out.cell 2
          have t2 := HT5.out.cell 2
          go_wp2_with fail
          refine (find_any HF5.out nm).mono ?_
          rintro e w9 ⟨rfl, hc9⟩
          have HF9 := Lib.hid (HF5.out.keep hc9)
          have HC9 := Lib.hid (HC5.out.trans hc9)
          have v2 := (HU5.out.keep hc9).cell 2
          clear hc9 u0 u1 u2 t2
          have HRC := Lib.hid (show R = callA l nm from by rw [HR.out]; unfold rTakes; rw [if_neg H1.out, if_neg H2.out, if_neg H3.out, if_neg H4.out, if_neg H5.out, if_neg H6.out, if_neg H7.out, if_neg H8.out, if_pos H9.out])
          unfold findI
          cases hk : findK nm l 0 with
          | none =>
            have HKN := Lib.hid hk
            clear hk
            simp only
            have HP := Lib.hid (takes_ok (R := R) 0 0 false (by rw [HRC.out]; unfold callA; rw [HKN.out]; rfl) HC9.out)
            go_wp2_with fail
            exact bodyPost_ret (v := .tuple #[.int .i64 ((0 : Nat) : Int), .int .i64 ((0 : Nat) : Int), .bool false]) (by simp [results, Try.results39, go_sem]) rfl HP.out
          | some k =>
            obtain ⟨f, _, hfk, _⟩ := findK_at hk
            rw [Nat.sub_zero] at hfk
            have HKS := Lib.hid hk
            have HFK := Lib.hid hfk
            clear hk
            simp only
            obtain ⟨fb, fo, rfl, hfbl, e0, e1, e2⟩ := HF9.out.cell hfk
            have hkn : k < n := by rw [← HF9.out.len]; exact (List.getElem?_eq_some_iff.1 hfk).1
            have hmaxk := HF9.out.max
            have har := HF9.out.args f (List.mem_of_getElem? hfk)
            have hkI : (k : Int) < (n : Int) := by omega
            clear hfk e0 e2
            by_cases ha0 : 0 ≤ f.args
            · have qa0 : decide (0 ≤ f.args) = true := by simpa using ha0
              by_cases ha4 : f.args ≤ 4
              · have qa4 : decide (f.args ≤ 4) = true := by simpa using ha4
                have HRD := Lib.hid (show R = (f.args, 1, true) from by rw [HRC.out]; unfold callA; rw [HKS.out]; simp only; rw [HFK.out]; simp only; rw [if_pos ⟨ha0, ha4⟩])
                obtain ⟨q, hq⟩ : ∃ q : Nat, f.args = (q : Int) := ⟨f.args.toNat, by omega⟩
                rw [hq] at e1 qa0 qa4
                have hq4 : q ≤ 4 := by omega
                have HRE := Lib.hid (show R = ((q : Int), ((1 : Nat) : Int), true) from by rw [HRD.out, hq]; rfl)
                clear hq ha0 ha4 har
                have HP := Lib.hid (takes_ok (R := R) q 1 true (HRE.out) HC9.out)
                go_wp2_with fail
                exact bodyPost_ret (v := .tuple #[.int .i64 ((q : Nat) : Int), .int .i64 ((1 : Nat) : Int), .bool true]) (by simp [results, Try.results39, go_sem]) rfl HP.out
              · have qa4 : decide (f.args ≤ 4) = false := by simpa using ha4
                have HRE := Lib.hid (show R = (((0 : Nat) : Int), ((0 : Nat) : Int), false) from by rw [HRC.out]; unfold callA; rw [HKS.out]; simp only; rw [HFK.out]; simp only; rw [if_neg (by omega)]; rfl)
                have HP := Lib.hid (takes_ok (R := R) 0 0 false (HRE.out) HC9.out)
                go_wp2_with fail
                exact bodyPost_ret (v := .tuple #[.int .i64 ((0 : Nat) : Int), .int .i64 ((0 : Nat) : Int), .bool false]) (by simp [results, Try.results39, go_sem]) rfl HP.out
            · have qa0 : decide (0 ≤ f.args) = false := by simpa using ha0
              have HRE := Lib.hid (show R = (((0 : Nat) : Int), ((0 : Nat) : Int), false) from by rw [HRC.out]; unfold callA; rw [HKS.out]; simp only; rw [HFK.out]; simp only; rw [if_neg (by omega)]; rfl)
              have HP := Lib.hid (takes_ok (R := R) 0 0 false (HRE.out) HC9.out)
              go_wp2_with fail
              exact bodyPost_ret (v := .tuple #[.int .i64 ((0 : Nat) : Int), .int .i64 ((0 : Nat) : Int), .bool false]) (by simp [results, Try.results39, go_sem]) rfl HP.out
        have q955 : (r == 955) = false := by simpa using h955
        have H9 := Lib.hid h955
        clear h955
        have HP := Lib.hid (takes_ok (R := R) 0 0 false (by rw [HR.out]; unfold rTakes; rw [if_neg H1.out, if_neg H2.out, if_neg H3.out, if_neg H4.out, if_neg H5.out, if_neg H6.out, if_neg H7.out, if_neg H8.out, if_neg H9.out]; rfl) HC5.out)
        go_wp2_with fail
        exact bodyPost_ret (v := .tuple #[.int .i64 ((0 : Nat) : Int), .int .i64 ((0 : Nat) : Int), .bool false]) (by simp [results, Try.results39, go_sem]) rfl HP.out
end
end Go.Proofs.Ytafgpmempgoikaa
namespace Go.Proofs.Ytafgpmempgoikaa
open Go.RowKit
def bkC (x : BkV) : List Value := [.int .i32 x.sign, .int .i64 x.base, .int .i64 x.other, .bool x.left]
def bkCs : List BkV → List Value
  | [] => []
  | x :: l => bkC x ++ bkCs l
theorem bkCs_len : ∀ l, (bkCs l).length = l.length * 4
  | [] => rfl
  | x :: l => by rw [bkCs, List.length_append, bkCs_len l]; simp [bkC]; omega
theorem bkCs_app : ∀ l m, bkCs (l ++ m) = bkCs l ++ bkCs m
  | [], _ => rfl
  | x :: l, m => by rw [List.cons_append, bkCs, bkCs, bkCs_app l m, List.append_assoc]
theorem bkCs_one (x : BkV) : bkCs [x] = bkC x := by simp [bkCs]
theorem bkCs_get : ∀ (l : List BkV) (k : Nat) (x : BkV) (j : Nat), l[k]? = some x → j < 4 → (bkCs l)[k * 4 + j]? = (bkC x)[j]?
  | [], k, x, j, h, hj => by simp at h
  | y :: l, 0, x, j, h, hj => by
    simp at h; subst h
    rw [bkCs, List.getElem?_append_left (by simp [bkC]; omega)]
    congr 1; omega
  | y :: l, k + 1, x, j, h, hj => by
    simp at h
    rw [bkCs, List.getElem?_append_right (by simp [bkC]; omega)]
    rw [← bkCs_get l k x j h hj]
    congr 1; simp [bkC]; omega
theorem bkCs_set : ∀ (l : List BkV) (k : Nat) (x y : BkV) (j : Nat) (u : Value), l[k]? = some x → j < 4 → (bkC x).set j u = bkC y → (bkCs l).set (k * 4 + j) u = bkCs (l.set k y)
  | [], k, x, y, j, u, h, hj, hu => by simp at h
  | z :: l, 0, x, y, j, u, h, hj, hu => by
    simp at h; subst h
    rw [bkCs, List.set_append_left _ _ (by simp [bkC]; omega), List.set_cons_zero, bkCs, ← hu]
    congr 2; omega
  | z :: l, k + 1, x, y, j, u, h, hj, hu => by
    simp at h
    rw [bkCs, List.set_append_right _ _ (by simp [bkC]; omega), List.set_cons_succ, bkCs, ← bkCs_set l k x y j u h hj hu]
    congr 2; simp [bkC]; omega
/-- What going through has in memory: a height, the blocks, the outer ones first. -/
structure St (W : World) (gs B : Nat) (h : Int) (vo : Value) (bs : List BkV) : Prop where
  rec_ : Whole W gs 85 [.int .i64 h, vo]
  own : W.ownsRow B 98 4 vo bs.length (bkCs bs)
  lo : gs < B
  few : bs.length ≤ 1000
  hr : -1 ≤ h ∧ h ≤ 64
  wf : ∀ b ∈ bs, 0 ≤ b.base ∧ b.base ≤ 64 ∧ -1 ≤ b.other ∧ b.other ≤ 64
  room : B ≤ W.heap.size
/-- What such a step may write. -/
def stT (gs : Nat) (vo : Value) : List Nat := gs :: vo.ownBlock.toList
section
variable {W W' : World} {gs B : Nat} {h : Int} {vo : Value} {bs : List BkV}
theorem St.keep (s : St W gs B h vo bs) (hc : Chg [] W W') : St W' gs B h vo bs :=
  { s with rec_ := s.rec_.keep hc, own := rown_keep s.own hc, room := Nat.le_trans s.room hc.size }
theorem St.away (s : St W gs B h vo bs) : vo.ownBlock ≠ some gs := fun hc => by
  have := (s.own.lt gs hc).1; have := s.lo; omega
theorem St.high (s : St W gs B h vo bs) (h' : Int) (hr : -1 ≤ h' ∧ h' ≤ 64) : St (W.setCell ⟨gs, 0, none⟩ (.int .i64 h')) gs B h' vo bs :=
  { s with rec_ := s.rec_.set_ 0 (.int .i64 h'), own := rown_far s.own s.away, hr := hr, room := by rw [size_set]; exact s.room }
theorem St.slice (s : St W gs B h vo bs) : ∃ A c, vo = .slice A bs.length c ∧ bs.length ≤ c ∧ c ≤ 9223372036854775807 ∧ (∀ ad, A = some ad → ad.spot = none ∧ B ≤ ad.block ∧ ad.off = 0 ∧ ad.block < W.heap.size) := rown_slice s.own
/-- One cell of one block is written. -/
theorem St.poke {g c q i j : Nat} {x y : BkV} {u : Value} (s : St W gs B h vo bs) (hv : vo = .slice (some ⟨g, 0, none⟩) q c) (hx : bs[i]? = some x) (hj : j < 4) (hu : (bkC x).set j u = bkC y) (hy : 0 ≤ y.base ∧ y.base ≤ 64 ∧ -1 ≤ y.other ∧ y.other ≤ 64) :
    St (W.setCell ⟨g, i * 4 + j, none⟩ u) gs B h vo (bs.set i y) := by
  subst hv
  have hq : q = bs.length := by
    rcases s.own.2 with ⟨e, _⟩ | ⟨_, _, _, e, _⟩
    · cases e
    · injection e
  subst hq
  have hB := (s.own.lt g rfl).1
  have hlo := s.lo
  refine ⟨s.rec_.far (by simp only; omega) _, ?_, s.lo, by rw [List.length_set]; exact s.few, s.hr, fun b hb => ?_, by rw [size_set]; exact s.room⟩
  · have ho := rown_set (j := i * 4 + j) (u := u) s.own
    rw [bkCs_set bs i x y j u hx hj hu] at ho
    rw [List.length_set]
    exact ho
  · rcases List.mem_or_eq_of_mem_set hb with hb | rfl
    · exact s.wf b hb
    · exact hy
/-- The innermost block is taken away. -/
theorem St.drop {ys : List BkV} {x : BkV} {A : Option Addr} {c q : Nat} (s : St W gs B h vo (ys ++ [x])) (hv : vo = .slice A q c) :
    St (W.setCell ⟨gs, 1, none⟩ (.slice A ys.length c)) gs B h (.slice A ys.length c) ys := by
  subst hv
  have hq : q = (ys ++ [x]).length := by
    rcases s.own.2 with ⟨e, e2⟩ | ⟨_, _, _, e, _⟩
    · injection e with _ e _; rw [e2, e]
    · injection e
  subst hq
  have hA : A ≠ none := by
    rintro rfl
    rcases s.own.2 with ⟨e, _⟩ | ⟨_, _, _, e, _⟩
    · injection e with _ e _; simp at e
    · injection e with e _; cases e
  have ht := rown_take (q' := ys.length) s.own (by simp) hA
  have e2 : (bkCs (ys ++ [x])).take (ys.length * 4) = bkCs ys := by rw [bkCs_app, ← bkCs_len, List.take_left]
  rw [e2] at ht
  have haw : (Value.slice A ys.length c).ownBlock ≠ some gs := fun hc => by have := (ht.lt gs hc).1; have := s.lo; omega
  refine ⟨?_, rown_far ht haw, s.lo, by have := s.few; simp at this; omega, s.hr, fun b hb => s.wf b (List.mem_append_left _ hb), by rw [size_set]; exact s.room⟩
  have := s.rec_.set_ 1 (.slice A ys.length c)
  simpa using this
theorem St.cell (s : St W gs B h vo bs) {i : Nat} {x : BkV} (hx : bs[i]? = some x) : ∃ g c, vo = .slice (some ⟨g, 0, none⟩) bs.length c ∧ B ≤ g ∧ W.cell? ⟨g, i * 4, none⟩ = some (.int .i32 x.sign) ∧ W.cell? ⟨g, i * 4 + 1, none⟩ = some (.int .i64 x.base) ∧ W.cell? ⟨g, i * 4 + 2, none⟩ = some (.int .i64 x.other) ∧ W.cell? ⟨g, i * 4 + 3, none⟩ = some (.bool x.left) := by
  obtain ⟨A, c, rfl, _, _, hA⟩ := s.slice
  obtain ⟨g, rfl, j0⟩ := rown_cell s.own rfl ((bkCs_get bs i x 0 hx (by omega)).trans rfl)
  obtain ⟨g', e, j1⟩ := rown_cell s.own rfl ((bkCs_get bs i x 1 hx (by omega)).trans rfl)
  injection e with e; injection e with e; subst e
  obtain ⟨g', e, j2⟩ := rown_cell s.own rfl ((bkCs_get bs i x 2 hx (by omega)).trans rfl)
  injection e with e; injection e with e; subst e
  obtain ⟨g', e, j3⟩ := rown_cell s.own rfl ((bkCs_get bs i x 3 hx (by omega)).trans rfl)
  injection e with e; injection e with e; subst e
  exact ⟨g, c, rfl, (hA _ rfl).2.1, j0, j1, j2, j3⟩
def BasePost (b : Int) (W : World) (e : Ending) (w' : World) : Prop := e = .returned (.int .i64 b) ∧ Chg [] W w'
theorem base_in (s : St W gs B h vo bs) : 0 ≤ baseOf bs ∧ baseOf bs ≤ 64 := by
  unfold baseOf
  split
  · omega
  · rename_i b hb
    have := s.wf b (List.mem_of_getLast? hb)
    exact ⟨this.1, this.2.1⟩
set_option maxHeartbeats 1000000 in
theorem base_any (s : St W gs B h vo bs) : Calls Try.prog 56 #[.pointer (some ⟨gs, 0, none⟩)] W (BasePost (baseOf bs) W) := by
  obtain ⟨b0, hb0⟩ : ∃ b, b = baseOf bs := ⟨_, rfl⟩
  rw [← hb0]
  rcases List.eq_nil_or_concat bs with rfl | ⟨ys, x, rfl⟩
  · obtain ⟨A, c, rfl, _, _, _⟩ := s.slice
    have c1 := s.rec_.cell 1
    simp only [List.length_nil] at c1
    have HC := Lib.hid (show BasePost b0 W (.returned (.int .i64 0)) W from ⟨by rw [hb0]; rfl, Chg.refl [] W⟩)
    clear s hb0
    go_enter Try.func56, Try.ntmps56
    go_wp2_with fail
    go_ret
    exact HC.out
  · rw [List.concat_eq_append] at s
    obtain ⟨g, c, hvo, hg, j0, j1, j2, j3⟩ := s.cell (i := ys.length) (x := x) (by simp)
    have hl : (ys ++ [x]).length = ys.length + 1 := by simp
    have c1 := s.rec_.cell 1
    rw [hvo, hl] at c1
    have hf := s.few
    rw [hl] at hf
    have HB := Lib.hid (show b0 = x.base by rw [hb0]; simp [baseOf])
    clear hvo s hl j0 j2 j3 hb0
    generalize ys.length = q at *
    have hsub : IntKind.i64.wrap (((q + 1 : Nat) : Int) - 1) = (q : Int) := by rw [IntWalk.i64_in _ (by omega)]; omega
    have hne : (((q + 1 : Nat) : Int) == 0) = false := by simp; omega
    have hq0 : (0 : Int) ≤ (q : Int) := by omega
    have hq1 : (q : Int) < ((q + 1 : Nat) : Int) := by omega
    go_enter Try.func56, Try.ntmps56
    go_wp2_with fail
    go_quiet (fail)
    have HP := Lib.hid (show BasePost b0 W (.returned (.int .i64 x.base)) (W.drewN nq) from ⟨by rw [HB.out], (Chg.refl [] W).drewN nq⟩)
    go_wp2_with fail
    go_ret
    exact HP.out
end
end Go.Proofs.Ytafgpmempgoikaa
namespace Go.Proofs.Ytafgpmempgoikaa
open Go.RowKit
section
variable {W W' : World} {gs B : Nat} {h : Int} {vo : Value} {bs : List BkV}
/-- Yes or no, and what lies there then. -/
def StPost (gs B : Nat) (vo : Value) (R : Bool × Int × List BkV) (W : World) (e : Ending) (w' : World) : Prop :=
  ∃ vo', e = .returned (.bool R.1) ∧ St w' gs B R.2.1 vo' R.2.2 ∧ Chg (stT gs vo) W w' ∧ (vo'.ownBlock = vo.ownBlock ∨ ∃ g, vo'.ownBlock = some g ∧ W.heap.size ≤ g)
theorem st_ok {w' : World} {R : Bool × Int × List BkV} (b : Bool) (h' : Int) (vo' : Value) (bs' : List BkV) (hR : R = (b, h', bs')) (hS : St w' gs B h' vo' bs') (hC : Chg (stT gs vo) W w') (hO : vo'.ownBlock = vo.ownBlock ∨ ∃ g, vo'.ownBlock = some g ∧ W.heap.size ≤ g) : StPost gs B vo R W (.returned (.bool b)) w' := by subst hR; exact ⟨vo', rfl, hS, hC, hO⟩
theorem st_in (gs : Nat) (vo : Value) : gs ∈ stT gs vo := List.mem_cons_self ..
theorem st_in2 (gs g c q : Nat) : g ∈ stT gs (.slice (some ⟨g, 0, none⟩) q c) := by simp [stT, Value.ownBlock]
set_option maxHeartbeats 2000000 in
set_option maxRecDepth 100000 in
theorem leave_any (s : St W gs B h vo bs) : Calls Try.prog 57 #[.pointer (some ⟨gs, 0, none⟩)] W (StPost gs B vo (rLeave h bs bs.length) W) := by
  obtain ⟨A, c, hvo, _, _, _⟩ := s.slice
  have S := Lib.hid s
  have hf := s.few
  have c0 := s.rec_.cell 0
  have c1 := s.rec_.cell 1
  rw [hvo] at c1
  have HV := Lib.hid hvo
  obtain ⟨m, hm⟩ : ∃ m, m = bs.length := ⟨_, rfl⟩
  obtain ⟨R, hR⟩ : ∃ R, R = rLeave h bs bs.length := ⟨_, rfl⟩
  rw [← hR]
  rw [← hm] at c1 hf hR
  have HM := Lib.hid hm
  have HR0 := Lib.hid hR
  clear hR
  obtain ⟨i0, hsub, hi0, hi1⟩ : ∃ i0 : Int, IntKind.i64.wrap ((m : Int) - 1) = i0 ∧ -1 ≤ i0 ∧ i0 < (m : Int) := ⟨(m : Int) - 1, IntWalk.i64_in _ (by omega), by omega, by omega⟩
  have HI0 := Lib.hid (show R = rLeave h bs (i0 + 1).toNat from by rw [HR0.out]; congr 1; have : IntKind.i64.wrap ((m : Int) - 1) = (m : Int) - 1 := IntWalk.i64_in _ (by omega); omega)
  clear s hvo hm
  go_enter Try.func57, Try.ntmps57
  go_wp2_with fail
  go_loopw [3] (fun i wr => ∃ k : Int, i = .int .i64 k ∧ -1 ≤ k ∧ k < (m : Int) ∧ Hid (R = rLeave h bs (k + 1).toNat) ∧ wr = W) (fun i _ => ((intOf i) + 1).toNat)
  case atStart => exact ⟨i0, rfl, hi0, hi1, HI0, rfl⟩
  case round =>
    obtain ⟨k, rfl, hk0, hk1, HRK, hwr⟩ := hrel
    subst hwr
    by_cases hk : 0 ≤ k
    · obtain ⟨q, rfl⟩ : ∃ q : Nat, k = (q : Int) := ⟨k.toNat, by omega⟩
      have hqm : q < m := by omega
      obtain ⟨x, hx⟩ : ∃ x, bs[q]? = some x := ⟨bs[q]'(by rw [← HM.out]; exact hqm), by simp⟩
      have HRQ := Lib.hid (show R = if x.sign = 91 then (h == x.base, -1, bs.set q ⟨x.sign, x.base, x.other, true⟩) else rLeave h bs q from by rw [HRK.out, show ((q : Int) + 1).toNat = q + 1 from by omega, rLeave, hx])
      obtain ⟨g, c', hvo, hg, j0, j1, j2, j3⟩ := S.out.cell hx
      have hvo2 := HV.out
      rw [hvo] at hvo2
      injection hvo2 with e1 e2 e3
      subst e1; subst e3
      clear hvo e2 j1 j2
      by_cases h91 : x.sign = 91
      · have q1 : (x.sign == 91) = true := by simpa using h91
        have f3 : wr.frozen? ⟨g, q * 4 + 3, none⟩ = false := rown_frozen (by have := S.out.own; rw [HV.out] at this; rw [← HM.out] at this; exact this)
        have HRE := Lib.hid (show R = (h == x.base, -1, bs.set q ⟨x.sign, x.base, x.other, true⟩) from by rw [HRQ.out, if_pos h91])
        clear h91
        go_upto_region 6 with fail
        have S5 := Lib.hid (S.out.poke (i := q) (j := 3) (x := x) (y := ⟨x.sign, x.base, x.other, true⟩) (u := .bool true) HV.out hx (by omega) rfl (S.out.wf x (List.mem_of_getElem? hx)))
        have hx5 : (bs.set q ⟨x.sign, x.base, x.other, true⟩)[q]? = some ⟨x.sign, x.base, x.other, true⟩ := by
          rw [List.getElem?_set_self (by rw [← HM.out]; exact hqm)]
        have HM5 := Lib.hid (show (bs.set q ⟨x.sign, x.base, x.other, true⟩).length = m by rw [List.length_set]; exact HM.out.symm)
        have HC5 := Lib.hid (show Chg (stT gs vo) wr (wr.setCell ⟨g, q * 4 + 3, none⟩ (.bool true)) from ((Chg.refl [] wr).sub (by simp)).setCell (fun _ => by rw [HV.out]; exact st_in2 gs g _ _) _)
        clear hx j0 j3 c0 c1 f3
        generalize bs.set q ⟨x.sign, x.base, x.other, true⟩ = bs5 at S5 hx5 HM5 HRE
        generalize wr.setCell ⟨g, q * 4 + 3, none⟩ (.bool true) = w5 at S5 HC5 ⊢
        have c0 := S5.out.rec_.cell 0
        have c1 := S5.out.rec_.cell 1
        rw [HV.out, ← HM.out] at c1
        have f0 := S5.out.rec_.frozen 0
        obtain ⟨g', c', hvo, hg, j0, j1, j2, j3⟩ := S5.out.cell hx5
        have hvo2 := HV.out
        rw [hvo] at hvo2
        injection hvo2 with e1 e2 e3
        injection e1 with e1; injection e1 with e1
        subst e1; subst e3
        clear hvo e2 hx5 j0 j2 j3
        go_quiet (fail)
        have S6 := Lib.hid (S5.out.keep ((Chg.refl [] w5).drewN nq))
        have HC6 := Lib.hid (HC5.out.drewN nq)
        have S7 := Lib.hid (S6.out.high (-1) (by omega))
        have HC7 := Lib.hid (HC6.out.setCell (p := ⟨gs, 0, none⟩) (fun _ => st_in gs vo) (.int .i64 (-1)))
        clear c0 c1 f0 j1
        have c0 := S6.out.rec_.cell 0
        have f0 := S6.out.rec_.frozen 0
        have HP := Lib.hid (show StPost gs B vo R wr (.returned (.bool (h == x.base))) ((w5.drewN nq).setCell ⟨gs, 0, none⟩ (.int .i64 (-1))) from st_ok _ _ vo bs5 HRE.out S7.out HC7.out (.inl rfl))
        go_wp2_with fail
        go_ret
        exact HP.out
      · have q1 : (x.sign == 91) = false := by simpa using h91
        have HRE := Lib.hid (show R = rLeave h bs ((q : Int) - 1 + 1).toNat from by rw [HRQ.out, if_neg h91]; congr 1; omega)
        clear h91
        go_wp2_with fail
        go_roundw
        case rel => exact ⟨(q : Int) - 1, by go_num, by omega, by omega, HRE, by first | rfl | trivial⟩
        case measure => simp [intOf]
    · obtain rfl : k = -1 := by omega
      have HP := Lib.hid (show StPost gs B vo R wr (.returned (.bool false)) wr from st_ok false h vo bs (HRK.out.trans rfl) S.out ((Chg.refl [] wr).sub (by simp)) (.inl rfl))
      go_wp2_with fail
      go_ret
      exact HP.out
end
end Go.Proofs.Ytafgpmempgoikaa
namespace Go.Proofs.Ytafgpmempgoikaa
open Go.RowKit
section
variable {W W' : World} {gs B : Nat} {h : Int} {vo : Value} {ys : List BkV} {x : BkV}
theorem St.poke_last {y : BkV} {u : Value} {g c m q j : Nat} (s : St W gs B h vo (ys ++ [x])) (hv : vo = .slice (some ⟨g, 0, none⟩) m c) (hq : ys.length = q) (hj : j < 4) (hu : (bkC x).set j u = bkC y) (hy : 0 ≤ y.base ∧ y.base ≤ 64 ∧ -1 ≤ y.other ∧ y.other ≤ 64) :
    St (W.setCell ⟨g, q * 4 + j, none⟩ u) gs B h vo (ys ++ [y]) := by
  have h1 := s.poke (i := ys.length) (x := x) hv (by simp) hj hu hy
  rw [hq] at h1
  have e : (ys ++ [x]).set q y = ys ++ [y] := by rw [← hq]; simp
  rwa [e] at h1
theorem st_in3 {g c m : Nat} (hv : vo = .slice (some ⟨g, 0, none⟩) m c) : g ∈ stT gs vo := by rw [hv]; exact st_in2 gs g c m
theorem rEnds_half (h : Int) (ys : List BkV) (x : BkV) : rEnds h ys x 58 = (true, x.base, ys ++ [⟨58, x.base, h, x.left⟩]) := rfl
theorem rEnds_pop {r : Int} (hr : r ≠ 58) (h : Int) (ys : List BkV) (x : BkV) : rEnds h ys x r = if x.sign = 58 then (if 0 ≤ x.other ∧ 0 ≤ h ∧ x.other ≠ h then (false, h, ys) else (true, max h x.other, ys))
  else if 0 ≤ h ∧ h ≠ x.base then (false, h, ys) else (true, (if x.sign = 91 ∧ x.left = false then -1 else x.base), ys) := by unfold rEnds; rw [if_neg hr]
set_option maxHeartbeats 4000000 in
set_option maxRecDepth 100000 in
theorem ends_half (s : St W gs B h vo (ys ++ [x])) : Calls Try.prog 55 #[.pointer (some ⟨gs, 0, none⟩), .int .i32 58] W (StPost gs B vo (rEnds h ys x 58) W) := by
  obtain ⟨g, c, hvo, hg, j0, j1, j2, j3⟩ := s.cell (i := ys.length) (x := x) (by simp)
  have hl : (ys ++ [x]).length = ys.length + 1 := by simp
  have S := Lib.hid s
  have HV := Lib.hid hvo
  have c0 := s.rec_.cell 0
  have c1 := s.rec_.cell 1
  rw [hvo, hl] at c1
  have f0 := s.rec_.frozen 0
  have hwf := s.wf x (by simp)
  have hf := s.few
  rw [hl] at hf
  have hF : ∀ j, W.frozen? ⟨g, j, none⟩ = false := fun j => rown_frozen (by have := s.own; rw [hvo] at this; exact this)
  have g0 := hF (ys.length * 4)
  have g2 := hF (ys.length * 4 + 2)
  have hlt : gs ≠ g := by have := s.lo; omega
  clear hvo s hF
  obtain ⟨hw0, hw1, hw2, hw3⟩ := hwf
  clear hl
  generalize hq : ys.length = q at *
  have HQ := Lib.hid hq
  clear hq
  have hsub : IntKind.i64.wrap (((q + 1 : Nat) : Int) - 1) = (q : Int) := by rw [IntWalk.i64_in _ (by omega)]; omega
  have hq0 : (0 : Int) ≤ (q : Int) := by omega
  have hq1 : (q : Int) < ((q + 1 : Nat) : Int) := by omega
  go_enter Try.func55, Try.ntmps55
  go_wp2_with fail
  go_quiet (fail)
  have HD := Lib.hid ((Chg.refl [] W).drewN nq)
  have S1 := Lib.hid (S.out.keep HD.out)
  have j0' := cell_keep j0 HD.out
  have j1' := cell_keep j1 HD.out
  have j2' := cell_keep j2 HD.out
  have c0' := cell_keep c0 HD.out
  clear j0 j1 j2 j3 c0 c1 f0 g0 g2
  have f0 := S1.out.rec_.frozen 0
  have hF : ∀ j, (W.drewN nq).frozen? ⟨g, j, none⟩ = false := fun j => rown_frozen (by have := S1.out.own; rw [HV.out] at this; exact this)
  have g0 := hF (q * 4)
  have g2 := hF (q * 4 + 2)
  clear hF
  generalize W.drewN nq = w1 at HD S1 j0' j1' j2' c0' f0 g0 g2 ⊢
  go_wp2_with fail
  go_region
  have hst := S1.out.hr
  have S2 := S1.out.poke_last (j := 0) (y := ⟨58, x.base, x.other, x.left⟩) (u := .int .i32 58) HV.out HQ.out (by omega) rfl ⟨hw0, hw1, hw2, hw3⟩
  have S3 := S2.poke_last (j := 2) (y := ⟨58, x.base, h, x.left⟩) (u := .int .i64 h) HV.out HQ.out (by omega) rfl ⟨hw0, hw1, hst⟩
  have S4 := (S3.high x.base ⟨by omega, hw1⟩).keep ((Chg.refl [] _).drew)
  have HC4 := ((((HD.out.sub (T' := stT gs vo) (by simp)).setCell (p := ⟨g, q * 4, none⟩) (fun _ => st_in3 HV.out) (.int .i32 58)).setCell (p := ⟨g, q * 4 + 2, none⟩) (fun _ => st_in3 HV.out) (.int .i64 h)).setCell (p := ⟨gs, 0, none⟩) (fun _ => st_in gs vo) (.int .i64 x.base)).drew
  have HP := Lib.hid (show StPost gs B vo (rEnds h ys x 58) W (.returned (.bool true)) _ from st_ok true _ vo _ (rEnds_half h ys x) S4 HC4 (.inl rfl))
  clear S2 S3 S4 HC4
  go_wp2_with fail
  go_ret
  exact HP.out
set_option maxHeartbeats 4000000 in
set_option maxRecDepth 100000 in
theorem ends_pop (s : St W gs B h vo (ys ++ [x])) (r : Int) (hr : r ≠ 58) : Calls Try.prog 55 #[.pointer (some ⟨gs, 0, none⟩), .int .i32 r] W (StPost gs B vo (rEnds h ys x r) W) := by
  obtain ⟨R, hR⟩ : ∃ R, R = rEnds h ys x r := ⟨_, rfl⟩
  rw [← hR]
  rw [rEnds_pop hr] at hR
  have HR := Lib.hid hR
  clear hR
  obtain ⟨g, c, hvo, hg, j0, j1, j2, j3⟩ := s.cell (i := ys.length) (x := x) (by simp)
  have hl : (ys ++ [x]).length = ys.length + 1 := by simp
  have S := Lib.hid s
  have HV := Lib.hid hvo
  have c0 := s.rec_.cell 0
  have c1 := s.rec_.cell 1
  rw [hvo, hl] at c1
  have hwf := s.wf x (by simp)
  have hf := s.few
  rw [hl] at hf
  have hlt : gs ≠ g := by have := s.lo; omega
  have hst := s.hr
  have hcap : ys.length + 1 ≤ c ∧ c ≤ 9223372036854775807 := by
    obtain ⟨A', c', e, h1, h2, _⟩ := s.slice
    rw [hvo] at e
    injection e with _ _ e
    subst e
    rw [hl] at h1
    exact ⟨h1, h2⟩
  clear hvo s
  obtain ⟨hw0, hw1, hw2, hw3⟩ := hwf
  obtain ⟨hc1, hc2⟩ := hcap
  clear hl
  generalize hq : ys.length = q at *
  have HQ := Lib.hid hq
  clear hq
  have hsub : IntKind.i64.wrap (((q + 1 : Nat) : Int) - 1) = (q : Int) := by rw [IntWalk.i64_in _ (by omega)]; omega
  have hq0 : (0 : Int) ≤ (q : Int) := by omega
  have hq1 : (q : Int) < ((q + 1 : Nat) : Int) := by omega
  have hqc : (q : Int) ≤ (c : Int) := by omega
  have hrb : (r == 58) = false := by simpa using hr
  go_enter Try.func55, Try.ntmps55
  go_wp2_with fail
  go_quiet (fail)
  have HD := Lib.hid ((Chg.refl [] W).drewN nq)
  have S1 := Lib.hid (S.out.keep HD.out)
  have c1' := cell_keep c1 HD.out
  clear j0 j1 j2 j3 c0 c1
  have f1 := S1.out.rec_.frozen 1
  generalize W.drewN nq = w1 at HD S1 c1' f1 ⊢
  go_upto_region 5 with fail
  go_region
  obtain ⟨l0, l1, l2, l3⟩ : w1.cell? ⟨g, q * 4, none⟩ = some (.int .i32 x.sign) ∧ w1.cell? ⟨g, q * 4 + 1, none⟩ = some (.int .i64 x.base) ∧ w1.cell? ⟨g, q * 4 + 2, none⟩ = some (.int .i64 x.other) ∧ w1.cell? ⟨g, q * 4 + 3, none⟩ = some (.bool x.left) := by
    obtain ⟨g', c', e, _, l0, l1, l2, l3⟩ := S1.out.cell (i := ys.length) (x := x) (by simp)
    rw [HV.out] at e
    injection e with e; injection e with e; injection e with e
    subst e
    rw [HQ.out] at l0 l1 l2 l3
    exact ⟨l0, l1, l2, l3⟩
  have S5' := (S1.out.drop HV.out).keep ((Chg.refl [] _).drew)
  rw [HQ.out] at S5'
  have hc5 : Chg [gs] w1 (w1.setCell ⟨gs, 1, none⟩ (.slice (some ⟨g, 0, none⟩) q c)).drew := ((Chg.refl [gs] w1).setCell (p := ⟨gs, 1, none⟩) (by simp) _).drew
  have S5 := Lib.hid S5'
  have HC5 := Lib.hid (show Chg (stT gs vo) W _ from (HD.out.sub (T' := stT gs vo) (by simp)).trans (hc5.sub (by intro i hi; simp only [List.mem_cons, List.not_mem_nil, or_false] at hi; subst hi; exact st_in _ vo)))
  generalize (w1.setCell ⟨gs, 1, none⟩ (.slice (some ⟨g, 0, none⟩) q c)).drew = w5 at S5 S5' HC5 hc5 ⊢
  have hgl : g < w1.heap.size := block_lt_of_cell l0
  have k0 : w5.cell? ⟨g, q * 4, none⟩ = some (.int .i32 x.sign) := by rw [← l0]; exact World.cell?_of_block (w := w1) (hc5.block g hgl (by simp; omega))
  have k1 : w5.cell? ⟨g, q * 4 + 1, none⟩ = some (.int .i64 x.base) := by rw [← l1]; exact World.cell?_of_block (w := w1) (hc5.block g hgl (by simp; omega))
  have k2 : w5.cell? ⟨g, q * 4 + 2, none⟩ = some (.int .i64 x.other) := by rw [← l2]; exact World.cell?_of_block (w := w1) (hc5.block g hgl (by simp; omega))
  have k3 : w5.cell? ⟨g, q * 4 + 3, none⟩ = some (.bool x.left) := by rw [← l3]; exact World.cell?_of_block (w := w1) (hc5.block g hgl (by simp; omega))
  have c0 := S5'.rec_.cell 0
  have f0 := S5'.rec_.frozen 0
  have HOB := Lib.hid (show (Value.slice (some ⟨g, 0, none⟩) q c).ownBlock = vo.ownBlock by rw [HV.out]; rfl)
  clear S5' hc5 l0 l1 l2 l3 c1' f1 hgl
  generalize hvo5 : Value.slice (some ⟨g, 0, none⟩) q c = vo5 at S5 HOB
  clear hvo5
  by_cases h58 : x.sign = 58
  · have q58 : (x.sign == 58) = true := by simpa using h58
    have HR1 := Lib.hid (show R = if 0 ≤ x.other ∧ 0 ≤ h ∧ x.other ≠ h then (false, h, ys) else (true, max h x.other, ys) from by rw [HR.out, if_pos h58])
    clear h58
    go_upto_region 7 with fail
    by_cases ho : 0 ≤ x.other
    · have qo : decide (0 ≤ x.other) = true := by simpa using ho
      by_cases hh : 0 ≤ h
      · have qh : decide (0 ≤ h) = true := by simpa using hh
        by_cases hne : x.other = h
        · have HRM := Lib.hid (show R = (true, h, ys) from by rw [HR1.out, if_neg (by omega)]; congr 2; omega)
          have qn : (x.other != h) = false := by simpa using hne
          have qn2 : (x.other == h) = true := by simpa using hne
          go_quiet (fail)
          have S6 := Lib.hid (S5.out.keep ((Chg.refl [] w5).drewN nq))
          have HC6 := Lib.hid (HC5.out.drewN nq)
          have k0' := cell_keep k0 ((Chg.refl [] w5).drewN nq)
          have k1' := cell_keep k1 ((Chg.refl [] w5).drewN nq)
          have k2' := cell_keep k2 ((Chg.refl [] w5).drewN nq)
          have k3' := cell_keep k3 ((Chg.refl [] w5).drewN nq)
          clear k0 k1 k2 k3 c0 f0
          have c0 := S6.out.rec_.cell 0
          have f0 := S6.out.rec_.frozen 0
          generalize w5.drewN nq = w6 at S6 HC6 k0' k1' k2' k3' c0 f0 ⊢
          go_upto_region 9 with fail
          go_region
          have S7 := (S6.out.high h (by have := S6.out.hr; omega)).keep ((Chg.refl [] _).drew)
          have HC7 := (HC6.out.setCell (p := ⟨gs, 0, none⟩) (fun _ => st_in gs vo) (.int .i64 h)).drew
          have HP := Lib.hid (show StPost gs B vo R W (.returned (.bool true)) _ from st_ok true _ vo5 ys (HRM.out) S7 HC7 (.inl HOB.out))
          clear S7 HC7
          go_wp2_with fail
          go_ret
          exact HP.out
        · have HRM := Lib.hid (show R = (false, h, ys) from by rw [HR1.out, if_pos ⟨ho, hh, hne⟩])
          have qn : (x.other != h) = true := by simpa using hne
          have qn2 : (x.other == h) = false := by simpa using hne
          go_quiet (fail)
          have S6 := Lib.hid (S5.out.keep ((Chg.refl [] w5).drewN nq))
          have HC6 := Lib.hid (HC5.out.drewN nq)
          have k0' := cell_keep k0 ((Chg.refl [] w5).drewN nq)
          have k1' := cell_keep k1 ((Chg.refl [] w5).drewN nq)
          have k2' := cell_keep k2 ((Chg.refl [] w5).drewN nq)
          have k3' := cell_keep k3 ((Chg.refl [] w5).drewN nq)
          clear k0 k1 k2 k3 c0 f0
          have c0 := S6.out.rec_.cell 0
          have f0 := S6.out.rec_.frozen 0
          generalize w5.drewN nq = w6 at S6 HC6 k0' k1' k2' k3' c0 f0 ⊢
          have HP := Lib.hid (show StPost gs B vo R W (.returned (.bool false)) w6 from st_ok false h vo5 ys HRM.out S6.out HC6.out (.inl HOB.out))
          go_wp2_with fail
          go_ret
          exact HP.out
      · have qh : decide (0 ≤ h) = false := by simpa using hh
        have HRM := Lib.hid (show R = (true, max h x.other, ys) from by rw [HR1.out, if_neg (by omega)])
        go_quiet (fail)
        have S6 := Lib.hid (S5.out.keep ((Chg.refl [] w5).drewN nq))
        have HC6 := Lib.hid (HC5.out.drewN nq)
        have k0' := cell_keep k0 ((Chg.refl [] w5).drewN nq)
        have k1' := cell_keep k1 ((Chg.refl [] w5).drewN nq)
        have k2' := cell_keep k2 ((Chg.refl [] w5).drewN nq)
        have k3' := cell_keep k3 ((Chg.refl [] w5).drewN nq)
        clear k0 k1 k2 k3 c0 f0
        have c0 := S6.out.rec_.cell 0
        have f0 := S6.out.rec_.frozen 0
        generalize w5.drewN nq = w6 at S6 HC6 k0' k1' k2' k3' c0 f0 ⊢
        go_upto_region 9 with fail
        go_region
        have S7 := (S6.out.high (max h x.other) (by have := S6.out.hr; omega)).keep ((Chg.refl [] _).drew)
        have HC7 := (HC6.out.setCell (p := ⟨gs, 0, none⟩) (fun _ => st_in gs vo) (.int .i64 (max h x.other))).drew
        have HP := Lib.hid (show StPost gs B vo R W (.returned (.bool true)) _ from st_ok true _ vo5 ys (HRM.out) S7 HC7 (.inl HOB.out))
        clear S7 HC7
        go_wp2_with fail
        go_ret
        exact HP.out
    · have qo : decide (0 ≤ x.other) = false := by simpa using ho
      have HRM := Lib.hid (show R = (true, max h x.other, ys) from by rw [HR1.out, if_neg (by omega)])
      go_quiet (fail)
      have S6 := Lib.hid (S5.out.keep ((Chg.refl [] w5).drewN nq))
      have HC6 := Lib.hid (HC5.out.drewN nq)
      have k0' := cell_keep k0 ((Chg.refl [] w5).drewN nq)
      have k1' := cell_keep k1 ((Chg.refl [] w5).drewN nq)
      have k2' := cell_keep k2 ((Chg.refl [] w5).drewN nq)
      have k3' := cell_keep k3 ((Chg.refl [] w5).drewN nq)
      clear k0 k1 k2 k3 c0 f0
      have c0 := S6.out.rec_.cell 0
      have f0 := S6.out.rec_.frozen 0
      generalize w5.drewN nq = w6 at S6 HC6 k0' k1' k2' k3' c0 f0 ⊢
      go_upto_region 9 with fail
      go_region
      have S7 := (S6.out.high (max h x.other) (by have := S6.out.hr; omega)).keep ((Chg.refl [] _).drew)
      have HC7 := (HC6.out.setCell (p := ⟨gs, 0, none⟩) (fun _ => st_in gs vo) (.int .i64 (max h x.other))).drew
      have HP := Lib.hid (show StPost gs B vo R W (.returned (.bool true)) _ from st_ok true _ vo5 ys (HRM.out) S7 HC7 (.inl HOB.out))
      clear S7 HC7
      go_wp2_with fail
      go_ret
      exact HP.out
  · have q58 : (x.sign == 58) = false := by simpa using h58
    have HR1 := Lib.hid (show R = if 0 ≤ h ∧ h ≠ x.base then (false, h, ys) else (true, (if x.sign = 91 ∧ x.left = false then -1 else x.base), ys) from by rw [HR.out, if_neg h58])
    clear h58
    go_upto_region 11 with fail
    by_cases hh : 0 ≤ h
    · have qh : decide (0 ≤ h) = true := by simpa using hh
      by_cases hne : h = x.base
      · have HRN := Lib.hid (show R = (true, (if x.sign = 91 ∧ x.left = false then -1 else x.base), ys) from by rw [HR1.out, if_neg (by omega)])
        have qn : (h != x.base) = false := by simpa using hne
        have qn2 : (h == x.base) = true := by simpa using hne
        go_quiet (fail)
        have S6 := Lib.hid (S5.out.keep ((Chg.refl [] w5).drewN nq))
        have HC6 := Lib.hid (HC5.out.drewN nq)
        have k0' := cell_keep k0 ((Chg.refl [] w5).drewN nq)
        have k1' := cell_keep k1 ((Chg.refl [] w5).drewN nq)
        have k2' := cell_keep k2 ((Chg.refl [] w5).drewN nq)
        have k3' := cell_keep k3 ((Chg.refl [] w5).drewN nq)
        clear k0 k1 k2 k3 c0 f0
        have c0 := S6.out.rec_.cell 0
        have f0 := S6.out.rec_.frozen 0
        generalize w5.drewN nq = w6 at S6 HC6 k0' k1' k2' k3' c0 f0 ⊢
        go_upto_region 14 with fail
        have S7 := Lib.hid (S6.out.high x.base ⟨by omega, hw1⟩)
        have HC7 := Lib.hid (HC6.out.setCell (p := ⟨gs, 0, none⟩) (fun _ => st_in gs vo) (.int .i64 x.base))
        have m0 : (w6.setCell ⟨gs, 0, none⟩ (.int .i64 x.base)).cell? ⟨g, q * 4, none⟩ = some (.int .i32 x.sign) := by rw [← k0']; exact World.cell?_of_block (w := w6) (Below.heap_setCell w6 ⟨gs, 0, none⟩ _ g (Ne.symm hlt))
        have m3 : (w6.setCell ⟨gs, 0, none⟩ (.int .i64 x.base)).cell? ⟨g, q * 4 + 3, none⟩ = some (.bool x.left) := by rw [← k3']; exact World.cell?_of_block (w := w6) (Below.heap_setCell w6 ⟨gs, 0, none⟩ _ g (Ne.symm hlt))
        clear k0' k1' k2' k3' c0 f0
        generalize w6.setCell ⟨gs, 0, none⟩ (.int .i64 x.base) = w7 at S7 HC7 m0 m3 ⊢
        have f0 := S7.out.rec_.frozen 0
        have c0 := S7.out.rec_.cell 0
        have S8 := Lib.hid (S7.out.high (-1) (by omega))
        have HC8 := Lib.hid (HC7.out.setCell (p := ⟨gs, 0, none⟩) (fun _ => st_in gs vo) (.int .i64 (-1)))
        have HP1 := Lib.hid (fun (hn : ¬ (x.sign = 91 ∧ x.left = false)) => show StPost gs B vo R W (.returned (.bool true)) w7 from st_ok true _ vo5 ys (by rw [HRN.out, if_neg hn]) S7.out HC7.out (.inl HOB.out))
        have HP2 := Lib.hid (fun (hn : x.sign = 91 ∧ x.left = false) => show StPost gs B vo R W (.returned (.bool true)) (w7.setCell ⟨gs, 0, none⟩ (.int .i64 (-1))) from st_ok true _ vo5 ys (by rw [HRN.out, if_pos hn]) S8.out HC8.out (.inl HOB.out))
        by_cases h91 : x.sign = 91
        · have q91 : (x.sign == 91) = true := by simpa using h91
          cases hlf : x.left
          · have HPP := Lib.hid (HP2.out ⟨h91, hlf⟩)
            rw [hlf] at m3
            clear h91 hlf
            go_wp2_with fail
            go_ret
            exact HPP.out
          · have HPP := Lib.hid (HP1.out (by rw [hlf]; simp))
            rw [hlf] at m3
            clear h91 hlf
            go_wp2_with fail
            go_ret
            exact HPP.out
        · have q91 : (x.sign == 91) = false := by simpa using h91
          have HPP := Lib.hid (HP1.out (fun hn => h91 hn.1))
          clear h91
          go_wp2_with fail
          go_ret
          exact HPP.out
      · have HRM := Lib.hid (show R = (false, h, ys) from by rw [HR1.out, if_pos ⟨hh, hne⟩])
        have qn : (h != x.base) = true := by simpa using hne
        have qn2 : (h == x.base) = false := by simpa using hne
        go_quiet (fail)
        have S6 := Lib.hid (S5.out.keep ((Chg.refl [] w5).drewN nq))
        have HC6 := Lib.hid (HC5.out.drewN nq)
        have k0' := cell_keep k0 ((Chg.refl [] w5).drewN nq)
        have k1' := cell_keep k1 ((Chg.refl [] w5).drewN nq)
        have k2' := cell_keep k2 ((Chg.refl [] w5).drewN nq)
        have k3' := cell_keep k3 ((Chg.refl [] w5).drewN nq)
        clear k0 k1 k2 k3 c0 f0
        have c0 := S6.out.rec_.cell 0
        have f0 := S6.out.rec_.frozen 0
        generalize w5.drewN nq = w6 at S6 HC6 k0' k1' k2' k3' c0 f0 ⊢
        have HP := Lib.hid (show StPost gs B vo R W (.returned (.bool false)) w6 from st_ok false h vo5 ys HRM.out S6.out HC6.out (.inl HOB.out))
        go_wp2_with fail
        go_ret
        exact HP.out
    · have qh : decide (0 ≤ h) = false := by simpa using hh
      have HRN := Lib.hid (show R = (true, (if x.sign = 91 ∧ x.left = false then -1 else x.base), ys) from by rw [HR1.out, if_neg (by omega)])
      go_quiet (fail)
      have S6 := Lib.hid (S5.out.keep ((Chg.refl [] w5).drewN nq))
      have HC6 := Lib.hid (HC5.out.drewN nq)
      have k0' := cell_keep k0 ((Chg.refl [] w5).drewN nq)
      have k1' := cell_keep k1 ((Chg.refl [] w5).drewN nq)
      have k2' := cell_keep k2 ((Chg.refl [] w5).drewN nq)
      have k3' := cell_keep k3 ((Chg.refl [] w5).drewN nq)
      clear k0 k1 k2 k3 c0 f0
      have c0 := S6.out.rec_.cell 0
      have f0 := S6.out.rec_.frozen 0
      generalize w5.drewN nq = w6 at S6 HC6 k0' k1' k2' k3' c0 f0 ⊢
      go_upto_region 14 with fail
      have S7 := Lib.hid (S6.out.high x.base ⟨by omega, hw1⟩)
      have HC7 := Lib.hid (HC6.out.setCell (p := ⟨gs, 0, none⟩) (fun _ => st_in gs vo) (.int .i64 x.base))
      have m0 : (w6.setCell ⟨gs, 0, none⟩ (.int .i64 x.base)).cell? ⟨g, q * 4, none⟩ = some (.int .i32 x.sign) := by rw [← k0']; exact World.cell?_of_block (w := w6) (Below.heap_setCell w6 ⟨gs, 0, none⟩ _ g (Ne.symm hlt))
      have m3 : (w6.setCell ⟨gs, 0, none⟩ (.int .i64 x.base)).cell? ⟨g, q * 4 + 3, none⟩ = some (.bool x.left) := by rw [← k3']; exact World.cell?_of_block (w := w6) (Below.heap_setCell w6 ⟨gs, 0, none⟩ _ g (Ne.symm hlt))
      clear k0' k1' k2' k3' c0 f0
      generalize w6.setCell ⟨gs, 0, none⟩ (.int .i64 x.base) = w7 at S7 HC7 m0 m3 ⊢
      have f0 := S7.out.rec_.frozen 0
      have c0 := S7.out.rec_.cell 0
      have S8 := Lib.hid (S7.out.high (-1) (by omega))
      have HC8 := Lib.hid (HC7.out.setCell (p := ⟨gs, 0, none⟩) (fun _ => st_in gs vo) (.int .i64 (-1)))
      have HP1 := Lib.hid (fun (hn : ¬ (x.sign = 91 ∧ x.left = false)) => show StPost gs B vo R W (.returned (.bool true)) w7 from st_ok true _ vo5 ys (by rw [HRN.out, if_neg hn]) S7.out HC7.out (.inl HOB.out))
      have HP2 := Lib.hid (fun (hn : x.sign = 91 ∧ x.left = false) => show StPost gs B vo R W (.returned (.bool true)) (w7.setCell ⟨gs, 0, none⟩ (.int .i64 (-1))) from st_ok true _ vo5 ys (by rw [HRN.out, if_pos hn]) S8.out HC8.out (.inl HOB.out))
      by_cases h91 : x.sign = 91
      · have q91 : (x.sign == 91) = true := by simpa using h91
        cases hlf : x.left
        · have HPP := Lib.hid (HP2.out ⟨h91, hlf⟩)
          rw [hlf] at m3
          clear h91 hlf
          go_wp2_with fail
          go_ret
          exact HPP.out
        · have HPP := Lib.hid (HP1.out (by rw [hlf]; simp))
          rw [hlf] at m3
          clear h91 hlf
          go_wp2_with fail
          go_ret
          exact HPP.out
      · have q91 : (x.sign == 91) = false := by simpa using h91
        have HPP := Lib.hid (HP1.out (fun hn => h91 hn.1))
        clear h91
        go_wp2_with fail
        go_ret
        exact HPP.out
end
end Go.Proofs.Ytafgpmempgoikaa
namespace Go.Proofs.Ytafgpmempgoikaa
open Go.RowKit
/-- No fault: the state behind. -/
def TkPost (gs B : Nat) (vo : Value) (R : Int × Int × List BkV) (W : World) (e : Ending) (w' : World) : Prop :=
  e = .returned (.int .i64 R.1) ∧ (R.1 = 0 → ∃ vo' : Value, St w' gs B R.2.1 vo' R.2.2) ∧ Chg (stT gs vo) W w'
section
variable {W W' W1 w' : World} {gs B : Nat} {h : Int} {vo : Value} {ys bs : List BkV} {x : BkV} {A : Option Addr} {n c : Nat} {l : List FnV} {pages most : Int}
theorem tk_no {R : Int × Int × List BkV} (er : Int) (hne : er ≠ 0) (hR : R.1 = er) (hC : Chg (stT gs vo) W W') : TkPost gs B vo R W (.returned (.int .i64 er)) W' := by
  subst hR
  exact ⟨rfl, fun h => absurd h hne, hC⟩
theorem tk_ok {R : Int × Int × List BkV} (h' : Int) (vo' : Value) (bs' : List BkV) (hR : R = (0, h', bs')) (hS : St W' gs B h' vo' bs') (hC : Chg (stT gs vo) W W') : TkPost gs B vo R W (.returned (.int .i64 0)) W' := by
  subst hR
  exact ⟨rfl, fun _ => ⟨vo', hS⟩, hC⟩
theorem rTok_end {s name : Int} (hs : isEnd s) : rTok l h (ys ++ [x]) s name = match rEnds h ys x s with | (true, h', bs') => (0, h', bs') | (false, h', bs') => (14, h', bs') := by
  unfold rTok
  rw [if_pos hs]
  simp only [List.getLast?_append, List.getLast?_singleton, Option.some_or, List.dropLast_concat] <;> rfl
theorem takes_end {s : Int} (hs : isEnd s) (name : Int) : rTakes l s name = (0, 0, true) := by
  rcases hs with rfl | rfl | rfl <;> rfl
theorem St.push {v' : Value} (s : St W gs B h vo bs) (hc : Chg [] W W1) (ho : w'.ownsRow B 98 4 v' (bs.length + 1) (bkCs bs ++ bkC x)) (hg : W1.grownBy w' vo.ownBlock)
    (hx : 0 ≤ x.base ∧ x.base ≤ 64 ∧ -1 ≤ x.other ∧ x.other ≤ 64) (hf : bs.length + 1 ≤ 1000) : St (w'.setCell ⟨gs, 1, none⟩ v') gs B h v' (bs ++ [x]) := by
  have h1 := s.keep hc
  have hr := whole_grown h1.rec_ h1.own (by decide) hg
  have haw : v'.ownBlock ≠ some gs := fun hcc => by have := (ho.lt gs hcc).1; have := s.lo; omega
  refine ⟨?_, ?_, s.lo, by simpa using hf, s.hr, fun b hb => ?_, by rw [size_set]; exact Nat.le_trans h1.room hg.size⟩
  · have := hr.set_ 1 v'
    simpa using this
  · rw [bkCs_app, bkCs_one, List.length_append, List.length_singleton]
    exact rown_far ho haw
  · rcases List.mem_append.1 hb with hb | hb
    · exact s.wf b hb
    · rw [List.mem_singleton] at hb; subst hb; exact hx
theorem Chg.of_push {A5 : Option Addr} {m k5 : Nat} {o : Obj} (hc : Chg (stT gs vo) W W1) (s : St W1 gs B h vo bs) (hv : vo = .slice A5 m k5) (hg : (W1.alloc o).drew.grownBy w' (Value.slice A5 m k5).ownBlock) : Chg (stT gs vo) W w' := by
  subst hv
  refine (hc.trans (((Chg.refl [] W1).alloc o).drew.sub (T' := stT gs (.slice A5 m k5)) (by simp))).trans (Chg.of_grown hg fun g hgg _ => ?_)
  simp [stT, hgg]
theorem info_block : (Try.prog.info? 98).map (fun i => (i.zero, i.size, i.bytes)) = some (some (.agg #[.int .i32 0, .int .i64 0, .int .i64 0, .bool false]), 4, 32) := by kernel_rfl
set_option maxHeartbeats 4000000 in
set_option maxRecDepth 100000 in
theorem token_ends (s : St W gs B h vo (ys ++ [x])) (hF : Fnr W A n c l) (t : TkV) (hr : isEnd t.sign) : Calls Try.prog 48 #[.pointer (some ⟨gs, 0, none⟩), unitV pages most A n c, .agg (tkC t).toArray] W (TkPost gs B vo (rTok l h (ys ++ [x]) t.sign t.name) W) := by
  unfold unitV
  obtain ⟨r, tn, nm⟩ := t
  simp only [tkC] at hr ⊢
  obtain ⟨R, hR⟩ : ∃ R, R = rTok l h (ys ++ [x]) r nm := ⟨_, rfl⟩
  rw [← hR]
  rw [rTok_end hr] at hR
  have HR := Lib.hid hR
  have HTE := Lib.hid (takes_end (l := l) hr nm)
  have S := Lib.hid s
  have HF := Lib.hid hF
  have hgs := s.rec_.lt
  clear s hF hR
  rcases hr with rfl | rfl | rfl
  · go_enter Try.func48, Try.ntmps48
    go_upto_region 1 with fail
    have hN := Whole.new W 26 [.int .i64 pages, .int .i64 most, .slice A n c]
    have hal : Chg [] W (W.alloc (.cells #[.int .i64 pages, .int .i64 most, .slice A n c] 26)) := (Chg.refl [] W).alloc _
    have hsz : (W.alloc (.cells #[.int .i64 pages, .int .i64 most, .slice A n c] 26)).heap.size = W.heap.size + 1 := Array.size_push _
    obtain ⟨w1, hw1⟩ : ∃ w1, w1 = W.alloc (.cells #[.int .i64 pages, .int .i64 most, .slice A n c] 26) := ⟨_, rfl⟩
    rw [← hw1] at hN hal hsz ⊢
    have hN2 := Whole.new w1 42 [.int .i32 58, .int .i64 tn, .int .i32 nm]
    have hal2 : Chg [] w1 (w1.alloc (.cells #[.int .i32 58, .int .i64 tn, .int .i32 nm] 42)) := (Chg.refl [] w1).alloc _
    rw [hsz] at hN2
    have hU2 := hN.keep hal2
    have hc := hal.trans hal2
    generalize w1.alloc (.cells #[.int .i32 58, .int .i64 tn, .int .i32 nm] 42) = w2 at hN2 hU2 hc ⊢
    have HF2 := Lib.hid (HF.out.keep hc)
    have S2 := Lib.hid (S.out.keep hc)
    skip
    generalize W.heap.size = g at hU2 hN2 ⊢
    have HC2 := Lib.hid (hc.sub (T' := stT gs vo) (by simp))
    have u0 := hU2.cell 0
    have u1 := hU2.cell 1
    have u2 := hU2.cell 2
    have t0 := hN2.cell 0
    have t1 := hN2.cell 1
    have t2 := hN2.cell 2
    have HT2 := Lib.hid hN2
    have c0 := S2.out.rec_.cell 0
    clear hN hal hsz hw1 hN2 hal2 hU2 hc
    by_cases hh : h < 0
    · have qh : decide (h < 0) = true := by simpa using hh
      clear hh
      go_wp2_with fail
      refine (takes_any HF2.out ⟨58, tn, nm⟩).mono ?_
      rintro e w3 ⟨he3, hc3⟩
      rw [HTE.out] at he3
      subst he3
      have S3 := Lib.hid (S2.out.keep hc3)
      have HC3 := Lib.hid (HC2.out.trans (hc3.sub (T' := stT gs vo) (by simp)))
      have t0' := (HT2.out.keep hc3).cell 0
      clear hc3 t0 t1 t2 u0 u1 u2 c0
      go_wp2_with fail
      refine (ends_half S3.out).mono ?_
      rintro e w4 ⟨vo4, rfl, hS4, hc4, _⟩
      have HSZ := Lib.hid HC3.out.size
      have HR1 := Lib.hid HR.out
      rcases hE : rEnds h ys x 58 with ⟨b4, h4, bs4⟩
      rw [hE] at hS4
      have HE := Lib.hid hE
      clear hE
      cases b4
      · have HP := Lib.hid (show TkPost gs B vo R W (.returned (.int .i64 14)) w4 from tk_no 14 (by decide) (by rw [HR.out, HE.out]) (HC3.out.trans hc4))
        clear hS4 hc4 t0'
        go_wp2_with fail
        go_ret
        exact HP.out
      · have HP := Lib.hid (show TkPost gs B vo R W (.returned (.int .i64 0)) w4 from tk_ok h4 vo4 bs4 (by rw [HR.out, HE.out]) hS4 (HC3.out.trans hc4))
        clear hS4 hc4 t0'
        go_wp2_with fail
        go_ret
        exact HP.out
    · have qh : decide (h < 0) = false := by simpa using hh
      clear hh
      go_wp2_with fail
      refine (takes_any HF2.out ⟨58, tn, nm⟩).mono ?_
      rintro e w3 ⟨he3, hc3⟩
      rw [HTE.out] at he3
      subst he3
      have S3 := Lib.hid (S2.out.keep hc3)
      have HC3 := Lib.hid (HC2.out.trans (hc3.sub (T' := stT gs vo) (by simp)))
      have t0' := (HT2.out.keep hc3).cell 0
      clear hc3 t0 t1 t2 u0 u1 u2 c0
      go_wp2_with fail
      refine (ends_half S3.out).mono ?_
      rintro e w4 ⟨vo4, rfl, hS4, hc4, _⟩
      have HSZ := Lib.hid HC3.out.size
      have HR1 := Lib.hid HR.out
      rcases hE : rEnds h ys x 58 with ⟨b4, h4, bs4⟩
      rw [hE] at hS4
      have HE := Lib.hid hE
      clear hE
      cases b4
      · have HP := Lib.hid (show TkPost gs B vo R W (.returned (.int .i64 14)) w4 from tk_no 14 (by decide) (by rw [HR.out, HE.out]) (HC3.out.trans hc4))
        clear hS4 hc4 t0'
        go_wp2_with fail
        go_ret
        exact HP.out
      · have HP := Lib.hid (show TkPost gs B vo R W (.returned (.int .i64 0)) w4 from tk_ok h4 vo4 bs4 (by rw [HR.out, HE.out]) hS4 (HC3.out.trans hc4))
        clear hS4 hc4 t0'
        go_wp2_with fail
        go_ret
        exact HP.out
  · go_enter Try.func48, Try.ntmps48
    go_upto_region 1 with fail
    have hN := Whole.new W 26 [.int .i64 pages, .int .i64 most, .slice A n c]
    have hal : Chg [] W (W.alloc (.cells #[.int .i64 pages, .int .i64 most, .slice A n c] 26)) := (Chg.refl [] W).alloc _
    have hsz : (W.alloc (.cells #[.int .i64 pages, .int .i64 most, .slice A n c] 26)).heap.size = W.heap.size + 1 := Array.size_push _
    obtain ⟨w1, hw1⟩ : ∃ w1, w1 = W.alloc (.cells #[.int .i64 pages, .int .i64 most, .slice A n c] 26) := ⟨_, rfl⟩
    rw [← hw1] at hN hal hsz ⊢
    have hN2 := Whole.new w1 42 [.int .i32 59, .int .i64 tn, .int .i32 nm]
    have hal2 : Chg [] w1 (w1.alloc (.cells #[.int .i32 59, .int .i64 tn, .int .i32 nm] 42)) := (Chg.refl [] w1).alloc _
    rw [hsz] at hN2
    have hU2 := hN.keep hal2
    have hc := hal.trans hal2
    generalize w1.alloc (.cells #[.int .i32 59, .int .i64 tn, .int .i32 nm] 42) = w2 at hN2 hU2 hc ⊢
    have HF2 := Lib.hid (HF.out.keep hc)
    have S2 := Lib.hid (S.out.keep hc)
    skip
    generalize W.heap.size = g at hU2 hN2 ⊢
    have HC2 := Lib.hid (hc.sub (T' := stT gs vo) (by simp))
    have u0 := hU2.cell 0
    have u1 := hU2.cell 1
    have u2 := hU2.cell 2
    have t0 := hN2.cell 0
    have t1 := hN2.cell 1
    have t2 := hN2.cell 2
    have HT2 := Lib.hid hN2
    have c0 := S2.out.rec_.cell 0
    clear hN hal hsz hw1 hN2 hal2 hU2 hc
    by_cases hh : h < 0
    · have qh : decide (h < 0) = true := by simpa using hh
      clear hh
      go_wp2_with fail
      refine (takes_any HF2.out ⟨59, tn, nm⟩).mono ?_
      rintro e w3 ⟨he3, hc3⟩
      rw [HTE.out] at he3
      subst he3
      have S3 := Lib.hid (S2.out.keep hc3)
      have HC3 := Lib.hid (HC2.out.trans (hc3.sub (T' := stT gs vo) (by simp)))
      have t0' := (HT2.out.keep hc3).cell 0
      clear hc3 t0 t1 t2 u0 u1 u2 c0
      go_wp2_with fail
      refine (ends_pop S3.out 59 (by decide)).mono ?_
      rintro e w4 ⟨vo4, rfl, hS4, hc4, _⟩
      have HSZ := Lib.hid HC3.out.size
      have HR1 := Lib.hid HR.out
      rcases hE : rEnds h ys x 59 with ⟨b4, h4, bs4⟩
      rw [hE] at hS4
      have HE := Lib.hid hE
      clear hE
      cases b4
      · have HP := Lib.hid (show TkPost gs B vo R W (.returned (.int .i64 14)) w4 from tk_no 14 (by decide) (by rw [HR.out, HE.out]) (HC3.out.trans hc4))
        clear hS4 hc4 t0'
        go_wp2_with fail
        go_ret
        exact HP.out
      · have HP := Lib.hid (show TkPost gs B vo R W (.returned (.int .i64 0)) w4 from tk_ok h4 vo4 bs4 (by rw [HR.out, HE.out]) hS4 (HC3.out.trans hc4))
        clear hS4 hc4 t0'
        go_wp2_with fail
        go_ret
        exact HP.out
    · have qh : decide (h < 0) = false := by simpa using hh
      clear hh
      go_wp2_with fail
      refine (takes_any HF2.out ⟨59, tn, nm⟩).mono ?_
      rintro e w3 ⟨he3, hc3⟩
      rw [HTE.out] at he3
      subst he3
      have S3 := Lib.hid (S2.out.keep hc3)
      have HC3 := Lib.hid (HC2.out.trans (hc3.sub (T' := stT gs vo) (by simp)))
      have t0' := (HT2.out.keep hc3).cell 0
      clear hc3 t0 t1 t2 u0 u1 u2 c0
      go_wp2_with fail
      refine (ends_pop S3.out 59 (by decide)).mono ?_
      rintro e w4 ⟨vo4, rfl, hS4, hc4, _⟩
      have HSZ := Lib.hid HC3.out.size
      have HR1 := Lib.hid HR.out
      rcases hE : rEnds h ys x 59 with ⟨b4, h4, bs4⟩
      rw [hE] at hS4
      have HE := Lib.hid hE
      clear hE
      cases b4
      · have HP := Lib.hid (show TkPost gs B vo R W (.returned (.int .i64 14)) w4 from tk_no 14 (by decide) (by rw [HR.out, HE.out]) (HC3.out.trans hc4))
        clear hS4 hc4 t0'
        go_wp2_with fail
        go_ret
        exact HP.out
      · have HP := Lib.hid (show TkPost gs B vo R W (.returned (.int .i64 0)) w4 from tk_ok h4 vo4 bs4 (by rw [HR.out, HE.out]) hS4 (HC3.out.trans hc4))
        clear hS4 hc4 t0'
        go_wp2_with fail
        go_ret
        exact HP.out
  · go_enter Try.func48, Try.ntmps48
    go_upto_region 1 with fail
    have hN := Whole.new W 26 [.int .i64 pages, .int .i64 most, .slice A n c]
    have hal : Chg [] W (W.alloc (.cells #[.int .i64 pages, .int .i64 most, .slice A n c] 26)) := (Chg.refl [] W).alloc _
    have hsz : (W.alloc (.cells #[.int .i64 pages, .int .i64 most, .slice A n c] 26)).heap.size = W.heap.size + 1 := Array.size_push _
    obtain ⟨w1, hw1⟩ : ∃ w1, w1 = W.alloc (.cells #[.int .i64 pages, .int .i64 most, .slice A n c] 26) := ⟨_, rfl⟩
    rw [← hw1] at hN hal hsz ⊢
    have hN2 := Whole.new w1 42 [.int .i32 93, .int .i64 tn, .int .i32 nm]
    have hal2 : Chg [] w1 (w1.alloc (.cells #[.int .i32 93, .int .i64 tn, .int .i32 nm] 42)) := (Chg.refl [] w1).alloc _
    rw [hsz] at hN2
    have hU2 := hN.keep hal2
    have hc := hal.trans hal2
    generalize w1.alloc (.cells #[.int .i32 93, .int .i64 tn, .int .i32 nm] 42) = w2 at hN2 hU2 hc ⊢
    have HF2 := Lib.hid (HF.out.keep hc)
    have S2 := Lib.hid (S.out.keep hc)
    skip
    generalize W.heap.size = g at hU2 hN2 ⊢
    have HC2 := Lib.hid (hc.sub (T' := stT gs vo) (by simp))
    have u0 := hU2.cell 0
    have u1 := hU2.cell 1
    have u2 := hU2.cell 2
    have t0 := hN2.cell 0
    have t1 := hN2.cell 1
    have t2 := hN2.cell 2
    have HT2 := Lib.hid hN2
    have c0 := S2.out.rec_.cell 0
    clear hN hal hsz hw1 hN2 hal2 hU2 hc
    by_cases hh : h < 0
    · have qh : decide (h < 0) = true := by simpa using hh
      clear hh
      go_wp2_with fail
      refine (takes_any HF2.out ⟨93, tn, nm⟩).mono ?_
      rintro e w3 ⟨he3, hc3⟩
      rw [HTE.out] at he3
      subst he3
      have S3 := Lib.hid (S2.out.keep hc3)
      have HC3 := Lib.hid (HC2.out.trans (hc3.sub (T' := stT gs vo) (by simp)))
      have t0' := (HT2.out.keep hc3).cell 0
      clear hc3 t0 t1 t2 u0 u1 u2 c0
      go_wp2_with fail
      refine (ends_pop S3.out 93 (by decide)).mono ?_
      rintro e w4 ⟨vo4, rfl, hS4, hc4, _⟩
      have HSZ := Lib.hid HC3.out.size
      have HR1 := Lib.hid HR.out
      rcases hE : rEnds h ys x 93 with ⟨b4, h4, bs4⟩
      rw [hE] at hS4
      have HE := Lib.hid hE
      clear hE
      cases b4
      · have HP := Lib.hid (show TkPost gs B vo R W (.returned (.int .i64 14)) w4 from tk_no 14 (by decide) (by rw [HR.out, HE.out]) (HC3.out.trans hc4))
        clear hS4 hc4 t0'
        go_wp2_with fail
        go_ret
        exact HP.out
      · have HP := Lib.hid (show TkPost gs B vo R W (.returned (.int .i64 0)) w4 from tk_ok h4 vo4 bs4 (by rw [HR.out, HE.out]) hS4 (HC3.out.trans hc4))
        clear hS4 hc4 t0'
        go_wp2_with fail
        go_ret
        exact HP.out
    · have qh : decide (h < 0) = false := by simpa using hh
      clear hh
      go_wp2_with fail
      refine (takes_any HF2.out ⟨93, tn, nm⟩).mono ?_
      rintro e w3 ⟨he3, hc3⟩
      rw [HTE.out] at he3
      subst he3
      have S3 := Lib.hid (S2.out.keep hc3)
      have HC3 := Lib.hid (HC2.out.trans (hc3.sub (T' := stT gs vo) (by simp)))
      have t0' := (HT2.out.keep hc3).cell 0
      clear hc3 t0 t1 t2 u0 u1 u2 c0
      go_wp2_with fail
      refine (ends_pop S3.out 93 (by decide)).mono ?_
      rintro e w4 ⟨vo4, rfl, hS4, hc4, _⟩
      have HSZ := Lib.hid HC3.out.size
      have HR1 := Lib.hid HR.out
      rcases hE : rEnds h ys x 93 with ⟨b4, h4, bs4⟩
      rw [hE] at hS4
      have HE := Lib.hid hE
      clear hE
      cases b4
      · have HP := Lib.hid (show TkPost gs B vo R W (.returned (.int .i64 14)) w4 from tk_no 14 (by decide) (by rw [HR.out, HE.out]) (HC3.out.trans hc4))
        clear hS4 hc4 t0'
        go_wp2_with fail
        go_ret
        exact HP.out
      · have HP := Lib.hid (show TkPost gs B vo R W (.returned (.int .i64 0)) w4 from tk_ok h4 vo4 bs4 (by rw [HR.out, HE.out]) hS4 (HC3.out.trans hc4))
        clear hS4 hc4 t0'
        go_wp2_with fail
        go_ret
        exact HP.out
end
end Go.Proofs.Ytafgpmempgoikaa
namespace Go.Proofs.Ytafgpmempgoikaa
open Go.RowKit
section
variable {W W' : World} {gs B : Nat} {h : Int} {vo : Value} {bs : List BkV} {A : Option Addr} {n c : Nat} {l : List FnV} {pages most : Int}
set_option maxHeartbeats 8000000 in
set_option maxRecDepth 100000 in
theorem token_other (s : St W gs B h vo bs) (hF : Fnr W A n c l) (t : TkV) (hne : ¬ isEnd t.sign) (hfew : bs.length < 1000) : Calls Try.prog 48 #[.pointer (some ⟨gs, 0, none⟩), unitV pages most A n c, .agg (tkC t).toArray] W (TkPost gs B vo (rTok l h bs t.sign t.name) W) := by
  unfold unitV
  obtain ⟨r, tn, nm⟩ := t
  simp only [tkC] at hne ⊢
  obtain ⟨R, hR⟩ : ∃ R, R = rTok l h bs r nm := ⟨_, rfl⟩
  rw [← hR]
  unfold rTok at hR
  rw [if_neg hne] at hR
  have HR := Lib.hid hR
  have S := Lib.hid s
  have HF := Lib.hid hF
  have hgs := s.rec_.lt
  obtain ⟨hh0, hh1⟩ := s.hr
  obtain ⟨hb0, hb1⟩ := base_in s
  generalize hbo : baseOf bs = b0 at hb0 hb1
  have HBO := Lib.hid hbo
  have q58 : (r == 58) = false := by simp; intro e; exact hne (.inl e)
  have q59 : (r == 59) = false := by simp; intro e; exact hne (.inr (.inl e))
  have q93 : (r == 93) = false := by simp; intro e; exact hne (.inr (.inr e))
  clear s hF hbo hne hR
  go_enter Try.func48, Try.ntmps48
  go_upto_region 1 with fail
  have hN := Whole.new W 26 [.int .i64 pages, .int .i64 most, .slice A n c]
  have hal : Chg [] W (W.alloc (.cells #[.int .i64 pages, .int .i64 most, .slice A n c] 26)) := (Chg.refl [] W).alloc _
  have hsz : (W.alloc (.cells #[.int .i64 pages, .int .i64 most, .slice A n c] 26)).heap.size = W.heap.size + 1 := Array.size_push _
  obtain ⟨w1, hw1⟩ : ∃ w1, w1 = W.alloc (.cells #[.int .i64 pages, .int .i64 most, .slice A n c] 26) := ⟨_, rfl⟩
  rw [← hw1] at hN hal hsz ⊢
  have hN2 := Whole.new w1 42 [.int .i32 r, .int .i64 tn, .int .i32 nm]
  have hal2 : Chg [] w1 (w1.alloc (.cells #[.int .i32 r, .int .i64 tn, .int .i32 nm] 42)) := (Chg.refl [] w1).alloc _
  rw [hsz] at hN2
  have hU2 := hN.keep hal2
  have hc := hal.trans hal2
  generalize w1.alloc (.cells #[.int .i32 r, .int .i64 tn, .int .i32 nm] 42) = w2 at hN2 hU2 hc ⊢
  have HF2 := Lib.hid (HF.out.keep hc)
  have S2 := Lib.hid (S.out.keep hc)
  have hgg := hgs
  generalize W.heap.size = g at hU2 hN2 hgg ⊢
  have HC2 := Lib.hid (hc.sub (T' := stT gs vo) (by simp))
  have u0 := hU2.cell 0
  have u1 := hU2.cell 1
  have u2 := hU2.cell 2
  have t0 := hN2.cell 0
  have t1 := hN2.cell 1
  have t2 := hN2.cell 2
  have HT2 := Lib.hid hN2
  have c0 := S2.out.rec_.cell 0
  clear hN hal hsz hw1 hN2 hal2 hU2 hc
  by_cases hh : h < 0
  · have qh : decide (h < 0) = true := by simpa using hh
    have HH := Lib.hid hh
    clear hh
    have HP := Lib.hid (show TkPost gs B vo R W (.returned (.int .i64 15)) w2 from tk_no 15 (by decide) (by rw [HR.out, if_pos HH.out]) HC2.out)
    go_wp2_with fail
    go_ret
    exact HP.out
  · have qh : decide (h < 0) = false := by simpa using hh
    have HR1 := Lib.hid (HR.out.trans (if_neg hh))
    rcases hT : rTakes l r nm with ⟨p, g, ok⟩
    have hin := rTakes_in l r nm
    rw [hT] at hin
    obtain ⟨hp0, hp1, hg0, hg1⟩ := hin
    simp only at hp0 hp1 hg0 hg1
    have HT := Lib.hid hT
    clear hT
    go_wp2_with fail
    refine (takes_any HF2.out ⟨r, tn, nm⟩).mono ?_
    rintro e w3 ⟨he3, hc3⟩
    rw [show rTakes l (TkV.mk r tn nm).sign (TkV.mk r tn nm).name = (p, g, ok) from HT.out] at he3
    subst he3
    have S3 := Lib.hid (S2.out.keep hc3)
    have HF3 := Lib.hid (HF2.out.keep hc3)
    have HC3 := Lib.hid (HC2.out.trans (hc3.sub (T' := stT gs vo) (by simp)))
    have HT3 := Lib.hid (HT2.out.keep hc3)
    clear hc3 t0 t1 t2 u0 u1 u2 c0
    cases ok
    · skip
      have HP := Lib.hid (show TkPost gs B vo R W (.returned (.int .i64 22)) w3 from tk_no 22 (by decide) (by rw [HR1.out, HT.out]) HC3.out)
      go_wp2_with fail
      go_ret
      exact HP.out
    · have HR2 := Lib.hid (show R = (if h - b0 < p ∨ 64 < h - p + g then ((14, h, bs) : Int × Int × List BkV)
          else if r = 63 ∨ r = 91 then (0, h - p + g, bs ++ [⟨r, h - p + g, 0, false⟩])
          else if r = 126 then (match rLeave (h - p + g) bs bs.length with | (true, h', bs') => (0, h', bs') | (false, h', bs') => (14, h', bs'))
          else if r = 161 then (0, -1, bs)
          else (0, h - p + g, bs)) from by rw [HR1.out, HT.out, ← HBO.out] <;> rfl)
      go_upto_region 11 with fail
      have c3 := S3.out.rec_.cell 0
      have HDR := Lib.hid ((Chg.refl [] w3).drew)
      have HCB := Lib.hid (fun (V : World) (hV : Chg [] w3 V) => show Calls Try.prog 56 #[.pointer (some ⟨gs, 0, none⟩)] V (BasePost b0 V) from by rw [← HBO.out]; exact base_any (S3.out.keep hV))
      by_cases hlow : h - b0 < p
      · have qlow : decide (h - b0 < p) = true := by simpa using hlow
        have HRE := Lib.hid (HR2.out.trans (if_pos (.inl hlow)))
        clear hlow
        refine wp_flow (by kernel_rfl) plainT plainT_ok (by kernel_rfl) ?_
        refine flow_move_out plainT_ok rfl rfl rfl ?_
        refine flow1 (r := .pointer (some ⟨gs, 0, none⟩)) plainT_ok rfl (.inn rfl) rfl (fun ev W he e1 => by go_simp) ?_
        refine flow1 (r := .pointer (some ⟨gs, 0, none⟩)) plainT_ok rfl (.inn rfl) rfl (fun ev W he e1 => by go_simp) ?_
        refine flow1h (r := .int .i64 h) plainT_ok rfl (.inn rfl) rfl (fun ev W he hW e1 => by have c0 := cell_keep (by simpa using c3 : w3.cell? ⟨gs, 0, none⟩ = some (.int .i64 h)) (HDR.out.trans (show Chg [] w3.drew _ from hW)); go_simp) ?_
        refine flow_move_out plainT_ok rfl rfl rfl ?_
        refine flow_callv (.int .i64 b0) (by kernel_rfl) rfl (.cons (.inn rfl) .nil) (fun V hV => (HCB.out V (HDR.out.trans (show Chg [] w3.drew _ from hV))).mono fun e w' hb => ⟨hb.1, by rw [plain_by]; exact hb.2⟩) ?_
        refine flow2 (r := .int .i64 (h - b0)) plainT_ok rfl (.inn rfl) (.inn rfl) rfl (fun ev W he e1 e2 => by have hw : IntKind.i64.wrap (h - b0) = h - b0 := IntWalk.i64_in _ (by omega); go_simp) ?_
        refine flow_move_out plainT_ok rfl rfl rfl ?_
        refine flow2 (r := .bool true) plainT_ok rfl (.inn rfl) (.inn rfl) rfl (fun ev W he e1 e2 => by go_simp) ?_
        refine flow_move plainT_ok rfl (keeps_isV _) (.inr (keeps_isV _)) rfl ?_
        refine flow_skip rfl ?_
        refine flow_skip rfl ?_
        refine flow_skip rfl ?_
        refine flow_skip rfl ?_
        refine flow_skip rfl ?_
        refine flow_skip rfl ?_
        refine flow_skip rfl ?_
        refine flow_skip rfl ?_
        refine flow_skip rfl ?_
        refine flow_or_true plainT_ok rfl rfl rfl ?_
        intro vs V hV hG
        obtain e67 : vs 67 = .bool true := hG 67 _ rfl (by kernel_rfl)
        have hV' : Chg [] w3 V := HDR.out.trans (show Chg [] w3.drew _ from hV)
        have S4 := Lib.hid (S3.out.keep hV')
        have HF4 := Lib.hid (HF3.out.keep hV')
        have HC4 := Lib.hid (HC3.out.trans (hV'.sub (T' := stT gs vo) (by simp)))
        have HT4 := Lib.hid (HT3.out.keep hV')
        simp only [putAll, Act.put, List.setIfInBounds_toArray, List.set_cons_zero, List.set_cons_succ, e67]
        clear hG hV hV' e67 c3 HCB
        have HP := Lib.hid (show TkPost gs B vo R W (.returned (.int .i64 14)) V from tk_no 14 (by decide) (by rw [HRE.out]) HC4.out)
        go_wp2_with fail
        go_ret
        exact HP.out
      · have qlow : decide (h - b0 < p) = false := by simpa using hlow
        by_cases hbig : 64 < h - p + g
        · have qbig : decide (64 < h - p + g) = true := by simpa using hbig
          have HRE := Lib.hid (HR2.out.trans (if_pos (.inr hbig)))
          refine wp_flow (by kernel_rfl) plainT plainT_ok (by kernel_rfl) ?_
          refine flow_move_out plainT_ok rfl rfl rfl ?_
          refine flow1 (r := .pointer (some ⟨gs, 0, none⟩)) plainT_ok rfl (.inn rfl) rfl (fun ev W he e1 => by go_simp) ?_
          refine flow1 (r := .pointer (some ⟨gs, 0, none⟩)) plainT_ok rfl (.inn rfl) rfl (fun ev W he e1 => by go_simp) ?_
          refine flow1h (r := .int .i64 h) plainT_ok rfl (.inn rfl) rfl (fun ev W he hW e1 => by have c0 := cell_keep (by simpa using c3 : w3.cell? ⟨gs, 0, none⟩ = some (.int .i64 h)) (HDR.out.trans (show Chg [] w3.drew _ from hW)); go_simp) ?_
          refine flow_move_out plainT_ok rfl rfl rfl ?_
          refine flow_callv (.int .i64 b0) (by kernel_rfl) rfl (.cons (.inn rfl) .nil) (fun V hV => (HCB.out V (HDR.out.trans (show Chg [] w3.drew _ from hV))).mono fun e w' hb => ⟨hb.1, by rw [plain_by]; exact hb.2⟩) ?_
          refine flow2 (r := .int .i64 (h - b0)) plainT_ok rfl (.inn rfl) (.inn rfl) rfl (fun ev W he e1 e2 => by have hw : IntKind.i64.wrap (h - b0) = h - b0 := IntWalk.i64_in _ (by omega); go_simp) ?_
          refine flow_move_out plainT_ok rfl rfl rfl ?_
          refine flow2 (r := .bool false) plainT_ok rfl (.inn rfl) (.inn rfl) rfl (fun ev W he e1 e2 => by go_simp) ?_
          refine flow_move plainT_ok rfl (keeps_isV _) (.inr (keeps_isV _)) rfl ?_
          refine flow_move_out plainT_ok rfl rfl rfl ?_
          refine flow1 (r := .pointer (some ⟨gs, 0, none⟩)) plainT_ok rfl (.inn rfl) rfl (fun ev W he e1 => by go_simp) ?_
          refine flow1 (r := .pointer (some ⟨gs, 0, none⟩)) plainT_ok rfl (.inn rfl) rfl (fun ev W he e1 => by go_simp) ?_
          refine flow1h (r := .int .i64 h) plainT_ok rfl (.inn rfl) rfl (fun ev W he hW e1 => by have c0 := cell_keep (by simpa using c3 : w3.cell? ⟨gs, 0, none⟩ = some (.int .i64 h)) (HDR.out.trans (show Chg [] w3.drew _ from hW)); go_simp) ?_
          refine flow_move_out plainT_ok rfl rfl rfl ?_
          refine flow2 (r := .int .i64 (h - p)) plainT_ok rfl (.inn rfl) (.inn rfl) rfl (fun ev W he e1 e2 => by have hw : IntKind.i64.wrap (h - p) = h - p := IntWalk.i64_in _ (by omega); go_simp) ?_
          refine flow_move_out plainT_ok rfl rfl rfl ?_
          refine flow2 (r := .int .i64 (h - p + g)) plainT_ok rfl (.inn rfl) (.inn rfl) rfl (fun ev W he e1 e2 => by have hw : IntKind.i64.wrap (h - p + g) = h - p + g := IntWalk.i64_in _ (by omega); go_simp) ?_
          refine flow2 (r := .bool true) plainT_ok rfl (.inn rfl) (.const _) rfl (fun ev W he e1 e2 => by go_simp) ?_
          refine flow_or_false plainT_ok rfl rfl rfl ?_
          intro vs V hV hG
          obtain e67 : vs 67 = .bool true := hG 67 _ rfl (by kernel_rfl)
          have hV' : Chg [] w3 V := HDR.out.trans (show Chg [] w3.drew _ from hV)
          have S4 := Lib.hid (S3.out.keep hV')
          have HF4 := Lib.hid (HF3.out.keep hV')
          have HC4 := Lib.hid (HC3.out.trans (hV'.sub (T' := stT gs vo) (by simp)))
          have HT4 := Lib.hid (HT3.out.keep hV')
          simp only [putAll, Act.put, List.setIfInBounds_toArray, List.set_cons_zero, List.set_cons_succ, e67]
          clear hG hV hV' e67 c3 HCB
          have HP := Lib.hid (show TkPost gs B vo R W (.returned (.int .i64 14)) V from tk_no 14 (by decide) (by rw [HRE.out]) HC4.out)
          go_wp2_with fail
          go_ret
          exact HP.out
        · have qbig : decide (64 < h - p + g) = false := by simpa using hbig
          have HR3 := Lib.hid (HR2.out.trans (if_neg (by omega)))
          have hlo : 0 ≤ h - p + g := by omega
          have hhi : h - p + g ≤ 64 := by omega
          have hwa : IntKind.i64.wrap (h - p) = h - p := IntWalk.i64_in _ (by omega)
          have hwb : IntKind.i64.wrap (h - p + g) = h - p + g := IntWalk.i64_in _ (by omega)
          refine wp_flow (by kernel_rfl) plainT plainT_ok (by kernel_rfl) ?_
          refine flow_move_out plainT_ok rfl rfl rfl ?_
          refine flow1 (r := .pointer (some ⟨gs, 0, none⟩)) plainT_ok rfl (.inn rfl) rfl (fun ev W he e1 => by go_simp) ?_
          refine flow1 (r := .pointer (some ⟨gs, 0, none⟩)) plainT_ok rfl (.inn rfl) rfl (fun ev W he e1 => by go_simp) ?_
          refine flow1h (r := .int .i64 h) plainT_ok rfl (.inn rfl) rfl (fun ev W he hW e1 => by have c0 := cell_keep (by simpa using c3 : w3.cell? ⟨gs, 0, none⟩ = some (.int .i64 h)) (HDR.out.trans (show Chg [] w3.drew _ from hW)); go_simp) ?_
          refine flow_move_out plainT_ok rfl rfl rfl ?_
          refine flow_callv (.int .i64 b0) (by kernel_rfl) rfl (.cons (.inn rfl) .nil) (fun V hV => (HCB.out V (HDR.out.trans (show Chg [] w3.drew _ from hV))).mono fun e w' hb => ⟨hb.1, by rw [plain_by]; exact hb.2⟩) ?_
          refine flow2 (r := .int .i64 (h - b0)) plainT_ok rfl (.inn rfl) (.inn rfl) rfl (fun ev W he e1 e2 => by have hw : IntKind.i64.wrap (h - b0) = h - b0 := IntWalk.i64_in _ (by omega); go_simp) ?_
          refine flow_move_out plainT_ok rfl rfl rfl ?_
          refine flow2 (r := .bool false) plainT_ok rfl (.inn rfl) (.inn rfl) rfl (fun ev W he e1 e2 => by go_simp) ?_
          refine flow_move plainT_ok rfl (keeps_isV _) (.inr (keeps_isV _)) rfl ?_
          refine flow_move_out plainT_ok rfl rfl rfl ?_
          refine flow1 (r := .pointer (some ⟨gs, 0, none⟩)) plainT_ok rfl (.inn rfl) rfl (fun ev W he e1 => by go_simp) ?_
          refine flow1 (r := .pointer (some ⟨gs, 0, none⟩)) plainT_ok rfl (.inn rfl) rfl (fun ev W he e1 => by go_simp) ?_
          refine flow1h (r := .int .i64 h) plainT_ok rfl (.inn rfl) rfl (fun ev W he hW e1 => by have c0 := cell_keep (by simpa using c3 : w3.cell? ⟨gs, 0, none⟩ = some (.int .i64 h)) (HDR.out.trans (show Chg [] w3.drew _ from hW)); go_simp) ?_
          refine flow_move_out plainT_ok rfl rfl rfl ?_
          refine flow2 (r := .int .i64 (h - p)) plainT_ok rfl (.inn rfl) (.inn rfl) rfl (fun ev W he e1 e2 => by have hw : IntKind.i64.wrap (h - p) = h - p := IntWalk.i64_in _ (by omega); go_simp) ?_
          refine flow_move_out plainT_ok rfl rfl rfl ?_
          refine flow2 (r := .int .i64 (h - p + g)) plainT_ok rfl (.inn rfl) (.inn rfl) rfl (fun ev W he e1 e2 => by have hw : IntKind.i64.wrap (h - p + g) = h - p + g := IntWalk.i64_in _ (by omega); go_simp) ?_
          refine flow2 (r := .bool false) plainT_ok rfl (.inn rfl) (.const _) rfl (fun ev W he e1 e2 => by go_simp) ?_
          refine flow_or_false plainT_ok rfl rfl rfl ?_
          intro vs V hV hG
          obtain e67 : vs 67 = .bool false := hG 67 _ rfl (by kernel_rfl)
          have hV' : Chg [] w3 V := HDR.out.trans (show Chg [] w3.drew _ from hV)
          have S4 := Lib.hid (S3.out.keep hV')
          have HF4 := Lib.hid (HF3.out.keep hV')
          have HC4 := Lib.hid (HC3.out.trans (hV'.sub (T' := stT gs vo) (by simp)))
          have HT4 := Lib.hid (HT3.out.keep hV')
          simp only [putAll, Act.put, List.setIfInBounds_toArray, List.set_cons_zero, List.set_cons_succ, e67]
          clear hG hV hV' e67 c3 HCB
          have c0 := S4.out.rec_.cell 0
          have f0 := S4.out.rec_.frozen 0
          go_upto_region 14 with fail
          generalize h - p + g = h5 at *
          have S5 := Lib.hid (S4.out.high h5 (by omega))
          have HC5 := Lib.hid (HC4.out.setCell (p := ⟨gs, 0, none⟩) (fun _ => st_in gs vo) (.int .i64 h5))
          have HT5 := Lib.hid (HT4.out.far (p := ⟨gs, 0, none⟩) (by simp only; omega) (.int .i64 h5))
          generalize V.setCell ⟨gs, 0, none⟩ (.int .i64 h5) = w5 at S5 HC5 HT5 ⊢
          clear c0 f0 hlow hbig hwa hwb qlow qbig HR2 HR1
          have t0 := HT5.out.cell 0
          have c0 := S5.out.rec_.cell 0
          have f0 := S5.out.rec_.frozen 0
          by_cases hop : r = 63 ∨ r = 91
          · have HRE := Lib.hid (HR3.out.trans (if_pos hop))
            obtain ⟨i0, hi0, hz0, hz1, hz2⟩ := info_parts info_block
            obtain ⟨A5, k5, hvo, hle, hcm, _⟩ := S5.out.slice
            have c1 := S5.out.rec_.cell 1
            rw [hvo] at c1
            have HV := Lib.hid hvo
            have hBW : B ≤ w5.heap.size := S5.out.room
            have HOW := Lib.hid (show w5.ownsRow B 98 4 (.slice A5 bs.length k5) bs.length (bkCs bs) from by rw [← hvo]; exact S5.out.own)
            have HBL := Lib.hid (show bs.length + 1 ≤ 1000 from hfew)
            clear hvo
            obtain ⟨m, hm⟩ : ∃ m, m = bs.length := ⟨_, rfl⟩
            rw [← hm] at c1 hle hfew HOW HV
            have HM := Lib.hid hm
            clear hm
            rcases hop with rfl | rfl
            · have q1 : (w5.alloc (.cells #[.int .i32 63, .int .i64 h5, .int .i64 0, .bool false] 98)).cell? ⟨gs, 1, none⟩ = some (.slice A5 m k5) := cell_keep (by simpa using c1) ((Chg.refl [] w5).alloc _)
              go_upto_region 17 with fail
              go_region_law (
                (refine step_append_n rfl (.tmp 88) (.tmp 96) 83 rfl B 98 i0 _ 4 32 Try.underlying83 hi0 hz0 hz1 hz2 rfl (by decide) (.slice A5 m k5) m (bkCs bs) rfl (rown_keep HOW.out (((Chg.refl [] w5).alloc _).drew)) ⟨w5.heap.size, 0, none⟩ 1 1 [.int .i32 63, .int .i64 h5, .int .i64 0, .bool false] rfl rfl (cells_page w5 _ _) (by simp [Value.oneCell']) (by unfold maxLen; omega) (by omega) (by simp; omega) ?_
                 intro v' w' ho hg
                 obtain ⟨A6, k6, rfl, _⟩ := rown_slice ho
                 have HO := Lib.hid ho
                 have HG := Lib.hid hg
                 have HR6 := Lib.hid (whole_grown (S5.out.rec_.keep (((Chg.refl [] w5).alloc (.cells #[.int .i32 63, .int .i64 h5, .int .i64 0, .bool false] 98)).drew)) (rown_keep S5.out.own (((Chg.refl [] w5).alloc (.cells #[.int .i32 63, .int .i64 h5, .int .i64 0, .bool false] 98)).drew)) (by decide) (by rw [HV.out]; exact hg))
                 have f1 := HR6.out.frozen 1
                 have k1 := HR6.out.cell 1
                 clear ho hg))
              all_goals
                have S6 := Lib.hid (S5.out.push (x := ⟨63, h5, 0, false⟩) (((Chg.refl [] w5).alloc (.cells #[.int .i32 63, .int .i64 h5, .int .i64 0, .bool false] 98)).drew) (by rw [← HM.out]; exact HO.out) (by rw [HV.out]; exact HG.out) ⟨by omega, by omega, by simp, by simp⟩ HBL.out)
                have HC6 := Lib.hid ((show Chg (stT gs vo) W _ from Chg.of_push HC5.out S5.out HV.out HG.out).setCell (p := ⟨gs, 1, none⟩) (fun _ => st_in gs vo) (.slice A6 (m + 1) k6))
                have HP := Lib.hid (show TkPost gs B vo R W (.returned (.int .i64 0)) _ from tk_ok h5 (.slice A6 (m + 1) k6) _ (HRE.out) S6.out HC6.out)
                go_wp2_with fail
                go_ret
                exact HP.out
            · have q1 : (w5.alloc (.cells #[.int .i32 91, .int .i64 h5, .int .i64 0, .bool false] 98)).cell? ⟨gs, 1, none⟩ = some (.slice A5 m k5) := cell_keep (by simpa using c1) ((Chg.refl [] w5).alloc _)
              go_upto_region 17 with fail
              go_region_law (
                (refine step_append_n rfl (.tmp 88) (.tmp 96) 83 rfl B 98 i0 _ 4 32 Try.underlying83 hi0 hz0 hz1 hz2 rfl (by decide) (.slice A5 m k5) m (bkCs bs) rfl (rown_keep HOW.out (((Chg.refl [] w5).alloc _).drew)) ⟨w5.heap.size, 0, none⟩ 1 1 [.int .i32 91, .int .i64 h5, .int .i64 0, .bool false] rfl rfl (cells_page w5 _ _) (by simp [Value.oneCell']) (by unfold maxLen; omega) (by omega) (by simp; omega) ?_
                 intro v' w' ho hg
                 obtain ⟨A6, k6, rfl, _⟩ := rown_slice ho
                 have HO := Lib.hid ho
                 have HG := Lib.hid hg
                 have HR6 := Lib.hid (whole_grown (S5.out.rec_.keep (((Chg.refl [] w5).alloc (.cells #[.int .i32 91, .int .i64 h5, .int .i64 0, .bool false] 98)).drew)) (rown_keep S5.out.own (((Chg.refl [] w5).alloc (.cells #[.int .i32 91, .int .i64 h5, .int .i64 0, .bool false] 98)).drew)) (by decide) (by rw [HV.out]; exact hg))
                 have f1 := HR6.out.frozen 1
                 have k1 := HR6.out.cell 1
                 clear ho hg))
              all_goals
                have S6 := Lib.hid (S5.out.push (x := ⟨91, h5, 0, false⟩) (((Chg.refl [] w5).alloc (.cells #[.int .i32 91, .int .i64 h5, .int .i64 0, .bool false] 98)).drew) (by rw [← HM.out]; exact HO.out) (by rw [HV.out]; exact HG.out) ⟨by omega, by omega, by simp, by simp⟩ HBL.out)
                have HC6 := Lib.hid ((show Chg (stT gs vo) W _ from Chg.of_push HC5.out S5.out HV.out HG.out).setCell (p := ⟨gs, 1, none⟩) (fun _ => st_in gs vo) (.slice A6 (m + 1) k6))
                have HP := Lib.hid (show TkPost gs B vo R W (.returned (.int .i64 0)) _ from tk_ok h5 (.slice A6 (m + 1) k6) _ (HRE.out) S6.out HC6.out)
                go_wp2_with fail
                go_ret
                exact HP.out
          · have HR4 := Lib.hid (HR3.out.trans (if_neg hop))
            have q63 : (r == 63) = false := by simp; intro e; exact hop (.inl e)
            have q91 : (r == 91) = false := by simp; intro e; exact hop (.inr e)
            clear hop
            by_cases h126 : r = 126
            · have q126 : (r == 126) = true := by simpa using h126
              have HRE := Lib.hid (HR4.out.trans (if_pos h126))
              clear h126
              go_wp2_with fail
              refine (leave_any S5.out).mono ?_
              rintro e w6 ⟨vo6, rfl, hS6, hc6, _⟩
              rcases hE : rLeave h5 bs bs.length with ⟨b6, h6, bs6⟩
              rw [hE] at hS6
              have HE := Lib.hid hE
              clear hE c0 f0 t0
              cases b6
              · have HP := Lib.hid (show TkPost gs B vo R W (.returned (.int .i64 14)) w6 from tk_no 14 (by decide) (by rw [HRE.out, HE.out]) (HC5.out.trans hc6))
                clear hS6 hc6
                go_wp2_with fail
                go_ret
                exact HP.out
              · have HP := Lib.hid (show TkPost gs B vo R W (.returned (.int .i64 0)) w6 from tk_ok h6 vo6 bs6 (by rw [HRE.out, HE.out]) hS6 (HC5.out.trans hc6))
                clear hS6 hc6
                go_wp2_with fail
                go_ret
                exact HP.out
            · have q126 : (r == 126) = false := by simpa using h126
              have HR5 := Lib.hid (HR4.out.trans (if_neg h126))
              clear h126
              by_cases h161 : r = 161
              · have q161 : (r == 161) = true := by simpa using h161
                have S6 := Lib.hid (S5.out.high (-1) (by omega))
                have HC6 := Lib.hid (HC5.out.setCell (p := ⟨gs, 0, none⟩) (fun _ => st_in gs vo) (.int .i64 (-1)))
                have HP := Lib.hid (show TkPost gs B vo R W (.returned (.int .i64 0)) _ from tk_ok (-1) vo bs (HR5.out.trans (if_pos h161)) S6.out HC6.out)
                clear h161
                go_wp2_with fail
                go_ret
                exact HP.out
              · have q161 : (r == 161) = false := by simpa using h161
                have HP := Lib.hid (show TkPost gs B vo R W (.returned (.int .i64 0)) w5 from tk_ok h5 vo bs (HR5.out.trans (if_neg h161)) S5.out HC5.out)
                clear h161
                go_wp2_with fail
                go_ret
                exact HP.out
end
end Go.Proofs.Ytafgpmempgoikaa
namespace Go.Proofs.Ytafgpmempgoikaa
open Go.RowKit
section
variable {W : World} {gm gt B n : Nat} {m : NSt} {vo : Value}
theorem alloc_away {W : World} {g t : Nat} {cs : List Value} (h : Whole W g t cs) (o : Obj) : Whole (W.alloc o) g t cs := h.keep ((Chg.refl [] W).alloc o)
set_option maxHeartbeats 1000000 in
theorem inner_none (h : Mt W gm gt B n m vo []) : Calls Try.prog 71 #[.pointer (some ⟨gm, 0, none⟩)] W fun e w' =>
    e = .returned (.tuple #[.agg #[.bool false, .int .i64 0, .int .i64 0, .slice none 0 0], .bool false]) ∧ Chg [] W w' := by
  obtain ⟨A, c, rfl, _, _, _⟩ := rown_slice h.own
  have hr := h.rec_
  simp only [List.length_nil] at hr
  clear h
  go_enter Try.func71, Try.ntmps71
  go_upto_region 1 with fail
  have hal : Chg [] W (W.alloc (.cells #[.bool false, .int .i64 0, .int .i64 0, .slice none 0 0] 101)) := (Chg.refl [] W).alloc _
  have c2 := (hr.keep hal).cell 2
  have hN : Whole (W.alloc (.cells #[.bool false, .int .i64 0, .int .i64 0, .slice none 0 0] 101)) W.heap.size 101 [.bool false, .int .i64 0, .int .i64 0, .slice none 0 0] := Whole.new W 101 [.bool false, .int .i64 0, .int .i64 0, .slice none 0 0]
  obtain ⟨g9, hg9⟩ : ∃ g, g = W.heap.size := ⟨_, rfl⟩
  rw [← hg9] at hN ⊢
  generalize W.alloc (.cells #[.bool false, .int .i64 0, .int .i64 0, .slice none 0 0] 101) = w1 at hal c2 hN ⊢
  have f0 := hN.frozen 0
  have f1 := hN.frozen 1
  have f2 := hN.frozen 2
  have f3 := hN.frozen 3
  have k0 := hN.cell 0
  have k1 := hN.cell 1
  have k2 := hN.cell 2
  have k3 := hN.cell 3
  have HC := Lib.hid (show Chg [] W (w1) from hal)
  have HN := Lib.hid hN
  have HG := Lib.hid hg9
  clear hal hN hg9 hr
  go_wp2_with fail
  have hz := (((HN.out.set_ 0 (.bool false)).set_ 1 (.int .i64 0)).set_ 2 (.int .i64 0)).set_ 3 (.slice none 0 0)
  simp only [List.set_cons_zero, List.set_cons_succ] at hz
  have HCz := Lib.hid (((((HC.out.setCell (p := ⟨g9, 0, none⟩) (fun h => absurd h (by have := HG.out; simp only; omega)) (.bool false)).setCell (p := ⟨g9, 1, none⟩) (fun h => absurd h (by have := HG.out; simp only; omega)) (.int .i64 0)).setCell (p := ⟨g9, 2, none⟩) (fun h => absurd h (by have := HG.out; simp only; omega)) (.int .i64 0)).setCell (p := ⟨g9, 3, none⟩) (fun h => absurd h (by have := HG.out; simp only; omega)) (.slice none 0 0)))
  generalize (((w1.setCell ⟨g9, 0, none⟩ (.bool false)).setCell ⟨g9, 1, none⟩ (.int .i64 0)).setCell ⟨g9, 2, none⟩ (.int .i64 0)).setCell ⟨g9, 3, none⟩ (.slice none 0 0) = w9 at hz HCz ⊢
  clear k0 k1 k2 k3 f0 f1 f2 f3 c2
  have k0 := hz.cell 0
  have k1 := hz.cell 1
  have k2 := hz.cell 2
  have k3 := hz.cell 3
  exact bodyPost_ret (v := .tuple #[.agg #[.bool false, .int .i64 0, .int .i64 0, .slice none 0 0], .bool false]) (by simp [results, Try.results71, go_sem, k0, k1, k2, k3]) rfl ⟨rfl, HCz.out⟩
set_option maxHeartbeats 2000000 in
theorem inner_some {ys : List PV} {x : PV} (h : Mt W gm gt B n m vo (ys ++ [x])) : Calls Try.prog 71 #[.pointer (some ⟨gm, 0, none⟩)] W fun e w' =>
    e = .returned (.tuple #[.agg #[.bool x.p.loop, .int .i64 (x.p.at_ : Int), .int .i64 (x.p.waits : Int), x.v], .bool true]) ∧ Chg [] W w' := by
  obtain ⟨px, vx⟩ := x
  obtain ⟨Av, cv, e, _⟩ := own_slice (h.left ⟨px, vx⟩ (by simp))
  simp only at e
  subst e
  have hl : (ys ++ [(⟨px, .slice Av px.left.length cv⟩ : PV)]).length = ys.length + 1 := by simp
  obtain ⟨A, c, rfl, hc1, hc2, _⟩ := rown_slice h.own
  have hr := h.rec_
  rw [hl] at hr hc1
  have hf := h.few
  rw [hl] at hf
  have hal : Chg [] W (W.alloc (.cells #[.bool false, .int .i64 0, .int .i64 0, .slice none 0 0] 101)) := (Chg.refl [] W).alloc _
  have hg : ∀ j u, (pvC ⟨px, .slice Av px.left.length cv⟩)[j]? = some u → j < 4 → (pvCs (ys ++ [⟨px, .slice Av px.left.length cv⟩]))[ys.length * 4 + j]? = some u := fun j u hu hj => (pvCs_get (ys ++ [⟨px, .slice Av px.left.length cv⟩]) ys.length ⟨px, .slice Av px.left.length cv⟩ j (by simp) hj).trans hu
  obtain ⟨g, rfl, j0⟩ := rown_cell (rown_keep h.own hal) rfl (hg 0 _ rfl (by omega))
  obtain ⟨g', e, j1⟩ := rown_cell (rown_keep h.own hal) rfl (hg 1 _ rfl (by omega))
  injection e with e; injection e with e; subst e
  obtain ⟨g', e, j2⟩ := rown_cell (rown_keep h.own hal) rfl (hg 2 _ rfl (by omega))
  injection e with e; injection e with e; subst e
  obtain ⟨g', e, j3⟩ := rown_cell (rown_keep h.own hal) rfl (hg 3 _ rfl (by omega))
  injection e with e; injection e with e; subst e
  generalize ys.length = q at *
  clear hg hl h
  rw [Nat.add_zero] at j0
  have hsub : IntKind.i64.wrap (((q + 1 : Nat) : Int) - 1) = (q : Int) := by rw [IntWalk.i64_in _ (by omega)]; omega
  have hne : (((q + 1 : Nat) : Int) == 0) = false := by simp; omega
  have hq0 : (0 : Int) ≤ (q : Int) := by omega
  have hq1 : (q : Int) < ((q + 1 : Nat) : Int) := by omega
  go_enter Try.func71, Try.ntmps71
  go_upto_region 1 with fail
  have c2 := (hr.keep hal).cell 2
  have hN : Whole (W.alloc (.cells #[.bool false, .int .i64 0, .int .i64 0, .slice none 0 0] 101)) W.heap.size 101 [.bool false, .int .i64 0, .int .i64 0, .slice none 0 0] := Whole.new W 101 [.bool false, .int .i64 0, .int .i64 0, .slice none 0 0]
  obtain ⟨g9, hg9⟩ : ∃ g, g = W.heap.size := ⟨_, rfl⟩
  rw [← hg9] at hN ⊢
  generalize W.alloc (.cells #[.bool false, .int .i64 0, .int .i64 0, .slice none 0 0] 101) = w1 at hal c2 hN j0 j1 j2 j3 ⊢
  have f0 := hN.frozen 0
  have f1 := hN.frozen 1
  have f2 := hN.frozen 2
  have f3 := hN.frozen 3
  have k0 := hN.cell 0
  have k1 := hN.cell 1
  have k2 := hN.cell 2
  have k3 := hN.cell 3
  have HC := Lib.hid (show Chg [] W (w1) from hal)
  have HN := Lib.hid hN
  have HG := Lib.hid hg9
  clear hal hN hg9 hr
  go_wp2_with fail
  go_region
  have hz := (((HN.out.set_ 0 (.bool px.loop)).set_ 1 (.int .i64 (px.at_ : Int))).set_ 2 (.int .i64 (px.waits : Int))).set_ 3 (.slice Av px.left.length cv)
  simp only [List.set_cons_zero, List.set_cons_succ] at hz
  have HCz := Lib.hid (((((HC.out.setCell (p := ⟨g9, 0, none⟩) (fun h => absurd h (by have := HG.out; simp only; omega)) (.bool px.loop)).setCell (p := ⟨g9, 1, none⟩) (fun h => absurd h (by have := HG.out; simp only; omega)) (.int .i64 (px.at_ : Int))).setCell (p := ⟨g9, 2, none⟩) (fun h => absurd h (by have := HG.out; simp only; omega)) (.int .i64 (px.waits : Int))).setCell (p := ⟨g9, 3, none⟩) (fun h => absurd h (by have := HG.out; simp only; omega)) (.slice Av px.left.length cv)))
  have hz2 := hz.drew
  have HCz2 := Lib.hid HCz.out.drew
  generalize ((((w1.setCell ⟨g9, 0, none⟩ (.bool px.loop)).setCell ⟨g9, 1, none⟩ (.int .i64 (px.at_ : Int))).setCell ⟨g9, 2, none⟩ (.int .i64 (px.waits : Int))).setCell ⟨g9, 3, none⟩ (.slice Av px.left.length cv)).drew = w9 at hz2 HCz2 ⊢
  clear k0 k1 k2 k3 f0 f1 f2 f3 c2 j0 j1 j2 j3 hz HCz
  have k0 := hz2.cell 0
  have k1 := hz2.cell 1
  have k2 := hz2.cell 2
  have k3 := hz2.cell 3
  go_wp2_with fail
  exact bodyPost_ret (v := .tuple #[.agg #[.bool px.loop, .int .i64 (px.at_ : Int), .int .i64 (px.waits : Int), .slice Av px.left.length cv], .bool true]) (by simp [results, Try.results71, go_sem, k0, k1, k2, k3]) rfl ⟨rfl, HCz2.out⟩
end
end Go.Proofs.Ytafgpmempgoikaa
namespace Go.Proofs.Ytafgpmempgoikaa
open Go.RowKit
section
variable {W : World} {gm gt B n : Nat} {m : NSt} {vo : Value}
set_option maxHeartbeats 2000000 in
theorem halve_none (h : Mt W gm gt B n m vo []) (i : Nat) : Calls Try.prog 58 #[.pointer (some ⟨gm, 0, none⟩), .int .i64 (i : Int)] W (BoolPost false W) := by
  go_enter Try.func58, Try.ntmps58
  go_wp2_with fail
  refine (inner_none h).mono ?_
  rintro e w1 ⟨rfl, hc1⟩
  have HC := Lib.hid (hc1.alloc (.cells #[.bool false, .int .i64 0, .int .i64 0, .slice none 0 0] 101))
  clear hc1 h
  go_wp2_with fail
  go_ret
  exact ⟨rfl, HC.out⟩
set_option maxHeartbeats 2000000 in
theorem halve_no {ys : List PV} {x : PV} (h : Mt W gm gt B n m vo (ys ++ [x])) (hn : x.p.loop = true ∨ x.p.waits ≠ x.p.at_) (i : Nat) : Calls Try.prog 58 #[.pointer (some ⟨gm, 0, none⟩), .int .i64 (i : Int)] W (BoolPost false W) := by
  have hin := inner_some h
  obtain ⟨⟨lp, at_, wt, lf⟩, vx⟩ := x
  obtain ⟨Av, cv, e, _⟩ := own_slice (h.left ⟨⟨lp, at_, wt, lf⟩, vx⟩ (by simp))
  simp only at e
  subst e
  simp only at hin hn
  clear h
  go_enter Try.func58, Try.ntmps58
  go_wp2_with fail
  refine hin.mono ?_
  rintro e w1 ⟨rfl, hc1⟩
  have HC := Lib.hid (hc1.alloc (.cells #[.bool lp, .int .i64 (at_ : Int), .int .i64 (wt : Int), .slice Av lf.length cv] 101))
  clear hc1 hin
  by_cases hl : lp = true
  · subst hl
    go_wp2_with fail
    go_ret
    exact ⟨rfl, HC.out⟩
  · obtain rfl : lp = false := by simpa using hl
    have hne : wt ≠ at_ := by simpa using hn
    have hd : ((wt : Int) != (at_ : Int)) = true := by simp; omega
    go_wp2_with fail
    go_ret
    exact ⟨rfl, HC.out⟩
def NextPost8 (gm gt B n : Nat) (m' : NSt) (W : World) (e : Ending) (w' : World) : Prop := e = .returned (.bool true) ∧ (∃ vo' xs', Mt w' gm gt B n m' vo' xs') ∧ Lo B [gm, gt] W w'
set_option maxHeartbeats 4000000 in
theorem halve_yes {ys : List PV} {x : PV} (h : Mt W gm gt B n m vo (ys ++ [x])) (hl : x.p.loop = false) (hw : x.p.waits = x.p.at_) (i : Nat) (hi : i < n) : Calls Try.prog 58 #[.pointer (some ⟨gm, 0, none⟩), .int .i64 (i : Int)] W
    (NextPost8 gm gt B n ⟨m.to.set x.p.at_ ((i : Int) + 1), m.deep, ⟨x.p.loop, x.p.at_, i, x.p.left⟩ :: (ys.map (·.p)).reverse⟩ W) := by
  have hin := inner_some h
  obtain ⟨⟨lp, at_, wt, lf⟩, vx⟩ := x
  obtain ⟨Av, cv, e, _⟩ := own_slice (h.left ⟨⟨lp, at_, wt, lf⟩, vx⟩ (by simp))
  simp only at e hl hw
  have hw' := hw.symm
  subst e hl hw'
  simp only at hin
  have H := Lib.hid h
  clear h
  go_enter Try.func58, Try.ntmps58
  go_wp2_with fail
  refine hin.mono ?_
  rintro e w1 ⟨rfl, hc1⟩
  clear hin
  go_upto_region 2 with fail
  have hal : Chg [] w1 (w1.alloc (.cells #[.bool false, .int .i64 (at_ : Int), .int .i64 (at_ : Int), .slice Av lf.length cv] 101)) := (Chg.refl [] w1).alloc _
  have hN : Whole (w1.alloc (.cells #[.bool false, .int .i64 (at_ : Int), .int .i64 (at_ : Int), .slice Av lf.length cv] 101)) w1.heap.size 101 [.bool false, .int .i64 (at_ : Int), .int .i64 (at_ : Int), .slice Av lf.length cv] := Whole.new w1 101 [.bool false, .int .i64 (at_ : Int), .int .i64 (at_ : Int), .slice Av lf.length cv]
  obtain ⟨g5, hg5⟩ : ∃ g, g = w1.heap.size := ⟨_, rfl⟩
  rw [← hg5] at hN ⊢
  generalize w1.alloc (.cells #[.bool false, .int .i64 (at_ : Int), .int .i64 (at_ : Int), .slice Av lf.length cv] 101) = w2 at hal hN ⊢
  have HC2 := Lib.hid (hc1.new hal)
  have H2 := Lib.hid (H.out.keep HC2.out)
  have HN := Lib.hid hN
  have HG := Lib.hid (show gm < w1.heap.size ∧ gt < w1.heap.size from ⟨(H.out.rec_.keep hc1).lt, (H.out.to_.keep hc1).lt⟩)
  have HG5 := Lib.hid hg5
  clear hal hN hc1 hg5
  have hlo := H2.out.lo
  have hat := (H2.out.wf _ (List.mem_append_right _ (List.mem_singleton_self _))).1
  simp only at hat
  obtain ⟨b0, b1, b2⟩ := (show w2.cell? ⟨g5, 0, none⟩ = some (.bool false) ∧ w2.cell? ⟨g5, 1, none⟩ = some (.int .i64 (at_ : Int)) ∧ w2.cell? ⟨g5, 2, none⟩ = some (.int .i64 (at_ : Int)) from ⟨HN.out.cell 0, HN.out.cell 1, HN.out.cell 2⟩)
  have c0 := H2.out.rec_.cell 0
  have t0 : w2.cell? ⟨gt, at_, none⟩ = some (.int .i64 (m.to[at_]'(by rw [H2.out.len]; exact hat))) := (H2.out.to_.cell at_).trans (nms_get _ _ (by rw [H2.out.len]; exact hat))
  have f0 := H2.out.to_.frozen at_
  have hat0 : (0 : Int) ≤ (at_ : Int) := by omega
  have hat1 : (at_ : Int) < (n : Int) := by omega
  have hbig := H2.out.big
  have hsum : IntKind.i64.wrap ((i : Int) + 1) = (i : Int) + 1 := IntWalk.i64_in _ (by omega)
  have hdn : ((at_ : Int) != (at_ : Int)) = false := by simp
  go_wp2_with fail
  go_region
  have H3 := Lib.hid ((H2.out.poke at_ ((i : Int) + 1)).keep (Chg.refl [] _).drew)
  have HL3 := Lib.hid (show Lo B [gm, gt] W (w2.setCell ⟨gt, at_, none⟩ (.int .i64 ((i : Int) + 1))).drew from Lo.of_chg ((HC2.out.sub (T' := [gt]) (by simp)).setCell (p := ⟨gt, at_, none⟩) (by simp) (.int .i64 ((i : Int) + 1))).drew (by simp))
  generalize (w2.setCell ⟨gt, at_, none⟩ (.int .i64 ((i : Int) + 1))).drew = w3 at H3 HL3 ⊢
  clear b0 b1 b2 c0 t0 f0 hsum hdn
  obtain ⟨A, c, rfl, hc1, hc2, _⟩ := rown_slice H3.out.own
  have hll : (ys ++ [(⟨⟨false, at_, at_, lf⟩, .slice Av lf.length cv⟩ : PV)]).length = ys.length + 1 := by simp
  have c2 := H3.out.rec_.cell 2
  obtain ⟨g, rfl, j2⟩ := rown_cell H3.out.own rfl ((pvCs_get _ ys.length _ 2 (by simp) (by omega)).trans (show (pvC ⟨⟨false, at_, at_, lf⟩, .slice Av lf.length cv⟩)[2]? = some (.int .i64 (at_ : Int)) from rfl))
  rw [hll] at c2
  have f2 : w3.frozen? ⟨g, ys.length * 4 + 2, none⟩ = false := rown_frozen H3.out.own
  have H4 := Lib.hid (H3.out.waits rfl i hi)
  have hfew := H3.out.few
  have HGB := Lib.hid (H3.out.own.lt g rfl).1
  rw [hll] at hfew
  obtain ⟨q, hq⟩ : ∃ q, q = ys.length := ⟨_, rfl⟩
  rw [← hq] at c2 j2 f2 hfew H4
  have hsub : IntKind.i64.wrap (((q + 1 : Nat) : Int) - 1) = (q : Int) := by rw [IntWalk.i64_in _ (by omega)]; omega
  have hq0 : (0 : Int) ≤ (q : Int) := by omega
  have hq1 : (q : Int) < ((q + 1 : Nat) : Int) := by omega
  clear hq hll H3
  go_wp2_with fail
  go_region
  have HL4 := Lib.hid (show Lo B [gm, gt] W (w3.setCell ⟨g, q * 4 + 2, none⟩ (.int .i64 (i : Int))).drew from HL3.out.trans (Lo.of_chg ((Chg.refl [g] w3).setCell (p := ⟨g, q * 4 + 2, none⟩) (by simp) _).drew (by have := HGB.out; simp; omega)))
  have H5 := Lib.hid (H4.out.keep (Chg.refl [] _).drew)
  generalize (w3.setCell ⟨g, q * 4 + 2, none⟩ (.int .i64 (i : Int))).drew = w4 at HL4 H5 ⊢
  clear c2 j2 f2 hsub
  go_wp2_with fail
  go_ret
  exact ⟨rfl, ⟨_, _, H5.out⟩, HL4.out⟩
end
end Go.Proofs.Ytafgpmempgoikaa
namespace Go.Proofs.Ytafgpmempgoikaa
open Go.RowKit
section
variable {W : World} {gm gt B n : Nat} {m : NSt} {vo : Value}
set_option maxHeartbeats 2000000 in
theorem endIf_none (h : Mt W gm gt B n m vo []) (i : Nat) : Calls Try.prog 59 #[.pointer (some ⟨gm, 0, none⟩), .int .i64 (i : Int)] W (BoolPost false W) := by
  go_enter Try.func59, Try.ntmps59
  go_wp2_with fail
  refine (inner_none h).mono ?_
  rintro e w1 ⟨rfl, hc1⟩
  have HC := Lib.hid (hc1.alloc (.cells #[.bool false, .int .i64 0, .int .i64 0, .slice none 0 0] 101))
  clear hc1 h
  go_wp2_with fail
  go_ret
  exact ⟨rfl, HC.out⟩
set_option maxHeartbeats 2000000 in
theorem endIf_no {ys : List PV} {x : PV} (h : Mt W gm gt B n m vo (ys ++ [x])) (hn : x.p.loop = true) (i : Nat) : Calls Try.prog 59 #[.pointer (some ⟨gm, 0, none⟩), .int .i64 (i : Int)] W (BoolPost false W) := by
  have hin := inner_some h
  obtain ⟨⟨lp, at_, wt, lf⟩, vx⟩ := x
  obtain ⟨Av, cv, e, _⟩ := own_slice (h.left ⟨⟨lp, at_, wt, lf⟩, vx⟩ (by simp))
  simp only at e
  subst e
  simp only at hin hn
  clear h
  subst hn
  go_enter Try.func59, Try.ntmps59
  go_wp2_with fail
  refine hin.mono ?_
  rintro e w1 ⟨rfl, hc1⟩
  have HC := Lib.hid (hc1.alloc (.cells #[.bool true, .int .i64 (at_ : Int), .int .i64 (wt : Int), .slice Av lf.length cv] 101))
  clear hc1 hin
  go_wp2_with fail
  go_ret
  exact ⟨rfl, HC.out⟩
set_option maxHeartbeats 4000000 in
theorem endIf_yes {ys : List PV} {x : PV} (h : Mt W gm gt B n m vo (ys ++ [x])) (hl : x.p.loop = false) (i : Nat) : Calls Try.prog 59 #[.pointer (some ⟨gm, 0, none⟩), .int .i64 (i : Int)] W
    (NextPost8 gm gt B n ⟨m.to.set x.p.waits (i : Int), m.deep, (ys.map (·.p)).reverse⟩ W) := by
  have hin := inner_some h
  obtain ⟨⟨lp, at_, wt, lf⟩, vx⟩ := x
  obtain ⟨Av, cv, e, _⟩ := own_slice (h.left ⟨⟨lp, at_, wt, lf⟩, vx⟩ (by simp))
  simp only at e hl
  subst e hl
  simp only at hin
  have H := Lib.hid h
  clear h
  go_enter Try.func59, Try.ntmps59
  go_wp2_with fail
  refine hin.mono ?_
  rintro e w1 ⟨rfl, hc1⟩
  clear hin
  go_upto_region 2 with fail
  have hal : Chg [] w1 (w1.alloc (.cells #[.bool false, .int .i64 (at_ : Int), .int .i64 (wt : Int), .slice Av lf.length cv] 101)) := (Chg.refl [] w1).alloc _
  have hN : Whole (w1.alloc (.cells #[.bool false, .int .i64 (at_ : Int), .int .i64 (wt : Int), .slice Av lf.length cv] 101)) w1.heap.size 101 [.bool false, .int .i64 (at_ : Int), .int .i64 (wt : Int), .slice Av lf.length cv] := Whole.new w1 101 [.bool false, .int .i64 (at_ : Int), .int .i64 (wt : Int), .slice Av lf.length cv]
  obtain ⟨g5, hg5⟩ : ∃ g, g = w1.heap.size := ⟨_, rfl⟩
  rw [← hg5] at hN ⊢
  generalize w1.alloc (.cells #[.bool false, .int .i64 (at_ : Int), .int .i64 (wt : Int), .slice Av lf.length cv] 101) = w2 at hal hN ⊢
  have HC2 := Lib.hid (hc1.new hal)
  have H2 := Lib.hid (H.out.keep HC2.out)
  have HN := Lib.hid hN
  clear hal hN hc1 hg5
  have hwt := (H2.out.wf _ (List.mem_append_right _ (List.mem_singleton_self _))).2.1
  simp only at hwt
  obtain ⟨b0, b2⟩ := (show w2.cell? ⟨g5, 0, none⟩ = some (.bool false) ∧ w2.cell? ⟨g5, 2, none⟩ = some (.int .i64 (wt : Int)) from ⟨HN.out.cell 0, HN.out.cell 2⟩)
  have c0 := H2.out.rec_.cell 0
  have t0 : w2.cell? ⟨gt, wt, none⟩ = some (.int .i64 (m.to[wt]'(by rw [H2.out.len]; exact hwt))) := (H2.out.to_.cell wt).trans (nms_get _ _ (by rw [H2.out.len]; exact hwt))
  have f0 := H2.out.to_.frozen wt
  have hat0 : (0 : Int) ≤ (wt : Int) := by omega
  have hat1 : (wt : Int) < (n : Int) := by omega
  have hbig := H2.out.big
  go_wp2_with fail
  go_region
  have H3 := Lib.hid ((H2.out.poke wt (i : Int)).keep (Chg.refl [] _).drew)
  have HL3 := Lib.hid (show Lo B [gm, gt] W (w2.setCell ⟨gt, wt, none⟩ (.int .i64 (i : Int))).drew from Lo.of_chg ((HC2.out.sub (T' := [gt]) (by simp)).setCell (p := ⟨gt, wt, none⟩) (by simp) (.int .i64 (i : Int))).drew (by simp))
  generalize (w2.setCell ⟨gt, wt, none⟩ (.int .i64 (i : Int))).drew = w3 at H3 HL3 ⊢
  clear b0 b2 c0 t0 f0
  obtain ⟨A, c, rfl, hc1, hc2, _⟩ := rown_slice H3.out.own
  have hll : (ys ++ [(⟨⟨false, at_, wt, lf⟩, .slice Av lf.length cv⟩ : PV)]).length = ys.length + 1 := by simp
  have c2 := H3.out.rec_.cell 2
  have f2 := H3.out.rec_.frozen 2
  rw [hll] at c2 hc1
  obtain ⟨g, rfl, _⟩ := rown_cell H3.out.own rfl ((pvCs_get _ ys.length _ 2 (by simp) (by omega)).trans (show (pvC ⟨⟨false, at_, wt, lf⟩, .slice Av lf.length cv⟩)[2]? = some (.int .i64 (wt : Int)) from rfl))
  have H4 := Lib.hid (H3.out.drop rfl)
  have hfew := H3.out.few
  rw [hll] at hfew
  obtain ⟨q, hq⟩ : ∃ q, q = ys.length := ⟨_, rfl⟩
  rw [← hq] at c2 hfew H4 hc1
  have hsub : IntKind.i64.wrap (((q + 1 : Nat) : Int) - 1) = (q : Int) := by rw [IntWalk.i64_in _ (by omega)]; omega
  have hq0 : (0 : Int) ≤ (q : Int) := by omega
  have hq1 : (q : Int) < ((q + 1 : Nat) : Int) := by omega
  have hq2 : (q : Int) ≤ (c : Int) := by omega
  have hqt : (q : Int).toNat = q := Int.toNat_natCast _
  clear hq hll H3
  go_wp2_with fail
  go_region
  have HL4 := Lib.hid (show Lo B [gm, gt] W (w3.setCell ⟨gm, 2, none⟩ (.slice (some ⟨g, 0, none⟩) q c)).drew from HL3.out.trans (Lo.of_chg ((Chg.refl [gm] w3).setCell (p := ⟨gm, 2, none⟩) (by simp) _).drew (by simp)))
  have H5 := Lib.hid (H4.out.keep (Chg.refl [] _).drew)
  generalize (w3.setCell ⟨gm, 2, none⟩ (.slice (some ⟨g, 0, none⟩) q c)).drew = w4 at HL4 H5 ⊢
  clear c2 f2 hsub
  go_wp2_with fail
  go_ret
  exact ⟨rfl, ⟨_, _, H5.out⟩, HL4.out⟩
end
end Go.Proofs.Ytafgpmempgoikaa
namespace Go.Proofs.Ytafgpmempgoikaa
open Go.RowKit
theorem setAll_snoc (v : Int) (j : Nat) : ∀ (l : List Nat) (t : List Int), setAll v (l ++ [j]) t = (setAll v l t).set j v
  | [], t => rfl
  | k :: l, t => by rw [List.cons_append, setAll, setAll_snoc v j l, setAll]
section
variable {W : World} {gm gt B n : Nat} {m : NSt} {vo : Value}
set_option maxHeartbeats 2000000 in
theorem endLoop_none (h : Mt W gm gt B n m vo []) (i : Nat) : Calls Try.prog 60 #[.pointer (some ⟨gm, 0, none⟩), .int .i64 (i : Int)] W (BoolPost false W) := by
  go_enter Try.func60, Try.ntmps60
  go_wp2_with fail
  refine (inner_none h).mono ?_
  rintro e w1 ⟨rfl, hc1⟩
  have HC := Lib.hid (hc1.alloc (.cells #[.bool false, .int .i64 0, .int .i64 0, .slice none 0 0] 101))
  clear hc1 h
  go_wp2_with fail
  go_ret
  exact ⟨rfl, HC.out⟩
set_option maxHeartbeats 2000000 in
theorem endLoop_no {ys : List PV} {x : PV} (h : Mt W gm gt B n m vo (ys ++ [x])) (hn : x.p.loop = false) (i : Nat) : Calls Try.prog 60 #[.pointer (some ⟨gm, 0, none⟩), .int .i64 (i : Int)] W (BoolPost false W) := by
  have hin := inner_some h
  obtain ⟨⟨lp, at_, wt, lf⟩, vx⟩ := x
  obtain ⟨Av, cv, e, _⟩ := own_slice (h.left ⟨⟨lp, at_, wt, lf⟩, vx⟩ (by simp))
  simp only at e
  subst e
  simp only at hin hn
  clear h
  subst hn
  go_enter Try.func60, Try.ntmps60
  go_wp2_with fail
  refine hin.mono ?_
  rintro e w1 ⟨rfl, hc1⟩
  have HC := Lib.hid (hc1.alloc (.cells #[.bool false, .int .i64 (at_ : Int), .int .i64 (wt : Int), .slice Av lf.length cv] 101))
  clear hc1 hin
  go_wp2_with fail
  go_ret
  exact ⟨rfl, HC.out⟩
set_option maxHeartbeats 4000000 in
theorem endLoop_yes {ys : List PV} {x : PV} (h : Mt W gm gt B n m vo (ys ++ [x])) (hl : x.p.loop = true) (i : Nat) (hi : i < n) : Calls Try.prog 60 #[.pointer (some ⟨gm, 0, none⟩), .int .i64 (i : Int)] W
    (NextPost8 gm gt B n ⟨setAll ((i : Int) + 1) x.p.left (m.to.set i (x.p.at_ : Int)), m.deep, (ys.map (·.p)).reverse⟩ W) := by
  have hin := inner_some h
  obtain ⟨⟨lp, at_, wt, lf⟩, vx⟩ := x
  obtain ⟨Av, cv, e, _⟩ := own_slice (h.left ⟨⟨lp, at_, wt, lf⟩, vx⟩ (by simp))
  simp only at e hl
  subst e hl
  simp only at hin
  have H := Lib.hid h
  clear h
  go_enter Try.func60, Try.ntmps60
  go_wp2_with fail
  refine hin.mono ?_
  rintro e w1 ⟨rfl, hc1⟩
  clear hin
  go_upto_region 2 with fail
  have hal : Chg [] w1 (w1.alloc (.cells #[.bool true, .int .i64 (at_ : Int), .int .i64 (wt : Int), .slice Av lf.length cv] 101)) := (Chg.refl [] w1).alloc _
  have hN : Whole (w1.alloc (.cells #[.bool true, .int .i64 (at_ : Int), .int .i64 (wt : Int), .slice Av lf.length cv] 101)) w1.heap.size 101 [.bool true, .int .i64 (at_ : Int), .int .i64 (wt : Int), .slice Av lf.length cv] := Whole.new w1 101 [.bool true, .int .i64 (at_ : Int), .int .i64 (wt : Int), .slice Av lf.length cv]
  obtain ⟨g5, hg5⟩ : ∃ g, g = w1.heap.size := ⟨_, rfl⟩
  rw [← hg5] at hN ⊢
  generalize w1.alloc (.cells #[.bool true, .int .i64 (at_ : Int), .int .i64 (wt : Int), .slice Av lf.length cv] 101) = w2 at hal hN ⊢
  have HC2 := Lib.hid (hc1.new hal)
  have H2 := Lib.hid (H.out.keep HC2.out)
  have HN := Lib.hid hN
  have HG := Lib.hid (show gt < g5 by rw [hg5]; exact (H.out.to_.keep hc1).lt)
  clear hal hN hc1 hg5
  obtain ⟨b0, b1⟩ := (show w2.cell? ⟨g5, 0, none⟩ = some (.bool true) ∧ w2.cell? ⟨g5, 1, none⟩ = some (.int .i64 (at_ : Int)) from ⟨HN.out.cell 0, HN.out.cell 1⟩)
  have c0 := H2.out.rec_.cell 0
  have t0 : w2.cell? ⟨gt, i, none⟩ = some (.int .i64 (m.to[i]'(by rw [H2.out.len]; exact hi))) := (H2.out.to_.cell i).trans (nms_get _ _ (by rw [H2.out.len]; exact hi))
  have f0 := H2.out.to_.frozen i
  have hat0 : (0 : Int) ≤ (i : Int) := by omega
  have hat1 : (i : Int) < (n : Int) := by omega
  have hbig := H2.out.big
  go_wp2_with fail
  go_region
  have H3 := Lib.hid ((H2.out.poke i (at_ : Int)).keep (Chg.refl [] _).drew)
  have HL3 := Lib.hid (show Lo B [gm, gt] W (w2.setCell ⟨gt, i, none⟩ (.int .i64 (at_ : Int))).drew from Lo.of_chg ((HC2.out.sub (T' := [gt]) (by simp)).setCell (p := ⟨gt, i, none⟩) (by simp) (.int .i64 (at_ : Int))).drew (by simp))
  have HN3 := Lib.hid (show Whole (w2.setCell ⟨gt, i, none⟩ (.int .i64 (at_ : Int))).drew g5 101 [.bool true, .int .i64 (at_ : Int), .int .i64 (wt : Int), .slice Av lf.length cv] from (HN.out.far (by have := HG.out; simp only; omega) _).drew)
  generalize (w2.setCell ⟨gt, i, none⟩ (.int .i64 (at_ : Int))).drew = w3 at H3 HL3 HN3 ⊢
  clear b0 b1 c0 t0 f0
  have b3 := HN3.out.cell 3
  have hsum : IntKind.i64.wrap ((i : Int) + 1) = (i : Int) + 1 := IntWalk.i64_in _ (by omega)
  obtain ⟨T, hT⟩ : ∃ T, T = m.to.set i (at_ : Int) := ⟨_, rfl⟩
  rw [← hT] at H3
  have HTT := Lib.hid hT
  obtain ⟨N, hN⟩ : ∃ N, N = lf.length := ⟨_, rfl⟩
  have HLF := Lib.hid (H3.out.wf _ (List.mem_append_right _ (List.mem_singleton_self _))).2.2
  have hNb : N ≤ 100000 := by have := HLF.out.1; simp only at this; omega
  rw [← hN] at b3
  have HNN := Lib.hid hN
  clear hT hN
  go_wp2_with fail
  go_loopw [8, 32] (fun _ s wr => ∃ k : Nat, k ≤ N ∧ s = .int .i64 (k : Int) ∧ Hid (Mt wr gm gt B n ⟨setAll ((i : Int) + 1) (lf.take k) T, m.deep, m.op⟩ vo (ys ++ [⟨⟨true, at_, wt, lf⟩, .slice Av lf.length cv⟩])) ∧ Hid (Lo B [gm, gt] W wr)) (fun _ s _ => N - (intOf s).toNat)
  case atStart => exact ⟨0, Nat.zero_le _, rfl, H3, HL3⟩
  case round =>
    obtain ⟨k, hk, rfl, HM, HLr⟩ := hrel
    by_cases hlt : k < N
    · have hltI : (k : Int) < (N : Int) := by omega
      have hkl : k < lf.length := by rw [← HNN.out]; exact hlt
      obtain ⟨Av', cv', e, _, _, hs, hsp⟩ := own_slice (HM.out.left _ (List.mem_append_right _ (List.mem_singleton_self _)))
      simp only at e
      injection e with e1 _ e3
      subst e1 e3
      obtain ⟨⟨bA, oA, sA⟩, rfl, _, hx⟩ := hs (by rw [nts_len]; simp only; omega)
      obtain rfl : sA = none := (hsp _ rfl).1
      have hx1 := hx k (.int .i64 ((lf[k]'hkl : Nat) : Int)) (by simp [nts, hkl])
      rw [add_plain] at hx1
      have hj := HLF.out.2 lf[k] (List.getElem_mem hkl)
      have HTK := Lib.hid (show lf.take (k + 1) = lf.take k ++ [lf[k]] by rw [List.take_succ_eq_append_getElem hkl])
      generalize lf[k] = j at hx1 hj HTK
      have hj0 : (0 : Int) ≤ (j : Int) := by omega
      have hj1 : (j : Int) < (n : Int) := by omega
      have c0 := HM.out.rec_.cell 0
      obtain ⟨T2, hT2⟩ : ∃ T9, T9 = setAll ((i : Int) + 1) (lf.take k) T := ⟨_, rfl⟩
      have HM' := HM
      rw [← hT2] at HM'
      have t0 : wr.cell? ⟨gt, j, none⟩ = some (.int .i64 (T2[j]'(by rw [HM'.out.len]; exact hj))) := (HM'.out.to_.cell j).trans (nms_get _ _ (by rw [HM'.out.len]; exact hj))
      have f0 := HM'.out.to_.frozen j
      have HMz := Lib.hid (show Mt (wr.setCell ⟨gt, j, none⟩ (.int .i64 ((i : Int) + 1))) gm gt B n ⟨setAll ((i : Int) + 1) (lf.take (k + 1)) T, m.deep, m.op⟩ vo (ys ++ [⟨⟨true, at_, wt, lf⟩, .slice (some ⟨bA, oA, none⟩) lf.length cv⟩]) from by
        have h := HM'.out.poke j ((i : Int) + 1)
        rw [HTK.out, setAll_snoc, ← hT2]
        exact h)
      have HLz := Lib.hid (show Lo B [gm, gt] W (wr.setCell ⟨gt, j, none⟩ (.int .i64 ((i : Int) + 1))) from HLr.out.trans (Lo.of_chg ((Chg.refl [gt] wr).setCell (p := ⟨gt, j, none⟩) (by simp) _) (by simp)))
      clear hx hs hsp hT2
      go_wp2_with fail
      go_roundw
      case rel => exact ⟨k + 1, by omega, by go_num, HMz, HLz⟩
      case measure => simp [intOf]; omega
    · have hltI : ¬ (k : Int) < (N : Int) := by omega
      have H3' := HM
      rw [List.take_of_length_le (by rw [← HNN.out]; omega)] at H3'
      obtain ⟨T2, hT2⟩ : ∃ T2, T2 = setAll ((i : Int) + 1) lf T := ⟨_, rfl⟩
      rw [← hT2] at H3'
      have HT2 := Lib.hid hT2
      clear hT2
      obtain ⟨A, c, rfl, hc1, hc2, _⟩ := rown_slice H3'.out.own
      have hll : (ys ++ [(⟨⟨true, at_, wt, lf⟩, .slice Av lf.length cv⟩ : PV)]).length = ys.length + 1 := by simp
      have c2 := H3'.out.rec_.cell 2
      have f2 := H3'.out.rec_.frozen 2
      rw [hll] at c2 hc1
      obtain ⟨g, rfl, _⟩ := rown_cell H3'.out.own rfl ((pvCs_get _ ys.length _ 2 (by simp) (by omega)).trans (show (pvC ⟨⟨true, at_, wt, lf⟩, .slice Av lf.length cv⟩)[2]? = some (.int .i64 (wt : Int)) from rfl))
      have H4 := Lib.hid (H3'.out.drop rfl)
      have hfew := H3'.out.few
      rw [hll] at hfew
      obtain ⟨q, hq⟩ : ∃ q, q = ys.length := ⟨_, rfl⟩
      rw [← hq] at c2 hfew H4 hc1
      have hsub : IntKind.i64.wrap (((q + 1 : Nat) : Int) - 1) = (q : Int) := by rw [IntWalk.i64_in _ (by omega)]; omega
      have hq0 : (0 : Int) ≤ (q : Int) := by omega
      have hq1 : (q : Int) < ((q + 1 : Nat) : Int) := by omega
      have hq2 : (q : Int) ≤ (c : Int) := by omega
      have hqt : (q : Int).toNat = q := Int.toNat_natCast _
      clear hq hll
      go_wp2_with fail
      go_region
      have HL4 := Lib.hid (show Lo B [gm, gt] W (wr.setCell ⟨gm, 2, none⟩ (.slice (some ⟨g, 0, none⟩) q c)).drew from HLr.out.trans (Lo.of_chg ((Chg.refl [gm] wr).setCell (p := ⟨gm, 2, none⟩) (by simp) _).drew (by simp)))
      have H5 := Lib.hid (H4.out.keep (Chg.refl [] _).drew)
      generalize (wr.setCell ⟨gm, 2, none⟩ (.slice (some ⟨g, 0, none⟩) q c)).drew = w4 at HL4 H5 ⊢
      clear c2 f2 hsub
      go_wp2_with fail
      go_ret
      have h := H5.out
      rw [HT2.out, HTT.out] at h
      exact ⟨rfl, ⟨_, _, h⟩, HL4.out⟩
end
end Go.Proofs.Ytafgpmempgoikaa
