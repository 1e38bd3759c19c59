/-
  PB: StPure, Find, NestMatch, NestRef, NestOf, Door.
-/
import Derived.Test.YtbkfhndmeljlcaaGreatDoorZPB6
import Derived.Test.YtbkfhndmeljlcaaGreatDoorZPB8
import Derived.Test.YtbkfhndmeljlcaaGreatDoorZPB11
import Derived.Test.YtbkfhndmeljlcaaGreatDoorZPB14
import Derived.Test.YtbkfhndmeljlcaaGreatDoorZPB16
import Derived.Deep.QuietTactic
import Derived.BigQuiet
import Derived.Test.YtbkfhndmeljlcaaGreatDoorRows
import Derived.LaidMore
import Derived.Stop.LaidErr
import Derived.Lib.LaidTab
namespace Go.Proofs.YtbkfhndmeljlcaaGreatDoor
open Go.RowKit
structure BkV where
  sign : Int
  base : Int
  other : Int
  left : Bool
/-- The place of the first function of a name. -/
def findK (name : Int) : List FnV → Nat → Option Nat
  | [], _ => none
  | f :: l, k => if f.name = name then some k else findK name l (k + 1)
def findI (l : List FnV) (name : Int) : Int := match findK name l 0 with | some k => (k : Int) | none => -1
theorem findK_at {name : Int} : ∀ {l : List FnV} {k j : Nat}, findK name l k = some j → ∃ f, k ≤ j ∧ l[j - k]? = some f ∧ f.name = name
  | [], k, j, h => by simp [findK] at h
  | f :: l, k, j, h => by
    rw [findK] at h
    by_cases hn : f.name = name
    · rw [if_pos hn] at h; injection h with h; subst h; exact ⟨f, Nat.le_refl _, by simp, hn⟩
    · rw [if_neg hn] at h
      obtain ⟨g, h1, h2, h3⟩ := findK_at h
      refine ⟨g, by omega, ?_, h3⟩
      rw [show j - k = (j - (k + 1)) + 1 from by omega]
      simpa using h2
theorem findK_add {name : Int} : ∀ (l m : List FnV) (k j : Nat), findK name l k = some j → findK name (l ++ m) k = some j
  | [], m, k, j, h => by simp [findK] at h
  | f :: l, m, k, j, h => by
    rw [List.cons_append, findK]
    rw [findK] at h
    by_cases hn : f.name = name
    · rw [if_pos hn] at h ⊢; exact h
    · rw [if_neg hn] at h ⊢; exact findK_add l m (k + 1) j h
def binL : List Nat := [43, 45, 42, 47, 37, 38, 124, 94, 60, 61, 171, 187]
def unL : List Nat := [33, 64, 169, 164, 960]
def zeL : List Nat := [58, 59, 91, 93, 126, 161]
def inL (l : List Nat) (r : Int) : Bool := l.any fun x => (x : Int) == r
/-- What a call takes. -/
def callA (l : List FnV) (name : Int) : Int × Int × Bool :=
  match findK name l 0 with
  | none => (0, 0, false)
  | some k => match l[k]? with
    | none => (0, 0, false)
    | some f => if 0 ≤ f.args ∧ f.args ≤ 4 then (f.args, 1, true) else (0, 0, false)
def rTakes (l : List FnV) (s name : Int) : Int × Int × Bool :=
  if (s = 48 ∨ (97 ≤ s ∧ s ≤ 122)) ∨ s = 35 then (0, 1, true)
  else if (65 ≤ s ∧ s ≤ 90) ∨ s = 44 then (1, 0, true)
  else if s = 46 then (1, 2, true)
  else if inL binL s = true then (2, 1, true)
  else if inL unL s = true then (1, 1, true)
  else if s = 36 ∨ s = 174 then (2, 0, true)
  else if s = 63 then (1, 0, true)
  else if inL zeL s = true then (0, 0, true)
  else if s = 955 then callA l name
  else (0, 0, false)
theorem callA_in (l : List FnV) (name : Int) : 0 ≤ (callA l name).1 ∧ (callA l name).1 ≤ 4 ∧ 0 ≤ (callA l name).2.1 ∧ (callA l name).2.1 ≤ 2 := by
  unfold callA
  split
  · simp
  · split
    · simp
    · split
      · rename_i h; simp; omega
      · simp
theorem rTakes_in (l : List FnV) (s name : Int) : 0 ≤ (rTakes l s name).1 ∧ (rTakes l s name).1 ≤ 4 ∧ 0 ≤ (rTakes l s name).2.1 ∧ (rTakes l s name).2.1 ≤ 2 := by
  unfold rTakes
  repeat' split
  all_goals first | exact callA_in l name | simp
def baseOf (bs : List BkV) : Int := match bs.getLast? with | none => 0 | some b => b.base
/-- : ; ] -/
def rEnds (h : Int) (ys : List BkV) (x : BkV) (r : Int) : Bool × Int × List BkV :=
  if r = 58 then (true, x.base, ys ++ [⟨58, x.base, h, x.left⟩])
  else if x.sign = 58 then (if 0 ≤ x.other ∧ 0 ≤ h ∧ x.other ≠ h then (false, h, ys) else (true, max h x.other, ys))
  else if 0 ≤ h ∧ h ≠ x.base then (false, h, ys)
  else (true, (if x.sign = 91 ∧ x.left = false then -1 else x.base), ys)
/-- ~ -/
def rLeave (h : Int) (bs : List BkV) : Nat → Bool × Int × List BkV
  | 0 => (false, h, bs)
  | k + 1 => match bs[k]? with
    | none => (false, h, bs)
    | some x => if x.sign = 91 then (h == x.base, -1, bs.set k ⟨x.sign, x.base, x.other, true⟩) else rLeave h bs k
def isEnd (s : Int) : Prop := s = 58 ∨ s = 59 ∨ s = 93
instance (s : Int) : Decidable (isEnd s) := by unfold isEnd; exact inferInstance
/-- A token: the fault's number, or the height and the blocks behind it. -/
def rTok (l : List FnV) (h : Int) (bs : List BkV) (s name : Int) : Int × Int × List BkV :=
  if isEnd s then (match bs.getLast? with
    | none => (14, h, bs)
    | some x => match rEnds h bs.dropLast x s with | (true, h', bs') => (0, h', bs') | (false, h', bs') => (14, h', bs'))
  else if h < 0 then (15, h, bs)
  else match rTakes l s name with
    | (_, _, false) => (22, h, bs)
    | (p, g, true) =>
      if h - baseOf bs < p ∨ 64 < h - p + g then (14, h, bs)
      else if s = 63 ∨ s = 91 then (0, h - p + g, bs ++ [⟨s, h - p + g, 0, false⟩])
      else if s = 126 then (match rLeave (h - p + g) bs bs.length with | (true, h', bs') => (0, h', bs') | (false, h', bs') => (14, h', bs'))
      else if s = 161 then (0, -1, bs)
      else (0, h - p + g, bs)
/-- The tokens from one on. -/
def rWalk (l : List FnV) : List TkV → Int → List BkV → List Int → Int × List Int
  | [], h, _, out => if h ≠ 1 ∧ 0 ≤ h then (14, []) else (0, out)
  | t :: ts, h, bs, out => match rTok l h bs t.sign t.name with
    | (e, h', bs') => if e = 0 then rWalk l ts h' bs' (out ++ [h]) else (e, [])
def rFunc (l : List FnV) (code : ByteArray) : Int × List Int :=
  match tokR code with
  | none => (tokE code, [])
  | some ts => match rNest (signs ts) with
    | none => (13, [])
    | some _ => rWalk l ts 0 [] []
/-- How many blocks are open behind a sign. -/
def tokLen (s : Int) (n : Nat) : Nat := if s = 63 ∨ s = 91 then n + 1 else if s = 59 ∨ s = 93 then n - 1 else n
theorem rLeave_len (h : Int) (bs : List BkV) : ∀ k, (rLeave h bs k).2.2.length = bs.length
  | 0 => rfl
  | k + 1 => by
    rw [rLeave]
    split
    · rfl
    · split
      · simp
      · exact rLeave_len h bs k
theorem rTok_len {l : List FnV} {h : Int} {bs : List BkV} {s name : Int} (he : (rTok l h bs s name).1 = 0) : (rTok l h bs s name).2.2.length = tokLen s bs.length := by
  unfold rTok at he ⊢
  by_cases hs : isEnd s
  · rw [if_pos hs] at he ⊢
    rcases List.eq_nil_or_concat bs with rfl | ⟨ys, x, rfl⟩
    · simp at he
    · rw [List.concat_eq_append] at he ⊢
      simp only [List.getLast?_append, List.getLast?_singleton, Option.some_or, List.dropLast_concat, List.length_append, List.length_singleton] at he ⊢
      unfold rEnds at he ⊢
      rcases hs with rfl | rfl | rfl
      · simp [tokLen]
      · simp only [tokLen] at he ⊢
        split <;> simp_all
        all_goals (repeat' split at *) <;> simp_all
      · simp only [tokLen] at he ⊢
        split <;> simp_all
        all_goals (repeat' split at *) <;> simp_all
  · rw [if_neg hs] at he ⊢
    have hn : ¬ s = 59 ∧ ¬ s = 93 := by unfold isEnd at hs; omega
    by_cases hh : h < 0
    · rw [if_pos hh] at he; simp at he
    · rw [if_neg hh] at he ⊢
      rcases hT : rTakes l s name with ⟨p, g, ok⟩
      rw [hT] at he
      cases ok
      · simp at he
      · simp only at he ⊢
        by_cases hb : h - baseOf bs < p ∨ 64 < h - p + g
        · rw [if_pos hb] at he; simp at he
        · rw [if_neg hb] at he ⊢
          by_cases h6 : s = 63 ∨ s = 91
          · rw [if_pos h6]; simp [tokLen, h6]
          · rw [if_neg h6] at he ⊢
            have e : tokLen s bs.length = bs.length := by unfold tokLen; rw [if_neg h6, if_neg (by omega)]
            rw [e]
            by_cases h7 : s = 126
            · rw [if_pos h7] at he ⊢
              have := rLeave_len (h - p + g) bs bs.length
              rcases hR : rLeave (h - p + g) bs bs.length with ⟨b, h', bs'⟩
              rw [hR] at this
              cases b <;> exact this
            · rw [if_neg h7]
              split <;> rfl
end Go.Proofs.YtbkfhndmeljlcaaGreatDoor
namespace Go.Proofs.YtbkfhndmeljlcaaGreatDoor
open Go.RowKit
/-- A unit, as an argument. -/
def unitV (pages most : Int) (A : Option Addr) (n c : Nat) : Value := .agg #[.int .i64 pages, .int .i64 most, .slice A n c]
/-- The slice value '.slice A n c' is the functions l, whatever they are. -/
structure Fnr (W : World) (A : Option Addr) (n c : Nat) (l : List FnV) : Prop where
  len : l.length = n
  src : Src W A (fnCs l)
  cap : n ≤ c
  max : n ≤ 1000
  spot : 0 < n → ∀ ad, A = some ad → ad.spot = none
  args : ∀ f ∈ l, -9223372036854775808 ≤ f.args ∧ f.args ≤ 9223372036854775807
section
variable {W W' : World} {p : Nat} {A : Option Addr} {n c : Nat} {l : List FnV}
theorem Fnr.keep (h : Fnr W A n c l) (hc : Chg [] W W') : Fnr W' A n c l := ⟨h.len, h.src.keep hc, h.cap, h.max, h.spot, h.args⟩
theorem Fnr.cell (h : Fnr W A n c l) {k : Nat} {t : FnV} (hk : l[k]? = some t) : ∃ b o, A = some ⟨b, o, none⟩ ∧ b < W.heap.size ∧ W.cell? ⟨b, o + k * 3, none⟩ = some (.int .i32 t.name) ∧ W.cell? ⟨b, o + k * 3 + 1, none⟩ = some (.int .i64 t.args) ∧ W.cell? ⟨b, o + k * 3 + 2, none⟩ = some (.string t.code) := by
  have hkl := (List.getElem?_eq_some_iff.1 hk).1
  obtain ⟨⟨b, o, s⟩, e, hb, hx⟩ := h.src (by rw [fnCs_len]; omega)
  obtain rfl : s = none := h.spot (by have := h.len; omega) _ e
  refine ⟨b, o, e, hb, ?_, ?_, ?_⟩
  · have := hx _ _ ((fnCs_get l k t 0 hk (by omega)).trans rfl); rwa [add_plain] at this
  · have := hx _ _ ((fnCs_get l k t 1 hk (by omega)).trans rfl); rwa [add_plain] at this
  · have := hx _ _ ((fnCs_get l k t 2 hk (by omega)).trans rfl); rwa [add_plain] at this
end
section
variable {w : World} {A : Option Addr} {n c : Nat} {l : List FnV} {pages most : Int}
def FindPost (i : Int) (w : World) (e : Ending) (w' : World) : Prop := e = .returned (.int .i64 i) ∧ Chg [] w w'
set_option maxHeartbeats 2000000 in
set_option maxRecDepth 100000 in
theorem find_any (h : Fnr w A n c l) (name : Int) : Calls Tryz.prog 80 #[unitV pages most A n c, .int .i32 name] w (FindPost (findI l name) w) := by
  unfold unitV
  have hmax := h.max
  have H := Lib.hid h
  have HL := Lib.hid h.len
  have HI := Lib.hid (show findK name l 0 = findK name (l.drop 0) 0 from rfl)
  have HN := Lib.hid (show findI l name = match findK name l 0 with | some k => (k : Int) | none => -1 from rfl)
  generalize findI l name = fi at HN ⊢
  clear h
  go_enter Tryz.func80, Tryz.ntmps80
  go_upto_region 1 with fail
  have hN := Whole.new w 24 [.int .i64 pages, .int .i64 most, .slice A n c]
  have hal : Chg [] w (w.alloc (.cells #[.int .i64 pages, .int .i64 most, .slice A n c] 24)) := (Chg.refl [] w).alloc _
  have c2 := hN.cell 2
  have HN := Lib.hid hN
  have HC := Lib.hid hal
  have HF := Lib.hid (H.out.keep hal)
  obtain ⟨g, hg⟩ : ∃ g, g = w.heap.size := ⟨_, rfl⟩
  rw [← hg] at c2 ⊢
  generalize w.alloc (.cells #[.int .i64 pages, .int .i64 most, .slice A n c] 24) = w1 at c2 HC HF ⊢
  clear hN hal hg HN
  go_wp2_with fail
  go_loopw [9] (fun i wr => ∃ k : Nat, i = .int .i64 (k : Int) ∧ k ≤ n ∧ Hid (findK name l 0 = findK name (l.drop k) k) ∧ wr = w1) (fun i _ => n - (intOf i).toNat)
  case atStart => exact ⟨0, rfl, by omega, HI, rfl⟩
  case round =>
    obtain ⟨k, rfl, hk, HK, hwr⟩ := hrel
    subst hwr
    by_cases hkn : k < n
    · have hkI : (k : Int) < (n : Int) := by omega
      obtain ⟨t, htk⟩ : ∃ t, l[k]? = some t := ⟨l[k]'(by rw [HF.out.len]; exact hkn), by simp⟩
      have HD := Lib.hid (show l.drop k = t :: l.drop (k + 1) from List.drop_eq_getElem?_toList_append.trans (by rw [htk]; rfl))
      obtain ⟨fb, fo, rfl, hfbl, e0, e1, e2⟩ := HF.out.cell htk
      clear htk e1 e2
      by_cases hnm : t.name = name
      · have hq : (t.name == name) = true := by simpa using hnm
        have HP := Lib.hid (show FindPost fi w (.returned (.int .i64 (k : Int))) wr from ⟨by rw [HN.out, HK.out, HD.out, findK, if_pos hnm], HC.out⟩)
        clear hnm
        go_wp2_with fail
        go_ret
        exact HP.out
      · have hq : (t.name == name) = false := by simpa using hnm
        have HK2 := Lib.hid (show findK name l 0 = findK name (l.drop (k + 1)) (k + 1) from by rw [HK.out, HD.out, findK, if_neg hnm])
        go_wp2_with fail
        go_roundw
        case rel => exact ⟨k + 1, by go_num, by omega, HK2, by first | rfl | trivial⟩
        case measure => simp [intOf]; omega
    · have hkI : (n : Int) ≤ (k : Int) := by omega
      have HP := Lib.hid (show FindPost fi w (.returned (.int .i64 (-1))) wr from ⟨by rw [HN.out, HK.out, List.drop_eq_nil_of_le (by rw [HL.out]; omega)]; rfl, HC.out⟩)
      go_wp2_with fail
      go_ret
      exact HP.out
end
end Go.Proofs.YtbkfhndmeljlcaaGreatDoor
namespace Go.Proofs.YtbkfhndmeljlcaaGreatDoor
open Go.RowKit
theorem make_ints (W : World) (n : Nat) (hn : n ≤ 100000) : (Instr.makeSlice 26 (.int .i64 (n : Int)) (.int .i64 (n : Int))).run Tryz.prog W = .ok (.slice (some ⟨W.heap.size, 0, none⟩) n n) (W.alloc (.cells (nms (List.replicate n 0)).toArray 3)) := by
  obtain ⟨i, hi, hz, hs1, hb⟩ := info_parts info_int
  have : nms (List.replicate n 0) = List.replicate n (.int .i64 0) := by simp [nms]
  rw [this]
  exact run_make1 26 3 i (.int .i64 0) rfl Tryz.underlying26 hi hz hs1 n (by rw [hb]; omega) (by omega) W
/-- What match answers. -/
def MatchPost (n : Nat) (r : Option (List Int × Nat)) (W : World) (e : Ending) (w' : World) : Prop :=
  Chg [] W w' ∧ ((∃ t d g, r = some (t, d) ∧ t.length = n ∧ e = .returned (.tuple #[.slice (some ⟨g, 0, none⟩) n n, .int .i64 (d : Int), .bool true]) ∧ Whole w' g 3 (nms t) ∧ d ≤ 16) ∨
    (r = none ∧ ∃ v d, e = .returned (.tuple #[v, .int .i64 d, .bool false])))
section
variable {W : World} {A : Option Addr} {n c : Nat} {l : List TkV}
set_option maxHeartbeats 4000000 in
set_option maxRecDepth 100000 in
theorem match_any (h : Tks W A n c l) : Calls Tryz.prog 118 #[.slice A n c] W (MatchPost n (nNest (signs l)) W) := by
  have hmax := h.max
  have hmk := fun W : World => make_ints W n hmax
  have H := Lib.hid h
  have hsl : (signs l).length = n := by unfold signs; rw [List.length_map]; exact h.len
  have HSL := Lib.hid hsl
  clear h hsl
  go_enter Tryz.func118, Tryz.ntmps118
  go_upto_region 2 with fail
  have hT := Whole.new W 3 (nms (List.replicate n 0))
  have hc1 : Chg [] W (W.alloc (.cells (nms (List.replicate n 0)).toArray 3)) := (Chg.refl [] W).alloc _
  obtain ⟨gt, hgt⟩ : ∃ g, g = W.heap.size := ⟨_, rfl⟩
  rw [← hgt] at hT
  have hsz : (W.alloc (.cells (nms (List.replicate n 0)).toArray 3)).heap.size = gt + 1 := by rw [hgt]; simp
  have hM := Whole.new (W.alloc (.cells (nms (List.replicate n 0)).toArray 3)) 168 [.slice (some ⟨gt, 0, none⟩) n n, .int .i64 0, .slice none 0 0]
  rw [hsz] at hM
  have hal2 : Chg [] (W.alloc (.cells (nms (List.replicate n 0)).toArray 3)) ((W.alloc (.cells (nms (List.replicate n 0)).toArray 3)).alloc (.cells #[.slice (some ⟨gt, 0, none⟩) n n, .int .i64 0, .slice none 0 0] 168)) := (Chg.refl [] _).alloc _
  have hT2 := hT.keep hal2
  have hc2 := hc1.new hal2
  have hsz2 : ((W.alloc (.cells (nms (List.replicate n 0)).toArray 3)).alloc (.cells #[.slice (some ⟨gt, 0, none⟩) n n, .int .i64 0, .slice none 0 0] 168)).heap.size = gt + 2 := by rw [hgt]; simp
  rw [← hgt]
  generalize (W.alloc (.cells (nms (List.replicate n 0)).toArray 3)).alloc (.cells #[.slice (some ⟨gt, 0, none⟩) n n, .int .i64 0, .slice none 0 0] 168) = w2 at hM hT2 hc2 hsz2 ⊢
  have HM0 := Lib.hid (show Mt w2 (gt + 1) gt (gt + 2) n ⟨List.replicate (signs l).length 0, 0, []⟩ (.slice none 0 0) [] from
    ⟨hM, by rw [HSL.out]; exact hT2, by rw [List.length_replicate]; exact HSL.out, rfl, World.ownsRow_nil _ _ _ _, fun x hx => (by cases hx), List.Pairwise.nil, by omega, by simp, by simp, fun x hx => (by cases hx), hmax, by omega⟩)
  have HC2 := Lib.hid hc2
  have HGT := Lib.hid hgt
  clear hT hc1 hsz hM hal2 hT2 hc2 hsz2 hgt hmk
  go_wp2_with fail
  go_loopw [6, 7, 14] (fun _ _ s wr => ∃ k : Nat, k ≤ n ∧ s = .int .i64 (k : Int) ∧ (∃ m vo xs, Hid (Mt wr (gt + 1) gt (gt + 2) n m vo xs) ∧ Few k m ∧ nRun 0 (signs l) ⟨List.replicate (signs l).length 0, 0, []⟩ = nRun k ((signs l).drop k) m) ∧ Hid (Chg [] W wr)) (fun _ _ s _ => n - (intOf s).toNat)
  case atStart => exact ⟨0, Nat.zero_le _, rfl, ⟨_, _, _, HM0, fun p hp => (by cases hp), rfl⟩, HC2⟩
  case round =>
    obtain ⟨k, hk, rfl, ⟨m, vo, xs, HM, hfew, hrun⟩, HCr⟩ := hrel
    have HF := Lib.hid hfew
    have HRUN := Lib.hid hrun
    clear hfew hrun
    by_cases hlt : k < n
    · have hltI : (k : Int) < (n : Int) := by omega
      have hk0 : (0 : Int) ≤ (k : Int) := by omega
      have hkl : k < l.length := by rw [H.out.len]; exact hlt
      obtain ⟨b, o, rfl, hb, t0, t1, t2⟩ := (H.out.keep HCr.out).cell (List.getElem?_eq_getElem hkl)
      have HS := Lib.hid (show (signs l).drop k = (l[k]).sign :: (signs l).drop (k + 1) from by
        rw [List.drop_eq_getElem_cons (by rw [HSL.out]; exact hlt)]
        congr 1
        simp [signs])
      generalize l[k] = t at t0 t1 t2 HS
      obtain ⟨ts, tn, tm⟩ := t
      simp only at t0 t1 t2 HS
      go_upto_region 5 with fail
      have hal : Chg [] wr (wr.alloc (.cells #[.int .i32 ts, .int .i64 tn, .int .i32 tm] 110)) := (Chg.refl [] wr).alloc _
      have hN : Whole (wr.alloc (.cells #[.int .i32 ts, .int .i64 tn, .int .i32 tm] 110)) wr.heap.size 110 [.int .i32 ts, .int .i64 tn, .int .i32 tm] := Whole.new wr 110 [.int .i32 ts, .int .i64 tn, .int .i32 tm]
      have hbt : gt < wr.heap.size := HM.out.to_.lt
      obtain ⟨g7, hg7⟩ : ∃ g, g = wr.heap.size := ⟨_, rfl⟩
      rw [← hg7] at hN hbt ⊢
      generalize wr.alloc (.cells #[.int .i32 ts, .int .i64 tn, .int .i32 tm] 110) = w3 at hal hN ⊢
      have HM3 := Lib.hid (HM.out.keep hal)
      have HC3 := Lib.hid (HCr.out.new hal)
      have HN3 := Lib.hid hN
      clear hal hN hg7 t0 t1 t2
      have c0 := HM3.out.rec_.cell 0
      have hkt : k < m.tO.length := by rw [HM3.out.len]; exact hlt
      have t0 : w3.cell? ⟨gt, k, none⟩ = some (.int .i64 (m.tO[k]'hkt)) := (HM3.out.to_.cell k).trans (nms_get _ _ hkt)
      have f0 := HM3.out.to_.frozen k
      go_upto_region 6 with fail
      have HM4 := Lib.hid (HM3.out.poke k (-1))
      have HL4 := Lib.hid (show Lo (gt + 2) [gt + 1, gt] w3 (w3.setCell ⟨gt, k, none⟩ (.int .i64 (-1))) from Lo.of_chg ((Chg.refl [gt] w3).setCell (p := ⟨gt, k, none⟩) (by simp) _) (by simp))
      have HC4 := Lib.hid (HL4.out.chg HC3.out (by have := HGT.out; omega) (by have := HGT.out; simp; omega))
      have HN4 := Lib.hid (HN3.out.far (p := ⟨gt, k, none⟩) (by simp only; omega) (.int .i64 (-1)))
      generalize w3.setCell ⟨gt, k, none⟩ (.int .i64 (-1)) = w4 at HM4 HL4 HC4 HN4 ⊢
      clear c0 t0 f0
      have n0 := HN4.out.cell 0
      go_wp2_with fail
      refine (take_any HM4.out k hlt ts HF.out).mono ?_
      rintro e w5 (⟨m', ht, rfl, ⟨vo', xs', hM5⟩, hL5⟩ | ⟨ht, rfl, hL5⟩)
      · have HM5 := Lib.hid hM5
        have HF5 := Lib.hid (few_take (m := ⟨m.tO.set k (-1), m.deep, m.op⟩) HF.out ht)
        have HR5 := Lib.hid (show nRun 0 (signs l) ⟨List.replicate (signs l).length 0, 0, []⟩ = nRun (k + 1) ((signs l).drop (k + 1)) m' from by rw [HRUN.out, HS.out, nRun, ht]; rfl)
        have HC5 := Lib.hid (hL5.chg HC4.out (by have := HGT.out; omega) (by have := HGT.out; simp; omega))
        clear hM5 hL5 ht n0
        go_wp2_with fail
        go_roundw
        case rel => exact ⟨k + 1, by omega, by go_num, ⟨_, _, _, HM5, HF5.out, HR5.out⟩, HC5⟩
        case measure => simp [intOf]; omega
      · have HR5 := Lib.hid (show nNest (signs l) = none from by unfold nNest; rw [HRUN.out, HS.out, nRun, ht]; rfl)
        have HC5 := Lib.hid (hL5.chg HC4.out (by have := HGT.out; omega) (by have := HGT.out; simp; omega))
        have HPO := Lib.hid (show MatchPost n (nNest (signs l)) W (.returned (.tuple #[.slice none 0 0, .int .i64 0, .bool false])) w5 from ⟨HC5.out, .inr ⟨HR5.out, _, _, rfl⟩⟩)
        clear hL5 ht n0
        go_wp2_with fail
        go_ret3
        exact HPO.out
    · have hltI : ¬ (k : Int) < (n : Int) := by omega
      have HR5 := Lib.hid (show nRun 0 (signs l) ⟨List.replicate (signs l).length 0, 0, []⟩ = some m from by rw [HRUN.out, List.drop_eq_nil_of_le (by rw [HSL.out]; omega)]; rfl)
      have c0 := HM.out.rec_.cell 0
      have c1 := HM.out.rec_.cell 1
      have c2 := HM.out.rec_.cell 2
      obtain ⟨Ao, co, rfl, _, _, _⟩ := rown_slice HM.out.own
      have hop : m.op.length = xs.length := by rw [HM.out.op]; simp
      obtain ⟨q, hq⟩ : ∃ q, q = xs.length := ⟨_, rfl⟩
      rw [← hq] at c2 hop
      have HOP := Lib.hid hop
      have hfq := HM.out.few
      rw [← hq] at hfq
      clear hop hq
      have hdec : ((q : Int) == 0) = decide (q = 0) := by rw [Bool.eq_iff_iff]; simp
      go_wp2_with fail
      go_quiet (fail)
      have HPO := Lib.hid (show MatchPost n (nNest (signs l)) W (.returned (.tuple #[.slice (some ⟨gt, 0, none⟩) n n, .int .i64 (m.deep : Int), .bool (decide (q = 0))])) (wr.drewN nq) from by
        refine ⟨HCr.out.drewN _, ?_⟩
        by_cases h0 : q = 0
        · refine .inl ⟨m.tO, m.deep, gt, ?_, HM.out.len, by simp [h0], (HM.out.to_.drewN _), HM.out.deep⟩
          unfold nNest
          have : m.op = [] := List.eq_nil_of_length_eq_zero (by rw [HOP.out]; exact h0)
          rw [HR5.out]; simp [this]
        · refine .inr ⟨?_, _, _, by simp [h0]; exact ⟨rfl, rfl⟩⟩
          unfold nNest
          have : m.op ≠ [] := fun e => h0 (by rw [← HOP.out, e]; rfl)
          rw [HR5.out]; simp [this])
      go_wp2_with fail
      go_ret3
      exact HPO.out
end
end Go.Proofs.YtbkfhndmeljlcaaGreatDoor
namespace Go.Proofs.YtbkfhndmeljlcaaGreatDoor
open Go.RowKit
/-- The reference's state in memory. -/
structure Rt (W : World) (gt B n : Nat) (m : RSt) (vo : Value) : Prop where
  to_ : Whole W gt 3 (nms m.tO)
  len : m.tO.length = n
  own : W.ownsRow B 3 1 vo m.op.length (nts m.op.reverse)
  lo : gt < B
  few : m.op.length ≤ 16
  deep : m.deep ≤ 16
  wf : ∀ p ∈ m.op, p < n
  big : n ≤ 100000
  room : B ≤ W.heap.size
section
variable {W W' : World} {gt B n : Nat} {m : RSt} {vo : Value}
theorem Rt.keep (h : Rt W gt B n m vo) (hc : Chg [] W W') : Rt W' gt B n m vo :=
  { h with to_ := h.to_.keep hc, own := own_keep h.own hc, room := Nat.le_trans h.room hc.size }
theorem Rt.poke (h : Rt W gt B n m vo) (j : Nat) (x : Int) : Rt (W.setCell ⟨gt, j, none⟩ (.int .i64 x)) gt B n ⟨m.tO.set j x, m.deep, m.op⟩ vo := by
  refine { h with to_ := ?_, len := by rw [List.length_set]; exact h.len, own := rown_far h.own (fun hc => by have := (h.own.lt gt hc).1; have := h.lo; omega), room := by rw [size_set]; exact h.room }
  have := h.to_.set_ j (.int .i64 x)
  rwa [nms_set] at this
theorem Rt.top {p : Nat} {r : List Nat} (h : Rt W gt B n m vo) (hm : m.op = p :: r) : ∃ g c, vo = .slice (some ⟨g, 0, none⟩) (r.length + 1) c ∧ r.length + 1 ≤ c ∧ W.cell? ⟨g, r.length, none⟩ = some (.int .i64 (p : Int)) ∧ W.frozen? ⟨g, r.length, none⟩ = false ∧ B ≤ g ∧ g < W.heap.size ∧ p < n ∧ r.length < 16 := by
  have ho := h.own
  have hf := h.few
  rw [hm] at ho hf
  simp only [List.length_cons] at ho hf
  obtain ⟨A, c, rfl, h1, _, _⟩ := rown_slice ho
  obtain ⟨g, rfl, hc⟩ := rown_cell ho rfl (j := r.length) (u := .int .i64 (p : Int)) (by simp [nts])
  exact ⟨g, c, rfl, h1, hc, rown_frozen ho, (ho.lt g rfl).1, (ho.lt g rfl).2, h.wf p (by rw [hm]; simp), by omega⟩
theorem Rt.waits {p : Nat} {r : List Nat} {g c : Nat} (h : Rt W gt B n m vo) (hm : m.op = p :: r) (hv : vo = .slice (some ⟨g, 0, none⟩) (r.length + 1) c) (i : Nat) (hi : i < n) :
    Rt (W.setCell ⟨g, r.length, none⟩ (.int .i64 (i : Int))) gt B n ⟨m.tO, m.deep, i :: r⟩ vo := by
  subst hv
  have ho := h.own
  rw [hm] at ho
  simp only [List.length_cons] at ho
  have hB := (ho.lt g rfl).1
  have hlo := h.lo
  refine ⟨h.to_.far (by simp only; omega) _, h.len, ?_, h.lo, by have := h.few; rw [hm] at this; exact this, h.deep, fun q hq => ?_, h.big, by rw [size_set]; exact h.room⟩
  · have := rown_set (j := r.length) (u := .int .i64 (i : Int)) ho
    have e : (nts (p :: r).reverse).set r.length (.int .i64 (i : Int)) = nts (i :: r).reverse := by
      simp only [nts, List.reverse_cons, List.map_append, List.map_cons, List.map_nil]
      rw [List.set_append_right _ _ (by simp)]
      simp
    rw [e] at this
    exact this
  · rcases List.mem_cons.1 hq with rfl | hq
    · exact hi
    · exact h.wf q (by rw [hm]; simp [hq])
theorem Rt.drop {p : Nat} {r : List Nat} {g c : Nat} (h : Rt W gt B n m vo) (hm : m.op = p :: r) (hv : vo = .slice (some ⟨g, 0, none⟩) (r.length + 1) c) : Rt W gt B n ⟨m.tO, m.deep, r⟩ (.slice (some ⟨g, 0, none⟩) r.length c) := by
  subst hv
  have ho := h.own
  rw [hm] at ho
  simp only [List.length_cons] at ho
  have ht := rown_take (q' := r.length) ho (by omega) (by simp)
  refine { h with own := ?_, few := by have := h.few; rw [hm] at this; simp at this ⊢; omega, wf := fun q hq => h.wf q (by rw [hm]; simp [show q ∈ r from hq]) }
  have e : (nts (p :: r).reverse).take (r.length * 1) = nts r.reverse := by
    simp only [nts, List.reverse_cons, List.map_append, Nat.mul_one]
    rw [List.take_left' (by simp)]
  rw [e] at ht
  exact ht
theorem Rt.push {W1 w' : World} {v' : Value} {i : Nat} (h : Rt W gt B n m vo) (hc : Chg [] W W1) (hi : i < n) (hn : m.op.length < 16) (d : Nat) (hd : d ≤ 16)
    (ho : w'.ownsRow B 3 1 v' (m.op.length + 1) (nts m.op.reverse ++ [.int .i64 (i : Int)])) (hg : W1.grownBy w' vo.ownBlock) : Rt w' gt B n ⟨m.tO, d, i :: m.op⟩ v' := by
  have h1 := h.keep hc
  refine ⟨?_, h.len, ?_, h.lo, by simp; omega, hd, fun q hq => ?_, h.big, Nat.le_trans h1.room hg.size⟩
  · unfold Whole
    rw [hg.block gt h1.to_.lt (fun hc => by have := (h1.own.lt gt hc.symm).1; have := h.lo; omega)]
    exact h1.to_
  · simp only [List.length_cons, List.reverse_cons, nts_app]
    exact ho
  · rcases List.mem_cons.1 hq with rfl | hq
    · exact hi
    · exact h.wf q hq
end
section
variable {W : World} {A : Option Addr} {n c gt : Nat} {l : List TkV} {t : List Int}
theorem Tks.sign (h : Tks W A n c l) {k : Nat} {s : Int} (hk : (signs l)[k]? = some s) : ∃ b o, A = some ⟨b, o, none⟩ ∧ b < W.heap.size ∧ W.cell? ⟨b, o + k * 3, none⟩ = some (.int .i32 s) := by
  unfold signs at hk
  rw [List.getElem?_map] at hk
  cases hl : l[k]? with
  | none => rw [hl] at hk; cases hk
  | some t =>
    rw [hl] at hk
    injection hk with hk
    subst hk
    obtain ⟨b, o, e, hb, h0, _, _⟩ := h.cell hl
    exact ⟨b, o, e, hb, h0⟩
set_option maxHeartbeats 2000000 in
set_option maxRecDepth 100000 in
theorem leaves_any (h : Tks W A n c l) (ht : Whole W gt 3 (nms t)) (htl : t.length = n) (at_ : Nat) (hat : at_ < n) :
    Calls Tryz.prog 96 #[.slice A n c, .slice (some ⟨gt, 0, none⟩) n n, .int .i64 (at_ : Int)] W fun e w' => e = .returned (.int .i64 (leavesV (signs l) t at_ (n - at_) at_)) ∧ W = w' := by
  have hmax := h.max
  have hsl : (signs l).length = n := by unfold signs; rw [List.length_map]; exact h.len
  have H := Lib.hid h
  have HT := Lib.hid ht
  have HTL := Lib.hid htl
  have HSL := Lib.hid hsl
  clear h ht htl hsl
  go_enter Tryz.func96, Tryz.ntmps96
  go_wp2_with fail
  go_loop [7] (fun s => ∃ j : Nat, at_ ≤ j ∧ j ≤ n ∧ s = .int .i64 (j : Int) ∧ Hid (leavesV (signs l) t at_ (n - at_) at_ = leavesV (signs l) t at_ (n - j) j)) (fun s => n - (intOf s).toNat)
  case atStart => exact ⟨at_, Nat.le_refl _, by omega, rfl, Lib.hid rfl⟩
  case round =>
    obtain ⟨j, h0, h1, rfl, HV⟩ := hrel
    by_cases hlt : j < n
    · have hltI : (j : Int) < (n : Int) := by omega
      have hj0 : (0 : Int) ≤ (j : Int) := by omega
      obtain ⟨s, hs⟩ : ∃ s, (signs l)[j]? = some s := ⟨_, List.getElem?_eq_getElem (by rw [HSL.out]; exact hlt)⟩
      obtain ⟨b, o, rfl, _, t0⟩ := H.out.sign hs
      have hjt : j < t.length := by rw [HTL.out]; exact hlt
      have c1 : W.cell? ⟨gt, j, none⟩ = some (.int .i64 (t[j]'hjt)) := (HT.out.cell j).trans (nms_get _ _ hjt)
      have HS := Lib.hid hs
      have HG := Lib.hid (show t.getD j 0 = t[j]'hjt by rw [List.getD_eq_getElem?_getD, List.getElem?_eq_getElem hjt]; rfl)
      have HN := Lib.hid (show n - j = (n - (j + 1)) + 1 by omega)
      generalize t[j] = x at c1 HG
      clear hs hjt
      by_cases h93 : s = 93
      · subst h93
        by_cases hx : x < (at_ : Int)
        · have HR := Lib.hid (show leavesV (signs l) t at_ (n - at_) at_ = (j : Int) + 1 by rw [HV.out, HN.out, leavesV, if_pos ⟨HS.out, by rw [HG.out]; exact hx⟩])
          go_wp2_with fail
          go_ret
          exact ⟨ret_int' HR.out.symm, rfl⟩
        · have hxd : decide (x < (at_ : Int)) = false := by simpa using hx
          have HR := Lib.hid (show leavesV (signs l) t at_ (n - at_) at_ = leavesV (signs l) t at_ (n - (j + 1)) (j + 1) by rw [HV.out, HN.out, leavesV, if_neg (fun hc => hx (by rw [← HG.out]; exact hc.2))])
          go_wp2_with fail
          go_round
          case rel => exact ⟨j + 1, by omega, by omega, by go_num, HR⟩
          case measure => simp [intOf]; omega
      · have hsd : (s == 93) = false := by simpa using h93
        have HR := Lib.hid (show leavesV (signs l) t at_ (n - at_) at_ = leavesV (signs l) t at_ (n - (j + 1)) (j + 1) by rw [HV.out, HN.out, leavesV, if_neg (fun hc => h93 (by have := hc.1; rw [HS.out] at this; injection this))])
        go_wp2_with fail
        go_round
        case rel => exact ⟨j + 1, by omega, by omega, by go_num, HR⟩
        case measure => simp [intOf]; omega
    · have hltI : ¬ (j : Int) < (n : Int) := by omega
      have HR := Lib.hid (show leavesV (signs l) t at_ (n - at_) at_ = -1 by rw [HV.out, show n - j = 0 by omega]; rfl)
      go_wp2_with fail
      go_ret
      exact ⟨ret_int' HR.out.symm, rfl⟩
end
end Go.Proofs.YtbkfhndmeljlcaaGreatDoor
namespace Go.Proofs.YtbkfhndmeljlcaaGreatDoor
open Go.RowKit
def OfPost8 (n : Nat) (r : Option (List Int × Nat)) (W : World) (e : Ending) (w' : World) : Prop :=
  Chg [] W w' ∧ ((∃ t d g, r = some (t, d) ∧ t.length = n ∧ e = .returned (.tuple #[.slice (some ⟨g, 0, none⟩) n n, .int .i64 0]) ∧ Whole w' g 3 (nms t)) ∨
    (r = none ∧ e = .returned (.tuple #[.slice none 0 0, .int .i64 13])))
section
variable {W : World} {A : Option Addr} {n c : Nat} {l : List TkV}
set_option maxHeartbeats 1000000 in
set_option maxRecDepth 100000 in
theorem nof_any (h : Tks W A n c l) : Calls Tryz.prog 108 #[.slice A n c] W (OfPost8 n (nNest (signs l)) W) := by
  go_enter Tryz.func108, Tryz.ntmps108
  go_wp2_with fail
  refine (match_any h).mono ?_
  rintro e w1 ⟨hc, ⟨t, d, g, hr, htl, rfl, hT, _⟩ | ⟨hr, v, d, rfl⟩⟩
  · have HPO := Lib.hid (show OfPost8 n (nNest (signs l)) W (.returned (.tuple #[.slice (some ⟨g, 0, none⟩) n n, .int .i64 0])) w1 from ⟨hc, .inl ⟨t, d, g, hr, htl, rfl, hT⟩⟩)
    clear hr htl hT hc h
    go_wp2_with fail
    go_ret2
    exact HPO.out
  · have HPO := Lib.hid (show OfPost8 n (nNest (signs l)) W (.returned (.tuple #[.slice none 0 0, .int .i64 13])) w1 from ⟨hc, .inr ⟨hr, rfl⟩⟩)
    clear hr hc h
    go_wp2_with fail
    go_ret2
    exact HPO.out
end
end Go.Proofs.YtbkfhndmeljlcaaGreatDoor
namespace Go.Proofs.YtbkfhndmeljlcaaGreatDoor
open Go.RowKit
abbrev laidL : List (String × DataW Unit) := [("math/bits.deBruijn32tab", Rows.laid_math_bits_deBruijn32tab), ("math/bits.deBruijn64tab", Rows.laid_math_bits_deBruijn64tab), ("internal/strconv.uint64pow10", Rows.laid_internal_strconv_uint64pow10)]
theorem door_met (os : Os) (args : Array Value) : laidMetH Tryz.prog laidL ((World.doorLaid Tryz.prog 400 os).forCall (fun _ _ => 0) ⟨#[], args, []⟩).memory :=
  laidMetH_of_parts3 (fuel := 8) (laidMet_of_run' 8 (by kernel_rfl) (by kernel_rfl)) (by kernel_rfl) (by kernel_rfl)
theorem pow_data : (Rows.laid_internal_strconv_uint64pow10 : DataW Unit) = Lib.tabData .u64 Lib.pow10Tab := by rfl
theorem pow_of {W : World} (h : laidMetH Tryz.prog laidL W) : PowB W.heap.size W := by
  rw [MakeChecks.laidMetH_plain _ _ _ (by kernel_rfl)] at h
  have h3 := laidMet.tail (laidMet.tail h)
  rw [pow_data] at h3
  exact Lib.tabBelow_of_tabIs (Lib.tabIs_of_head (g := 1) (t := 175) (e := 122) (n := 20) (by kernel_rfl) (by kernel_rfl) Tryz.underlying175 Tryz.underlying122 (by kernel_rfl) (by kernel_rfl) h3)
end Go.Proofs.YtbkfhndmeljlcaaGreatDoor
