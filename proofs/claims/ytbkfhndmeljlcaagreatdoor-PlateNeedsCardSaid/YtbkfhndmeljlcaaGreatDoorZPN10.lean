/-
  PN: Digits, Txt, FnRow, StPure, Find.
-/
import Derived.Test.YtbkfhndmeljlcaaGreatDoorZPN6
import Derived.Test.YtbkfhndmeljlcaaGreatDoorZPN7
import Derived.Test.YtbkfhndmeljlcaaGreatDoorZPN8
import Derived.Test.YtbkfhndmeljlcaaGreatDoorZPN9
import Derived.Laws.Cover4
namespace Go.Proofs.YtbkfhndmeljlcaaGreatDoor
open Go.RowKit
/-- Some text of at most so many bytes. -/
def TxtPost (m : Nat) (w : World) (e : Ending) (w' : World) : Prop := ∃ s : ByteArray, e = .returned (.string s) ∧ s.size ≤ m ∧ Chg [] w w'
theorem encode_le4 (i : Int) : (Utf8.encode i).size ≤ 4 := encode_size_le i
set_option maxHeartbeats 1000000 in
set_option maxRecDepth 100000 in
theorem digits_any : ∀ (k n : Nat), n < 10 ^ (k + 1) → k ≤ 10 → ∀ w : World, Calls Tryz.prog 62 #[.int .i64 (n : Int)] w (TxtPost (4 * (k + 1)) w)
  | k, n, hn, hk, w => by
    have hp : 10 ^ (k + 1) ≤ 10 ^ 11 := Nat.pow_le_pow_right (by omega) (by omega)
    have hn2 : n < 100000000000 := Nat.lt_of_lt_of_le hn hp
    clear hp
    by_cases h10 : 10 ≤ n
    · match k, hn, hk with
      | 0, hn, hk => omega
      | k + 1, hn, hk =>
        have IH := Lib.hid (fun W => digits_any k (n / 10) (by rw [Nat.pow_succ] at hn; omega) (by omega) W)
        have hq : (n : Int).tdiv 10 = ((n / 10 : Nat) : Int) := rfl
        have hr : (n : Int).tmod 10 = ((n % 10 : Nat) : Int) := rfl
        generalize hgr : n % 10 = r at hr
        have hr9 : r < 10 := by omega
        have hq9 : n / 10 < 100000000000 := by omega
        generalize n / 10 = q at *
        clear hn hgr
        go_enter Tryz.func62, Tryz.ntmps62
        go_wp2_with fail
        refine (IH.out _).mono ?_
        rintro e w1 ⟨s, rfl, hs, hc⟩
        obtain ⟨y, hy⟩ : ∃ y, s ++ Utf8.encode (48 + (r : Int)) = y := ⟨_, rfl⟩
        have hys : y.size ≤ 4 * (k + 1 + 1) := by rw [← hy, ByteArray.size_append']; have := encode_le4 (48 + (r : Int)); omega
        have hadd : (Op.stringOp .add s (Utf8.encode (48 + (r : Int)))).run Tryz.prog w1 = .ok (.string y) w1 := by
          rw [← hy]; exact run_string_add_sum _ _ _ (by have := encode_le4 (48 + (r : Int)); omega)
        clear hy
        go_wp2_with fail
        go_ret
        exact ⟨y, rfl, hys, hc⟩
    · go_enter Tryz.func62, Tryz.ntmps62
      go_wp2_with fail
      go_ret
      exact ⟨_, rfl, by have := encode_le4 (48 + (n : Int)); omega, Chg.refl _ _⟩
/-- Yes or no. -/
def AnyB (w : World) (e : Ending) (w' : World) : Prop := ∃ b : Bool, e = .returned (.bool b) ∧ w = w'
set_option maxHeartbeats 1000000 in
set_option maxRecDepth 100000 in
theorem halts_any (s : ByteArray) (w : World) (hs : s.size ≤ 1000000) : Calls Tryz.prog 36 #[.string s] w (AnyB w) := by
  by_cases h : 2 < s.size
  · have hd : decide (2 < s.size) = true := by simpa using h
    go_enter Tryz.func36, Tryz.ntmps36
    go_wp2_with fail
    go_ret
    exact ⟨_, rfl, rfl⟩
  · have hd : decide (2 < s.size) = false := by simpa using h
    go_enter Tryz.func36, Tryz.ntmps36
    go_wp2_with fail
    go_ret
    exact ⟨_, rfl, rfl⟩
set_option maxHeartbeats 1000000 in
set_option maxRecDepth 100000 in
theorem live_any (s : ByteArray) (w : World) (hs : s.size ≤ 1000000) : Calls Tryz.prog 63 #[.string s] w fun e w' => ∃ t : ByteArray, e = .returned (.string t) ∧ t.size ≤ s.size ∧ w = w' := by
  have HH := Lib.hid (halts_any s w hs)
  go_enter Tryz.func63, Tryz.ntmps63
  go_wp2_with fail
  refine HH.out.mono ?_
  rintro e w1 ⟨b, rfl, hw⟩
  cases b
  · go_wp2_with fail
    go_ret
    exact ⟨_, rfl, by first | exact Nat.le_refl _ | exact Nat.zero_le _, hw⟩
  · go_wp2_with fail
    go_ret
    exact ⟨_, rfl, by first | exact Nat.le_refl _ | exact Nat.zero_le _, hw⟩
end Go.Proofs.YtbkfhndmeljlcaaGreatDoor
namespace Go.Proofs.YtbkfhndmeljlcaaGreatDoor
open Go.RowKit
/-- The tape goes on, all else stays. -/
structure TapeQ (p : Nat) (A : Option Addr) (n c : Nat) (l : List Int) (a b : World) : Prop where
  chg : Chg [p] a b
  tp : ∀ i, Tp a p A n c l i → ∃ j, Tp b p A n c l j
section
variable {p n c : Nat} {A : Option Addr} {l : List Int}
theorem TapeQ.refl (a : World) : TapeQ p A n c l a a := ⟨Chg.refl _ _, fun i h => ⟨i, h⟩⟩
theorem TapeQ.trans {a b d : World} (h : TapeQ p A n c l a b) (k : TapeQ p A n c l b d) : TapeQ p A n c l a d := ⟨h.chg.trans k.chg, fun i hi => by obtain ⟨j, hj⟩ := h.tp i hi; exact k.tp j hj⟩
theorem TapeQ.of_chg {a b : World} (h : Chg [] a b) : TapeQ p A n c l a b := ⟨h.sub (by simp), fun i hi => ⟨i, hi.keep h⟩⟩
def IsTxt (m : Nat) (v : Value) : Prop := ∃ s : ByteArray, v = .string s ∧ s.size ≤ m
def IsNum (m : Nat) (v : Value) : Prop := ∃ r : Nat, v = .int .i64 (r : Int) ∧ r < m
end
end Go.Proofs.YtbkfhndmeljlcaaGreatDoor
namespace Go.Proofs.YtbkfhndmeljlcaaGreatDoor
open Go.RowKit
structure FnV where
  name : Int
  args : Int
  code : ByteArray
def fnC (t : FnV) : List Value := [.int .i32 t.name, .int .i64 t.args, .string t.code]
def fnCs : List FnV → List Value
  | [] => []
  | t :: l => fnC t ++ fnCs l
theorem fnCs_len : ∀ l, (fnCs l).length = l.length * 3
  | [] => rfl
  | t :: l => by rw [fnCs, List.length_append, fnCs_len l]; simp [fnC]; omega
theorem fnCs_app : ∀ l m, fnCs (l ++ m) = fnCs l ++ fnCs m
  | [], _ => rfl
  | t :: l, m => by rw [List.cons_append, fnCs, fnCs, fnCs_app l m, List.append_assoc]
theorem fnCs_one (t : FnV) : fnCs [t] = fnC t := by simp [fnCs]
theorem fnCs_get : ∀ (l : List FnV) (k : Nat) (t : FnV) (j : Nat), l[k]? = some t → j < 3 → (fnCs l)[k * 3 + j]? = (fnC t)[j]?
  | [], k, t, j, h, hj => by simp at h
  | u :: l, 0, t, j, h, hj => by
    simp at h; subst h
    rw [fnCs, List.getElem?_append_left (by simp [fnC]; omega)]
    congr 1; omega
  | u :: l, k + 1, t, j, h, hj => by
    simp at h
    rw [fnCs, List.getElem?_append_right (by simp [fnC]; omega)]
    rw [← fnCs_get l k t j h hj]
    congr 1; simp [fnC]; omega
theorem info_func : (Tryz.prog.info? 58).map (fun i => (i.zero, i.size, i.bytes)) = some (some (.agg #[.int .i32 0, .int .i64 0, .string ⟨#[]⟩]), 3, 32) := by kernel_rfl
/-- The slice value '.slice A n c' is the functions l; they do not lie in block p. -/
structure Fns (W : World) (p : Nat) (A : Option Addr) (n c : Nat) (l : List FnV) : Prop where
  len : l.length = n
  src : Src W A (fnCs l)
  cap : n ≤ c
  max : n ≤ 1000
  spot : 0 < n → ∀ ad, A = some ad → ad.spot = none ∧ ad.block ≠ p
  args : ∀ f ∈ l, 0 ≤ f.args ∧ f.args ≤ 2
section
variable {W W' : World} {p : Nat} {A : Option Addr} {n c : Nat} {l : List FnV}
theorem Fns.keep (h : Fns W p A n c l) (hc : Chg [p] W W') : Fns W' p A n c l := by
  refine ⟨h.len, fun hp => ?_, h.cap, h.max, h.spot, h.args⟩
  obtain ⟨ad, e, hb, hx⟩ := h.src hp
  have hn : 0 < n := by have := h.len; rw [fnCs_len] at hp; omega
  refine ⟨ad, e, Nat.lt_of_lt_of_le hb hc.size, fun j v hj => ?_⟩
  have h1 := hx j v hj
  rw [← h1]
  have e2 : (ad.add j).block = ad.block := by unfold Addr.add; split <;> rfl
  refine World.cell?_of_block (w := W) (hc.block _ (by rw [e2]; exact hb) ?_)
  rw [e2]
  have := (h.spot hn ad e).2
  simpa using this
theorem Fns.cell (h : Fns W p A n c l) {k : Nat} {t : FnV} (hk : l[k]? = some t) : ∃ b o, A = some ⟨b, o, none⟩ ∧ b ≠ p ∧ b < W.heap.size ∧ W.cell? ⟨b, o + k * 3, none⟩ = some (.int .i32 t.name) ∧ W.cell? ⟨b, o + k * 3 + 1, none⟩ = some (.int .i64 t.args) ∧ W.cell? ⟨b, o + k * 3 + 2, none⟩ = some (.string t.code) := by
  have hkl := (List.getElem?_eq_some_iff.1 hk).1
  obtain ⟨⟨b, o, s⟩, e, hb, hx⟩ := h.src (by rw [fnCs_len]; omega)
  obtain ⟨hs, hbp⟩ := h.spot (by have := h.len; omega) _ e
  simp only at hs hbp
  subst hs
  refine ⟨b, o, e, hbp, hb, ?_, ?_, ?_⟩
  · have := hx _ _ ((fnCs_get l k t 0 hk (by omega)).trans rfl); rwa [add_plain] at this
  · have := hx _ _ ((fnCs_get l k t 1 hk (by omega)).trans rfl); rwa [add_plain] at this
  · have := hx _ _ ((fnCs_get l k t 2 hk (by omega)).trans rfl); rwa [add_plain] at this
end
end Go.Proofs.YtbkfhndmeljlcaaGreatDoor
namespace Go.Proofs.YtbkfhndmeljlcaaGreatDoor
open Go.RowKit
structure BkV where
  sign : Int
  base : Int
  other : Int
  left : Bool
/-- The place of the first function of a name. -/
def findK (name : Int) : List FnV → Nat → Option Nat
  | [], _ => none
  | f :: l, k => if f.name = name then some k else findK name l (k + 1)
def findI (l : List FnV) (name : Int) : Int := match findK name l 0 with | some k => (k : Int) | none => -1
theorem findK_at {name : Int} : ∀ {l : List FnV} {k j : Nat}, findK name l k = some j → ∃ f, k ≤ j ∧ l[j - k]? = some f ∧ f.name = name
  | [], k, j, h => by simp [findK] at h
  | f :: l, k, j, h => by
    rw [findK] at h
    by_cases hn : f.name = name
    · rw [if_pos hn] at h; injection h with h; subst h; exact ⟨f, Nat.le_refl _, by simp, hn⟩
    · rw [if_neg hn] at h
      obtain ⟨g, h1, h2, h3⟩ := findK_at h
      refine ⟨g, by omega, ?_, h3⟩
      rw [show j - k = (j - (k + 1)) + 1 from by omega]
      simpa using h2
theorem findK_add {name : Int} : ∀ (l m : List FnV) (k j : Nat), findK name l k = some j → findK name (l ++ m) k = some j
  | [], m, k, j, h => by simp [findK] at h
  | f :: l, m, k, j, h => by
    rw [List.cons_append, findK]
    rw [findK] at h
    by_cases hn : f.name = name
    · rw [if_pos hn] at h ⊢; exact h
    · rw [if_neg hn] at h ⊢; exact findK_add l m (k + 1) j h
def binL : List Nat := [43, 45, 42, 47, 37, 38, 124, 94, 60, 61, 171, 187]
def unL : List Nat := [33, 64, 169, 164, 960]
def zeL : List Nat := [58, 59, 91, 93, 126, 161]
def inL (l : List Nat) (r : Int) : Bool := l.any fun x => (x : Int) == r
/-- What a call takes. -/
def callA (l : List FnV) (name : Int) : Int × Int × Bool :=
  match findK name l 0 with
  | none => (0, 0, false)
  | some k => match l[k]? with
    | none => (0, 0, false)
    | some f => if 0 ≤ f.args ∧ f.args ≤ 4 then (f.args, 1, true) else (0, 0, false)
def rTakes (l : List FnV) (s name : Int) : Int × Int × Bool :=
  if (s = 48 ∨ (97 ≤ s ∧ s ≤ 122)) ∨ s = 35 then (0, 1, true)
  else if (65 ≤ s ∧ s ≤ 90) ∨ s = 44 then (1, 0, true)
  else if s = 46 then (1, 2, true)
  else if inL binL s = true then (2, 1, true)
  else if inL unL s = true then (1, 1, true)
  else if s = 36 ∨ s = 174 then (2, 0, true)
  else if s = 63 then (1, 0, true)
  else if inL zeL s = true then (0, 0, true)
  else if s = 955 then callA l name
  else (0, 0, false)
theorem callA_in (l : List FnV) (name : Int) : 0 ≤ (callA l name).1 ∧ (callA l name).1 ≤ 4 ∧ 0 ≤ (callA l name).2.1 ∧ (callA l name).2.1 ≤ 2 := by
  unfold callA
  split
  · simp
  · split
    · simp
    · split
      · rename_i h; simp; omega
      · simp
theorem rTakes_in (l : List FnV) (s name : Int) : 0 ≤ (rTakes l s name).1 ∧ (rTakes l s name).1 ≤ 4 ∧ 0 ≤ (rTakes l s name).2.1 ∧ (rTakes l s name).2.1 ≤ 2 := by
  unfold rTakes
  repeat' split
  all_goals first | exact callA_in l name | simp
def baseOf (bs : List BkV) : Int := match bs.getLast? with | none => 0 | some b => b.base
/-- : ; ] -/
def rEnds (h : Int) (ys : List BkV) (x : BkV) (r : Int) : Bool × Int × List BkV :=
  if r = 58 then (true, x.base, ys ++ [⟨58, x.base, h, x.left⟩])
  else if x.sign = 58 then (if 0 ≤ x.other ∧ 0 ≤ h ∧ x.other ≠ h then (false, h, ys) else (true, max h x.other, ys))
  else if 0 ≤ h ∧ h ≠ x.base then (false, h, ys)
  else (true, (if x.sign = 91 ∧ x.left = false then -1 else x.base), ys)
/-- ~ -/
def rLeave (h : Int) (bs : List BkV) : Nat → Bool × Int × List BkV
  | 0 => (false, h, bs)
  | k + 1 => match bs[k]? with
    | none => (false, h, bs)
    | some x => if x.sign = 91 then (h == x.base, -1, bs.set k ⟨x.sign, x.base, x.other, true⟩) else rLeave h bs k
def isEnd (s : Int) : Prop := s = 58 ∨ s = 59 ∨ s = 93
instance (s : Int) : Decidable (isEnd s) := by unfold isEnd; exact inferInstance
/-- A token: the fault's number, or the height and the blocks behind it. -/
def rTok (l : List FnV) (h : Int) (bs : List BkV) (s name : Int) : Int × Int × List BkV :=
  if isEnd s then (match bs.getLast? with
    | none => (14, h, bs)
    | some x => match rEnds h bs.dropLast x s with | (true, h', bs') => (0, h', bs') | (false, h', bs') => (14, h', bs'))
  else if h < 0 then (15, h, bs)
  else match rTakes l s name with
    | (_, _, false) => (22, h, bs)
    | (p, g, true) =>
      if h - baseOf bs < p ∨ 64 < h - p + g then (14, h, bs)
      else if s = 63 ∨ s = 91 then (0, h - p + g, bs ++ [⟨s, h - p + g, 0, false⟩])
      else if s = 126 then (match rLeave (h - p + g) bs bs.length with | (true, h', bs') => (0, h', bs') | (false, h', bs') => (14, h', bs'))
      else if s = 161 then (0, -1, bs)
      else (0, h - p + g, bs)
/-- The tokens from one on. -/
def rWalk (l : List FnV) : List TkV → Int → List BkV → List Int → Int × List Int
  | [], h, _, out => if h ≠ 1 ∧ 0 ≤ h then (14, []) else (0, out)
  | t :: ts, h, bs, out => match rTok l h bs t.sign t.name with
    | (e, h', bs') => if e = 0 then rWalk l ts h' bs' (out ++ [h]) else (e, [])
def rFunc (l : List FnV) (code : ByteArray) : Int × List Int :=
  match tokR code with
  | none => (tokE code, [])
  | some ts => match rNest (signs ts) with
    | none => (13, [])
    | some _ => rWalk l ts 0 [] []
/-- How many blocks are open behind a sign. -/
def tokLen (s : Int) (n : Nat) : Nat := if s = 63 ∨ s = 91 then n + 1 else if s = 59 ∨ s = 93 then n - 1 else n
theorem rLeave_len (h : Int) (bs : List BkV) : ∀ k, (rLeave h bs k).2.2.length = bs.length
  | 0 => rfl
  | k + 1 => by
    rw [rLeave]
    split
    · rfl
    · split
      · simp
      · exact rLeave_len h bs k
theorem rTok_len {l : List FnV} {h : Int} {bs : List BkV} {s name : Int} (he : (rTok l h bs s name).1 = 0) : (rTok l h bs s name).2.2.length = tokLen s bs.length := by
  unfold rTok at he ⊢
  by_cases hs : isEnd s
  · rw [if_pos hs] at he ⊢
    rcases List.eq_nil_or_concat bs with rfl | ⟨ys, x, rfl⟩
    · simp at he
    · rw [List.concat_eq_append] at he ⊢
      simp only [List.getLast?_append, List.getLast?_singleton, Option.some_or, List.dropLast_concat, List.length_append, List.length_singleton] at he ⊢
      unfold rEnds at he ⊢
      rcases hs with rfl | rfl | rfl
      · simp [tokLen]
      · simp only [tokLen] at he ⊢
        split <;> simp_all
        all_goals (repeat' split at *) <;> simp_all
      · simp only [tokLen] at he ⊢
        split <;> simp_all
        all_goals (repeat' split at *) <;> simp_all
  · rw [if_neg hs] at he ⊢
    have hn : ¬ s = 59 ∧ ¬ s = 93 := by unfold isEnd at hs; omega
    by_cases hh : h < 0
    · rw [if_pos hh] at he; simp at he
    · rw [if_neg hh] at he ⊢
      rcases hT : rTakes l s name with ⟨p, g, ok⟩
      rw [hT] at he
      cases ok
      · simp at he
      · simp only at he ⊢
        by_cases hb : h - baseOf bs < p ∨ 64 < h - p + g
        · rw [if_pos hb] at he; simp at he
        · rw [if_neg hb] at he ⊢
          by_cases h6 : s = 63 ∨ s = 91
          · rw [if_pos h6]; simp [tokLen, h6]
          · rw [if_neg h6] at he ⊢
            have e : tokLen s bs.length = bs.length := by unfold tokLen; rw [if_neg h6, if_neg (by omega)]
            rw [e]
            by_cases h7 : s = 126
            · rw [if_pos h7] at he ⊢
              have := rLeave_len (h - p + g) bs bs.length
              rcases hR : rLeave (h - p + g) bs bs.length with ⟨b, h', bs'⟩
              rw [hR] at this
              cases b <;> exact this
            · rw [if_neg h7]
              split <;> rfl
end Go.Proofs.YtbkfhndmeljlcaaGreatDoor
namespace Go.Proofs.YtbkfhndmeljlcaaGreatDoor
open Go.RowKit
/-- A unit, as an argument. -/
def unitV (pages most : Int) (A : Option Addr) (n c : Nat) : Value := .agg #[.int .i64 pages, .int .i64 most, .slice A n c]
/-- The slice value '.slice A n c' is the functions l, whatever they are. -/
structure Fnr (W : World) (A : Option Addr) (n c : Nat) (l : List FnV) : Prop where
  len : l.length = n
  src : Src W A (fnCs l)
  cap : n ≤ c
  max : n ≤ 1000
  spot : 0 < n → ∀ ad, A = some ad → ad.spot = none
  args : ∀ f ∈ l, -9223372036854775808 ≤ f.args ∧ f.args ≤ 9223372036854775807
section
variable {W W' : World} {p : Nat} {A : Option Addr} {n c : Nat} {l : List FnV}
theorem Fnr.keep (h : Fnr W A n c l) (hc : Chg [] W W') : Fnr W' A n c l := ⟨h.len, h.src.keep hc, h.cap, h.max, h.spot, h.args⟩
theorem Fnr.cell (h : Fnr W A n c l) {k : Nat} {t : FnV} (hk : l[k]? = some t) : ∃ b o, A = some ⟨b, o, none⟩ ∧ b < W.heap.size ∧ W.cell? ⟨b, o + k * 3, none⟩ = some (.int .i32 t.name) ∧ W.cell? ⟨b, o + k * 3 + 1, none⟩ = some (.int .i64 t.args) ∧ W.cell? ⟨b, o + k * 3 + 2, none⟩ = some (.string t.code) := by
  have hkl := (List.getElem?_eq_some_iff.1 hk).1
  obtain ⟨⟨b, o, s⟩, e, hb, hx⟩ := h.src (by rw [fnCs_len]; omega)
  obtain rfl : s = none := h.spot (by have := h.len; omega) _ e
  refine ⟨b, o, e, hb, ?_, ?_, ?_⟩
  · have := hx _ _ ((fnCs_get l k t 0 hk (by omega)).trans rfl); rwa [add_plain] at this
  · have := hx _ _ ((fnCs_get l k t 1 hk (by omega)).trans rfl); rwa [add_plain] at this
  · have := hx _ _ ((fnCs_get l k t 2 hk (by omega)).trans rfl); rwa [add_plain] at this
end
section
variable {w : World} {A : Option Addr} {n c : Nat} {l : List FnV} {pages most : Int}
def FindPost (i : Int) (w : World) (e : Ending) (w' : World) : Prop := e = .returned (.int .i64 i) ∧ Chg [] w w'
set_option maxHeartbeats 2000000 in
set_option maxRecDepth 100000 in
theorem find_any (h : Fnr w A n c l) (name : Int) : Calls Tryz.prog 80 #[unitV pages most A n c, .int .i32 name] w (FindPost (findI l name) w) := by
  unfold unitV
  have hmax := h.max
  have H := Lib.hid h
  have HL := Lib.hid h.len
  have HI := Lib.hid (show findK name l 0 = findK name (l.drop 0) 0 from rfl)
  have HN := Lib.hid (show findI l name = match findK name l 0 with | some k => (k : Int) | none => -1 from rfl)
  generalize findI l name = fi at HN ⊢
  clear h
  go_enter Tryz.func80, Tryz.ntmps80
  go_upto_region 1 with fail
  have hN := Whole.new w 24 [.int .i64 pages, .int .i64 most, .slice A n c]
  have hal : Chg [] w (w.alloc (.cells #[.int .i64 pages, .int .i64 most, .slice A n c] 24)) := (Chg.refl [] w).alloc _
  have c2 := hN.cell 2
  have HN := Lib.hid hN
  have HC := Lib.hid hal
  have HF := Lib.hid (H.out.keep hal)
  obtain ⟨g, hg⟩ : ∃ g, g = w.heap.size := ⟨_, rfl⟩
  rw [← hg] at c2 ⊢
  generalize w.alloc (.cells #[.int .i64 pages, .int .i64 most, .slice A n c] 24) = w1 at c2 HC HF ⊢
  clear hN hal hg HN
  go_wp2_with fail
  go_loopw [9] (fun i wr => ∃ k : Nat, i = .int .i64 (k : Int) ∧ k ≤ n ∧ Hid (findK name l 0 = findK name (l.drop k) k) ∧ wr = w1) (fun i _ => n - (intOf i).toNat)
  case atStart => exact ⟨0, rfl, by omega, HI, rfl⟩
  case round =>
    obtain ⟨k, rfl, hk, HK, hwr⟩ := hrel
    subst hwr
    by_cases hkn : k < n
    · have hkI : (k : Int) < (n : Int) := by omega
      obtain ⟨t, htk⟩ : ∃ t, l[k]? = some t := ⟨l[k]'(by rw [HF.out.len]; exact hkn), by simp⟩
      have HD := Lib.hid (show l.drop k = t :: l.drop (k + 1) from List.drop_eq_getElem?_toList_append.trans (by rw [htk]; rfl))
      obtain ⟨fb, fo, rfl, hfbl, e0, e1, e2⟩ := HF.out.cell htk
      clear htk e1 e2
      by_cases hnm : t.name = name
      · have hq : (t.name == name) = true := by simpa using hnm
        have HP := Lib.hid (show FindPost fi w (.returned (.int .i64 (k : Int))) wr from ⟨by rw [HN.out, HK.out, HD.out, findK, if_pos hnm], HC.out⟩)
        clear hnm
        go_wp2_with fail
        go_ret
        exact HP.out
      · have hq : (t.name == name) = false := by simpa using hnm
        have HK2 := Lib.hid (show findK name l 0 = findK name (l.drop (k + 1)) (k + 1) from by rw [HK.out, HD.out, findK, if_neg hnm])
        go_wp2_with fail
        go_roundw
        case rel => exact ⟨k + 1, by go_num, by omega, HK2, by first | rfl | trivial⟩
        case measure => simp [intOf]; omega
    · have hkI : (n : Int) ≤ (k : Int) := by omega
      have HP := Lib.hid (show FindPost fi w (.returned (.int .i64 (-1))) wr from ⟨by rw [HN.out, HK.out, List.drop_eq_nil_of_le (by rw [HL.out]; omega)]; rfl, HC.out⟩)
      go_wp2_with fail
      go_ret
      exact HP.out
end
end Go.Proofs.YtbkfhndmeljlcaaGreatDoor
