/-
  PB: TxPure.
-/
import Derived.Test.YtbkfhndmeljlcaaGreatDoorZPB9
import Derived.Lib.MapLaws
import Derived.Lib.DecodeN
import Derived.Lib.ItoaNum
namespace Go.Proofs.YtbkfhndmeljlcaaGreatDoor
open Go.RowKit
open Go.Lib
/-- The runes of bytes. -/
def rl (l : List UInt8) : List Nat := runesL ⟨l.toArray⟩
theorem ba_app (a b : List UInt8) : (⟨(a ++ b).toArray⟩ : ByteArray) = ⟨a.toArray⟩ ++ ⟨b.toArray⟩ := by
  apply ByteArray.ext
  simp
theorem ba_size (a : List UInt8) : (⟨a.toArray⟩ : ByteArray).size = a.length := by
  show a.toArray.size = _
  simp
theorem ba_get (a : List UInt8) (i : Nat) : (⟨a.toArray⟩ : ByteArray).get! i = a.getD i 0 := by
  show a.toArray[i]! = _
  simp [List.getD, getElem!_def]
  cases a[i]? <;> rfl
/-- A rune that is decoded at the beginning. -/
theorem rl_step (c t : List UInt8) (r : Nat) (hc : 0 < c.length) (hd : Utf8.decode ⟨(c ++ t).toArray⟩ 0 = (r, c.length)) : rl (c ++ t) = r :: rl t := by
  unfold rl runesL
  rw [ba_size, List.length_append]
  obtain ⟨k, hk⟩ : ∃ k, c.length = k + 1 := ⟨c.length - 1, by omega⟩
  rw [show c.length + t.length = (k + t.length) + 1 from by omega, runesAt, if_pos (by rw [ba_size, List.length_append]; omega), hd]
  have h2 := runesAt_shift ⟨c.toArray⟩ ⟨t.toArray⟩ (k + t.length) 0
  rw [ba_size, ← ba_app] at h2
  simp only [Nat.zero_add, Nat.add_zero] at h2 ⊢
  rw [h2, ba_size, runesAt_more _ t.length (k + t.length) 0 (by rw [ba_size]; omega) (by omega)]
theorem rl_byte (b : UInt8) (hb : b.toNat < 128) (t : List UInt8) : rl (b :: t) = b.toNat :: rl t := by
  refine rl_step [b] t b.toNat (by simp) ?_
  rw [decode_at, ba_get]
  unfold decodeN
  show (if b.toNat < 128 then _ else _) = _
  rw [if_pos hb]
  rfl
def okR (r : Int) : Prop := (0 ≤ r ∧ r < 55296) ∨ (57343 < r ∧ r ≤ 1114111)
theorem toN8 (z : Int) (h0 : 0 ≤ z) (h : z < 256) : (z.toNat.toUInt8).toNat = z.toNat := by
  have : z.toNat < 256 := by omega
  simp; omega
set_option maxHeartbeats 1000000 in
theorem dec_enc (r : Int) (hr : okR r) (t : List UInt8) : Utf8.decode ⟨(encodeRune r ++ t).toArray⟩ 0 = (r.toNat, (encodeRune r).length) := by
  have hc : (0 ≤ r ∧ r ≤ 127) ∨ (128 ≤ r ∧ r ≤ 2047) ∨ ((2048 ≤ r ∧ r < 55296) ∨ (57343 < r ∧ r ≤ 65535)) ∨ (65536 ≤ r ∧ r ≤ 1114111) := by unfold okR at hr; omega
  unfold encodeRune
  rcases hc with h | h | h | h
  · rw [encodeRuneZ_one h.1 h.2]
    have e0 := toN8 r h.1 (by omega)
    rw [decode_at, ba_size, ba_get, ba_get, ba_get, ba_get]
    simp only [List.map_cons, List.map_nil, List.cons_append, List.nil_append, List.getD_cons_zero, List.getD_cons_succ, List.length_cons, List.length_nil, Nat.zero_add]
    rw [e0]
    unfold decodeN
    rw [if_pos (by omega)]
  · rw [encodeRuneZ_two h.1 h.2]
    have e0 := toN8 (192 + r / 64) (by omega) (by omega)
    have e1 := toN8 (128 + r % 64) (by omega) (by omega)
    rw [decode_at, ba_size, ba_get, ba_get, ba_get, ba_get]
    simp only [List.map_cons, List.map_nil, List.cons_append, List.nil_append, List.getD_cons_zero, List.getD_cons_succ, List.length_cons, List.length_nil, Nat.zero_add]
    rw [e0, e1]
    unfold decodeN
    rw [if_neg (by omega), if_pos (by omega), if_pos (by omega)]
    apply Prod.ext
    · simp only; omega
    · rfl
  · rw [encodeRuneZ_three h]
    have e0 := toN8 (224 + r / 4096) (by omega) (by omega)
    have e1 := toN8 (128 + r / 64 % 64) (by omega) (by omega)
    have e2 := toN8 (128 + r % 64) (by omega) (by omega)
    rw [decode_at, ba_size, ba_get, ba_get, ba_get, ba_get]
    simp only [List.map_cons, List.map_nil, List.cons_append, List.nil_append, List.getD_cons_zero, List.getD_cons_succ, List.length_cons, List.length_nil, Nat.zero_add]
    rw [e0, e1, e2]
    unfold decodeN
    rw [if_neg (by omega), if_neg (by omega), if_pos (by omega), if_pos (by omega)]
    apply Prod.ext
    · simp only; omega
    · rfl
  · rw [encodeRuneZ_four h.1 h.2]
    have e0 := toN8 (240 + r / 262144) (by omega) (by omega)
    have e1 := toN8 (128 + r / 4096 % 64) (by omega) (by omega)
    have e2 := toN8 (128 + r / 64 % 64) (by omega) (by omega)
    have e3 := toN8 (128 + r % 64) (by omega) (by omega)
    rw [decode_at, ba_size, ba_get, ba_get, ba_get, ba_get]
    simp only [List.map_cons, List.map_nil, List.cons_append, List.nil_append, List.getD_cons_zero, List.getD_cons_succ, List.length_cons, List.length_nil, Nat.zero_add]
    rw [e0, e1, e2, e3]
    unfold decodeN
    rw [if_neg (by omega), if_neg (by omega), if_neg (by omega), if_pos (by omega), if_pos (by omega)]
    apply Prod.ext
    · simp only; omega
    · rfl
theorem enc_pos (r : Int) : 1 ≤ (encodeRune r).length := by
  unfold encodeRune
  rw [List.length_map]
  exact (encodeRuneZ_length r).1
theorem rl_enc (r : Int) (hr : okR r) (t : List UInt8) : rl (encodeRune r ++ t) = r.toNat :: rl t :=
  rl_step _ t r.toNat (by have := enc_pos r; omega) (dec_enc r hr t)
/-- Tokens as bytes; is what was written last a number? -/
def txB : Bool → List TkV → List UInt8
  | _, [] => []
  | nb, t :: l =>
    if t.sign = 48 then (if nb then [32] else []) ++ (decDigits t.n.toNat ++ txB true l)
    else if namedB t.sign = true then (if nameB t.name = true then encodeRune t.sign ++ (encodeRune t.name ++ txB false l) else txB nb l)
    else if knownB t.sign = true then encodeRune t.sign ++ txB false l
    else txB nb l
def txN : Bool → List TkV → Bool
  | nb, [] => nb
  | nb, t :: l =>
    if t.sign = 48 then txN true l
    else if namedB t.sign = true then (if nameB t.name = true then txN false l else txN nb l)
    else if knownB t.sign = true then txN false l
    else txN nb l
theorem txB_app : ∀ (a b : List TkV) (nb : Bool), txB nb (a ++ b) = txB nb a ++ txB (txN nb a) b
  | [], b, nb => rfl
  | t :: a, b, nb => by
    rw [List.cons_append, txB, txB, txN]
    repeat' split
    all_goals simp only [List.append_assoc, txB_app a b]
/-- A token as it is read. -/
def TkOk (t : TkV) : Prop :=
  (t.sign = 48 ∧ 0 ≤ t.n ∧ t.n ≤ 9223372036854775807 ∧ t.name = 0) ∨
  (namedB t.sign = true ∧ t.n = 0 ∧ nameB t.name = true) ∨
  (t.sign ≠ 48 ∧ namedB t.sign = false ∧ knownB t.sign = true ∧ t.n = 0 ∧ t.name = 0)
def PhOk : GPh → Prop
  | .idle => True
  | .num m => m ≤ 9223372036854775807
  | .wait q => namedB (q : Int) = true
theorem name_okR {r : Int} (h : nameB r = true) : okR r ∧ r ≠ 65533 ∧ (97 ≤ r) := by
  unfold nameB at h
  unfold okR
  simp at h
  omega
theorem known_okR {r : Int} (h : knownB r = true) : okR r ∧ r ≠ 65533 ∧ 33 ≤ r ∧ ¬ (48 ≤ r ∧ r ≤ 57) := by
  unfold knownB at h
  unfold okR
  simp only [Bool.or_eq_true, Bool.and_eq_true, decide_eq_true_eq, List.any_eq_true, beq_iff_eq] at h
  rcases h with (h | h) | ⟨x, hx, e⟩
  · omega
  · omega
  · have : x = 43 ∨ x = 45 ∨ x = 42 ∨ x = 47 ∨ x = 37 ∨ x = 38 ∨ x = 124 ∨ x = 94 ∨ x = 60 ∨ x = 61 ∨ x = 33 ∨ x = 46 ∨ x = 44 ∨ x = 64 ∨ x = 36 ∨ x = 35 ∨ x = 63 ∨ x = 58 ∨ x = 59 ∨ x = 91 ∨ x = 93 ∨ x = 126 ∨ x = 171 ∨ x = 187 ∨ x = 169 ∨ x = 174 ∨ x = 164 ∨ x = 161 ∨ x = 955 ∨ x = 960 := by
      simpa [signL] using hx
    omega
theorem named_known {r : Int} (h : namedB r = true) : knownB r = true ∧ r ≠ 48 := by
  unfold namedB at h
  simp at h
  rcases h with rfl | rfl
  · exact ⟨by decide, by decide⟩
  · exact ⟨by decide, by decide⟩
theorem gOther_tk {bs ys' : List TkV} {ph' : GPh} {r : Nat} (h : gOther bs r = some (ys', ph')) (hb : ∀ t ∈ bs, TkOk t) : (∀ t ∈ ys', TkOk t) ∧ PhOk ph' := by
  unfold gOther at h
  split at h
  · injection h with h; injection h with h1 h2; subst h1; subst h2; exact ⟨hb, trivial⟩
  · split at h
    · rename_i hk
      split at h
      · rename_i hn
        injection h with h; injection h with h1 h2; subst h1; subst h2; exact ⟨hb, hn⟩
      · rename_i hn
        injection h with h; injection h with h1 h2; subst h1; subst h2
        refine ⟨fun t ht => ?_, trivial⟩
        rcases List.mem_append.1 ht with ht | ht
        · exact hb t ht
        · rw [List.mem_singleton] at ht
          subst ht
          have := known_okR hk
          exact .inr (.inr ⟨by simp only; omega, by simpa using hn, hk, rfl, rfl⟩)
    · cases h
theorem gCount_tk {bs ys' : List TkV} {ph' : GPh} {m x : Nat} (h : gCount bs m x = some (ys', ph')) (hx : x ≤ 9) (hb : ∀ t ∈ bs, TkOk t) : (∀ t ∈ ys', TkOk t) ∧ PhOk ph' := by
  unfold gCount at h
  split at h
  · cases h
  · injection h with h; injection h with h1 h2; subst h1; subst h2
    exact ⟨hb, by show m * 10 + x ≤ _; omega⟩
theorem gTake_tk {ys ys' : List TkV} {ph ph' : GPh} {r : Nat} (h : gTake ys ph r = some (ys', ph')) (hb : ∀ t ∈ ys, TkOk t) (hp : PhOk ph) : (∀ t ∈ ys', TkOk t) ∧ PhOk ph' := by
  cases ph with
  | wait q =>
    rw [gTake] at h
    split at h
    · rename_i hn
      injection h with h; injection h with h1 h2; subst h1; subst h2
      refine ⟨fun t ht => ?_, trivial⟩
      rcases List.mem_append.1 ht with ht | ht
      · exact hb t ht
      · rw [List.mem_singleton] at ht
        subst ht
        exact .inr (.inl ⟨hp, rfl, hn⟩)
    · cases h
  | num m =>
    rw [gTake] at h
    split at h
    · exact gCount_tk h (by omega) hb
    · refine gOther_tk h (fun t ht => ?_)
      rcases List.mem_append.1 ht with ht | ht
      · exact hb t ht
      · rw [List.mem_singleton] at ht
        subst ht
        exact .inl ⟨rfl, by simp only; omega, by have : m ≤ 9223372036854775807 := hp; simp only; omega, rfl⟩
  | idle =>
    rw [gTake] at h
    split at h
    · exact gCount_tk h (by omega) hb
    · exact gOther_tk h hb
theorem gRun_tk : ∀ (rs : List Nat) {ys ts : List TkV} {ph : GPh}, gRun rs ys ph = some ts → (∀ t ∈ ys, TkOk t) → PhOk ph → ∀ t ∈ ts, TkOk t
  | [], ys, ts, ph, h, hb, hp => by
    rw [gRun] at h
    cases ph with
    | idle => rw [gEnd] at h; injection h with h; subst h; exact hb
    | num m =>
      rw [gEnd] at h; injection h with h; subst h
      intro t ht
      rcases List.mem_append.1 ht with ht | ht
      · exact hb t ht
      · rw [List.mem_singleton] at ht
        subst ht
        exact .inl ⟨rfl, by simp only; omega, by have : m ≤ 9223372036854775807 := hp; simp only; omega, rfl⟩
    | wait q => cases h
  | r :: rs, ys, ts, ph, h, hb, hp => by
    rw [gRun] at h
    cases hq : gTake ys ph r with
    | none => rw [hq] at h; cases h
    | some q =>
      rw [hq] at h
      obtain ⟨a, b⟩ := gTake_tk (ys' := q.1) (ph' := q.2) hq hb hp
      exact gRun_tk rs h a b
/-- Digits are read as their number. -/
theorem dig_rl : ∀ (n : Nat) (t : List UInt8), rl (decDigits n ++ t) = (decDigits n).map UInt8.toNat ++ rl t := by
  intro n
  induction n using Nat.strongRecOn with
  | _ n ih =>
    intro t
    by_cases h : n < 10
    · rw [decDigits_one h]
      have e : (UInt8.ofNat (48 + n)).toNat = 48 + n := by simp; omega
      exact rl_byte _ (by rw [e]; omega) t
    · rw [decDigits, dif_neg h, List.append_assoc, ih (n / 10) (by omega), List.map_append, List.append_assoc]
      have e : (UInt8.ofNat (48 + n % 10)).toNat = 48 + n % 10 := by simp; omega
      rw [show [UInt8.ofNat (48 + n % 10)] ++ t = UInt8.ofNat (48 + n % 10) :: t from rfl, rl_byte _ (by rw [e]; omega) t]
      rfl
theorem dig_run : ∀ (n : Nat) (P : List TkV), n ≤ 9223372036854775807 → gSt ((decDigits n).map UInt8.toNat) P .idle = some (P, .num n) := by
  intro n
  induction n using Nat.strongRecOn with
  | _ n ih =>
    intro P hn
    by_cases h : n < 10
    · rw [decDigits_one h]
      have e : (UInt8.ofNat (48 + n)).toNat = 48 + n := by simp; omega
      rw [List.map_cons, List.map_nil, e, gSt, gTake, if_pos (by omega), gCount, if_neg (by omega)]
      simp only [gSt]
      congr 3
      omega
    · rw [decDigits, dif_neg h, List.map_append, gSt_app, ih (n / 10) (by omega) P (by omega)]
      have e : (UInt8.ofNat (48 + n % 10)).toNat = 48 + n % 10 := by simp; omega
      rw [List.map_cons, List.map_nil, e]
      simp only [Option.bind_some]
      rw [gSt, gTake, if_pos (by omega), gCount, if_neg (by omega)]
      simp only [gSt]
      congr 3
      omega
theorem gSt_cons (r : Nat) (rs : List Nat) (ys : List TkV) (ph : GPh) : gSt (r :: rs) ys ph = (gTake ys ph r).bind fun q => gSt rs q.1 q.2 := by
  rw [gSt]
  cases gTake ys ph r <;> rfl
/-- What is written is read. -/
theorem tx_back : ∀ (l : List TkV) (t : List UInt8) (ys P : List TkV) (ph : GPh), (∀ x ∈ l, TkOk x) → gEnd ys ph = some P →
    ∃ rs ys' ph', rl (txB (counts ph) l ++ t) = rs ++ rl t ∧ gSt rs ys ph = some (ys', ph') ∧ gEnd ys' ph' = some (P ++ l)
  | [], t, ys, P, ph, _, he => ⟨[], ys, ph, rfl, rfl, by simpa using he⟩
  | x :: l, t, ys, P, ph, hok, he => by
    have hx := hok x (by simp)
    have hl : ∀ y ∈ l, TkOk y := fun y hy => hok y (by simp [hy])
    have app : ∀ y : TkV, P ++ x :: l = (P ++ [x]) ++ l := fun y => by simp
    rcases hx with ⟨h1, h2, h3, h4⟩ | ⟨h1, h2, h3⟩ | ⟨h0, h1, h2, h3, h4⟩
    · obtain ⟨n, hn⟩ : ∃ n : Nat, x.n = (n : Int) := ⟨x.n.toNat, by omega⟩
      have hxe : x = ⟨48, (n : Int), 0⟩ := by
        cases x
        simp only at h1 hn h4
        rw [h1, hn, h4]
      subst hxe
      have hn2 : n ≤ 9223372036854775807 := by simp only at h3; omega
      obtain ⟨rs, ys', ph', e1, e2, e3⟩ := tx_back l t P (P ++ [⟨48, (n : Int), 0⟩]) (.num n) hl rfl
      have hcn : counts (.num n) = true := rfl
      rw [hcn] at e1
      have key : gSt ((decDigits n).map UInt8.toNat ++ rs) P .idle = some (ys', ph') := by
        rw [gSt_app, dig_run n P hn2]
        exact e2
      rw [app ⟨0, 0, 0⟩]
      have hb : txB (counts ph) (⟨48, (n : Int), 0⟩ :: l) = (if counts ph then [32] else []) ++ (decDigits n ++ txB true l) := by
        rw [txB, if_pos rfl]
        simp
      rw [hb]
      cases ph with
      | idle =>
        rw [gEnd] at he
        injection he with he
        subst he
        refine ⟨_, ys', ph', ?_, key, e3⟩
        show rl ([] ++ (decDigits n ++ txB true l) ++ t) = _
        rw [List.nil_append, List.append_assoc, dig_rl, e1, List.append_assoc]
      | num m =>
        rw [gEnd] at he
        injection he with he
        refine ⟨32 :: ((decDigits n).map UInt8.toNat ++ rs), ys', ph', ?_, ?_, e3⟩
        · show rl ([32] ++ (decDigits n ++ txB true l) ++ t) = _
          rw [List.append_assoc, show [(32 : UInt8)] ++ (decDigits n ++ txB true l ++ t) = 32 :: (decDigits n ++ txB true l ++ t) from rfl, rl_byte 32 (by decide), List.append_assoc, dig_rl, e1]
          simp
        · rw [gSt_cons, gTake, if_neg (by omega), he, gOther, if_pos rfl]
          exact key
      | wait q => cases he
    · obtain ⟨hk, h48⟩ := named_known h1
      obtain ⟨ho, _, hge, hnd⟩ := known_okR hk
      obtain ⟨ho2, _, hge2⟩ := name_okR h3
      obtain ⟨q, hq⟩ : ∃ q : Nat, x.sign = (q : Int) := ⟨x.sign.toNat, by omega⟩
      obtain ⟨z, hz⟩ : ∃ z : Nat, x.name = (z : Int) := ⟨x.name.toNat, by omega⟩
      have hxe : x = ⟨(q : Int), 0, (z : Int)⟩ := by cases x; simp_all
      subst hxe
      simp only at h1 h3 hk h48 ho hge hnd ho2 hge2
      obtain ⟨rs, ys', ph', e1, e2, e3⟩ := tx_back l t (P ++ [⟨(q : Int), 0, (z : Int)⟩]) (P ++ [⟨(q : Int), 0, (z : Int)⟩]) .idle hl rfl
      have hcn : counts .idle = false := rfl
      rw [hcn] at e1
      refine ⟨q :: z :: rs, ys', ph', ?_, ?_, by rw [app ⟨0, 0, 0⟩]; exact e3⟩
      · rw [txB, if_neg h48, if_pos h1, if_pos h3, List.append_assoc, List.append_assoc, rl_enc _ ho, rl_enc _ ho2, e1]
        rfl
      · rw [gSt_cons, gTake_mark he q (by omega), gOther, if_neg (by omega), if_pos hk, if_pos h1]
        simp only [Option.bind_some]
        rw [gSt_cons, gTake, if_pos h3]
        exact e2
    · obtain ⟨ho, _, hge, hnd⟩ := known_okR h2
      obtain ⟨q, hq⟩ : ∃ q : Nat, x.sign = (q : Int) := ⟨x.sign.toNat, by omega⟩
      have hxe : x = ⟨(q : Int), 0, 0⟩ := by cases x; simp_all
      subst hxe
      simp only at h0 h1 h2 ho hge hnd
      obtain ⟨rs, ys', ph', e1, e2, e3⟩ := tx_back l t (P ++ [⟨(q : Int), 0, 0⟩]) (P ++ [⟨(q : Int), 0, 0⟩]) .idle hl rfl
      have hcn : counts .idle = false := rfl
      rw [hcn] at e1
      refine ⟨q :: rs, ys', ph', ?_, ?_, by rw [app ⟨0, 0, 0⟩]; exact e3⟩
      · rw [txB, if_neg h0, if_neg (by rw [h1]; decide), if_pos h2, List.append_assoc, rl_enc _ ho, e1]
        rfl
      · rw [gSt_cons, gTake_mark he q (by omega), gOther, if_neg (by omega), if_pos h2, if_neg (by rw [h1]; decide)]
        exact e2
theorem tx_run (l : List TkV) (h : ∀ x ∈ l, TkOk x) : gRun (rl (txB false l)) [] .idle = some l := by
  obtain ⟨rs, ys', ph', e1, e2, e3⟩ := tx_back l [] [] [] .idle h rfl
  have hn : rl [] = [] := rfl
  rw [List.append_nil, hn, List.append_nil] at e1
  rw [show txB false l = txB (counts .idle) l from rfl, e1, gRun_st, e2]
  exact e3
theorem txN_app : ∀ (a b : List TkV) (nb : Bool), txN nb (a ++ b) = txN (txN nb a) b
  | [], b, nb => rfl
  | t :: a, b, nb => by
    rw [List.cons_append, txN, txN]
    repeat' split
    all_goals exact txN_app a b _
def bb (b : Bool) : Nat := if b then 1 else 0
/-- How long the text is, with what is under way. -/
def pot (ys : List TkV) : GPh → Nat
  | .idle => (txB false ys).length + bb (txN false ys)
  | .num m => (txB false ys).length + bb (txN false ys) + (decDigits m).length
  | .wait q => (txB false ys).length + (encodeRune (q : Int)).length
theorem pot_num (ys : List TkV) (m : Nat) : (txB false (ys ++ [⟨48, (m : Int), 0⟩])).length = pot ys (.num m) ∧ txN false (ys ++ [⟨48, (m : Int), 0⟩]) = true := by
  rw [txB_app, txN_app, List.length_append]
  have e : txB (txN false ys) [⟨48, (m : Int), 0⟩] = (if txN false ys then [32] else []) ++ (decDigits m ++ []) := by
    rw [txB, if_pos rfl]
    simp only [Int.toNat_natCast]
    rfl
  have e2 : txN (txN false ys) [⟨48, (m : Int), 0⟩] = true := by
    rw [txN, if_pos rfl]
    rfl
  rw [e, e2, pot]
  refine ⟨?_, rfl⟩
  cases txN false ys <;> simp [bb] <;> omega
theorem dec_len (m x : Nat) (hx : x ≤ 9) : (decDigits (m * 10 + x)).length ≤ (decDigits m).length + 1 := by
  by_cases h : m * 10 + x < 10
  · rw [decDigits_one h]
    simp
  · rw [decDigits, dif_neg h, List.length_append, show (m * 10 + x) / 10 = m from by omega]
    simp
theorem gOther_pot {bs ys' : List TkV} {ph' : GPh} {r : Nat} (h : gOther bs r = some (ys', ph')) (hw : ¬ (48 ≤ r ∧ r ≤ 57)) : pot ys' ph' ≤ pot bs .idle + (encodeRune (r : Int)).length := by
  unfold gOther at h
  split at h
  · injection h with h; injection h with h1 h2; subst h1; subst h2; omega
  · split at h
    · rename_i hk
      split at h
      · injection h with h; injection h with h1 h2; subst h1; subst h2
        simp only [pot]; omega
      · rename_i hn
        injection h with h; injection h with h1 h2; subst h1; subst h2
        simp only [pot]
        have hn' : ¬ namedB (r : Int) = true := hn
        rw [txB_app, txN_app, List.length_append, txB, txN, if_neg (by simp only; omega), if_neg hn', if_pos hk, if_neg (by simp only; omega), if_neg hn', if_pos hk, txB, txN]
        simp [bb]; try omega
    · cases h
theorem gTake_pot {ys ys' : List TkV} {ph ph' : GPh} {r : Nat} (h : gTake ys ph r = some (ys', ph')) (hp : PhOk ph) : pot ys' ph' ≤ pot ys ph + (encodeRune (r : Int)).length ∧ (r : Int) ≠ 65533 := by
  have he := enc_pos (r : Int)
  have ho : ∀ bs, gOther bs r = some (ys', ph') → (r : Int) ≠ 65533 := fun bs h => by
    unfold gOther at h
    split at h
    · omega
    · split at h
      · rename_i hk
        exact (known_okR hk).2.1
      · cases h
  cases ph with
  | wait q =>
    rw [gTake] at h
    split at h
    · rename_i hn
      injection h with h; injection h with h1 h2; subst h1; subst h2
      refine ⟨?_, (name_okR hn).2.1⟩
      have hq : namedB (q : Int) = true := hp
      have h48 := (named_known hq).2
      simp only [pot]
      rw [txB_app, txN_app, List.length_append, txB, txN, if_neg h48, if_pos hq, if_pos hn, if_neg h48, if_pos hq, if_pos hn, txB, txN]
      simp [bb]; omega
    · cases h
  | num m =>
    rw [gTake] at h
    split at h
    · rename_i hd
      refine ⟨?_, by omega⟩
      unfold gCount at h
      split at h
      · cases h
      · injection h with h; injection h with h1 h2; subst h1; subst h2
        have := dec_len m (r - 48) (by omega)
        simp only [pot]; omega
    · rename_i hd
      refine ⟨?_, ho _ h⟩
      unfold gOther at h
      obtain ⟨k1, k2⟩ := pot_num ys m
      split at h
      · injection h with h; injection h with h1 h2; subst h1; subst h2
        have e : pot (ys ++ [⟨48, (m : Int), 0⟩]) .idle = (txB false (ys ++ [⟨48, (m : Int), 0⟩])).length + bb (txN false (ys ++ [⟨48, (m : Int), 0⟩])) := rfl
        rw [e, k1, k2]
        simp [bb]; try omega
      · split at h
        · rename_i hk
          split at h
          · injection h with h; injection h with h1 h2; subst h1; subst h2
            rw [← k1]
            simp only [pot]; omega
          · rename_i hn
            have hn' : ¬ namedB (r : Int) = true := hn
            injection h with h; injection h with h1 h2; subst h1; subst h2
            rw [← k1]
            have e : ∀ zs : List TkV, pot zs .idle = (txB false zs).length + bb (txN false zs) := fun _ => rfl
            rw [e, txB_app _ [⟨(r : Int), 0, 0⟩], txN_app _ [⟨(r : Int), 0, 0⟩], List.length_append, txB, txN, if_neg (by simp only; omega), if_neg hn', if_pos hk, if_neg (by simp only; omega), if_neg hn', if_pos hk, txB, txN]
            simp [bb]; try omega
        · cases h
  | idle =>
    rw [gTake] at h
    split at h
    · rename_i hd
      refine ⟨?_, by omega⟩
      unfold gCount at h
      split at h
      · cases h
      · injection h with h; injection h with h1 h2; subst h1; subst h2
        have e1 : (decDigits (0 * 10 + (r - 48))).length = 1 := by rw [decDigits_one (by omega)]; rfl
        simp only [pot]; omega
    · rename_i hd
      exact ⟨gOther_pot h hd, ho _ h⟩
def sumE : List Nat → Nat
  | [] => 0
  | r :: rs => (encodeRune (r : Int)).length + sumE rs
theorem gRun_pot : ∀ (rs : List Nat) {ys ts : List TkV} {ph : GPh}, gRun rs ys ph = some ts → (∀ t ∈ ys, TkOk t) → PhOk ph → (txB false ts).length ≤ pot ys ph + sumE rs ∧ ∀ r ∈ rs, (r : Int) ≠ 65533
  | [], ys, ts, ph, h, hb, hp => by
    refine ⟨?_, fun r hr => by simp at hr⟩
    rw [gRun] at h
    cases ph with
    | idle => rw [gEnd] at h; injection h with h; subst h; simp only [pot]; omega
    | num m => rw [gEnd] at h; injection h with h; subst h; rw [(pot_num ys m).1]; omega
    | wait q => cases h
  | r :: rs, ys, ts, ph, h, hb, hp => by
    rw [gRun] at h
    cases hq : gTake ys ph r with
    | none => rw [hq] at h; cases h
    | some q =>
      rw [hq] at h
      obtain ⟨a, b⟩ := gTake_tk (ys' := q.1) (ph' := q.2) hq hb hp
      obtain ⟨c, d⟩ := gTake_pot (ys' := q.1) (ph' := q.2) hq hp
      obtain ⟨e, f⟩ := gRun_pot rs h a b
      refine ⟨by rw [sumE]; omega, fun x hx => ?_⟩
      rcases List.mem_cons.1 hx with rfl | hx
      · exact d
      · exact f x hx
theorem decode_enc (s : ByteArray) (p : Nat) (h : p < s.size) (hr : (Utf8.decode s p).1 ≠ 65533) : (encodeRune ((Utf8.decode s p).1 : Int)).length = (Utf8.decode s p).2 ∧ p + (Utf8.decode s p).2 ≤ s.size := by
  have hd : Utf8.decode s p = decodeL (s.data.toList.drop p) := by
    unfold decodeL
    have e : s = ⟨(s.data.toList.take p).toArray⟩ ++ ⟨(s.data.toList.drop p).toArray⟩ := by
      rw [← ba_app, List.take_append_drop]
    have hl : (⟨(s.data.toList.take p).toArray⟩ : ByteArray).size = p := by
      rw [ba_size, List.length_take]
      have : s.data.toList.length = s.size := rfl
      omega
    have := decode_shift ⟨(s.data.toList.take p).toArray⟩ ⟨(s.data.toList.drop p).toArray⟩ 0
    rw [← e, hl, Nat.add_zero] at this
    exact this
  have hlen : s.data.toList.length = s.size := rfl
  have hne : s.data.toList.drop p ≠ [] := by
    intro hh
    have := congrArg List.length hh
    rw [List.length_drop, List.length_nil] at this
    omega
  have hle : p + (Utf8.decode s p).2 ≤ s.size := by
    rw [decode_at]
    have := decodeN_le_n' (s.size - p) (s.get! p).toNat (s.get! (p + 1)).toNat (s.get! (p + 2)).toNat (s.get! (p + 3)).toNat (by omega)
    omega
  refine ⟨?_, hle⟩
  have hk := encode_decode (s.data.toList.drop p) hne (fun hh => by rw [← hd] at hh; exact hr hh.1)
  rw [← hd] at hk
  rw [hk, List.length_take, List.length_drop]
  omega
theorem sumE_le (s : ByteArray) : ∀ (f p : Nat), p ≤ s.size → (∀ r ∈ runesAt s f p, (r : Int) ≠ 65533) → sumE (runesAt s f p) ≤ s.size - p
  | 0, p, _, _ => by rw [runesAt, sumE]; omega
  | f + 1, p, hp, h => by
    rw [runesAt] at h ⊢
    by_cases hlt : p < s.size
    · rw [if_pos hlt] at h ⊢
      obtain ⟨a, b⟩ := decode_enc s p hlt (fun e => h _ (List.mem_cons_self ..) (by rw [e]; rfl))
      have := sumE_le s f (p + (Utf8.decode s p).2) b (fun r hr => h r (by simp [hr]))
      have hw := width_pos s p hlt
      rw [sumE, a]
      omega
    · rw [if_neg hlt, sumE]; omega
/-- What is written of tokens that were read is no longer than what they were read from. -/
theorem tx_len {s : ByteArray} {ts : List TkV} (h : gRun (runesL s) [] .idle = some ts) : (txB false ts).length ≤ s.size := by
  obtain ⟨a, b⟩ := gRun_pot _ h (fun t ht => by simp at ht) trivial
  have c := sumE_le s s.size 0 (by omega) b
  have e : pot [] .idle = 0 := rfl
  unfold runesL at a
  omega
end Go.Proofs.YtbkfhndmeljlcaaGreatDoor
