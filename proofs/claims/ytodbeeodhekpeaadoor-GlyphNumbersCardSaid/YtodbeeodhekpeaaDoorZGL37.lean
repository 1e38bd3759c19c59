/-
  GL: UPure.
-/
import Derived.Test.YtodbeeodhekpeaaDoorZGL15
import Derived.Test.YtodbeeodhekpeaaDoorZGL36
namespace Go.Proofs.YtodbeeodhekpeaaDoor
open Go.RowKit
open Go.Lib
/-- The tokens of a code, and how they are written. -/
def toksOf (s : ByteArray) : List TkV := (tokR s).getD []
def txC (s : ByteArray) : List UInt8 := txB false (toksOf s)
def plainF (f : FnV) : FnV := ⟨f.name, f.args, ⟨(txC f.code).toArray⟩⟩
def nameE (l : List FnV) : List FnV → Nat → Bool
  | [], _ => true
  | f :: r, k => (nameB f.name && (findI l f.name == (k : Int)) && decide (0 ≤ f.args) && decide (f.args ≤ 4)) && nameE l r (k + 1)
def utF (f : FnV) : List UInt8 := encodeRune f.name ++ (decDigits f.args.toNat ++ (32 :: (txC f.code ++ [10])))
def utFs : List FnV → List UInt8
  | [] => []
  | f :: l => utF f ++ utFs l
/-- A program's text. -/
def utx (pages most : Int) (l : List FnV) : List UInt8 := 117 :: 110 :: 105 :: 116 :: 32 :: (decDigits pages.toNat ++ (32 :: (decDigits most.toNat ++ (10 :: utFs l))))
/- What was written is right. -/
theorem tok_plain {s : ByteArray} {ts : List TkV} (h : tokR s = some ts) : tokR ⟨(txC s).toArray⟩ = some ts ∧ (txC s).length ≤ s.size := by
  have hs : ¬ 512 < s.size := by
    intro hh
    unfold tokR at h
    rw [if_pos hh] at h
    cases h
  have hr := gRun_is s hs
  rw [h] at hr
  have e : txC s = txB false ts := by unfold txC toksOf; rw [h]; rfl
  have hlen := tx_len hr.symm
  have hok := gRun_tk _ hr.symm (fun t ht => by simp at ht) trivial
  rw [e]
  refine ⟨?_, hlen⟩
  rw [gRun_is _ (by rw [ba_size]; omega)]
  exact tx_run ts hok
theorem findK_map (name : Int) : ∀ (l : List FnV) (k : Nat), findK name (l.map plainF) k = findK name l k
  | [], _ => rfl
  | f :: l, k => by
    rw [List.map_cons, findK, findK, findK_map name l (k + 1)]
    rfl
theorem findI_map (l : List FnV) (name : Int) : findI (l.map plainF) name = findI l name := by
  unfold findI
  rw [findK_map]
theorem callA_map (l : List FnV) (name : Int) : callA (l.map plainF) name = callA l name := by
  unfold callA
  rw [findK_map]
  cases findK name l 0 with
  | none => rfl
  | some k =>
    simp only [List.getElem?_map]
    cases l[k]? with
    | none => rfl
    | some f => rfl
theorem rTakes_map (l : List FnV) (s name : Int) : rTakes (l.map plainF) s name = rTakes l s name := by
  unfold rTakes
  rw [callA_map]
theorem rTok_map (l : List FnV) (h : Int) (bs : List BkV) (s name : Int) : rTok (l.map plainF) h bs s name = rTok l h bs s name := by
  unfold rTok
  rw [rTakes_map]
theorem rWalk_map (l : List FnV) : ∀ (ts : List TkV) (h : Int) (bs : List BkV) (out : List Int), rWalk (l.map plainF) ts h bs out = rWalk l ts h bs out
  | [], _, _, _ => rfl
  | t :: ts, h, bs, out => by
    rw [rWalk_next, rWalk_next, rTok_map, rWalk_map l ts]
theorem rFunc_map {l : List FnV} {f : FnV} (h : (rFunc l f.code).1 = 0) : rFunc (l.map plainF) (plainF f).code = rFunc l f.code := by
  unfold rFunc at h ⊢
  cases ht : tokR f.code with
  | none =>
    rw [ht] at h
    simp only at h
    unfold tokE at h
    split at h <;> omega
  | some ts =>
    rw [show tokR (plainF f).code = some ts from (tok_plain ht).1]
    simp only
    cases rNest (signs ts) with
    | none => rfl
    | some R => exact rWalk_map l ts 0 [] []
theorem rFn_at {l : List FnV} {k : Nat} {f : FnV} (hk : l[k]? = some f) : rFn l (k : Int) = rFunc l f.code := by
  have hl := (List.getElem?_eq_some_iff.1 hk).1
  unfold rFn
  rw [if_neg (by omega), show ((k : Int)).toNat = k from rfl, hk]
theorem rFn_map {l : List FnV} {k : Nat} (hk : k < l.length) (h : (rFn l (k : Int)).1 = 0) : rFn (l.map plainF) (k : Int) = rFn l (k : Int) := by
  have h1 : l[k]? = some l[k] := List.getElem?_eq_getElem hk
  have h2 : (l.map plainF)[k]? = some (plainF l[k]) := by rw [List.getElem?_map, h1]; rfl
  rw [rFn_at h1] at h ⊢
  rw [rFn_at h2, rFunc_map h]
theorem nameE_map (l : List FnV) : ∀ (r : List FnV) (k : Nat), nameE (l.map plainF) (r.map plainF) k = nameE l r k
  | [], _ => rfl
  | f :: r, k => by
    rw [List.map_cons, nameE, nameE, nameE_map l r (k + 1), findI_map]
    rfl
/-- What is known of a right program. -/
structure RightF (pages most : Int) (l : List FnV) : Prop where
  p0 : 0 ≤ pages
  pm : pages ≤ most
  m64 : most ≤ 64
  few : l.length ≤ 32
  name : nameE l l 0 = true
  ok : ∀ k : Nat, k < l.length → (rFn l (k : Int)).1 = 0
theorem nameE_at {l : List FnV} : ∀ {r : List FnV} {k : Nat}, nameE l r k = true → ∀ (j : Nat) (f : FnV), r[j]? = some f → nameB f.name = true ∧ findI l f.name = ((k + j : Nat) : Int) ∧ 0 ≤ f.args ∧ f.args ≤ 4
  | [], _, _, j, f, hj => by simp at hj
  | g :: r, k, h, j, f, hj => by
    rw [nameE] at h
    simp only [Bool.and_eq_true, decide_eq_true_eq, beq_iff_eq] at h
    cases j with
    | zero => simp at hj; subst hj; exact ⟨h.1.1.1.1, h.1.1.1.2, h.1.1.2, h.1.2⟩
    | succ j =>
      have := nameE_at h.2 j f (by simpa using hj)
      rw [show k + (j + 1) = k + 1 + j from by omega]
      exact this
theorem RightF.fn {pages most : Int} {l : List FnV} (h : RightF pages most l) {k : Nat} {f : FnV} (hk : l[k]? = some f) : nameB f.name = true ∧ findI l f.name = (k : Int) ∧ 0 ≤ f.args ∧ f.args ≤ 4 := by
  have := nameE_at h.name k f hk
  rw [Nat.zero_add] at this
  exact this
theorem RightF.plain {pages most : Int} {l : List FnV} (h : RightF pages most l) : RightF pages most (l.map plainF) := by
  refine ⟨h.p0, h.pm, h.m64, by rw [List.length_map]; exact h.few, by rw [nameE_map]; exact h.name, fun k hk => ?_⟩
  rw [List.length_map] at hk
  rw [rFn_map hk (h.ok k hk)]
  exact h.ok k hk
theorem RightF.tok {pages most : Int} {l : List FnV} (h : RightF pages most l) {f : FnV} (hf : f ∈ l) : ∃ ts, tokR f.code = some ts := by
  obtain ⟨k, hk, e⟩ := List.getElem_of_mem hf
  have h1 : l[k]? = some f := by rw [List.getElem?_eq_getElem hk, e]
  have := h.ok k hk
  rw [rFn_at h1] at this
  unfold rFunc at this
  cases ht : tokR f.code with
  | none =>
    rw [ht] at this
    simp only at this
    unfold tokE at this
    split at this <;> omega
  | some ts => exact ⟨ts, rfl⟩
theorem txC_plain {f : FnV} {ts : List TkV} (h : tokR f.code = some ts) : txC (plainF f).code = txC f.code := by
  have e := (tok_plain h).1
  unfold txC toksOf
  rw [show tokR (plainF f).code = some ts from e, h]
theorem utFs_plain : ∀ {l : List FnV}, (∀ f ∈ l, ∃ ts, tokR f.code = some ts) → utFs (l.map plainF) = utFs l
  | [], _ => rfl
  | f :: l, h => by
    obtain ⟨ts, ht⟩ := h f (by simp)
    rw [List.map_cons, utFs, utFs, utFs_plain (fun g hg => h g (by simp [hg])), utF, utF, txC_plain ht]
    rfl
theorem RightF.text {pages most : Int} {l : List FnV} (h : RightF pages most l) : utx pages most (l.map plainF) = utx pages most l := by
  unfold utx
  rw [utFs_plain (fun f hf => h.tok hf)]
/- Bytes that are no end of a line, and no blank. -/
end Go.Proofs.YtodbeeodhekpeaaDoor
