/-
  PB: UNmP, PlPure, PlNeed.
-/
import Derived.Test.YtbkfhndmeljlcaaGreatDoorZPB3
import Derived.Test.YtbkfhndmeljlcaaGreatDoorZPB5
import Derived.Test.YtbkfhndmeljlcaaGreatDoorZPB29
import Derived.Test.YtbkfhndmeljlcaaGreatDoorZPB30
import Derived.Test.YtbkfhndmeljlcaaGreatDoorZPB34
import Derived.Lib.BufferWrite
namespace Go.Proofs.YtbkfhndmeljlcaaGreatDoor
open Go.RowKit
open Go.Lib (decDigits encodeRune)
theorem GoodU.find13 {l : List FnV} (h : GoodU l) {k : Nat} {f : FnV} (hk : l[k]? = some f) : findI l f.name = (k : Int) ∧ nameB f.name = true ∧ (f.name = 102 ∨ f.name = 103 ∨ f.name = 945) := by
  have nm : ∀ (i : Nat) (g : FnV), l[i]? = some g → nmL[i]? = some g.name := fun i g hg => (h.fn i g hg).1
  have hlo := h.lo
  have hkl := (List.getElem?_eq_some_iff.1 hk).1
  have e := nm k f hk
  have hk3 : k = 0 ∨ k = 1 ∨ k = 2 := by omega
  rcases hk3 with rfl | rfl | rfl
  · have hn : f.name = 102 := by simpa [nmL] using e.symm
    match l, hk with
    | a :: r, hk =>
      simp only [List.getElem?_cons_zero, Option.some.injEq] at hk
      subst hk
      refine ⟨?_, by rw [hn]; decide, .inl hn⟩
      simp [findI, findK]
  · have hn : f.name = 103 := by simpa [nmL] using e.symm
    match l, hk with
    | a :: b :: r, hk =>
      have h0 := nm 0 a rfl
      have hn0 : a.name = 102 := by simpa [nmL] using h0.symm
      simp only [List.getElem?_cons_zero, List.getElem?_cons_succ, Option.some.injEq] at hk
      subst hk
      refine ⟨?_, by rw [hn]; decide, .inr (.inl hn)⟩
      simp [findI, findK, hn0, hn]
  · have hn : f.name = 945 := by simpa [nmL] using e.symm
    match l, hk with
    | a :: b :: d :: r, hk =>
      have h0 := nm 0 a rfl
      have hn0 : a.name = 102 := by simpa [nmL] using h0.symm
      have h1 := nm 1 b rfl
      have hn1 : b.name = 103 := by simpa [nmL] using h1.symm
      simp only [List.getElem?_cons_zero, List.getElem?_cons_succ, Option.some.injEq] at hk
      subst hk
      refine ⟨?_, by rw [hn]; decide, .inr (.inr hn)⟩
      simp [findI, findK, hn0, hn1, hn]
theorem nameE_of {L : List FnV} : ∀ {r : List FnV} {k : Nat}, (∀ (j : Nat) (f : FnV), r[j]? = some f → nameB f.name = true ∧ findI L f.name = ((k + j : Nat) : Int) ∧ 0 ≤ f.args ∧ f.args ≤ 4) → nameE L r k = true
  | [], _, _ => rfl
  | g :: r, k, h => by
    rw [nameE]
    obtain ⟨h1, h2, h3, h4⟩ := h 0 g rfl
    simp only [Bool.and_eq_true, decide_eq_true_eq, beq_iff_eq]
    refine ⟨⟨⟨⟨h1, h2⟩, h3⟩, h4⟩, nameE_of fun j f hj => ?_⟩
    have := h (j + 1) f (by simpa using hj)
    rw [show k + 1 + j = k + (j + 1) from by omega]
    exact this
theorem GoodU.rightF {l : List FnV} (h : GoodU l) {pg ms : Int} (h0 : 0 ≤ pg) (h1 : pg ≤ ms) (h2 : ms ≤ 64) : RightF pg ms l := by
  refine ⟨h0, h1, h2, by have := h.lo; omega, nameE_of fun j f hj => ?_, fun k hk => ?_⟩
  · have ha := h.args f (List.mem_of_getElem? hj)
    rw [Nat.zero_add]
    exact ⟨(h.find13 hj).2.1, (h.find13 hj).1, ha.1, by omega⟩
  · have hf := h.func (List.getElem?_eq_getElem hk)
    rw [hf.2]
    exact hf.1
theorem RightF.rfn {pg ms : Int} {l : List FnV} (h : RightF pg ms l) {k : Nat} {f : FnV} (hk : l[k]? = some f) : (rFunc l f.code).1 = 0 := by
  have := h.ok k (List.getElem?_eq_some_iff.1 hk).1
  rwa [rFn_at hk] at this
theorem findK_end {name : Int} {x : FnV} (hx : x.name = name) : ∀ (l : List FnV) (k : Nat), (∀ f ∈ l, f.name ≠ name) → findK name (l ++ [x]) k = some (k + l.length)
  | [], k, _ => by rw [List.nil_append, findK, if_pos hx]; rfl
  | f :: l, k, h => by
    rw [List.cons_append, findK, if_neg (h f (by simp)), findK_end hx l (k + 1) (fun g hg => h g (by simp [hg]))]
    simp; omega
theorem findI_more {name : Int} {l m : List FnV} {k : Nat} (h : findI l name = (k : Int)) : findI (l ++ m) name = (k : Int) := by
  unfold findI at h ⊢
  cases hf : findK name l 0 with
  | none => rw [hf] at h; simp only at h; omega
  | some j => rw [hf] at h; rw [findK_add l m 0 j hf]; exact h
def sevenC : ByteArray := ⟨#[55]⟩
theorem seven_tok : tokR sevenC = some [⟨48, 7, 0⟩] := by rfl
theorem seven_ok (l : List FnV) : (rFunc l sevenC).1 = 0 := by
  unfold rFunc
  rw [seven_tok]
  simp only
  rw [show rNest (signs [⟨48, 7, 0⟩]) = some ([-1], 0) from by decide +kernel]
  simp only
  rw [rWalk_next, show rTok l 0 [] (TkV.mk 48 7 0).sign (TkV.mk 48 7 0).name = (0, 1, []) from rfl]
  rfl
theorem RightF.more {pg ms : Int} {l : List FnV} (h : RightF pg ms l) (hl : l.length < 32) {n name : Int} (hn : 0 ≤ n ∧ n ≤ 4) (hb : nameB name = true) (hne : ∀ f ∈ l, f.name ≠ name) : RightF pg ms (l ++ [⟨name, n, sevenC⟩]) := by
  refine ⟨h.p0, h.pm, h.m64, by simp; omega, nameE_of fun j f hj => ?_, fun k hk => ?_⟩
  · rw [Nat.zero_add]
    by_cases hjl : j < l.length
    · rw [List.getElem?_append_left hjl] at hj
      obtain ⟨a, b, c, d⟩ := h.fn hj
      exact ⟨a, findI_more b, c, d⟩
    · have hjl2 := (List.getElem?_eq_some_iff.1 hj).1
      simp at hjl2
      have : j = l.length := by omega
      subst this
      simp at hj
      subst hj
      refine ⟨hb, ?_, hn.1, hn.2⟩
      unfold findI
      rw [findK_end rfl l 0 hne]
      simp
  · by_cases hkl : k < l.length
    · have hk2 := List.getElem?_eq_getElem hkl
      rw [rFn_at (by rw [List.getElem?_append_left hkl]; exact hk2), rFunc_add _ _ _ (h.rfn hk2)]
      exact h.rfn hk2
    · simp at hk
      have : k = l.length := by omega
      subst this
      rw [rFn_at (f := ⟨name, n, sevenC⟩) (by simp)]
      exact seven_ok _
end Go.Proofs.YtbkfhndmeljlcaaGreatDoor
namespace Go.Proofs.YtbkfhndmeljlcaaGreatDoor
open Go.RowKit
open Go.Lib (decDigits encodeRune)
def holdN (n : Nat) : Nat := (n + 63) / 64
def pgT (T : List UInt8) (i : Nat) : List UInt8 := (T.drop (i * 64)).take 64 ++ zeros (64 - ((T.drop (i * 64)).take 64).length)
def plT (T : List UInt8) : Nat → List (Nat × List UInt8)
  | 0 => []
  | k + 1 => plT T k ++ [(1 + k, pgT T k)]
def plM (f : Nat) : Nat → List (Nat × List UInt8)
  | 0 => []
  | k + 1 => plM f k ++ [(f + k, zeros 64)]
/-- The pages that are put. -/
def plCs (T : List UInt8) (p : Nat) : List (Nat × List UInt8) := [(0, metaL T.length p)] ++ plT T (holdN T.length) ++ plM (1 + holdN T.length) p
theorem plT_len (T : List UInt8) : ∀ k, (plT T k).length = k
  | 0 => rfl
  | k + 1 => by rw [plT, List.length_append, plT_len T k]; rfl
theorem plM_len (f : Nat) : ∀ k, (plM f k).length = k
  | 0 => rfl
  | k + 1 => by rw [plM, List.length_append, plM_len f k]; rfl
theorem plCs_len (T : List UInt8) (p : Nat) : (plCs T p).length = 1 + holdN T.length + p := by
  unfold plCs
  rw [List.length_append, List.length_append, plT_len, plM_len]; rfl
theorem pgT_len (T : List UInt8) (i : Nat) : (pgT T i).length = 64 := by
  unfold pgT
  rw [List.length_append, zeros_len, List.length_take]
  omega
theorem plT_at (T : List UInt8) : ∀ k i, i < k → (plT T k)[i]? = some (1 + i, pgT T i)
  | 0, i, h => by omega
  | k + 1, i, h => by
    rw [plT]
    rcases Nat.lt_or_ge i k with hk | hk
    · rw [List.getElem?_append_left (by rw [plT_len]; exact hk)]; exact plT_at T k i hk
    · obtain rfl : i = k := by omega
      rw [List.getElem?_append_right (by rw [plT_len]; exact Nat.le_refl _), plT_len, Nat.sub_self]; rfl
theorem plM_at (f : Nat) : ∀ k i, i < k → (plM f k)[i]? = some (f + i, zeros 64)
  | 0, i, h => by omega
  | k + 1, i, h => by
    rw [plM]
    rcases Nat.lt_or_ge i k with hk | hk
    · rw [List.getElem?_append_left (by rw [plM_len]; exact hk)]; exact plM_at f k i hk
    · obtain rfl : i = k := by omega
      rw [List.getElem?_append_right (by rw [plM_len]; exact Nat.le_refl _), plM_len, Nat.sub_self]; rfl
/-- Page by page, from 0 on without a gap. -/
theorem plCs_at (T : List UInt8) (p i : Nat) (h : i < 1 + holdN T.length + p) : ∃ b, (plCs T p)[i]? = some (i, b) ∧ b.length = 64 := by
  unfold plCs
  by_cases h0 : i = 0
  · subst h0
    exact ⟨_, rfl, metaL_len _ _⟩
  · by_cases h1 : i < 1 + holdN T.length
    · rw [List.getElem?_append_left (by rw [List.length_append, plT_len]; exact h1), List.getElem?_append_right (by show 1 ≤ i; omega)]
      rw [show i - [(0, metaL T.length p)].length = i - 1 from rfl, plT_at T _ _ (by omega)]
      exact ⟨_, by rw [show 1 + (i - 1) = i from by omega], pgT_len _ _⟩
    · rw [List.getElem?_append_right (by rw [List.length_append, plT_len]; show 1 + _ ≤ i; omega), List.length_append, plT_len]
      rw [show i - ([(0, metaL T.length p)].length + holdN T.length) = i - (1 + holdN T.length) from rfl, plM_at _ _ _ (by omega)]
      exact ⟨_, by rw [show 1 + holdN T.length + (i - (1 + holdN T.length)) = i from by omega], by rw [zeros_len]⟩
theorem head_len (p m : Nat) (hp : p ≤ 64) (hm : m ≤ 64) (l : List FnV) : (utx (p : Int) (m : Int) l).length ≤ 12 + (utFs l).length := by
  unfold utx
  have h1 := dig_two (p : Int).toNat (by omega)
  have h2 := dig_two (m : Int).toNat (by omega)
  simp only [List.length_cons, List.length_append]
  omega
/-- What a tape gives is written. -/
theorem good_text {l : List FnV} (h : GoodU l) {pg ms : Int} (h0 : 0 ≤ pg) (h1 : pg ≤ ms) (h2 : ms ≤ 64) : rText pg ms l = (utx pg ms l, 0) ∧ (utx pg ms l).length ≤ 1812 ∧ RightF pg ms l := by
  have hR := h.rightF (pg := pg) (ms := ms) h0 h1 h2
  have key : ∀ l' : List FnV, (∀ f ∈ l', f ∈ l) → (utFs l').length ≤ 600 * l'.length := by
    intro l'
    induction l' with
    | nil => intro _; exact Nat.le_refl _
    | cons f l' ih =>
      intro hs
      obtain ⟨ts, ht⟩ := hR.tok (hs f (by simp))
      have ha := h.args f (hs f (by simp))
      have := (utF_len ht (by omega)).1
      have := ih (fun x hx => hs x (by simp [hx]))
      rw [show utFs (f :: l') = utF f ++ utFs l' from rfl, List.length_append, List.length_cons]
      omega
  have hl := key l (fun _ hf => hf)
  have hlo := h.lo
  obtain ⟨p, rfl⟩ : ∃ p : Nat, pg = (p : Int) := ⟨pg.toNat, by omega⟩
  obtain ⟨m, rfl⟩ : ∃ m : Nat, ms = (m : Int) := ⟨ms.toNat, by omega⟩
  have hh := head_len p m (by omega) (by omega) l
  have hlen : (utx (p : Int) (m : Int) l).length ≤ 1812 := by omega
  refine ⟨?_, hlen, hR⟩
  unfold rText
  rw [if_pos (rRight_ok.2 hR), if_neg (by omega)]
theorem bts_take (s : List UInt8) (n : Nat) : (bts s).take n = bts (s.take n) := by unfold bts; rw [List.map_take]
/-- 'copy(dst, s)', s a text, dst a block of bytes. -/
theorem run_copy_text {P : Program} (w : World) (dT sT ty elem : TypeId) (g dLen dCap : Nat) (s : List UInt8) (cs : List Value) (t : TypeId)
    (hu : P.underlying dT = some (.slice elem)) (hs : (P.info? elem).map (·.size) = some 1) (hW : Whole w g t cs) (hl : cs.length = dLen) :
    ∃ w', (Builtin.copy_ #[dT, sT] ty #[.slice (some ⟨g, 0, none⟩) dLen dCap, .string (strOf s)]).run P w = .ok (goInt (Nat.min s.length dLen)) w' ∧ Whole w' g t (bts (s.take dLen) ++ cs.drop (s.take dLen).length) ∧ Chg [g] w w' := by
  have hsz := strOf_len s
  have hvl : (bts (s.take dLen)).length = Nat.min s.length dLen := by rw [bts_len, List.length_take, Nat.min_comm]
  have hm1 : Nat.min s.length dLen ≤ dLen := Nat.min_le_right _ _
  have hst := run_storeCells_at (P := P) g 0 t (bts (s.take dLen)) 0 cs.toArray w hW (by rw [hvl]; simp; omega) (bts_one _)
  have htk : List.take (Nat.min s.length dLen) (List.map (fun b : UInt8 => Value.int IntKind.u8 (b.toNat : Int)) (strOf s).data.toList) = bts (s.take dLen) := by
    rw [show (strOf s).data.toList = s from by simp [strOf]]
    show List.take _ (bts s) = _
    rw [bts_take]
    congr 1
    rw [List.take_eq_take_iff]
    show min (min s.length dLen) s.length = min dLen s.length
    omega
  simp only [Nat.add_zero, List.take_zero, List.nil_append, Nat.zero_add] at hst
  refine ⟨w.setRow g (bts (s.take dLen) ++ cs.drop (s.take dLen).length).toArray, ?_, ?_, ?_⟩
  · cases hq : P.info? elem with
    | none => simp [hq] at hs
    | some i =>
      simp [Builtin.copy_, run_underlying hu, Builtin.lenOf, Builtin.firstCells, sizeOf, typeInfo, hq, hsz]
      rw [htk, hst]
      simp [Result.andThen, bts_len]
  · exact setRow_heap w g _ _ t (0, 0) hW
  · exact ⟨rfl, rfl, rfl, by rw [setRow_size]; exact Nat.le_refl _, fun k _ hk => setRow_other w g k _ (by simpa using hk)⟩
end Go.Proofs.YtbkfhndmeljlcaaGreatDoor
namespace Go.Proofs.YtbkfhndmeljlcaaGreatDoor
open Go.RowKit
/-- Text of a program, in this world and behind it. -/
def TxOk (W : World) (pg ms : Int) (A : Option Addr) (n c : Nat) (T : List UInt8) (E : Int) : Prop :=
  ∀ w, Chg [] W w → PowB w.heap.size w → Calls Tryz.prog 31 #[.agg #[.int .i64 pg, .int .i64 ms, .slice A n c]] w (UTextPost T E w)
theorem TxOk.keep {W W' : World} {pg ms : Int} {A : Option Addr} {n c : Nat} {T : List UInt8} {E : Int} (h : TxOk W pg ms A n c T E) (hc : Chg [] W W') : TxOk W' pg ms A n c T E := fun w k hp => h w (hc.trans k) hp
theorem TxOk.of_fnr {W : World} {pg ms : Int} {A : Option Addr} {n c : Nat} {l : List FnV} (h : Fnr W A n c l) (hsm : ∀ f ∈ l, f.code.size ≤ 9223372036854775807) : TxOk W pg ms A n c (rText pg ms l).1 (rText pg ms l).2 := fun _ hc hp => utext_any (h.keep hc) hsm hp
def needZ (T : List UInt8) (E ms : Int) : Int := if E = 0 then 1 + (holdN T.length : Int) + ms else 0
section
variable {w : World}
theorem plhold_any (n : Nat) (hn : n ≤ 1000000) (w : World) : Calls Tryz.prog 70 #[.int .i64 (n : Int)] w fun e w' => e = .returned (.int .i64 ((holdN n : Nat) : Int)) ∧ w' = w := by
  have HH := Lib.hid (show ((holdN n : Nat) : Int) = ((n : Int) + 64 - 1) / 64 from by unfold holdN; omega)
  go_enter Tryz.func70, Tryz.ntmps70
  go_wp2_with fail
  go_ret
  exact ⟨congrArg (fun z : Int => Ending.returned (Value.int .i64 z)) HH.out.symm, rfl⟩
theorem plpages_any (T : List UInt8) (hn : T.length ≤ 1000000) (w : World) : Calls Tryz.prog 44 #[.string (strOf T)] w fun e w' => e = .returned (.int .i64 ((holdN T.length : Nat) : Int)) ∧ w' = w := by
  have HL := Lib.hid (plhold_any T.length hn w)
  have hsz := strOf_len T
  go_enter Tryz.func44, Tryz.ntmps44
  go_wp2_with (go_at_call 70
               refine HL.out.mono ?_
               rintro e w2 ⟨rfl, rfl⟩)
  go_ret
  exact ⟨rfl, rfl⟩
variable {pg ms : Int} {A : Option Addr} {n c : Nat} {E : Int} {T : List UInt8}
set_option maxHeartbeats 4000000 in
set_option maxRecDepth 100000 in
theorem plneed_any (hT : TxOk w pg ms A n c T E) (hTl : T.length ≤ 2048) (hms : E = 0 → 0 ≤ ms ∧ ms ≤ 64) (hP : PowB w.heap.size w) : Calls Tryz.prog 19 #[.agg #[.int .i64 pg, .int .i64 ms, .slice A n c]] w fun e w' => e = .returned (.int .i64 (needZ T E ms)) ∧ Chg [] w w' := by
  have HT := Lib.hid hT
  have HP := Lib.hid hP
  obtain ⟨N, hN⟩ : ∃ N, N = needZ T E ms := ⟨_, rfl⟩
  rw [← hN]
  have HN := Lib.hid hN
  clear hT hP hN
  unfold TxOk UTextPost at HT
  go_enter Tryz.func19, Tryz.ntmps19
  go_upto_region 1 with fail
  have hN := Whole.new w 24 [.int .i64 pg, .int .i64 ms, .slice A n c]
  have hal := (Chg.refl [] w).alloc (.cells #[.int .i64 pg, .int .i64 ms, .slice A n c] 24)
  have HU1 := Lib.hid hN
  have HC1 := Lib.hid hal
  clear hN hal
  generalize w.heap.size = gu at HU1 ⊢
  generalize w.alloc (.cells #[.int .i64 pg, .int .i64 ms, .slice A n c] 24) = w1 at HU1 HC1 ⊢
  have u0 := HU1.out.cell 0
  have u1 := HU1.out.cell 1
  have u2 := HU1.out.cell 2
  by_cases hE : E = 0
  · subst hE
    have hN1 : N = 1 + (holdN T.length : Int) + ms := by rw [HN.out]; unfold needZ; rw [if_pos rfl]
    have HPG := Lib.hid (fun (W : World) => plpages_any T (by omega) W)
    have hh : holdN T.length ≤ 33 := by unfold holdN; omega
    obtain ⟨h, hh2⟩ : ∃ h, h = holdN T.length := ⟨_, rfl⟩
    rw [← hh2] at HPG hN1 hh
    obtain ⟨hm0, hm1⟩ := hms rfl
    generalize strOf T = S at HT HPG
    clear hh2 HN hTl hms
    have HN1 := Lib.hid hN1
    clear hN1
    go_upto_region 4 with (go_at_call 31
                           refine (HT.out _ HC1.out (HP.out.here HC1.out)).mono ?_
                           rintro e w2 ⟨rfl, hc2⟩
                           have HC2 := Lib.hid (HC1.out.trans hc2)
                           have HU2 := Lib.hid (HU1.out.keep hc2)
                           clear hc2)
    clear u0 u1 u2
    have HHW := Lib.hid (fun (W : World) (h : Chg [] w2.drew W) => (show Chg [] w2 W from (Chg.refl [] w2).drew.trans h))
    have HW1 := Lib.hid (show IntKind.i64.wrap (1 + (h : Int)) = 1 + (h : Int) from IntWalk.i64_in _ (by omega))
    have HW2 := Lib.hid (show IntKind.i64.wrap (1 + (h : Int) + ms) = N from by rw [HN1.out]; exact IntWalk.i64_in _ (by omega))
    refine wp_flow (by kernel_rfl) plainT plainT_ok (by kernel_rfl) ?_
    refine flow_move_out plainT_ok rfl rfl rfl ?_
    refine flow_callv (.int .i64 (h : Int)) (by kernel_rfl) rfl (.cons (.inn rfl) .nil) (fun W hW => (HPG.out W).mono ?_) ?_
    · rintro e w' ⟨rfl, rfl⟩
      rw [plain_by]
      exact ⟨rfl, Chg.refl _ _⟩
    refine flow2 (r := .int .i64 (1 + (h : Int))) plainT_ok rfl (.const _) (.inn rfl) rfl (fun ev W he e1 e2 => by have q := HW1.out; go_simp) ?_
    refine flow1 (r := .pointer (some ⟨gu, 1, none⟩)) plainT_ok rfl (.out rfl rfl) rfl (fun ev W he e1 => by go_simp) ?_
    refine flow1h (r := .int .i64 ms) plainT_ok rfl (.inn rfl) rfl (fun ev W he hW e1 => by
      have hk := HU2.out.keep (HHW.out W hW)
      have q1 := hk.cell 1
      clear hW hk
      go_simp) ?_
    refine flow2 (r := .int .i64 N) plainT_ok rfl (.inn rfl) (.inn rfl) rfl (fun ev W he e1 e2 => by have q := HW2.out; go_simp) ?_
    refine flow_assign plainT_ok rfl (keeps_isV _) (.inr (keeps_isV _)) rfl ?_
    intro vs W hW hF
    have e2 : vs 2 = .int .i64 N := hF 2 _ rfl rfl
    have HCW := Lib.hid (HC2.out.trans (HHW.out W hW))
    simp only [putAll, Act.put, List.setIfInBounds_toArray, List.set_cons_zero, List.set_cons_succ]
    rw [e2]
    clear hF hW e2
    obtain ⟨wz, hwz⟩ : ∃ wz : World, wz = W := ⟨_, rfl⟩
    rw [← hwz] at HCW ⊢
    clear hwz
    go_wp2_with fail
    go_ret
    exact ⟨rfl, HCW.out⟩
  · obtain rfl : N = 0 := by rw [HN.out]; unfold needZ; rw [if_neg hE]
    have hd : (E == 0) = false := by simpa using hE
    clear hE HN hms
    go_wp2_with (go_at_call 31
                 refine (HT.out _ HC1.out (HP.out.here HC1.out)).mono ?_
                 rintro e w2 ⟨rfl, hc2⟩
                 have HC2 := Lib.hid (HC1.out.trans hc2)
                 clear hc2)
    go_ret
    exact ⟨rfl, HC2.out⟩
end
end Go.Proofs.YtbkfhndmeljlcaaGreatDoor
