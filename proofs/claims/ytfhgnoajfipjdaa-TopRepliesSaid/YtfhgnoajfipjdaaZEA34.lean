/-
  EA: URight, EgTop0, EgSame, TopRepliesP.
-/
import Derived.Test.YtfhgnoajfipjdaaZEA27
import Derived.Test.YtfhgnoajfipjdaaZEA29
import Derived.Test.YtfhgnoajfipjdaaZEA32
import Derived.Test.YtfhgnoajfipjdaaZEA33
import Derived.Deep.QuietTactic
import Derived.BigQuiet
import Derived.IntWalk
namespace Go.Proofs.Ytfhgnoajfipjdaa
open Go.RowKit
structure RightU (pages most : Int) (l : List FnV) : Prop where
  p0 : 0 ≤ pages
  pm : pages ≤ most
  m64 : most ≤ 64
  few : l.length ≤ 32
  fn : ∀ (k : Nat) (f : FnV), l[k]? = some f → nameB f.name = true ∧ findI l f.name = (k : Int) ∧ 0 ≤ f.args ∧ f.args ≤ 4
  ok : ∀ k : Nat, k < l.length → (rFn l (k : Int)).1 = 0
  small : ∀ f ∈ l, f.code.size ≤ 1000000
def RightPost (W : World) (r : Int) (e : Ending) (w' : World) : Prop := e = .returned (.int .i64 r) ∧ Chg [] W w'
section
variable {W : World} {A : Option Addr} {n c : Nat} {l : List FnV} {pages most : Int}
set_option maxHeartbeats 8000000 in
set_option maxRecDepth 100000 in
theorem right_ok (h : Fnr W A n c l) (hr : RightU pages most l) : Calls Try.prog 22 #[unitV pages most A n c] W (RightPost W 0) := by
  have hn32 : n ≤ 32 := by rw [← h.len]; exact hr.few
  have hp0 := hr.p0
  have hpm := hr.pm
  have hm64 := hr.m64
  have H := Lib.hid h
  have HR := Lib.hid hr
  have HCF := Lib.hid (fun (w : World) (hc : Chg [] W w) (k : Int) => cfunc_any (pages := pages) (most := most) (h.keep hc) hr.small k)
  have HFI := Lib.hid (fun (w : World) (hc : Chg [] W w) (nm : Int) => cfind_any (pages := pages) (most := most) (h.keep hc) nm)
  unfold unitV at HCF HFI ⊢
  clear h hr
  have b1 : decide (pages < 0) = false := by simp; omega
  have b2 : decide (most < pages) = false := by simp; omega
  have b3 : decide (64 < most) = false := by simp; omega
  have b4 : decide (32 < (n : Int)) = false := by simp; omega
  go_enter Try.func22, Try.ntmps22
  go_upto_region 1 with fail
  have hN := Whole.new W 28 [.int .i64 pages, .int .i64 most, .slice A n c]
  have hal : Chg [] W (W.alloc (.cells #[.int .i64 pages, .int .i64 most, .slice A n c] 28)) := (Chg.refl [] W).alloc _
  obtain ⟨g, hg⟩ : ∃ g, g = W.heap.size := ⟨_, rfl⟩
  rw [← hg] at hN ⊢
  have HU := Lib.hid hN
  have HC := Lib.hid hal
  generalize W.alloc (.cells #[.int .i64 pages, .int .i64 most, .slice A n c] 28) = w1 at HU HC ⊢
  clear hN hal hg
  have u0 := HU.out.cell 0
  have u1 := HU.out.cell 1
  have u2 := HU.out.cell 2
  go_wp2_with fail
  go_loopw [30] (fun i wr => ∃ k : Nat, i = .int .i64 (k : Int) ∧ k ≤ n ∧ Hid (Chg [] w1 wr)) (fun i _ => n - (intOf i).toNat)
  case atStart => exact ⟨0, rfl, by omega, Lib.hid (Chg.refl [] _)⟩
  case round =>
    obtain ⟨k, rfl, hk, HCr⟩ := hrel
    have HUr := Lib.hid (HU.out.keep HCr.out)
    by_cases hkn : k < n
    · have hkI : (k : Int) < (n : Int) := by omega
      obtain ⟨t, htk⟩ : ∃ t, l[k]? = some t := ⟨l[k]'(by rw [H.out.len]; exact hkn), by simp⟩
      obtain ⟨hnm, hfi, ha0, ha4⟩ := HR.out.fn k t htk
      obtain ⟨fb, fo, rfl, hfbl, e0, e1, e2⟩ := (H.out.keep (HC.out.new HCr.out)).cell htk
      obtain ⟨tn, ta, tc⟩ := t
      simp only at e0 e1 e2 hnm hfi ha0 ha4
      clear htk
      go_upto_region 8 with fail
      have hX := Whole.new wr 51 [.int .i32 tn, .int .i64 ta, .string tc]
      have hc2 := (Chg.refl [] wr).alloc (.cells #[.int .i32 tn, .int .i64 ta, .string tc] 51)
      have HX2 := Lib.hid hX
      have HC2 := Lib.hid (HCr.out.new hc2)
      have HU2 := Lib.hid (HUr.out.keep hc2)
      generalize wr.heap.size = gx at HX2 ⊢
      generalize wr.alloc (.cells #[.int .i32 tn, .int .i64 ta, .string tc] 51) = w3 at HX2 HC2 HU2 ⊢
      clear hX e0 e1 e2 hfbl hc2
      have x0 := HX2.out.cell 0
      have x1 := HX2.out.cell 1
      have v0 := HU2.out.cell 0
      have v1 := HU2.out.cell 1
      have v2 := HU2.out.cell 2
      have q1 : decide (ta < 0) = false := by simp; omega
      have q2 : decide (4 < ta) = false := by simp; omega
      have HNM := Lib.hid (fun w => gname_any tn w)
      rw [hnm] at HNM
      have HFX := Lib.hid (HFI.out w3 (HC.out.new HC2.out) tn)
      rw [hfi] at HFX
      clear hnm hfi
      go_wp2_with (first
        | (go_at_call 62
           refine (HNM.out _).mono ?_
           rintro e w4 ⟨rfl, rfl⟩)
        | (go_at_call 51
           refine HFX.out.mono ?_
           rintro e w5 ⟨rfl, hc5⟩
           have y1 := cell_keep (by simpa using x1 : w3.cell? ⟨gx, 1, none⟩ = some (.int .i64 ta)) hc5
           have HC5 := Lib.hid (HC2.out.new hc5)
           clear hc5))
      exact ⟨⟨k + 1, by simp, by omega, HC5⟩, by simp [intOf]; omega⟩
    · have hkI : (n : Int) ≤ (k : Int) := by omega
      have v0 := HUr.out.cell 0
      have v1 := HUr.out.cell 1
      have v2 := HUr.out.cell 2
      go_wp2_with fail
      go_loopw [61] (fun i ws => ∃ k : Nat, i = .int .i64 (k : Int) ∧ k ≤ n ∧ Hid (Chg [] w1 ws)) (fun i _ => n - (intOf i).toNat)
      case atStart => exact ⟨0, rfl, by omega, HCr⟩
      case round =>
        obtain ⟨j, rfl, hj, HCs⟩ := hrel
        have HUs := Lib.hid (HU.out.keep HCs.out)
        by_cases hjn : j < n
        · have hjI : (j : Int) < (n : Int) := by omega
          have s0 := HUs.out.cell 0
          have s1 := HUs.out.cell 1
          have s2 := HUs.out.cell 2
          have HOK := Lib.hid (HR.out.ok j (by rw [H.out.len]; exact hjn))
          have HFN := Lib.hid (HCF.out wr (HC.out.new HCs.out) (j : Int))
          generalize rFn l (j : Int) = R at HOK HFN
          go_wp2_with fail
          refine HFN.out.mono ?_
          rintro e w5 ⟨v, rfl, ho, hc5⟩
          have HC5 := Lib.hid (HCs.out.new hc5)
          obtain ⟨Av, cv, rfl, _⟩ := own_slice ho
          rw [HOK.out]
          clear ho hc5
          go_wp2_with fail
          go_roundw
          case rel => exact ⟨j + 1, by go_num, by omega, HC5⟩
          case measure => simp [intOf]; omega
        · have hjI : (n : Int) ≤ (j : Int) := by omega
          have HP := Lib.hid (show RightPost W 0 (.returned (.int .i64 0)) wr from ⟨rfl, HC.out.new HCs.out⟩)
          go_wp2_with fail
          go_ret
          exact HP.out
end
end Go.Proofs.Ytfhgnoajfipjdaa
namespace Go.Proofs.Ytfhgnoajfipjdaa
open Go.RowKit
theorem readable_of {pages most : Int} {l : List FnV} (h : RightU pages most l) : Readable l := by
  intro f hf
  obtain ⟨k, hk⟩ := List.getElem?_of_mem hf
  have hkl := (List.getElem?_eq_some_iff.1 hk).1
  refine ⟨(h.fn k f hk).2.2.1, ?_⟩
  have h0 := h.ok k hkl
  unfold rFn at h0
  rw [if_neg (by omega), Int.toNat_natCast, hk] at h0
  simp only at h0
  unfold rFunc at h0
  cases ht : tokR f.code with
  | none => rw [ht] at h0; simp only [tokE] at h0; exfalso; revert h0; split <;> simp
  | some ts =>
    rw [ht] at h0
    simp only at h0
    cases hn : rNest (signs ts) with
    | none => rw [hn] at h0; simp at h0
    | some R => exact ⟨ts, R, rfl, hn⟩
/-- Asks as a slice, in a row of asks. -/
def QSl (w : World) (v : Value) (qs : List (Int × Int)) : Prop := ∃ A c, v = .slice A qs.length c ∧ qs.length ≤ c ∧ Src w A (qsC qs) ∧ (∀ ad, A = some ad → ad.spot = none) ∧ (0 < qs.length → ∀ ad, A = some ad → ∃ cs fz, w.heap[ad.block]? = some (.cells cs 53 fz))
theorem QSl.keep {w w' : World} {v : Value} {qs : List (Int × Int)} (h : QSl w v qs) (hc : Chg [] w w') : QSl w' v qs := by
  obtain ⟨A, c, e, h1, h2, h3, h4⟩ := h
  refine ⟨A, c, e, h1, h2.keep hc, h3, fun h0 ad ha => ?_⟩
  obtain ⟨cs, fz, hb⟩ := h4 h0 ad ha
  have hlt : ad.block < w.heap.size := by
    rcases Nat.lt_or_ge ad.block w.heap.size with h | h
    · exact h
    · rw [Array.getElem?_eq_none h] at hb; cases hb
  exact ⟨cs, fz, (hc.block _ hlt (by simp)).trans hb⟩
theorem rown_src {w : World} {B n k : Nat} {e : TypeId} {v : Value} {xs : List Value} (h : w.ownsRow B e k v n xs) : ∃ A c, v = .slice A n c ∧ n ≤ c ∧ Src w A xs ∧ ∀ ad, A = some ad → ad.spot = none := by
  have hx := h.1
  rcases h.2 with ⟨rfl, rfl⟩ | ⟨g, cap, cur, rfl, hb, hg, hn, hc, hs, ht⟩
  · exact ⟨none, 0, rfl, Nat.le_refl _, fun h0 => by rw [hx] at h0; simp at h0, fun ad h => by cases h⟩
  · refine ⟨_, cap, rfl, hn, fun h0 => ⟨_, rfl, ?_, fun j u hj => h.cells rfl j u hj⟩, fun ad h => by injection h with h; subst h; rfl⟩
    rcases Nat.lt_or_ge g w.heap.size with h | h
    · exact h
    · rw [Array.getElem?_eq_none h] at hg; cases hg
theorem qsC_drop (qs : List (Int × Int)) : ∀ n, qsC (qs.drop n) = (qsC qs).drop (n * 2) := by
  induction qs with
  | nil => intro n; simp [qsC]
  | cons x l ih =>
    intro n
    cases n with
    | zero => simp
    | succ n =>
      rw [List.drop_succ_cons, ih n, show (n + 1) * 2 = n * 2 + 1 + 1 from by omega]
      simp [qsC]
theorem qsl_drop {w : World} {B m c n : Nat} {A : Option Addr} {qs : List (Int × Int)} (h : w.ownsRow B 53 2 (.slice A m c) m (qsC qs)) (hm : m = qs.length) (hn : n ≤ m) : QSl w (.slice (if c = n then A else Option.map (fun x => x.add (n * 2)) A) (m - n) (c - n)) (qs.drop n) := by
  obtain ⟨A', c', e', hc, hs, hA⟩ := rown_src h
  injection e' with e1 _ e3
  subst e1
  subst e3
  refine ⟨_, c - n, by rw [List.length_drop, hm], by rw [List.length_drop]; omega, fun h0 => ?_, fun ad had => ?_, fun h0 ad had => ?_⟩
  · rw [qsC_len, List.length_drop] at h0
    obtain ⟨ad, rfl, hlt, hx⟩ := hs (by rw [qsC_len]; omega)
    obtain ⟨b, o, sp⟩ := ad
    obtain rfl : sp = none := hA _ rfl
    rw [if_neg (by omega)]
    refine ⟨⟨b, o + n * 2, none⟩, by simp [add_plain], hlt, fun j u hj => ?_⟩
    have := hx (n * 2 + j) u (by rw [qsC_drop, List.getElem?_drop] at hj; exact hj)
    rw [add_plain] at this ⊢
    rw [Nat.add_assoc]
    exact this
  · split at had
    · exact hA ad had
    · cases A with
      | none => cases had
      | some x =>
        simp only [Option.map_some] at had
        injection had with had
        subst had
        obtain ⟨b, o, sp⟩ := x
        obtain rfl : sp = none := hA _ rfl
        simp [add_plain]
  · rw [List.length_drop] at h0
    rcases h.2 with ⟨e1, e2⟩ | ⟨g, cap, cur, e1, hb, hg, _⟩
    · subst e2; omega
    · injection e1 with e1 _ e3
      subst e1
      subst e3
      have hbl : ad.block = g := by
        split at had
        · injection had with had; rw [← had]
        · simp only [Option.map_some, Option.some.injEq] at had; rw [← had, add_plain]
      rw [hbl]
      exact ⟨_, _, hg⟩
section
variable {w : World} {p : Nat} {rs : List (Option Int)} {qs : List (Int × Int)} {a q : Value}
set_option maxHeartbeats 2000000 in
set_option maxRecDepth 100000 in
theorem asks_every (h : Rq w p rs qs a q) (hq : qs.length ≤ 1000000000) : Calls Try.prog 20 #[.pointer (some ⟨p, 0, none⟩)] w (AsksPost w qs) := by
  by_cases h0 : 0 < qs.length
  · exact asks_any h hq h0
  · obtain rfl : qs = [] := List.eq_nil_of_length_eq_zero (by omega)
    obtain ⟨i0, hi, hz0, hz1, hz2⟩ := info_parts info_rask
    obtain ⟨A2, c2, rfl, _, hcm2, hsp⟩ := rown_slice h.asks
    have e1 := h.rec_.cell 1
    have HSP := Lib.hid hsp
    clear h h0 hsp
    have HP := Lib.hid (show AsksPost w [] (.returned (.slice none 0 0)) w from ⟨_, rfl, World.ownsRow_nil _ _ _ _, Chg.refl _ _⟩)
    rcases A2 with _ | ⟨g, o, sp⟩
    · go_enter Try.func20, Try.ntmps20
      go_wp2_with fail
      go_ret
      exact HP.out
    · obtain rfl : sp = none := (HSP.out _ rfl).1
      go_enter Try.func20, Try.ntmps20
      go_wp2_with fail
      go_ret
      exact HP.out
end
end Go.Proofs.Ytfhgnoajfipjdaa
namespace Go.Proofs.Ytfhgnoajfipjdaa
open Go.RowKit
theorem qs_cells {w : World} {A : Option Addr} {qs : List (Int × Int)} (hs : Src w A (qsC qs)) (hp : ∀ ad, A = some ad → ad.spot = none) {k : Nat} (hk : k < qs.length) : ∃ b o, A = some ⟨b, o, none⟩ ∧ w.cell? ⟨b, o + k * 2, none⟩ = some (.int .i32 qs[k].1) ∧ w.cell? ⟨b, o + k * 2 + 1, none⟩ = some (.int .i64 qs[k].2) := by
  obtain ⟨ad, rfl, _, hx⟩ := hs (by rw [qsC_len]; omega)
  obtain ⟨b, o, sp⟩ := ad
  obtain rfl : sp = none := hp _ rfl
  have h := qs_get (List.getElem?_eq_getElem hk)
  have h0 := hx _ _ h.1
  have h1 := hx _ _ h.2
  rw [add_plain] at h0 h1
  exact ⟨b, o, rfl, h0, by rw [Nat.add_assoc]; exact h1⟩
end Go.Proofs.Ytfhgnoajfipjdaa
namespace Go.Proofs.Ytfhgnoajfipjdaa
open Go.RowKit
def repC : ByteArray := ⟨#[48, 67, 91, 97, 33, 63, 126, 59, 99, 32, 49, 48, 42, 97, 207, 128, 113, 43, 67, 97, 32, 49, 45, 65, 93, 99]⟩
def repT : List TkV := [⟨48, 0, 0⟩, ⟨67, 0, 0⟩, ⟨91, 0, 0⟩, ⟨97, 0, 0⟩, ⟨33, 0, 0⟩, ⟨63, 0, 0⟩, ⟨126, 0, 0⟩, ⟨59, 0, 0⟩, ⟨99, 0, 0⟩, ⟨48, 10, 0⟩, ⟨42, 0, 0⟩, ⟨97, 0, 0⟩, ⟨960, 0, 113⟩, ⟨43, 0, 0⟩, ⟨67, 0, 0⟩, ⟨97, 0, 0⟩, ⟨48, 1, 0⟩, ⟨45, 0, 0⟩, ⟨65, 0, 0⟩, ⟨93, 0, 0⟩, ⟨99, 0, 0⟩]
def repG : List Int := [(-1), (-1), (-1), (-1), (-1), 7, 20, (-1), (-1), (-1), (-1), (-1), (-1), (-1), (-1), (-1), (-1), (-1), (-1), 2, (-1)]
def repU : List FnV := [⟨102, 1, repC⟩]
theorem rep_tok : tokR repC = some repT := by kernel_rfl
theorem rep_nest : (rNest (signs repT)).map (·.1) = some repG := by decide +kernel
theorem rep_ok : (rFn repU 0).1 = 0 := by decide +kernel
theorem rep_right : RightU 0 0 repU := by
  refine ⟨by decide, by decide, by decide, by simp [repU], fun k f hf => ?_, fun k hk => ?_, fun f hf => ?_⟩
  · cases k with
    | zero => simp only [repU, List.getElem?_cons_zero, Option.some.injEq] at hf; subst hf; exact ⟨by show nameB 102 = true; decide, by simp [findI, findK, repU], by show (0 : Int) ≤ 1; decide, by show (1 : Int) ≤ 4; decide⟩
    | succ k => simp [repU] at hf
  · obtain rfl : k = 0 := by simp [repU] at hk; omega
    exact rep_ok
  · simp only [repU, List.mem_singleton] at hf
    subst hf
    show ByteArray.size repC ≤ _
    decide
theorem rep_code : repU.map codeOf = [⟨1, repT, repG⟩] := by
  show [codeOf ⟨102, 1, repC⟩] = _
  unfold codeOf
  simp only
  rw [rep_tok]
  simp only
  have hnest := rep_nest
  cases hn : rNest (signs repT) with
  | none => rw [hn] at hnest; cases hnest
  | some R => rw [hn] at hnest; simp only [Option.map_some, Option.some.injEq] at hnest; rw [← hnest]; rfl
/-- One call, with fuel, stack, place, the first locals, what was asked; no memory. -/
def mkq (f : Nat) (st : List Int) (pc : Nat) (loc : List Int) (qs : List (Int × Int)) : EgV := ⟨f, st, [⟨0, pc, loc ++ List.replicate (26 - loc.length) 0⟩], [], [], qs⟩
theorem rep_ask {rs : List (Option Int)} {f : Nat} {a b c u v x : Int} {qs : List (Int × Int)} (hx : ansR rs qs.length = some x) : eOne repU [⟨1, repT, repG⟩] rs 0 (mkq (f + 1) [u, v] 12 [a, b, c] qs) = .on (mkq f [u, x] 13 [a, b, c] (qs ++ [(113, v)])) := by
  have h : eOne repU [⟨1, repT, repG⟩] rs 0 (mkq (f + 1) [u, v] 12 [a, b, c] qs) = (match ansR rs qs.length with | none => .stop (7, mkq f [u] 13 [a, b, c] (qs ++ [(113, v)])) | some n => .on (mkq f [u, n] 13 [a, b, c] (qs ++ [(113, v)]))) := by
    show (match (match ansR rs qs.length with | none => some ((7 : Int), mkq f [u] 13 [a, b, c] (qs ++ [(113, v)])) | some n => some ((0 : Int), mkq f [u, n] 13 [a, b, c] (qs ++ [(113, v)]))) with | none => OneR.stuck | some (trap, s') => if trap = 0 then OneR.on s' else OneR.stop (trap, s')) = _
    cases ansR rs qs.length <;> rfl
  rw [h, hx]
/-- What the answers make, from a number on. -/
def repV : Int → List Int → Int
  | c, [] => c
  | c, x :: l => repV (wrap64 (wrap64 (c * 10) + x)) l
/-- What is asked. -/
def repQ : Nat → List (Int × Int)
  | 0 => []
  | n + 1 => (113, (n : Int) + 1) :: repQ n
theorem repQ_len : ∀ n, (repQ n).length = n
  | 0 => rfl
  | n + 1 => by simp [repQ, repQ_len n]
theorem repQ_get : ∀ (n i : Nat) (h : i < n), (repQ n)[i]'(by rw [repQ_len]; exact h) = (113, (n : Int) - i)
  | n + 1, 0, _ => by simp [repQ]
  | n + 1, i + 1, h => by
    have := repQ_get n i (by omega)
    simp only [repQ, List.getElem_cons_succ]
    rw [this]
    congr 1
    omega
theorem ans_at {pre l : List Int} {x : Int} : ansR ((pre ++ x :: l).map some) pre.length = some x := by
  unfold ansR
  rw [if_pos (by simp)]
  simp [List.getD]
/-- From the loop's head on: so many answers that are still to come. -/
theorem rep_loop : ∀ (l pre : List Int) (qs : List (Int × Int)) (c : Int) (f : Nat), l.length ≤ 20 → qs.length = pre.length → ∃ s', Rn repU [⟨1, repT, repG⟩] ((pre ++ l).map some) 0 (mkq (f + 17 * l.length + 6) [] 2 [(l.length : Int), 0, c] qs) (0, s') ∧ s' = ⟨f, [repV c l], [], [], [], qs ++ repQ l.length⟩
  | [], pre, qs, c, f, _, _ => by
    refine ⟨_, ?_, rfl⟩
    simp only [repV, repQ, List.append_nil, List.length_nil, Nat.mul_zero, Nat.add_zero]
    show Rn _ _ _ _ (mkq (f + 6) [] 2 [0, 0, c] qs) _
    refine Rn.on (s' := mkq (f + 5) [] 3 [0, 0, c] qs) (by kernel_rfl) ?_
    refine Rn.on (s' := mkq (f + 4) [0] 4 [0, 0, c] qs) (by kernel_rfl) ?_
    refine Rn.on (s' := mkq (f + 3) [if (0 : Int) = 0 then 1 else 0] 5 [0, 0, c] qs) (by kernel_rfl) ?_
    rw [show (if (0 : Int) = 0 then 1 else 0 : Int) = 1 from rfl]
    refine Rn.on (s' := mkq (f + 2) [] 6 [0, 0, c] qs) (by kernel_rfl) ?_
    refine Rn.on (s' := mkq (f + 1) [] 20 [0, 0, c] qs) (by kernel_rfl) ?_
    refine Rn.on (s' := mkq f [c] 21 [0, 0, c] qs) (by kernel_rfl) ?_
    refine Rn.on (s' := ⟨f, [c], [], [], [], qs⟩) (by kernel_rfl) ?_
    exact Rn.stop (by kernel_rfl)
  | x :: l, pre, qs, c, f, hl, hq => by
    obtain ⟨s', hs', he⟩ := rep_loop l (pre ++ [x]) (qs ++ [(113, (l.length : Int) + 1)]) (wrap64 (wrap64 (c * 10) + x)) f (by simp only [List.length_cons] at hl; omega) (by simp [hq])
    have hx : ansR ((pre ++ x :: l).map some) qs.length = some x := by rw [hq]; exact ans_at
    refine ⟨s', ?_, by rw [he]; simp [repV, repQ]⟩
    rw [List.append_assoc, List.singleton_append] at hs'
    generalize (pre ++ x :: l).map some = rs at hs' hx ⊢
    have hj : l.length ≤ 20 := by simp only [List.length_cons] at hl; omega
    rw [List.length_cons]
    generalize l.length = j at hs' hj ⊢
    have HW2 : wrap64 (((j : Int) + 1) - 1) = (j : Int) := by rw [show ((j : Int) + 1) - 1 = (j : Int) from by omega]; exact IntWalk.wrap64_in _ (by omega)
    rw [show f + 17 * (j + 1) + 6 = (f + 17 * j + 6) + 17 from by omega, show ((j + 1 : Nat) : Int) = (j : Int) + 1 from by omega]
    generalize f + 17 * j + 6 = f at hs' ⊢
    refine Rn.on (s' := mkq (f + 16) [] 3 [((j : Int) + 1), 0, c] qs) (by kernel_rfl) ?_
    refine Rn.on (s' := mkq (f + 15) [((j : Int) + 1)] 4 [((j : Int) + 1), 0, c] qs) (by kernel_rfl) ?_
    refine Rn.on (s' := mkq (f + 14) [if ((((j : Int) + 1)) : Int) = 0 then 1 else 0] 5 [((j : Int) + 1), 0, c] qs) (by kernel_rfl) ?_
    rw [show (if ((((j : Int) + 1)) : Int) = 0 then 1 else 0 : Int) = 0 from if_neg (by omega)]
    refine Rn.on (s' := mkq (f + 13) [] 7 [((j : Int) + 1), 0, c] qs) (by kernel_rfl) ?_
    refine Rn.on (s' := mkq (f + 12) [] 8 [((j : Int) + 1), 0, c] qs) (by kernel_rfl) ?_
    refine Rn.on (s' := mkq (f + 11) [c] 9 [((j : Int) + 1), 0, c] qs) (by kernel_rfl) ?_
    refine Rn.on (s' := mkq (f + 10) [c, 10] 10 [((j : Int) + 1), 0, c] qs) (by kernel_rfl) ?_
    refine Rn.on (s' := mkq (f + 9) [wrap64 (c * 10)] 11 [((j : Int) + 1), 0, c] qs) (by kernel_rfl) ?_
    refine Rn.on (s' := mkq (f + 8) [wrap64 (c * 10), ((j : Int) + 1)] 12 [((j : Int) + 1), 0, c] qs) (by kernel_rfl) ?_
    refine Rn.on (s' := mkq (f + 7) [wrap64 (c * 10), x] 13 [((j : Int) + 1), 0, c] (qs ++ [(113, (j : Int) + 1)])) (rep_ask hx) ?_
    refine Rn.on (s' := mkq (f + 6) [wrap64 ((wrap64 (c * 10)) + x)] 14 [((j : Int) + 1), 0, c] (qs ++ [(113, (j : Int) + 1)])) (by kernel_rfl) ?_
    refine Rn.on (s' := mkq (f + 5) [] 15 [((j : Int) + 1), 0, wrap64 ((wrap64 (c * 10)) + x)] (qs ++ [(113, (j : Int) + 1)])) (by kernel_rfl) ?_
    refine Rn.on (s' := mkq (f + 4) [((j : Int) + 1)] 16 [((j : Int) + 1), 0, wrap64 ((wrap64 (c * 10)) + x)] (qs ++ [(113, (j : Int) + 1)])) (by kernel_rfl) ?_
    refine Rn.on (s' := mkq (f + 3) [((j : Int) + 1), 1] 17 [((j : Int) + 1), 0, wrap64 ((wrap64 (c * 10)) + x)] (qs ++ [(113, (j : Int) + 1)])) (by kernel_rfl) ?_
    refine Rn.on (s' := mkq (f + 2) [wrap64 ((((j : Int) + 1)) - 1)] 18 [((j : Int) + 1), 0, wrap64 ((wrap64 (c * 10)) + x)] (qs ++ [(113, (j : Int) + 1)])) (by kernel_rfl) ?_
    rw [show (wrap64 ((((j : Int) + 1)) - 1) : Int) = (j : Int) from HW2]
    refine Rn.on (s' := mkq (f + 1) [] 19 [(j : Int), 0, wrap64 ((wrap64 (c * 10)) + x)] (qs ++ [(113, (j : Int) + 1)])) (by kernel_rfl) ?_
    refine Rn.on (s' := mkq f [] 2 [(j : Int), 0, wrap64 ((wrap64 (c * 10)) + x)] (qs ++ [(113, (j : Int) + 1)])) (by kernel_rfl) ?_
    exact hs'
/-- The whole. -/
theorem rep_run (l : List Int) (hl : l.length ≤ 20) : ∃ s', eDo repU (l.map some) 0 0 9999 [(l.length : Int)] [] [] [] = some (repV 0 l, 0, s') ∧ s'.qs = repQ l.length ∧ s'.L = [] ∧ s'.V = [] := by
  obtain ⟨s', hs', he⟩ := rep_loop l [] [] 0 (9999 - 2 - 17 * l.length - 6) hl rfl
  have hR : Rn repU [⟨1, repT, repG⟩] (l.map some) 0 (mkq 9999 [] 0 [(l.length : Int)] []) (0, s') := by
    refine Rn.on (s' := mkq 9998 [0] 1 [(l.length : Int), 0] []) (by kernel_rfl) ?_
    refine Rn.on (s' := mkq 9997 [] 2 [(l.length : Int), 0, 0] []) (by kernel_rfl) ?_
    rw [show 9999 - 2 - 17 * l.length - 6 + 17 * l.length + 6 = 9997 from by omega, List.nil_append] at hs'
    exact hs'
  refine ⟨⟨s'.fuel, s'.st.dropLast, s'.cs, s'.L, s'.V, s'.qs⟩, ?_, by rw [he]; simp, by rw [he], by rw [he]⟩
  unfold eDo
  rw [rep_code]
  rw [show eCall [(⟨1, repT, repG⟩ : CodeV)] 0 ⟨9999, [(l.length : Int)], [], [], [], []⟩ = some (mkq 9999 [] 0 [(l.length : Int)] []) from rfl]
  simp only
  rw [hR.run (2 * 9999 + 2) (by show 2 * 9999 + 1 < _; omega)]
  simp only [if_true]
  unfold EgV.pop
  rw [he]
  rfl
end Go.Proofs.Ytfhgnoajfipjdaa
