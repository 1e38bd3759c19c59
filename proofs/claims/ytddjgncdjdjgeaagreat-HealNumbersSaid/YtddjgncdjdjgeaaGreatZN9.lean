/-
  N: Delta, Tape, DeltaGet, DeltaBytes.
-/
import Derived.Test.YtddjgncdjdjgeaaGreatZN1
import Derived.Test.YtddjgncdjdjgeaaGreatZN5
import Derived.Test.YtddjgncdjdjgeaaGreatZN6
import Derived.Test.YtddjgncdjdjgeaaGreatZN7
import Derived.Test.YtddjgncdjdjgeaaGreatZN8
import Derived.Deep.QuietTactic
import Derived.BigQuiet
import Derived.IntWalk
import Derived.Laws.BitsAllLaws
import Derived.Deep.RegionLaw
namespace Go.Proofs.YtddjgncdjdjgeaaGreat
open Go.RowKit
/-- A change as it lies in memory: two cells, one of them a slice. -/
structure ChV where
  page : Int
  bA : Option Addr
  bn : Nat
  bc : Nat
  B : List UInt8
def chC (a : ChV) : List Value := [.int .i64 a.page, .slice a.bA a.bn a.bc]
structure ChOk (w : World) (a : ChV) : Prop where
  p0 : -9223372036854775808 ≤ a.page
  p1 : a.page ≤ 9223372036854775807
  bs : Bs w a.bA a.bn a.bc a.B
/-- The slice at A reads as the changes l. -/
structure Chs (w : World) (A : Option Addr) (l : List ChV) : Prop where
  cells : 0 < l.length → ∃ g o, A = some ⟨g, o, none⟩ ∧ g < w.heap.size ∧ ∀ k a, l[k]? = some a → w.cell? ⟨g, o + k * 2, none⟩ = some (.int .i64 a.page) ∧ w.cell? ⟨g, o + k * 2 + 1, none⟩ = some (.slice a.bA a.bn a.bc)
  ok : ∀ a ∈ l, ChOk w a
/-- A change that Bytes can write. -/
def Small (a : ChV) : Prop := 0 ≤ a.page ∧ a.page < 65536 ∧ a.bn = 64
theorem ChOk.keep {w w' : World} {a : ChV} (h : ChOk w a) (hc : Chg [] w w') : ChOk w' a := { h with bs := h.bs.keep hc }
theorem Chs.nil (w : World) (A : Option Addr) : Chs w A [] := ⟨fun h => absurd h (by simp), fun a ha => by simp at ha⟩
theorem Chs.keep {w w' : World} {A : Option Addr} {l : List ChV} (h : Chs w A l) (hc : Chg [] w w') : Chs w' A l := by
  refine ⟨fun h0 => ?_, fun a ha => (h.ok a ha).keep hc⟩
  obtain ⟨g, o, e, hg, hx⟩ := h.cells h0
  refine ⟨g, o, e, Nat.lt_of_lt_of_le hg hc.size, fun k a ha => ?_⟩
  obtain ⟨h1, h2⟩ := hx k a ha
  have hk : ∀ j, w'.cell? ⟨g, j, none⟩ = w.cell? ⟨g, j, none⟩ := fun j => World.cell?_of_block (w := w) (hc.block g hg (by simp))
  exact ⟨(hk _).trans h1, (hk _).trans h2⟩
/-- append as a step of a region that draws. -/
theorem step_append_src {P : Program} {w : World} {ops : Array Oper} {o : Oper} {a : Act} {K : Act → World → Prop} {Q : Exit → Act → World → Prop} {E : Prop} (hgd : o.guard = none) (s x : Operand) (t : TypeId)
    (ho : o.op = .call { callee := .builtin .append, args := #[s, x], argTypes := #[t, t] })
    (base : Nat) (e : TypeId) (i : TypeInfo) (z : Value) (bytes : Nat) (ht : P.underlying t = some (.slice e)) (hi : P.info? e = some i) (hz : i.zero = some z)
    (hsize : i.size = 1) (hby : i.bytes = bytes) (hzs : z.cells.size = 1)
    (v : Value) (n : Nat) (xs : List Value) (hse : a.eval s = v) (hown : w.ownsRow base e 1 v n xs)
    (A : Option Addr) (m c : Nat) (news : List Value) (hxe : a.eval x = .slice A m c) (hl : news.length = m) (hs : Src w A news) (h1 : ∀ u ∈ news, u.oneCell' = true)
    (h63 : n + m ≤ maxLen) (hbytes : (n + m) * bytes ≤ 140737488355328) (hbase : base ≤ w.heap.size)
    (h : ∀ v' w', w'.ownsRow base e 1 v' (n + m) (xs ++ news) → w.grownBy w' v.ownBlock → K (a.put o.dst v') w') :
    if Region.wanted o (yielded ops a.tmps) = true then Oper.wp P o a w K Q else E := by
  have hw : Region.wanted o (yielded ops a.tmps) = true := by simp [Region.wanted, hgd]
  rw [if_pos hw]
  obtain ⟨v', w', hrun, h2, h3, _⟩ := run_append_src (P := P) w base t o.type e i z bytes ht hi hz hsize hby hzs v n xs hown A m c news hl hs h1 h63 hbytes hbase
  unfold Oper.wp execOp
  simp only [ho, resolve, invoke, builtin, Sem.run_bind, Sem.run_pure, Result.andThen_ok, List.map_toArray, List.map_cons, List.map_nil, hse, hxe, hrun]
  exact h v' w' h2 h3
/-- Two bytes, the higher one first. -/
def be2 (k : Nat) : List UInt8 := [UInt8.ofNat (k / 256), UInt8.ofNat k]
theorem bts_be2 (k : Nat) (hk : k < 65536) : bts (be2 k) = [.int .u8 ((k : Int) / 256), .int .u8 ((k : Int) % 256)] := by
  unfold be2 bts
  simp only [List.map_cons, List.map_nil, B8, UInt8.toNat_ofNat']
  have h1 : k / 256 % 2 ^ 8 = k / 256 := Nat.mod_eq_of_lt (by omega)
  rw [h1]
  congr 2
/-- What of Right is asked of the pages, one behind the other. -/
def rightS (last pages : Int) : List ChV → Bool
  | [] => true
  | a :: l => !(decide (a.page ≤ last) || decide (pages ≤ a.page) || decide (a.bn ≠ 64)) && rightS a.page pages l
def rightB (pages : Int) (l : List ChV) : Bool := decide (pages ≤ 64) && rightS (-1) pages l
section
variable {w : World} {A : Option Addr} {n c : Nat}
set_option maxHeartbeats 2000000 in
set_option maxRecDepth 100000 in
theorem right_any {l : List ChV} (h : Chs w A l) (hl : l.length = n) (hn : n ≤ 9223372036854775807) (pages : Int) :
    Calls Tryz.prog 68 #[.slice A n c, .int .i64 pages] w (BoolPost (rightB pages l) w) := by
  have H := Lib.hid h
  have HL := Lib.hid hl
  clear h hl
  by_cases hp : 64 < pages
  · have hd : decide (64 < pages) = true := by simp; omega
    have HR := Lib.hid (show rightB pages l = false by unfold rightB; rw [decide_eq_false (by omega)]; rfl)
    go_enter Tryz.func68, Tryz.ntmps68
    go_wp2_with fail
    go_ret
    exact ⟨by rw [HR.out]; rfl, Chg.refl _ _⟩
  · have hd : decide (64 < pages) = false := by simp; omega
    have HR := Lib.hid (show rightB pages l = rightS (-1) pages l by unfold rightB; rw [decide_eq_true (by omega)]; rfl)
    go_enter Tryz.func68, Tryz.ntmps68
    go_wp2_with fail
    go_loopw [5, 12] (fun t i wr => ∃ k : Nat, k ≤ n ∧ i = .int .i64 (k : Int) ∧ (∃ last : Int, t = .int .i64 last ∧ Hid (rightB pages l = rightS last pages (l.drop k))) ∧ Chg [] w wr) (fun _ i _ => n - (intOf i).toNat)
    case atStart => exact ⟨0, Nat.zero_le _, rfl, ⟨-1, rfl, by rw [List.drop_zero]; exact HR⟩, Chg.refl _ _⟩
    case round =>
      obtain ⟨k, hk, rfl, ⟨last, rfl, HK⟩, hcr⟩ := hrel
      clear HR
      by_cases hlt : k < n
      · obtain ⟨a, ha⟩ : ∃ a, l[k]? = some a := ⟨_, List.getElem?_eq_getElem (by have := HL.out; omega)⟩
        obtain ⟨g, o, rfl, hg, hce⟩ := (H.out.keep hcr).cells (by have := HL.out; omega)
        obtain ⟨c0, c1⟩ := hce k a ha
        have HD := Lib.hid (show l.drop k = a :: l.drop (k + 1) by rw [List.drop_eq_getElem_cons (by have := HL.out; omega)]; congr 1; have := List.getElem?_eq_getElem (l := l) (i := k) (by have := HL.out; omega); rw [this] at ha; injection ha)
        have HC := Lib.hid hcr
        clear hce ha hcr
        obtain ⟨page, bA, bn, bc, B⟩ := a
        simp only at c0 c1
        have hkI : (k : Int) < (n : Int) := by omega
        by_cases h1 : page ≤ last
        · have hd1 : decide (page ≤ last) = true := by simp; omega
          have HF := Lib.hid (show rightB pages l = false by rw [HK.out, HD.out]; simp [rightS, h1])
          go_wp2_with fail
          go_ret
          exact ⟨by rw [HF.out]; rfl, HC.out.alloc _⟩
        · have hd1 : decide (page ≤ last) = false := by simp; omega
          by_cases h2 : pages ≤ page
          · have hd2 : decide (pages ≤ page) = true := by simp; omega
            have HF := Lib.hid (show rightB pages l = false by rw [HK.out, HD.out]; simp [rightS, h2])
            go_wp2_with fail
            go_ret
            exact ⟨by rw [HF.out]; rfl, HC.out.alloc _⟩
          · have hd2 : decide (pages ≤ page) = false := by simp; omega
            by_cases h3 : bn = 64
            · have HF := Lib.hid (show rightB pages l = rightS page pages (l.drop (k + 1)) by rw [HK.out, HD.out]; simp only [rightS]; rw [decide_eq_false h1, decide_eq_false h2, decide_eq_false (by simpa using h3)]; rfl)
              subst h3
              go_wp2_with fail
              go_roundw
              case rel => exact ⟨k + 1, by omega, by go_num, ⟨page, rfl, HF⟩, HC.out.alloc _⟩
              case measure => simp [intOf]; omega
            · have HF := Lib.hid (show rightB pages l = false by rw [HK.out, HD.out]; simp [rightS, h3])
              have hd3 : ((bn : Int) == 64) = false := by simp; omega
              have hd4 : (!((bn : Int) == 64)) = true := by simp; omega
              go_wp2_with fail
              go_ret
              exact ⟨by rw [HF.out]; rfl, HC.out.alloc _⟩
      · have HF := Lib.hid (show rightB pages l = true by rw [HK.out, List.drop_eq_nil_of_le (by have := HL.out; omega)]; rfl)
        have hkI : (n : Int) ≤ (k : Int) := by omega
        go_wp2_with fail
        go_ret
        exact ⟨by rw [HF.out]; rfl, hcr⟩
end
end Go.Proofs.YtddjgncdjdjgeaaGreat
namespace Go.Proofs.YtddjgncdjdjgeaaGreat
open Go.RowKit
/-- A tape as it lies in memory: its numbers, where it stands. -/
structure Tp (w : World) (p : Nat) (A : Option Addr) (n c : Nat) (l : List Int) (at_ : Nat) : Prop where
  rec_ : Whole w p 63 [.slice A n c, .int .i64 (at_ : Int)]
  len : l.length = n
  src : Src w A (nms l)
  spot : 0 < n → ∀ ad, A = some ad → ad.spot = none ∧ ad.block < p
  rng : ∀ x ∈ l, -9223372036854775808 ≤ x ∧ x ≤ 9223372036854775807
  le : at_ ≤ n
  max : n ≤ 9223372036854775807
theorem nms_at (l : List Int) (i : Nat) (h : i < l.length) : (nms l)[i]? = some (.int .i64 l[i]) := by simp [nms, h]
section
variable {w : World}
set_option maxHeartbeats 1000000 in
set_option maxRecDepth 100000 in
theorem within_big (n lo hi : Int) (h0 : -1000000 ≤ lo) (h1 : lo ≤ hi) (h2 : hi ≤ 2000000000) (hn0 : -9223372036854775808 ≤ n) (hn1 : n ≤ 9223372036854775807) :
    Calls Tryz.prog 12 #[.int .i64 n, .int .i64 lo, .int .i64 hi] w fun e w' => e = .returned (.int .i64 (withinI n lo hi)) ∧ w = w' := by
  have b1 := Int.tmod_lt_of_pos n (show 0 < hi - lo + 1 by omega)
  have b2 := Int.lt_tmod_of_pos n (show 0 < hi - lo + 1 by omega)
  have hne : ((hi - lo + 1) == 0) = false := by simp; omega
  by_cases ha : lo ≤ n
  · by_cases hb : n ≤ hi
    · have HI := Lib.hid (show withinI n lo hi = n by unfold withinI; rw [if_pos ⟨ha, hb⟩])
      go_enter Tryz.func12, Tryz.ntmps12
      go_wp2_with fail
      go_ret
      exact ⟨ret_within HI.out.symm, rfl⟩
    · by_cases hm : n.tmod (hi - lo + 1) < 0
      · have HI := Lib.hid (show withinI n lo hi = lo + (n.tmod (hi - lo + 1) + hi - lo + 1) by unfold withinI; rw [if_neg (fun h => hb h.2), if_pos hm])
        go_enter Tryz.func12, Tryz.ntmps12
        go_wp2_with fail
        go_ret
        exact ⟨ret_within HI.out.symm, rfl⟩
      · have HI := Lib.hid (show withinI n lo hi = lo + n.tmod (hi - lo + 1) by unfold withinI; rw [if_neg (fun h => hb h.2), if_neg hm])
        go_enter Tryz.func12, Tryz.ntmps12
        go_wp2_with fail
        go_ret
        exact ⟨ret_within HI.out.symm, rfl⟩
  · have hd : decide (lo ≤ n) = false := by simp; omega
    by_cases hm : n.tmod (hi - lo + 1) < 0
    · have HI := Lib.hid (show withinI n lo hi = lo + (n.tmod (hi - lo + 1) + hi - lo + 1) by unfold withinI; rw [if_neg (fun h => ha h.1), if_pos hm])
      go_enter Tryz.func12, Tryz.ntmps12
      go_wp2_with fail
      go_ret
      exact ⟨ret_within HI.out.symm, rfl⟩
    · have HI := Lib.hid (show withinI n lo hi = lo + n.tmod (hi - lo + 1) by unfold withinI; rw [if_neg (fun h => ha h.1), if_neg hm])
      go_enter Tryz.func12, Tryz.ntmps12
      go_wp2_with fail
      go_ret
      exact ⟨ret_within HI.out.symm, rfl⟩
end
section
variable {w w' : World} {p n c at_ : Nat} {A : Option Addr} {l : List Int}
theorem Tp.keep (h : Tp w p A n c l at_) (hc : Chg [] w w') : Tp w' p A n c l at_ := ⟨h.rec_.keep hc, h.len, h.src.keep hc, h.spot, h.rng, h.le, h.max⟩
theorem Tp.other (h : Tp w p A n c l at_) {g j : Nat} (hg : g ≠ p) (hA : ∀ ad, A = some ad → 0 < n → ad.block ≠ g) (u : Value) : Tp (w.setCell ⟨g, j, none⟩ u) p A n c l at_ := by
  refine ⟨h.rec_.far (by simpa using Ne.symm hg) u, h.len, fun hp => ?_, h.spot, h.rng, h.le, h.max⟩
  obtain ⟨ad, e, hb, hy⟩ := h.src hp
  have hn : 0 < n := by have := h.len; simp [nms] at hp; omega
  refine ⟨ad, e, by simpa [World.setCell] using hb, fun i v hi => ?_⟩
  have h1 := hy i v hi
  have e2 : (ad.add i).block = ad.block := by unfold Addr.add; split <;> rfl
  rw [← h1]
  exact World.cell?_of_block (w := w) (Below.heap_setCell w _ u _ (by rw [e2]; exact hA ad e hn))
theorem Tp.grown {B2 m k2 : Nat} {e2 : TypeId} {v2 : Value} {ys : List Value} (h : Tp w p A n c l at_) (h2 : w.ownsRow B2 e2 k2 v2 m ys) (hg : w.grownBy w' v2.ownBlock) (hne : 63 ≠ e2) (hB : p < B2) : Tp w' p A n c l at_ := by
  refine ⟨whole_grown h.rec_ h2 hne hg, h.len, fun hp => ?_, h.spot, h.rng, h.le, h.max⟩
  obtain ⟨ad, e, hb, hy⟩ := h.src hp
  have hn : 0 < n := by have := h.len; simp [nms] at hp; omega
  refine ⟨ad, e, Nat.lt_of_lt_of_le hb hg.size, fun i v hi => ?_⟩
  have h1 := hy i v hi
  have e3 : (ad.add i).block = ad.block := by unfold Addr.add; split <;> rfl
  rw [← h1]
  refine World.cell?_of_block (w := w) (hg.block _ (by rw [e3]; exact hb) (fun hc => ?_))
  rw [e3] at hc
  have := (h2.lt _ hc.symm).1
  have := (h.spot hn ad e).2
  omega
theorem chg_grown2 {T : List Nat} {a w w' : World} {row : Option Nat} (h : Chg T a w) (hg : w.grownBy w' row) (hr : ∀ g, row = some g → a.heap.size ≤ g) : Chg T a w' :=
  h.then_ (T' := row.toList) (Chg.of_grown hg fun g e _ => by simp [e]) fun i hi hlt => by
    have := hr i (by simpa using hi)
    omega
theorem Tp.lt (h : Tp w p A n c l at_) : p < w.heap.size := h.rec_.lt
/-- A number of 0 .. m - 1, and the tape one further. -/
def NextPost (w : World) (p : Nat) (A : Option Addr) (n c : Nat) (l : List Int) (m : Nat) (e : Ending) (w' : World) : Prop :=
  ∃ (r a' : Nat), r < m ∧ e = .returned (.int .i64 (r : Int)) ∧ Tp w' p A n c l a' ∧ Chg [p] w w'
set_option maxHeartbeats 4000000 in
set_option maxRecDepth 100000 in
theorem next_any (h : Tp w p A n c l at_) (m : Nat) (hm : 0 < m) (hm2 : m ≤ 1000000) :
    Calls Tryz.prog 32 #[.pointer (some ⟨p, 0, none⟩), .int .i64 (m : Int)] w (NextPost w p A n c l m) := by
  have c0 := h.rec_.cell 0
  have c1 := h.rec_.cell 1
  have f1 := h.rec_.frozen 1
  have hle := h.le
  have hmax := h.max
  have H := Lib.hid h
  clear h
  have hmd : ¬ (m : Int) < 1 := by omega
  have hmd1 : decide ((m : Int) < 1) = false := by simp; omega
  by_cases hlt : at_ < n
  · have hd1 : decide (n ≤ at_) = false := by simp; omega
    have hd2 : decide ((n : Int) ≤ (at_ : Int)) = false := by simp; omega
    obtain ⟨ad, rfl, _, hx⟩ := H.out.src (by simp [nms]; have := H.out.len; omega)
    have hx1 := hx at_ _ (nms_at l at_ (by have := H.out.len; omega))
    obtain ⟨b, o, s⟩ := ad
    obtain ⟨hs, hbp⟩ := H.out.spot (by omega) _ rfl
    simp only at hs hbp
    subst hs
    rw [add_plain] at hx1
    have hal : at_ < l.length := by have := H.out.len; omega
    have hrz := H.out.rng l[at_] (List.getElem_mem hal)
    generalize l[at_] = z at hx1 hrz
    obtain ⟨hz0, hz1⟩ := hrz
    clear hx
    go_enter Tryz.func32, Tryz.ntmps32
    go_wp2_with fail
    go_quiet (fail)
    go_wp2_with fail
    have hR3 := ((H.out.rec_.keep ((Chg.refl [] w).drewN nq)).set_ 1 (.int .i64 ((at_ : Int) + 1)))
    have hc3 : Chg [p] w ((w.drewN nq).setCell ⟨p, 1, none⟩ (.int .i64 ((at_ : Int) + 1))) := ((Chg.refl [p] w).drewN nq).setCell (by simp) _
    generalize (w.drewN nq).setCell ⟨p, 1, none⟩ (.int .i64 ((at_ : Int) + 1)) = w3 at hR3 hc3 ⊢
    have hs3 : Src w3 (some ⟨b, o, none⟩) (nms l) := fun hp => by
      obtain ⟨ad, e, hb, hy⟩ := H.out.src hp
      injection e with e
      subst e
      refine ⟨_, rfl, Nat.lt_of_lt_of_le hb hc3.size, fun j v hj => ?_⟩
      have := hy j v hj
      rw [add_plain] at this ⊢
      rw [← this]
      exact World.cell?_of_block (w := w) (hc3.block b hb (by simp; omega))
    have hT3 : Tp w3 p (some ⟨b, o, none⟩) n c l (at_ + 1) := ⟨by simpa using hR3, H.out.len, hs3, H.out.spot, H.out.rng, by omega, H.out.max⟩
    have k0 := hT3.rec_.cell 0
    have k1 := hT3.rec_.cell 1
    have k2 : w3.cell? ⟨b, o + at_, none⟩ = some (.int .i64 z) := by
      rw [← hx1]
      exact World.cell?_of_block (w := w) (hc3.block b (block_lt_of_cell hx1) (by simp; omega))
    clear hx1 c0 c1 f1 hR3 hs3
    obtain ⟨q, hq, hq2⟩ : ∃ q : Nat, withinI z 0 1073741824 = (q : Int) ∧ q ≤ 1073741824 := by
      have hin := into_within z 0 1073741824 (by omega)
      exact ⟨(withinI z 0 1073741824).toNat, by have := hin.1; omega, by have h1 := hin.1; have h2 := hin.2.1; omega⟩
    have hw : ∀ W : World, Calls Tryz.prog 12 #[.int .i64 z, .int .i64 0, .int .i64 1073741824] W fun e w' => e = .returned (.int .i64 (q : Int)) ∧ w' = W := fun W =>
      (within_big z 0 1073741824 (by omega) (by omega) (by omega) hz0 hz1).mono fun _ _ ⟨h1, h2⟩ => ⟨by rw [h1, hq], h2.symm⟩
    have HT := Lib.hid hT3
    have HW := Lib.hid hw
    have HC := Lib.hid hc3
    have hsub : IntKind.i64.wrap (at_ : Int) = (at_ : Int) := IntWalk.i64_in _ (by omega)
    have hatn : (at_ : Int).toNat = at_ := Int.toNat_natCast _
    have hat0 : (0 : Int) ≤ (at_ : Int) := by omega
    have htm : (q : Int).tmod (m : Int) = ((q % m : Nat) : Int) := rfl
    have hlast : q % m < m := Nat.mod_lt _ hm
    have hatI : (at_ : Int) < (n : Int) := by omega
    have hm0 : ((m : Int) == 0) = false := by simp; omega
    clear hT3 hw hc3 hq H
    go_quiet ((go_at_call 12; exact Calls.quiet_of_same (HW.out _)))
    go_wp2_with fail
    go_ret
    exact ⟨q % m, at_ + 1, hlast, rfl, HT.out.keep ((Chg.refl _ _).drewN _), HC.out.drewN _⟩
  · have hd1 : decide (n ≤ at_) = true := by simp; omega
    have hd2 : decide ((n : Int) ≤ (at_ : Int)) = true := by simp; omega
    go_enter Tryz.func32, Tryz.ntmps32
    go_wp2_with fail
    go_quiet (fail)
    go_wp2_with fail
    go_ret
    exact ⟨0, at_, hm, rfl, H.out.keep ((Chg.refl _ _).drewN _), (Chg.refl _ _).drewN _⟩
end
end Go.Proofs.YtddjgncdjdjgeaaGreat
namespace Go.Proofs.YtddjgncdjdjgeaaGreat
open Go.RowKit
/-- The number of two bytes. -/
def num2 (l : List UInt8) : Nat := (l.getD 0 0).toNat * 256 + (l.getD 1 0).toNat
theorem ofInt_small (a : Nat) (h : a < 65536) : (BitVec.ofInt 64 (a : Int)).toNat = a := by
  rw [BitVec.toNat_ofInt]
  omega
theorem or_two (x y : UInt8) : bits .or .i64 ((x.toNat : Int) * 256) (y.toNat : Int) = ((x.toNat * 256 + y.toNat : Nat) : Int) := by
  have hx := x.toNat_lt
  have hy := y.toNat_lt
  have e1 : (x.toNat : Int) * 256 = ((x.toNat * 256 : Nat) : Int) := by omega
  rw [e1]
  show IntKind.i64.wrap ((BitVec.ofInt 64 ((x.toNat * 256 : Nat) : Int) ||| BitVec.ofInt 64 (y.toNat : Int)).toNat : Int) = _
  rw [BitVec.toNat_or, ofInt_small _ (by omega), ofInt_small _ (by omega), nat_join 8 (x.toNat * 256) y.toNat (by omega) (by omega)]
  exact IntWalk.i64_in _ (by omega)
theorem ret_word {a b : Int} (h : a = b) : Ending.returned (.int .i64 a) = .returned (.int .i64 b) := by rw [h]
section
variable {w : World} {A : Option Addr} {n c : Nat} {l : List UInt8}
set_option maxHeartbeats 2000000 in
set_option maxRecDepth 100000 in
theorem dget_any (h : Bs w A n c l) (hn : 2 ≤ n) :
    Calls Tryz.prog 122 #[.slice A n c] w fun e w' => e = .returned (.int .i64 (num2 l : Nat)) ∧ Chg [] w w' := by
  obtain ⟨x, y, t, rfl⟩ : ∃ x y t, l = x :: y :: t := by
    match l, h.len with
    | [], h0 => simp at h0; omega
    | [_], h0 => simp at h0; omega
    | x :: y :: t, _ => exact ⟨x, y, t, rfl⟩
  obtain ⟨ad, rfl, _, hx⟩ := h.src (by simp [bts])
  obtain ⟨b, o, s⟩ := ad
  obtain rfl : s = none := h.spot (by omega) _ rfl
  have h0 := hx 0 (B8 x) rfl
  have h1 := hx 1 (B8 y) rfl
  rw [add_plain, Nat.add_zero] at h0
  rw [add_plain] at h1
  unfold B8 at h0 h1
  have hx256 := x.toNat_lt
  have hy256 := y.toNat_lt
  have hnI : (1 : Int) < (n : Int) := by omega
  have hnJ : (0 : Int) < (n : Int) := by omega
  clear hx
  go_enter Tryz.func122, Tryz.ntmps122
  go_wp2_with fail
  go_quiet (fail)
  go_wp2_with fail
  go_ret
  exact ⟨ret_word (by rw [or_two]; simp [num2]), (Chg.refl _ _).drewN _⟩
end
end Go.Proofs.YtddjgncdjdjgeaaGreat
namespace Go.Proofs.YtddjgncdjdjgeaaGreat
open Go.RowKit
def chB (a : ChV) : List UInt8 := be2 a.page.toNat ++ a.B
/-- Changes as bytes. -/
def chsB : List ChV → List UInt8
  | [] => []
  | a :: l => chB a ++ chsB l
theorem chsB_app : ∀ l m, chsB (l ++ m) = chsB l ++ chsB m
  | [], _ => rfl
  | a :: l, m => by rw [List.cons_append, chsB, chsB, chsB_app l m, List.append_assoc]
theorem chsB_next (l : List ChV) (k : Nat) (a : ChV) (h : l[k]? = some a) : chsB (l.take (k + 1)) = chsB (l.take k) ++ chB a := by
  obtain ⟨hk, rfl⟩ := List.getElem?_eq_some_iff.1 h
  rw [List.take_succ_eq_append_getElem hk, chsB_app]
  simp [chsB]
def bytesD (l : List ChV) : List UInt8 := be2 l.length ++ chsB l
end Go.Proofs.YtddjgncdjdjgeaaGreat
