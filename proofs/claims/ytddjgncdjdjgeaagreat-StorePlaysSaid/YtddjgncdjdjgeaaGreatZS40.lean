/-
  S: SAsks, LawPlayS.
-/
import Derived.Test.YtddjgncdjdjgeaaGreatZS2
import Derived.Test.YtddjgncdjdjgeaaGreatZS6
import Derived.Test.YtddjgncdjdjgeaaGreatZS10
import Derived.Test.YtddjgncdjdjgeaaGreatZS32
import Derived.Test.YtddjgncdjdjgeaaGreatZS38
import Derived.Test.YtddjgncdjdjgeaaGreatZS39
import Derived.Deep.Slices
import Derived.Deep.Fields
import Derived.ChangeSlices
namespace Go.Proofs.YtddjgncdjdjgeaaGreat
open Go.RowKit Go.ChangeShapes Go.WideShapes Go.Deep
theorem sasks_fields : ∃ fs, Tryz.prog.underlying 83 = some (.struct fs) ∧ oneCellFields Tryz.prog fs = true ∧ fs.map (·.type) = #[3, 3, 26, 52] :=
  ⟨_, Tryz.underlying83, by kernel_rfl, by kernel_rfl⟩
theorem sfour_list {α : Type} {l : List α} (h : l.length = 4) : ∃ a b c d, l = [a, b, c, d] := by
  match l, h with
  | [a, b, c, d], _ => exact ⟨a, b, c, d, rfl⟩
theorem AsksS.keep {w w' : World} {A : Option Addr} {l : List AskSV} (h : AsksS w A l) (hc : Chg [] w w') : AsksS w' A l := by
  refine ⟨fun h0 => ?_, fun a ha => ?_⟩
  · obtain ⟨g, o, e, hg, hx⟩ := h.cells h0
    refine ⟨g, o, e, Nat.lt_of_lt_of_le hg hc.size, fun k a ha => ?_⟩
    obtain ⟨h1, h2, h3, h4⟩ := hx k a ha
    have hk : ∀ j, w'.cell? ⟨g, j, none⟩ = w.cell? ⟨g, j, none⟩ := fun j => World.cell?_of_block (w := w) (hc.block g hg (by simp))
    exact ⟨(hk _).trans h1, (hk _).trans h2, (hk _).trans h3, (hk _).trans h4⟩
  · have hok := h.ok a ha
    exact ⟨hok.cl, hok.cs.keep hc, fun h0 ad e => ⟨(hok.cp h0 ad e).1, Nat.lt_of_lt_of_le (hok.cp h0 ad e).2 hc.size⟩, hok.cm, hok.rl, hok.rs.keep hc, hok.rm⟩
section
variable {H : Type} {enc : TypeId × Value → H} {w : World} {base : Nat} {held : Bool}
theorem sasks_open {fuel : Nat} {cs : List Value} {x : DataW H × List MemPlace} (h : DataW.trod enc Tryz.prog w base (fun _ => true) held fuel 37 cs = some x) (v : Value) (hv : cs = [v]) :
    ∃ A n c l, v = .slice A n c ∧ l.length = n ∧ AsksS w A l ∧ n ≤ c ∧ c ≤ maxLen := by
  subst hv
  rcases open_slice Tryz.underlying37 h with ⟨h0, _⟩ | ⟨a, len, cap, m, f, D, Pl, hcs, hb, hl, hm, hmm, hx, hi⟩
  · simp only [List.cons.injEq, and_true] at h0
    exact ⟨none, 0, 0, [], h0, rfl, ⟨fun h => absurd h (by simp), fun a ha => by simp at ha⟩, Nat.le_refl _, by unfold maxLen; omega⟩
  · simp only [List.cons.injEq, and_true] at hcs
    rw [if_pos rfl] at hmm
    subst hmm
    have key : ∀ i, i < len → ∃ q : AskSV, AskSOk w q ∧ w.cell? (a.add (i * 4)) = some (.int .i64 q.kind) ∧ w.cell? ((a.add (i * 4)).add 1) = some (.int .i64 q.num) ∧
        w.cell? ((a.add (i * 4)).add 2) = some (.slice q.cA q.cn q.cc) ∧ w.cell? ((a.add (i * 4)).add 3) = some (.slice q.rA q.rn q.rc) := by
      intro i hlt
      have hC : Tryz.prog.cellsOf 83 = 4 := by kernel_rfl
      obtain ⟨cs', hc, ht'⟩ := hi i (by omega)
      rw [hC] at hc
      obtain ⟨fs, hu, hone, hty⟩ := sasks_fields
      have hfs : fs.size = 4 := by have := congrArg Array.size hty; simpa using this
      obtain ⟨xs, n', hn', hy, hlen, hxl, hf⟩ := DataW.trod_struct hu ht'
      obtain ⟨_, hcl, hat⟩ := World.cells?_some hc
      rw [hfs] at hxl
      obtain ⟨f0, g0, t0⟩ := dfield_at hty 0 _ rfl
      obtain ⟨f1, g1, t1⟩ := dfield_at hty 1 _ rfl
      obtain ⟨f2, g2, t2⟩ := dfield_at hty 2 _ rfl
      obtain ⟨f3, g3, t3⟩ := dfield_at hty 3 _ rfl
      obtain ⟨o0, k0⟩ := hone_of hone 0 _ g0
      obtain ⟨o1, k1⟩ := hone_of hone 1 _ g1
      obtain ⟨o2, k2⟩ := hone_of hone 2 _ g2
      obtain ⟨o3, k3⟩ := hone_of hone 3 _ g3
      have q0 := hf 0 _ g0
      have q1 := hf 1 _ g1
      have q2 := hf 2 _ g2
      have q3 := hf 3 _ g3
      rw [o0, k0, t0] at q0
      rw [o1, k1, t1] at q1
      rw [o2, k2, t2] at q2
      rw [o3, k3, t3] at q3
      obtain ⟨v0, v1, v2, v3, rfl⟩ := sfour_list hcl
      obtain ⟨y0, y1, y2, y3, rfl⟩ := sfour_list hxl
      simp only [List.drop_zero, List.drop_succ_cons, List.take_succ_cons, List.take_zero, List.getElem?_cons_zero, List.getElem?_cons_succ] at q0 q1 q2 q3
      obtain ⟨z0, e0, _, _⟩ := DataW.trod_int Tryz.underlying3 q0
      obtain ⟨z1, e1, _, _⟩ := DataW.trod_int Tryz.underlying3 q1
      obtain ⟨A2, n2, c2, r2, e2, w2⟩ := ints_row Tryz.underlying26 Tryz.underlying3 (by kernel_rfl) q2
      obtain ⟨A3, n3, c3, R, e3, hRl, hR, hR1, hR2⟩ := dch_open q3 v3 rfl
      simp only [List.cons.injEq, and_true] at e0 e1
      subst e0 e1 e2 e3
      have a0 := hat 0 (by omega)
      have a1 := hat 1 (by omega)
      have a2 := hat 2 (by omega)
      have a3 := hat 3 (by omega)
      simp only [List.getElem?_cons_zero, List.getElem?_cons_succ] at a0 a1 a2 a3
      obtain ⟨C, hCl, hCs, _⟩ := row_nums w2
      have b2 := row_len w2
      unfold maxLen at b2 hR2
      exact ⟨⟨z0, z1, A2, n2, c2, C, A3, n3, c3, R⟩, ⟨hCl, hCs, row_spot w2, b2, hRl, hR, Nat.le_trans hR1 hR2⟩, by simpa [Addr.add] using a0, a1, a2, a3⟩
    obtain ⟨l, hll, hlx⟩ := list_of len key
    refine ⟨some a, len, m, l, hcs, hll, ⟨fun h0 => ?_, fun q hq => ?_⟩, hl, hm⟩
    · obtain ⟨b, o, s⟩ := a
      have hs : s = none := by
        obtain ⟨_, h0, _⟩ := hlx 0 _ (List.getElem?_eq_getElem h0)
        have := dspot_none h0
        simpa [Addr.add] using this
      subst hs
      refine ⟨b, o, rfl, ?_, fun k q hq => ?_⟩
      · obtain ⟨_, h0, _⟩ := hlx 0 _ (List.getElem?_eq_getElem h0)
        rw [add_plain] at h0
        exact block_lt_of_cell h0
      · obtain ⟨_, h0, h1, h2, h3⟩ := hlx k q hq
        rw [add_plain] at h0
        rw [add_plain, add_plain] at h1 h2 h3
        exact ⟨h0, h1, h2, h3⟩
    · obtain ⟨i, hi, rfl⟩ := List.getElem_of_mem hq
      exact (hlx i _ (List.getElem?_eq_getElem hi)).1
end
end Go.Proofs.YtddjgncdjdjgeaaGreat
namespace Go.Proofs.YtddjgncdjdjgeaaGreat
open Go.RowKit
theorem make1920 (W : World) : (Instr.makeSlice 30 (.int .i64 1920) (.int .i64 1920)).run Tryz.prog W = .ok (.slice (some ⟨W.heap.size, 0, none⟩) 1920 1920) (W.alloc (.cells (bts (zeros 1920)).toArray 5)) := make_u8 1920 (by omega) W
section
variable {w : World} {A L A5 : Option Addr} {n c na ca n5 c5 : Nat} {xs : List Int} {al : List AskSV} {l5 : List UInt8}
set_option maxHeartbeats 8000000 in
set_option maxRecDepth 100000 in
theorem storePlays_any (lg pg : Int) (h20 : -9223372036854775808 ≤ lg) (h21 : lg ≤ 9223372036854775807) (h30 : -9223372036854775808 ≤ pg) (h31 : pg ≤ 9223372036854775807)
    (hl : xs.length = n) (hs : Src w A (nms xs)) (hsp : 0 < n → ∀ ad, A = some ad → ad.spot = none ∧ ad.block < w.heap.size) (hr : ∀ x ∈ xs, -9223372036854775808 ≤ x ∧ x ≤ 9223372036854775807) (hnm : n ≤ 9223372036854775807)
    (has : AsksS w L al) (hna : al.length = na) (hnam : na ≤ 9223372036854775807) (hi : Bs w A5 n5 c5 l5) :
    Calls Tryz.prog 6 #[.int .i64 lg, .int .i64 pg, .slice A n c, .slice L na ca, .slice A5 n5 c5] w (LawPost w) := by
  have HPL := Lib.hid (fun (W : World) (hc : Chg [] w W) (A0 : Option Addr) (n0 c0 : Nat) (l0 : List UInt8) (hn0 : n0 ≤ 10000) (hb : Bs W A0 n0 c0 l0) (a b : Int) (f : Bool) => playS_any (c := c) (ca := ca) hb hn0 a b f hl (hs.keep hc) (fun h0 ad e => ⟨(hsp h0 ad e).1, Nat.lt_of_lt_of_le (hsp h0 ad e).2 hc.size⟩) hr hnm (has.keep hc) hna hnam)
  have HB := Lib.hid hi
  have hi5 := hi.cap
  have hm5 := hi.max
  have hmk := make1920
  clear hl hs hsp hr has hna hi
  go_enter Tryz.func6, Tryz.ntmps6
  go_wp2_with fail
  with_reducible refine (within_is lg 1 14 (by omega) (by omega) (by omega) h20 h21).mono ?_
  rintro e w' ⟨rfl, rfl⟩
  obtain ⟨k1, hk1⟩ : ∃ k1, k1 = withinI lg 1 14 := ⟨_, rfl⟩
  rw [← hk1]
  clear hk1
  go_wp2_with fail
  with_reducible refine (within_is pg 1 9 (by omega) (by omega) (by omega) h30 h31).mono ?_
  rintro e w' ⟨rfl, rfl⟩
  obtain ⟨k2, hk2⟩ : ∃ k2, k2 = withinI pg 1 9 := ⟨_, rfl⟩
  rw [← hk2]
  clear hk2
  by_cases h640 : 640 < n5
  · have hI : (640 : Int) < (n5 : Int) := by omega
    have e3 : (640 : Int) ≤ (c5 : Int) := by omega
    have e4 : 640 ≤ c5 := by omega
    have HI := Lib.hid (show Bs w A5 640 c5 (l5.take 640) from by
      have hb := HB.out
      refine ⟨by rw [List.length_take, hb.len]; omega, fun h0 => ?_, by omega, hb.max, fun _ => hb.spot (by omega)⟩
      obtain ⟨ad, e, hlt, hcell⟩ := hb.src (by rw [bts_len, hb.len]; omega)
      exact ⟨ad, e, hlt, fun j v hj => hcell j v (by
        have h2 : bts (l5.take 640) = (bts l5).take 640 := by simp [bts, List.map_take]
        rw [h2, List.getElem?_take] at hj
        split at hj
        · exact hj
        · cases hj)⟩)
    have hn640 : (640 : Nat) ≤ 10000 := by omega
    go_wp2_with fail
    have hal := (Chg.refl [] w).alloc (.cells (bts (zeros 1920)).toArray 5)
    have hW := Whole.new w 5 (bts (zeros 1920))
    have HP0 := Lib.hid (HPL.out _ hal _ _ _ _ (by rw [zeros_len]; omega) (Bs.of_all hW (by rw [zeros_len]; omega)) k1 k2 true)
    have HC2 := Lib.hid hal
    clear hal hW
    rw [zeros_len] at HP0
    generalize w.alloc (.cells (bts (zeros 1920)).toArray 5) = w2 at HP0 HC2 ⊢
    refine HP0.out.mono ?_
    rintro e w3 ⟨rfl, hc3⟩
    have HC3 := Lib.hid (HC2.out.new hc3)
    clear hc3 HP0
    go_wp2_with fail
    refine (HPL.out _ HC3.out _ _ _ _ hn640 (HI.out.keep HC3.out) lg pg true).mono ?_
    rintro e w4 ⟨rfl, hc4⟩
    have HC4 := Lib.hid (HC3.out.new hc4)
    clear hc4
    go_wp2_with fail
    refine (HPL.out _ HC4.out _ _ _ _ hn640 (HI.out.keep HC4.out) 0 0 false).mono ?_
    rintro e w5 ⟨rfl, hc5⟩
    have HC5 := Lib.hid (HC4.out.new hc5)
    clear hc5
    go_wp2_with fail
    refine known18.mono ?_
    rintro e w6 ⟨rfl, hc6⟩
    have HC6 := Lib.hid (HC5.out.new hc6)
    clear hc6
    go_wp2_with fail
    go_ret
    exact ⟨rfl, HC6.out⟩
  · have hI : ¬ (640 : Int) < (n5 : Int) := by omega
    have HI := HB
    have hn640 : n5 ≤ 10000 := by omega
    go_wp2_with fail
    have hal := (Chg.refl [] w).alloc (.cells (bts (zeros 1920)).toArray 5)
    have hW := Whole.new w 5 (bts (zeros 1920))
    have HP0 := Lib.hid (HPL.out _ hal _ _ _ _ (by rw [zeros_len]; omega) (Bs.of_all hW (by rw [zeros_len]; omega)) k1 k2 true)
    have HC2 := Lib.hid hal
    clear hal hW
    rw [zeros_len] at HP0
    generalize w.alloc (.cells (bts (zeros 1920)).toArray 5) = w2 at HP0 HC2 ⊢
    refine HP0.out.mono ?_
    rintro e w3 ⟨rfl, hc3⟩
    have HC3 := Lib.hid (HC2.out.new hc3)
    clear hc3 HP0
    go_wp2_with fail
    refine (HPL.out _ HC3.out _ _ _ _ hn640 (HI.out.keep HC3.out) lg pg true).mono ?_
    rintro e w4 ⟨rfl, hc4⟩
    have HC4 := Lib.hid (HC3.out.new hc4)
    clear hc4
    go_wp2_with fail
    refine (HPL.out _ HC4.out _ _ _ _ hn640 (HI.out.keep HC4.out) 0 0 false).mono ?_
    rintro e w5 ⟨rfl, hc5⟩
    have HC5 := Lib.hid (HC4.out.new hc5)
    clear hc5
    go_wp2_with fail
    refine known18.mono ?_
    rintro e w6 ⟨rfl, hc6⟩
    have HC6 := Lib.hid (HC5.out.new hc6)
    clear hc6
    go_wp2_with fail
    go_ret
    exact ⟨rfl, HC6.out⟩
end
end Go.Proofs.YtddjgncdjdjgeaaGreat
