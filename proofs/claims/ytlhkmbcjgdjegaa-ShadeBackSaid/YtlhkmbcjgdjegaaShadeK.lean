/-
  Layer 15: known.
-/
import Derived.Test.YtlhkmbcjgdjegaaShadeC
import Derived.Test.YtlhkmbcjgdjegaaShadeM
import Derived.Test.YtlhkmbcjgdjegaaMmGrow
import Derived.Test.YtlhkmbcjgdjegaaMmStore
import Derived.Test.YtlhkmbcjgdjegaaMake64
namespace Go.Proofs.Ytlhkmbcjgdjegaa
open Go.RowKit
/-- An own row of changes that is not empty: where it lies. -/
theorem chs_at {w : World} {B B0 n : Nat} {v : Value} {ls : List ChV} (h : w.ownsRow B 53 2 v n (chCs ls)) (hn : 0 < n) (hok : ∀ a ∈ ls, MadeCh w B0 a) :
    ∃ g c, v = .slice (some ⟨g, 0, none⟩) n c ∧ n ≤ c ∧ ls.length = n ∧ ∀ (k : Nat) (a : ChV), ls[k]? = some a → w.cell? ⟨g, k * 2, none⟩ = some (.int .i64 a.page) ∧ w.cell? ⟨g, k * 2 + 1, none⟩ = some (.slice a.bA 64 64) ∧ Bs w a.bA 64 64 a.B := by
  have hl : ls.length = n := by have := h.1; rw [chCs_len] at this; omega
  rcases h.2 with ⟨_, h0⟩ | ⟨g, cap, cur, rfl, hb, hg, hnc, hc, hs, ht⟩
  · omega
  · refine ⟨g, cap, rfl, hnc, hl, fun k a ha => ?_⟩
    have hx : ∀ j u, (chCs ls)[j]? = some u → w.cell? ((⟨g, 0, none⟩ : Addr).add j) = some u := h.cells rfl
    have hm := hok a (List.mem_of_getElem? ha)
    have q : ∀ j, j < 2 → ∀ u, (chC a)[j]? = some u → w.cell? ⟨g, k * 2 + j, none⟩ = some u := fun j hj u hu => by
      have := hx (k * 2 + j) u ((chCs_get ls k a j ha hj).trans hu)
      rwa [add_plain, Nat.zero_add] at this
    have hbs := hm.ok.bs
    rw [hm.bn, hm.bc] at hbs
    refine ⟨q 0 (by omega) _ rfl, ?_, hbs⟩
    have := q 1 (by omega) _ rfl
    rwa [hm.bn, hm.bc] at this
def kL : List UInt8 := stL (zeros 64) 3 9 1 ++ zeros (64 * 1)
theorem kL_chs : chsS (zeros 64) kL 5 2 = [(5, pg kL 0), (6, pg kL 1)] := by decide +kernel
theorem kL_none : chsS (zeros 64) (zeros 64) 0 1 = [] := by decide +kernel
theorem kL_at : (pg kL 0)[3]? = some 9 := by decide +kernel
theorem meta73 : isMeta (metaL 7 3) ∧ getI (metaL 7 3) 4 = 7 ∧ getI (metaL 7 3) 8 = 3 := by have := meta_is 7 3 (by omega) (by omega); exact ⟨this.2.2, this.1, this.2.1⟩
theorem meta_zero : ¬ isMeta (zeros 64) := by
  intro h
  have := h.2.2
  have h0 := congrArg (fun l : List UInt8 => l[0]?) this
  simp [zeros, metaL, unitL] at h0
section
variable {w : World}
theorem new12' : Calls Try.prog 61 #[.int .i64 1, .int .i64 2] w (NewPost w (zeros 64) 1 2) := cnew_yes 1 2 (by omega) (by omega)
theorem meta73_any : Calls Try.prog 69 #[.int .i64 7, .int .i64 3] w (BytesPost w (metaL 7 3)) := meta_any 7 3 (by omega) (by omega)
set_option maxHeartbeats 2000000 in
set_option maxRecDepth 100000 in
theorem shknown_any : Calls Try.prog 31 #[] w (LawPost w) := by
  have hmk := make64
  go_enter Try.func31, Try.ntmps31
  go_wp2_with fail
  refine new12'.mono ?_
  rintro e w1 ⟨p, gC, gD, rfl, hM, b0, b1, b2, hc1⟩
  have HM := Lib.hid hM
  have HC1 := Lib.hid hc1
  clear hM b0 b1 b2 hc1
  go_wp2_with fail
  refine (mcopy_any HM.out).mono ?_
  rintro e w2 ⟨q, hC, hD, rfl, hO, b0, b1, b2, hc2⟩
  have HM2 := Lib.hid (HM.out.keep hc2)
  have HO := Lib.hid hO
  have HC2 := Lib.hid (HC1.out.new hc2)
  have HS1 := Lib.hid (show w.heap.size ≤ w1.heap.size from HC1.out.size)
  have HLT := Lib.hid (show p < w1.heap.size ∧ gC < w1.heap.size ∧ gD < w1.heap.size from ⟨HM.out.rec_.lt, HM.out.cel.lt, HM.out.dir.lt⟩)
  have HGE := Lib.hid (show w1.heap.size ≤ q ∧ w1.heap.size ≤ hC ∧ w1.heap.size ≤ hD from ⟨b0, b1, b2⟩)
  clear hO b0 b1 b2 hc2
  go_wp2_with fail
  refine (store_yes HO.out 3 9 false 1 rfl (by rw [zeros_len]; omega)).mono ?_
  rintro e w3 ⟨rfl, hO3, hc3⟩
  have hlt := HLT.out
  have hge := HGE.out
  have hs1 := HS1.out
  have HM3 := Lib.hid (HM2.out.away hc3 (not2' (by omega) (by omega)) (not2' (by omega) (by omega)) (not2' (by omega) (by omega)))
  have HC3 := Lib.hid (HC2.out.then_ hc3 fun i hi hl => by
    rcases (by simpa using hi : i = hC ∨ i = hD) with e | e <;> omega)
  have HS2 := Lib.hid (show w1.heap.size ≤ w3.heap.size ∧ gC < w3.heap.size ∧ gD < w3.heap.size ∧ p < w3.heap.size from ⟨by have := HM3.out.rec_.lt; have := HM2.out.rec_.lt; have := hc3.size; have := HO.out.rec_.lt; omega, HM3.out.cel.lt, HM3.out.dir.lt, HM3.out.rec_.lt⟩)
  have HO3 := Lib.hid hO3
  clear hO3 hc3 hlt hge hs1
  go_wp2_with fail
  refine (grow_yes HO3.out 1 (by decide)).mono ?_
  rintro e w4 ⟨hC', hD', X', Y', rfl, hO4, hc4, hcc, hdd⟩
  have hlt := HLT.out
  have hge := HGE.out
  have hs1 := HS1.out
  have hs2 := HS2.out
  have HM4 := Lib.hid (HM3.out.away hc4 (not3 (by omega) (by omega) (by omega)) (not3 (by omega) (by omega) (by omega)) (not3 (by omega) (by omega) (by omega)))
  have HC4 := Lib.hid (HC3.out.then_ hc4 fun i hi hl => by
    rcases (by simpa using hi : i = q ∨ i = hC ∨ i = hD) with e | e | e <;> omega)
  have HO4 := Lib.hid hO4
  clear hO4 hc4 hlt hge hs1 hs2 hcc hdd
  go_wp2_with fail
  refine (shchanges_any HM4.out HO4.out 5 (by omega)).mono ?_
  rintro e w5 ⟨v, ls, rfl, ho, hmade, hcs, hc5⟩
  have hcs' : Chs2 ls [(5, pg kL 0), (6, pg kL 1)] := by rw [← kL_chs]; exact hcs
  have hln : ls.length = 2 := hcs'.len
  rw [hln] at ho
  obtain ⟨g, c, rfl, hgc, -, hat⟩ := chs_at ho (by omega) hmade
  obtain ⟨a0, h0⟩ : ∃ a, ls[0]? = some a := ⟨_, List.getElem?_eq_getElem (by omega)⟩
  obtain ⟨a1, h1⟩ : ∃ a, ls[1]? = some a := ⟨_, List.getElem?_eq_getElem (by omega)⟩
  obtain ⟨p0, q0⟩ := hcs'.at (k := 0) h0 rfl
  obtain ⟨p1, q1⟩ := hcs'.at (k := 1) h1 rfl
  obtain ⟨e0, e1, hB0⟩ := hat 0 a0 h0
  obtain ⟨e2, _, _⟩ := hat 1 a1 h1
  rw [p0] at e0
  rw [p1] at e2
  rw [q0] at hB0
  have HE0 := Lib.hid (show w5.cell? ⟨g, 0, none⟩ = some (.int .i64 5) from e0)
  have HE1 := Lib.hid (show w5.cell? ⟨g, 1, none⟩ = some (.slice a0.bA 64 64) from e1)
  have HE2 := Lib.hid (show w5.cell? ⟨g, 2, none⟩ = some (.int .i64 6) from e2)
  generalize a0.bA = A0 at hB0 HE1
  have HB0 := Lib.hid hB0
  have HM5 := Lib.hid (HM4.out.keep hc5)
  have HC5 := Lib.hid (HC4.out.new hc5)
  clear hcs hcs' hln ho hmade hat h0 h1 p0 q0 p1 q1 e0 e1 e2 hB0 hc5
  go_wp2_with fail
  refine meta73_any.mono ?_
  rintro e w6 ⟨v6, rfl, ho6, hc6⟩
  obtain ⟨A6, c6, rfl, hB6, _⟩ := Bs.of_own ho6
  have HB6 := Lib.hid hB6
  have HC6 := Lib.hid hc6
  clear ho6 hB6 hc6
  go_wp2_with fail
  refine (shread_any HB6.out).mono ?_
  rintro e w7 (⟨_, rfl, hc7⟩ | ⟨hno, _⟩)
  rotate_left
  · exact absurd meta73.1 hno
  rw [meta73.2.1, meta73.2.2]
  have HC7 := Lib.hid (HC6.out.new hc7)
  clear hc7
  go_wp2_with fail
  have hW := Whole.new w7 5 (bts (zeros 64))
  have hal : Chg [] w7 (w7.alloc (.cells (bts (zeros 64)).toArray 5)) := (Chg.refl [] w7).alloc _
  generalize w7.alloc (.cells (bts (zeros 64)).toArray 5) = w8 at hW hal ⊢
  have HC8 := Lib.hid (HC7.out.new hal)
  refine (shread_any (bs64 hW (zeros_len 64))).mono ?_
  rintro e w9 (⟨hyes, _⟩ | ⟨_, rfl, hc9⟩)
  · exact absurd hyes meta_zero
  have HC9 := Lib.hid (HC8.out.new hc9)
  have HM9 := Lib.hid (HM5.out.keep HC9.out)
  have HB9 := Lib.hid (HB0.out.keep HC9.out)
  have d0 := cell_keep HE0.out HC9.out
  have d1 := cell_keep HE1.out HC9.out
  have d2 := cell_keep HE2.out HC9.out
  obtain ⟨ad, rfl, _, hx⟩ := HB9.out.src (by rw [bts_len, HB9.out.len]; omega)
  obtain ⟨bb, ob, sb⟩ := ad
  obtain rfl : sb = none := HB9.out.spot (by omega) _ rfl
  have d3 := hx 3 _ (by unfold bts; rw [List.getElem?_map, kL_at]; rfl)
  rw [add_plain] at d3
  have d3' : w9.cell? ⟨bb, ob + 3, none⟩ = some (.int .u8 9) := d3
  clear hx d3 hW hal hc9
  go_wp2_with fail
  refine (shchanges_any HM9.out HM9.out 0 (by omega)).mono ?_
  rintro e w10 ⟨v10, l10, rfl, ho10, _, hcs10, hc10⟩
  have hn10 : l10.length = 0 := by have := hcs10.len; rw [show (falses 1).length = 1 from rfl, kL_none] at this; exact this
  rw [hn10] at ho10
  obtain ⟨A10, c10, rfl⟩ : ∃ A c, v10 = .slice A 0 c := by
    rcases ho10.2 with ⟨rfl, _⟩ | ⟨g, cap, _, rfl, _⟩
    · exact ⟨_, _, rfl⟩
    · exact ⟨_, _, rfl⟩
  have HC10 := Lib.hid (HC9.out.new hc10)
  clear ho10 hcs10 hn10 hc10 d0 d1 d2 d3'
  go_wp2_with fail
  refine (shchanges_nil _ 0).mono ?_
  rintro e w' ⟨rfl, rfl⟩
  go_wp2_with fail
  go_ret
  exact ⟨rfl, HC5.out.new HC10.out⟩
end
end Go.Proofs.Ytlhkmbcjgdjegaa
