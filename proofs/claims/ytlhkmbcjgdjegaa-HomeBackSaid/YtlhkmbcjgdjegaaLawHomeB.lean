/-
  The walk of HomeBack.
-/
import Derived.Test.YtlhkmbcjgdjegaaHomeKnown
import Derived.Test.YtlhkmbcjgdjegaaMade
import Derived.Test.YtlhkmbcjgdjegaaInto
import Derived.Test.YtlhkmbcjgdjegaaLists
namespace Go.Proofs.Ytlhkmbcjgdjegaa
open Go.RowKit
/-- Texts of bytes. -/
def txts (ws : List (List UInt8)) : List Value := ws.map fun l => .string (strOf l)
theorem txts_len (ws : List (List UInt8)) : (txts ws).length = ws.length := by simp [txts]
theorem txts_get (ws : List (List UInt8)) (i : Nat) (r : List UInt8) (h : ws[i]? = some r) : (txts ws)[i]? = some (.string (strOf r)) := by simp [txts, h]
theorem txts_set (ws : List (List UInt8)) (i : Nat) (r : List UInt8) : (txts ws).set i (.string (strOf r)) = txts (ws.set i r) := by simp [txts]
/-- j texts of zeros, then none. -/
def wsJ (j : Nat) : List (List UInt8) := List.replicate j (zeros 64) ++ List.replicate (5 - j) []
theorem wsJ_next (j : Nat) (h : j < 5) : (wsJ j).set j (zeros 64) = wsJ (j + 1) := by
  unfold wsJ
  rw [List.set_append_right _ _ (by simp), List.length_replicate, Nat.sub_self, show 5 - j = (5 - (j + 1)) + 1 by omega, List.replicate_succ, List.set_cons_zero, List.replicate_succ' (n := j), List.append_assoc]
  rfl
theorem wsJ_at (j : Nat) (h : j < 5) : (wsJ j)[j]? = some [] := by
  unfold wsJ
  rw [List.getElem?_append_right (by simp), List.length_replicate, Nat.sub_self, List.getElem?_replicate, if_pos (by omega)]
theorem wsJ_all : wsJ 5 = List.replicate 5 (zeros 64) := by simp [wsJ]
theorem info_str : (Try.prog.info? 9).map (fun i => (i.zero, i.size, i.bytes)) = some (some (.string (strOf [])), 1, 16) := by kernel_rfl
theorem make5s (W : World) : (Instr.makeSlice 33 (.int .i64 5) (.int .i64 5)).run Try.prog W = .ok (.slice (some ⟨W.heap.size, 0, none⟩) 5 5) (W.alloc (.cells (txts (wsJ 0)).toArray 9)) := by
  obtain ⟨i, hi, hz, hs, hb⟩ := info_parts info_str
  exact run_make1 (P := Try.prog) 33 9 i _ rfl Try.underlying33 hi hz hs 5 (by rw [hb]; omega) (by omega) W
/-- The home of HomeBack: its pages are ws, and what lies before them is zeros. -/
structure HomeOk (k : Nat) (s : St) (ws : List (List UInt8)) : Prop where
  len : s.V.length = 14
  lenS : s.S.length = 64 * s.V.length
  pages : pagesL s k 5 = ws
  front : s.S.take ((2 + k) * 64) = zeros ((2 + k) * 64)
theorem sectL_write {s : St} {q : Nat} {x : List UInt8} (hl : s.S.length = 64 * s.V.length) (hq : q < s.V.length) (hx : x.length = 64) (j : Nat) (hj : j < s.V.length) :
    sectL (s.write q x).S (s.write q x).V.length j = if j = q then x else sectL s.S s.V.length j := by
  have hv : (s.write q x).V.length = s.V.length := by simp [St.write]
  rw [hv]
  unfold sectL
  rw [if_pos hj, if_pos hj]
  show ((splice s.S (q * 64) x).drop (j * 64)).take 64 = _
  have hsp : splice s.S (q * 64) x = s.S.take (q * 64) ++ x ++ s.S.drop (q * 64 + 64) := by unfold splice; rw [hx, List.append_assoc]
  have ht : (s.S.take (q * 64)).length = q * 64 := by rw [List.length_take]; omega
  rcases Nat.lt_trichotomy j q with h | h | h
  · rw [if_neg (show ¬ j = q by omega), hsp, List.append_assoc, List.drop_append_of_le_length (by omega), List.take_append_of_le_length (by rw [List.length_drop]; omega), List.drop_take, List.take_take, Nat.min_eq_left (by omega)]
  · subst h
    rw [if_pos rfl, hsp, List.append_assoc, List.drop_append_of_le_length (by omega), List.drop_of_length_le (by omega), List.nil_append, List.take_append_of_le_length (by omega), List.take_of_length_le (by omega)]
  · rw [if_neg (show ¬ j = q by omega), hsp]
    have e : (s.S.take (q * 64) ++ x).length = q * 64 + 64 := by rw [List.length_append, ht, hx]
    rw [List.drop_append, List.drop_of_length_le (by omega), List.nil_append, List.drop_drop, e, show q * 64 + 64 + (j * 64 - (q * 64 + 64)) = j * 64 by omega]
theorem pages_write {s : St} {k j n : Nat} {x : List UInt8} (hl : s.S.length = 64 * s.V.length) (hn : 2 + k + n ≤ s.V.length) (hj : j < n) (hx : x.length = 64) :
    pagesL (s.write (2 + k + j) x) k n = (pagesL s k n).set j x := by
  apply List.ext_getElem?
  intro i
  rw [List.getElem?_set]
  unfold pagesL
  simp only [List.getElem?_map, List.length_map, List.length_range, Int.toNat_natCast]
  rcases Nat.lt_or_ge i n with hi | hi
  · rw [List.getElem?_range hi]
    simp only [Option.map_some]
    rw [sectL_write hl (by omega) hx _ (by omega)]
    by_cases e : j = i
    · subst e; simp [hj]
    · rw [if_neg (by omega), if_neg e]
  · rw [List.getElem?_eq_none (by simpa using hi)]
    simp only [Option.map_none]
    by_cases e : j = i
    · omega
    · rw [if_neg e]
theorem HomeOk.write {k : Nat} {s : St} {ws : List (List UInt8)} (h : HomeOk k s ws) (hk : k ≤ 6) {j : Nat} (hj : j < 5) {x : List UInt8} (hx : x.length = 64) : HomeOk k (s.write (2 + k + j) x) (ws.set j x) := by
  have hl := h.len
  have hS := h.lenS
  have hsp : splice s.S ((2 + k + j) * 64) x = s.S.take ((2 + k + j) * 64) ++ x ++ s.S.drop ((2 + k + j) * 64 + 64) := by unfold splice; rw [hx, List.append_assoc]
  refine ⟨by simp [St.write, hl], ?_, ?_, ?_⟩
  · show (splice s.S ((2 + k + j) * 64) x).length = 64 * (s.V.set _ true).length
    rw [hsp]; simp only [List.length_append, List.length_take, List.length_drop, List.length_set, hx]; omega
  · rw [pages_write h.lenS (by omega) hj hx, h.pages]
  · show (splice s.S ((2 + k + j) * 64) x).take _ = _
    rw [hsp, List.append_assoc, List.take_append_of_le_length (by rw [List.length_take]; omega), List.take_take, Nat.min_eq_left (by omega), h.front]
theorem HomeOk.new (k : Nat) (hk : k ≤ 6) : HomeOk k ⟨zeros 896, zeros 896, falses 14⟩ (List.replicate 5 (zeros 64)) := by
  refine ⟨by simp [falses_len], by simp [zeros_len, falses_len], ?_, ?_⟩
  · unfold pagesL
    apply List.ext_getElem?
    intro i
    simp only [List.getElem?_map, Int.toNat_natCast, falses_len]
    rcases Nat.lt_or_ge i 5 with hi | hi
    · rw [List.getElem?_range hi, List.getElem?_replicate, if_pos hi]
      simp only [Option.map_some]
      unfold sectL zeros
      rw [if_pos (by omega), List.drop_replicate, List.take_replicate]
      congr 2; omega
    · rw [List.getElem?_eq_none (by simpa using hi), List.getElem?_eq_none (by simpa using hi)]; rfl
  · unfold zeros; rw [List.take_replicate]; congr 1; omega
theorem HomeOk.right {k : Nat} {s : St} {ws : List (List UInt8)} (h : HomeOk k s ws) (h1 : 1 ≤ k) (hk : k ≤ 6) : rightR (k : Int) 5 3 s.V.length = true := by
  rw [rightR_true, h.len]; omega
theorem HomeOk.all {k : Nat} {s : St} {ws : List (List UInt8)} (h : HomeOk k s ws) (h1 : 1 ≤ k) (hk : k ≤ 6) : allL s (k : Int) 5 3 = ws := by
  unfold allL; rw [if_pos (h.right h1 hk)]; exact h.pages
theorem HomeOk.wlen {k : Nat} {s : St} {ws : List (List UInt8)} (h : HomeOk k s ws) : ws.length = 5 := by rw [← h.pages, pagesL_len]
theorem HomeOk.at {k : Nat} {s : St} {ws : List (List UInt8)} (h : HomeOk k s ws) {j : Nat} (hj : j < 5) : ws[j]? = some (sectL s.S s.V.length (2 + k + j)) := by
  rw [← h.pages]; unfold pagesL; simp only [List.getElem?_map, Int.toNat_natCast]; rw [List.getElem?_range hj]; rfl
/-- The texts' slice and one of them, as facts. -/
theorem txt_cell {W : World} {g : Nat} {ws : List (List UInt8)} (h : Whole W g 9 (txts ws)) {j : Nat} {r : List UInt8} (hr : ws[j]? = some r) : W.cell? ⟨g, j, none⟩ = some (.string (strOf r)) := by
  rw [h.cell j, txts_get ws j r hr]
section
variable {w : World} {A : Option Addr} {n c : Nat} {vs : List Value} {ls : List (List UInt8)}
set_option maxHeartbeats 1600000 in
set_option maxRecDepth 100000 in
theorem homeBack_any (hA : Src w A vs) (hsp : 0 < n → ∀ ad, A = some ad → ad.spot = none) (hn : vs.length = n) (hnm : n ≤ 9223372036854775807) (hL : Lists w vs ls) (i : Int) (hi0 : -9223372036854775808 ≤ i) (hi1 : i ≤ 9223372036854775807) :
    Calls Try.prog 5 #[.slice A n c, .int .i64 i] w (LawPost w) := by
  obtain ⟨k, hk, hk1, hk6⟩ : ∃ k : Nat, withinI i 1 6 = (k : Int) ∧ 1 ≤ k ∧ k ≤ 6 := by
    have hin := into_within i 1 6 (by omega)
    exact ⟨(withinI i 1 6).toNat, by have := hin.1; omega, by have h1 := hin.1; omega, by have h2 := hin.2.1; omega⟩
  have HW := Lib.hid (show ∀ W, Calls Try.prog 18 #[.int .i64 i, .int .i64 1, .int .i64 6] W fun e w' => e = .returned (.int .i64 (k : Int)) ∧ W = w' from fun W => by rw [← hk]; exact within_is i 1 6 (by omega) (by omega) (by omega) hi0 hi1)
  clear hk hi0 hi1
  have hmk := make64
  have hmk5 := make5s
  go_enter Try.func5, Try.ntmps5
  go_wp2_with (go_at_call 18; refine (HW.out _).mono ?_; rintro e w' ⟨rfl, rfl⟩)
  have hR := Whole.new w 26 [.int .i64 k, .int .i64 5, .int .u32 3]
  have hc1 : Chg [] w (w.alloc (.cells #[.int .i64 k, .int .i64 5, .int .u32 3] 26)) := (Chg.refl [] w).alloc _
  obtain ⟨g, hg⟩ : ∃ g, g = w.heap.size := ⟨_, rfl⟩
  rw [← hg] at hR ⊢
  have hgw := Lib.hid (show w.heap.size ≤ g by omega)
  generalize w.alloc (.cells #[.int .i64 k, .int .i64 5, .int .u32 3] 26) = w1 at hc1 hR ⊢
  clear hg
  refine (new_yes 14 (by omega) (by omega)).mono ?_
  rintro e w2 ⟨p, bL, bS, bW, rfl, hD, b1, b2, b3, b4, hc2⟩
  have hD0 : DskS w2 p bL bS bW ⟨zeros 896, zeros 896, falses 14⟩ := hD
  have HB := Lib.hid (show g ≠ bS ∧ g ≠ bW by have := hR.lt; omega)
  have HB0 := Lib.hid (show w.heap.size ≤ bS ∧ w.heap.size ≤ bW by have := hc1.size; omega)
  have HBl := Lib.hid (show p < w2.heap.size ∧ bL < w2.heap.size ∧ bS < w2.heap.size ∧ bW < w2.heap.size from ⟨hD.rec_.lt, hD.last.lt, hD.seen.lt, hD.wait.lt⟩)
  have HD2 := Lib.hid hD0
  have HR2 := Lib.hid (hR.keep hc2)
  have HC2 := Lib.hid (hc1.new hc2)
  clear hD hD0 b1 b2 b3 b4 hc2 hc1 hR
  go_wp2_with fail
  have hX := Whole.new w2 9 (txts (wsJ 0))
  have hc3 : Chg [] w2 (w2.alloc (.cells (txts (wsJ 0)).toArray 9)) := (Chg.refl [] w2).alloc _
  obtain ⟨g7, hg7⟩ : ∃ g, g = w2.heap.size := ⟨_, rfl⟩
  rw [← hg7] at hX ⊢
  have HX := Lib.hid (show g7 ≠ g ∧ g7 ≠ p ∧ g7 ≠ bL ∧ g7 ≠ bS ∧ g7 ≠ bW ∧ w.heap.size ≤ g7 by have := HR2.out.lt; have := HBl.out; have := HC2.out.size; omega)
  have HD3 := Lib.hid (Dsk.keep HD2.out hc3)
  have HR3 := Lib.hid (HR2.out.keep hc3)
  have HC3 := Lib.hid (HC2.out.new hc3)
  generalize w2.alloc (.cells (txts (wsJ 0)).toArray 9) = w3 at hX HD3 HR3 HC3 ⊢
  clear hg7 hc3 HBl HD2 HR2 HC2
  go_loopw [25] (fun v wr => ∃ j : Nat, j ≤ 5 ∧ v = .int .i64 (j : Int) ∧ Whole wr g7 9 (txts (wsJ j)) ∧ Chg [g7] w3 wr) (fun v _ => 5 - (intOf v).toNat)
  case atStart => exact ⟨0, by omega, rfl, hX, Chg.refl _ _⟩
  case round =>
    obtain ⟨j, hj, rfl, hXr, hcr⟩ := hrel
    by_cases hlt : j < 5
    · have hs := (bs64 (Whole.new wr 5 (bts (zeros 64))) (zeros_len 64)).str (P := Try.prog) 22 5 9 Try.underlying22 Try.underlying5 Try.underlying9
      have hX2 := hXr.keep ((Chg.refl [] wr).alloc (.cells (bts (zeros 64)).toArray 5))
      have c7 := txt_cell hX2 (wsJ_at j hlt)
      have f7 := hX2.frozen j
      have hjl : (j : Int) < 5 := by omega
      go_wp2_with fail
      go_roundw
      case rel =>
        refine ⟨j + 1, by omega, by go_num, ?_, (hcr.alloc _).setCell (fun _ => by simp) _⟩
        rw [← wsJ_next j hlt, ← txts_set]
        exact hX2.set_ j _
      case measure => simp [intOf]; omega
    · have hj5 : j = 5 := by omega
      have hge : ¬ (j : Int) < 5 := by omega
      rw [hj5, wsJ_all] at hXr
      clear hj5 hj hlt
      have HX5 := Lib.hid hXr
      have hx := HX.out
      have hd3 : Dsk w3 p bL bS bW (zeros 896) (zeros 896) (falses 14) := HD3.out
      have HD4 : Hid (DskS wr p bL bS bW ⟨zeros 896, zeros 896, falses 14⟩) := Lib.hid (hd3.away hcr (by simp; omega) (by simp; omega) (by simp; omega) (by simp; omega))
      have HR4 := Lib.hid (HR3.out.chg hcr (by simp; omega))
      have HC4 := Lib.hid (HC3.out.then_ hcr fun i hi hlt => by simp only [List.mem_cons, List.not_mem_nil, or_false] at hi; omega)
      have HH := Lib.hid (HomeOk.new k hk6)
      clear hXr hcr hx hd3 HD3 HR3 HC3 hX
      obtain ⟨s0, hs0⟩ : ∃ s : St, s = ⟨zeros 896, zeros 896, falses 14⟩ := ⟨_, rfl⟩
      rw [← hs0] at HD4 HH
      clear hs0
      go_wp2_with fail
      go_loopw [9] (fun v w5 => ∃ (a : Nat) (s : St) (ws : List (List UInt8)), a ≤ 12 ∧ a ≤ n ∧ v = .int .i64 (a : Int) ∧ Hid (DskS w5 p bL bS bW s) ∧ Hid (HomeOk k s ws) ∧ Hid (Whole w5 g7 9 (txts ws)) ∧ Hid (Whole w5 g 26 [.int .i64 k, .int .i64 5, .int .u32 3]) ∧ Hid (Chg [] w w5)) (fun v _ => 12 - (intOf v).toNat)
      case atStart => exact ⟨0, s0, _, by omega, by omega, rfl, HD4, HH, HX5, HR4, HC4⟩
      case round =>
        obtain ⟨a, s, ws, ha, han, rfl, HDr, HHr, HXr, HRr, HCr⟩ := hrel
        clear HD4 HH HX5 HR4 HC4
        by_cases hlt : a < n ∧ a < 12
        · obtain ⟨hla, hlb⟩ := hlt
          have hl1 : (a : Int) < (n : Int) := by omega
          have hl2 : (a : Int) < 12 := by omega
          obtain ⟨⟨bA, oA, sA⟩, rfl, _, hxA⟩ := (hA.keep HCr.out) (by omega)
          obtain rfl : sA = none := hsp (by omega) _ rfl
          obtain ⟨xv, hxv⟩ : ∃ x, vs[a]? = some x := ⟨_, List.getElem?_eq_getElem (by omega)⟩
          obtain ⟨X, hX⟩ : ∃ X, ls[a]? = some X := ⟨_, List.getElem?_eq_getElem (by have := hL.1; omega)⟩
          obtain ⟨A5, n5, c5, rfl, hB5⟩ := hL.2 a xv X hxv hX
          have ck := hxA a _ hxv
          rw [add_plain] at ck
          have hBr := hB5.keep HCr.out
          clear hxA hxv hX
          have Hn := Lib.hid (take_min hBr 64)
          have Hf := take_fits 64 X
          have hY1 := bts_one (X.take 64)
          have hspl := Lib.hid (padN_bts 64 X)
          have hsr := src_take hBr 64
          have HPl := Lib.hid (padN_len 64 X)
          generalize bts (X.take 64) = Y at Hn Hf hY1 hspl hsr
          generalize padN 64 X = x at hspl HPl
          have hG0 := Whole.new wr 5 (bts (zeros 64))
          have hC0 : Chg [] wr (wr.alloc (.cells (bts (zeros 64)).toArray 5)) := (Chg.refl [] wr).alloc _
          have hsr2 := hsr.keep hC0
          have ck2 := cell_keep ck hC0
          have Hlt := Lib.hid (show p < wr.heap.size ∧ bL < wr.heap.size ∧ bS < wr.heap.size ∧ bW < wr.heap.size ∧ g7 < wr.heap.size ∧ g < wr.heap.size from ⟨(show Dsk wr p bL bS bW s.L s.S s.V from HDr.out).rec_.lt, (show Dsk wr p bL bS bW s.L s.S s.V from HDr.out).last.lt, (show Dsk wr p bL bS bW s.L s.S s.V from HDr.out).seen.lt, (show Dsk wr p bL bS bW s.L s.S s.V from HDr.out).wait.lt, HXr.out.lt, HRr.out.lt⟩)
          clear hBr ck hsr
          have hm5 : (a : Int).tmod 5 = ((a % 5 : Nat) : Int) := by rw [Int.tmod_eq_emod_of_nonneg (by omega)]; omega
          obtain ⟨b5, hb5, hb5l⟩ : ∃ b, b = a % 5 ∧ b < 5 := ⟨_, rfl, Nat.mod_lt _ (by omega)⟩
          rw [← hb5] at hm5
          have HB5 := Lib.hid hb5
          clear hb5
          go_wp2_with (with_reducible refine wpList_copy_chg rfl (.tmp 45) (.tmp 49) _ _ rfl 5 Try.underlying22 size_u8 (some ⟨wr.heap.size, 0, none⟩) A5 64 64 n5 c5 rfl rfl wr.heap.size 0 5 (bts (zeros 64)) Y hG0 Hn.out (fun _ => rfl) hsr2 Hf hY1 ?_
                       intro w6 HG6 HC6
                       obtain ⟨c0, c1, c2, _, _, _⟩ := root_cells (HRr.out.keep (hC0.then_ HC6 (fun i hi hlt => by simp only [List.mem_cons, List.not_mem_nil, or_false] at hi; omega))))
          rw [hspl.out] at HG6
          obtain ⟨gb, hgb⟩ : ∃ gb, gb = wr.heap.size := ⟨_, rfl⟩
          rw [← hgb] at HG6 HC6 Hlt ⊢
          have hCw := HCr.out.size
          have hgb0 := Lib.hid (show w.heap.size ≤ gb by omega)
          have HC6' := hC0.then_ HC6 (fun i hi hlt => by simp only [List.mem_cons, List.not_mem_nil, or_false] at hi; omega)
          have HG := Lib.hid HG6
          have HBb := Lib.hid (bs64 HG6 HPl.out)
          have HD6 := Lib.hid (Dsk.keep HDr.out HC6')
          have HX6 := Lib.hid (HXr.out.keep HC6')
          have HR6 := Lib.hid (HRr.out.keep HC6')
          have HC7 := Lib.hid (HCr.out.new HC6')
          clear HG6 HC6 HC6' hC0 hG0 hsr2 ck2 hgb hCw Hn Hf hY1 hspl HDr HXr HRr HCr
          have hin := hasR_at (k := b5) (HHr.out.right hk1 hk6) (by omega)
          have HIN := Lib.hid hin
          clear hin
          refine (hput_any HD6.out k 5 3 b5 HBb.out).mono ?_
          rintro e w7 (⟨_, _, rfl, hD7, hc7⟩ | ⟨hno, _⟩)
          rotate_left
          · exact absurd ⟨HIN.out.1, HPl.out⟩ hno
          rw [HIN.out.2.1, Int.toNat_natCast] at hD7
          have hx := HX.out
          have hb := HB.out
          have hlt' := Hlt.out
          have HD7 := Lib.hid hD7
          have HX7 := Lib.hid (HX6.out.chg hc7 (not2' (by omega) (by omega)))
          have HR7 := Lib.hid (HR6.out.chg hc7 (not2' (by omega) (by omega)))
          have HG7 := Lib.hid (HG.out.chg hc7 (not2' (by omega) (by omega)))
          have HC8 := Lib.hid (HC7.out.then_ hc7 fun i hi hlt => by
            rcases (by simpa using hi : i = bS ∨ i = bW) with e | e
            · have := HB0.out.1; omega
            · have := HB0.out.2; omega)
          have HH7 := Lib.hid (HHr.out.write hk6 hb5l HPl.out)
          clear hD7 hc7 c0 c1 c2 HD6 HX6 HR6 HC7 HG HBb hx hb hlt'
          have hs := (bs64 HG7.out HPl.out).str (P := Try.prog) 22 5 9 Try.underlying22 Try.underlying5 Try.underlying9
          have c7 := txt_cell HX7.out (HHr.out.at hb5l)
          have f7 := HX7.out.frozen b5
          go_wp2_with fail
          go_roundw
          case rel =>
            have hx := HX.out
            have hd7 : Dsk w7 p bL bS bW _ _ _ := HD7.out
            have hcs : Chg [g7] w7 (w7.setCell ⟨g7, b5, none⟩ (.string (strOf x))) := (Chg.refl [g7] w7).setCell (fun _ => by simp) _
            refine ⟨a + 1, _, _, by omega, by omega, by go_num, Lib.hid (hd7.away hcs (by simp; omega) (by simp; omega) (by simp; omega) (by simp; omega)), HH7, Lib.hid ?_, Lib.hid (HR7.out.chg hcs (by simp; omega)), Lib.hid (HC8.out.then_ hcs fun i hi hlt => by simp only [List.mem_cons, List.not_mem_nil, or_false] at hi; omega)⟩
            rw [← txts_set]
            exact HX7.out.set_ b5 _
          case measure => simp [intOf]; omega
        · have HS := Lib.hid HHr.out.lenS
          obtain ⟨c0, c1, c2, _, _, _⟩ := root_cells HRr.out
          by_cases hl1 : (a : Int) < (n : Int)
          · have hl2 : ¬ (a : Int) < 12 := by omega
            go_wp2_with fail
            refine (hall_any HDr.out k 5 3).mono ?_
            rintro e wa ⟨va, us, rfl, hoa, hra, hca⟩
            rw [HHr.out.all hk1 hk6] at hoa hra
            rw [HHr.out.wlen] at hoa
            obtain ⟨A3, c3, rfl, hl3, _, hs3, hA3⟩ := own_slice hoa
            have HDa := Lib.hid (Dsk.keep HDr.out hca)
            have HXa := Lib.hid (HXr.out.keep hca)
            have HRa := Lib.hid (HRr.out.keep hca)
            have HCa := Lib.hid (HCr.out.new hca)
            have HL3 := Lib.hid hl3
            clear hca hoa hl3 c0 c1 c2
            go_wp2_with fail
            go_loopw [72] (fun v w5 => (∃ j : Nat, j ≤ 5 ∧ v = .int .i64 (j : Int)) ∧ Chg [] wa w5) (fun v _ => 5 - (intOf v).toNat)
            case atStart => exact ⟨⟨0, by omega, rfl⟩, Chg.refl _ _⟩
            case round =>
              obtain ⟨⟨j, hj, rfl⟩, hcr⟩ := hrel
              by_cases hlt : j < 5
              · have hjl : (j : Int) < 5 := by omega
                have hj0 : (0 : Int) ≤ (j : Int) := by omega
                obtain ⟨⟨b3, o3, s3⟩, rfl, _, hx3⟩ := (hs3.keep hcr) (by have := HL3.out; omega)
                obtain rfl : s3 = none := (hA3 _ rfl).1
                obtain ⟨x3, hv3⟩ : ∃ x, us[j]? = some x := ⟨_, List.getElem?_eq_getElem (by have := HL3.out; omega)⟩
                obtain ⟨r, hr⟩ : ∃ r, ws[j]? = some r := ⟨_, List.getElem?_eq_getElem (by have := HHr.out.wlen; omega)⟩
                obtain ⟨A5, c5, rfl, hB5, _⟩ := Bs.of_own (hra.2 j x3 r hv3 hr)
                have HRj := Lib.hid hr
                have HSj := Lib.hid (show r = sectL s.S s.V.length (2 + k + j) by have := HHr.out.at hlt; rw [hr] at this; injection this)
                have HRl := Lib.hid (show r.length = 64 by rw [HSj.out]; exact sectL_len HHr.out.lenS (by have := HHr.out.len; omega))
                have c3j := hx3 j _ hv3
                rw [add_plain] at c3j
                have HDb := Lib.hid (Dsk.keep HDa.out hcr)
                have HRb := Lib.hid (HRa.out.keep hcr)
                have HIN := Lib.hid (hasR_at (k := j) (HHr.out.right hk1 hk6) (by omega))
                clear hx3 hv3 hr
                obtain ⟨c0, c1, c2, _, _, _⟩ := root_cells HRb.out
                go_wp2_with fail
                refine (hpage_any HDb.out k 5 3 j).mono ?_
                rintro e wp (⟨_, vp, rfl, hop, hcp⟩ | ⟨hno, _⟩)
                rotate_left
                · rw [HIN.out.1] at hno; cases hno
                rw [HIN.out.2.1, Int.toNat_natCast, ← HSj.out] at hop
                have hop' := hop
                rw [← HRl.out] at hop'
                obtain ⟨A6, c6, rfl, hB6, _⟩ := Bs.of_own hop'
                rw [HRl.out] at hB6 ⊢
                have HBp := Lib.hid hB6
                have HCp := Lib.hid (hcr.new hcp)
                have HXz := Lib.hid (HXa.out.keep HCp.out)
                have HB5 := Lib.hid (hB5.keep HCp.out)
                have C3j := Lib.hid (cell_keep c3j hcp)
                clear hop hop' hB5 hB6 c3j hcp c0 c1 c2
                go_wp2_with fail
                refine wp_flow (by kernel_rfl) plainT plainT_ok (by kernel_rfl) ?_
                refine flow_move_out plainT_ok rfl rfl rfl ?_
                refine flow1 (r := .bool false) plainT_ok rfl (.inn rfl) rfl (fun ev W he e1 => by go_simp) ?_
                refine flow_move plainT_ok rfl (keeps_isV _) (.inr (keeps_isV _)) rfl ?_
                refine flow_move_out plainT_ok rfl rfl rfl ?_
                refine flow_strd plainT_ok (.inn rfl) (fun W hW => HBp.out.keep (wdrew hW)) Try.underlying22 Try.underlying5 Try.underlying9 rfl ?_
                refine flow_move_out plainT_ok rfl rfl rfl ?_
                refine flow_move_out plainT_ok rfl rfl rfl ?_
                refine flow2 (r := .pointer (some ⟨g7, j, none⟩)) plainT_ok rfl (.inn rfl) (.inn rfl) rfl (fun ev W he e1 e2 => by go_simp) ?_
                refine flow1h (r := .string (strOf r)) plainT_ok rfl (.inn rfl) rfl (fun ev W he hW e1 => by have q0 := txt_cell (HXz.out.keep (wdrew hW)) HRj.out; go_simp) ?_
                refine flow2 (r := .bool false) plainT_ok rfl (.inn rfl) (.inn rfl) rfl (fun ev W he e1 e2 => by go_simp) ?_
                refine flow_or_false plainT_ok rfl rfl rfl ?_
                refine flow_move plainT_ok rfl (keeps_isV _) (.inr (keeps_isV _)) rfl ?_
                refine flow_move_out plainT_ok rfl rfl rfl ?_
                refine flow_move_out plainT_ok rfl rfl rfl ?_
                refine flow2 (r := .pointer (some ⟨b3, o3 + j, none⟩)) plainT_ok rfl (.inn rfl) (.inn rfl) rfl (fun ev W he e1 e2 => by go_simp) ?_
                refine flow1h (r := .slice A5 r.length c5) plainT_ok rfl (.inn rfl) rfl (fun ev W he hW e1 => by have q0 := cell_keep C3j.out (wdrew hW); go_simp) ?_
                refine flow_strd plainT_ok (.inn rfl) (fun W hW => HB5.out.keep (wdrew hW)) Try.underlying22 Try.underlying5 Try.underlying9 rfl ?_
                refine flow_move_out plainT_ok rfl rfl rfl ?_
                refine flow_move_out plainT_ok rfl rfl rfl ?_
                refine flow2 (r := .pointer (some ⟨g7, j, none⟩)) plainT_ok rfl (.inn rfl) (.inn rfl) rfl (fun ev W he e1 e2 => by go_simp) ?_
                refine flow1h (r := .string (strOf r)) plainT_ok rfl (.inn rfl) rfl (fun ev W he hW e1 => by have q0 := txt_cell (HXz.out.keep (wdrew hW)) HRj.out; go_simp) ?_
                refine flow2 (r := .bool false) plainT_ok rfl (.inn rfl) (.inn rfl) rfl (fun ev W he e1 e2 => by go_simp) ?_
                refine flow_or_false plainT_ok rfl rfl rfl ?_
                intro vs W hW hF
                have e104 : vs 104 = .bool false := hF 104 _ rfl rfl
                have hcW := wdrew hW
                simp only [putAll, Act.put, List.setIfInBounds_toArray, List.set_cons_zero, List.set_cons_succ, e104]
                clear hW hF
                go_wp2_with fail
                go_roundw
                case rel => exact ⟨⟨j + 1, by omega, by go_num⟩, HCp.out.new hcW⟩
                case measure => simp [intOf]; omega
              · obtain rfl : j = 5 := by omega
                have HDb := Lib.hid (Dsk.keep HDa.out hcr)
                have HRb := Lib.hid (HRa.out.keep hcr)
                have HCb := Lib.hid (HCa.out.new hcr)
                clear hcr
                go_wp2_with fail
                refine (seen_any HDb.out).mono ?_
                rintro e wz ⟨rfl, hWs, hcz⟩
                have hsl : s.S.length = 896 := by have := HS.out; have := HHr.out.len; omega
                rw [hsl]
                obtain ⟨gs, hgs⟩ : ∃ gs, gs = wr.heap.size := ⟨_, rfl⟩
                rw [← hgs] at hWs ⊢
                clear hgs
                obtain ⟨N, hN, hNl⟩ : ∃ N : Nat, N = (2 + k) * 64 ∧ N ≤ 512 := ⟨_, rfl, by omega⟩
                have HNl := Lib.hid hNl
                have HN := Lib.hid (show (2 + (k : Int)) * 64 = (N : Int) by omega)
                have HW2 := Lib.hid (show IntKind.i64.wrap (2 + (k : Int)) = 2 + (k : Int) by simp [IntKind.wrap, IntKind.signed, IntKind.bits]; omega)
                have HWN := Lib.hid (show IntKind.i64.wrap (N : Int) = (N : Int) by simp [IntKind.wrap, IntKind.signed, IntKind.bits]; omega)
                have HN8 := Lib.hid (show ¬ (896 : Int) < (N : Int) by omega)
                have HSb : Hid (Bs wz (some ⟨gs, 0, none⟩) N 896 (zeros N)) := Lib.hid (by
                  have h1 := Bs.of_all hWs (by omega)
                  rw [hsl] at h1
                  have h2 := h1.take (m := N) (by omega)
                  rw [hN, HHr.out.front] at h2
                  rw [hN]; exact h2)
                have HRz := Lib.hid (HRb.out.keep hcz)
                have HCz := Lib.hid (HCb.out.new hcz)
                clear hN hNl hWs hcz hsl
                have hld := fun (W : World) (hW : Chg [] wz.drew W) => root_cells (HRz.out.drew.keep hW)
                go_wp2_with fail
                refine wp_flow (by kernel_rfl) plainT plainT_ok (by kernel_rfl) ?_
                refine flow_move_out plainT_ok rfl rfl rfl ?_
                refine flow_lend plainT_ok (.inn rfl) (fun ev W he e1 => by go_simp) rfl ?_
                refine flow_eql plainT_ok (.inn rfl) (.const _) (fun ev W he e1 e2 => by go_simp) rfl ?_
                refine flow_move plainT_ok rfl (keeps_isV _) (.inr (keeps_isV _)) rfl ?_
                refine flow_move_out plainT_ok rfl rfl rfl ?_
                refine flow1 (r := .pointer (some ⟨g, 0, none⟩)) plainT_ok rfl (.out rfl rfl) rfl (fun ev W he e1 => by go_simp) ?_
                refine flow1h (r := .int .i64 (k : Int)) plainT_ok rfl (.inn rfl) rfl (fun ev W he hW e1 => by obtain ⟨c0, c1, c2, _, _, _⟩ := hld W hW; go_simp) ?_
                refine flow2 (r := .int .i64 (2 + (k : Int))) plainT_ok rfl (.const _) (.inn rfl) rfl (fun ev W he e1 e2 => by have hw := HW2.out; go_simp) ?_
                refine flow2 (r := .int .i64 ((N : Nat) : Int)) plainT_ok rfl (.inn rfl) (.const _) rfl (fun ev W he e1 e2 => by have hN := HN.out; have hw := HWN.out; go_simp) ?_
                refine flow_slice_hi (r := .slice (some ⟨gs, 0, none⟩) N 896) plainT_ok (.inn rfl) (.inn rfl) (fun ev W he e1 e2 => by have hN := HN8.out; go_simp) rfl ?_
                refine flow_strd plainT_ok (.inn rfl) (fun W hW => HSb.out.keep (wdrew hW)) Try.underlying22 Try.underlying5 Try.underlying9 rfl ?_
                refine flow1 (r := .pointer (some ⟨g, 0, none⟩)) plainT_ok rfl (.out rfl rfl) rfl (fun ev W he e1 => by go_simp) ?_
                refine flow1h (r := .int .i64 (k : Int)) plainT_ok rfl (.inn rfl) rfl (fun ev W he hW e1 => by obtain ⟨c0, c1, c2, _, _, _⟩ := hld W hW; go_simp) ?_
                refine flow2 (r := .int .i64 (2 + (k : Int))) plainT_ok rfl (.const _) (.inn rfl) rfl (fun ev W he e1 e2 => by have hw := HW2.out; go_simp) ?_
                refine flow2 (r := .int .i64 ((N : Nat) : Int)) plainT_ok rfl (.inn rfl) (.const _) rfl (fun ev W he e1 e2 => by have hN := HN.out; have hw := HWN.out; go_simp) ?_
                refine flow_op (ownF wz.drew.heap.size 5 (bts (zeros N))) (keeps_own _ _ _) (.inr (keeps_own _ _ _)) rfl (fun ev W he hW hf => ?_) ?_
                · have f0 : ev (.tmp 122) = .int .i64 ((N : Nat) : Int) := hf.1
                  have hmk := make_u8 N (by have := HNl.out; omega) W
                  have hnew : ownF wz.drew.heap.size 5 (bts (zeros N)) (.slice (some ⟨W.heap.size, 0, none⟩) N N) (W.alloc (.cells (bts (zeros N)).toArray 5)) := by
                    have := own_of_whole (B := wz.drew.heap.size) (n := N) (c := N) (Whole.new W 5 (bts (zeros N))) (Chg.size hW) (by rw [bts_len, zeros_len]) (Nat.le_refl _) (by have := HNl.out; unfold maxLen; omega)
                    rw [List.take_of_length_le (by rw [bts_len, zeros_len]; exact Nat.le_refl _)] at this
                    rw [ownF, bts_len, zeros_len]; exact this
                  have hch : plainT.by_ 15 W (W.alloc (.cells (bts (zeros N)).toArray 5)) := by rw [plain_by]; exact (Chg.refl [] W).alloc _
                  go_simp
                  exact ⟨hch, hnew⟩
                refine flow_str plainT_ok rfl Try.underlying22 Try.underlying5 Try.underlying9 rfl ?_
                refine flow_eql plainT_ok (.inn rfl) (.inn rfl) (fun ev W he e1 e2 => by go_simp) rfl ?_
                refine flow_and plainT_ok rfl rfl rfl ?_
                refine flow_move plainT_ok rfl (keeps_isV _) (.inr (keeps_isV _)) rfl ?_
                refine flow_callv (.bool true) (by kernel_rfl) rfl .nil (fun W hW => hknown_any.mono ?_) ?_
                · rintro e w' ⟨rfl, hc⟩; exact ⟨rfl, hc⟩
                refine flow_and plainT_ok rfl rfl rfl ?_
                refine flow_assign plainT_ok rfl (keeps_isV _) (.inr (keeps_isV _)) rfl ?_
                intro vs W hW hF
                have e4 : vs 4 = .bool true := hF 4 _ rfl rfl
                simp only [putAll, Act.put, List.setIfInBounds_toArray, List.set_cons_zero, List.set_cons_succ, e4]
                have HCW := Lib.hid (HCz.out.new (wdrew hW))
                clear hW hF hld
                go_wp2_with fail
                go_ret
                exact ⟨rfl, HCW.out⟩
          · go_wp2_with fail
            refine (hall_any HDr.out k 5 3).mono ?_
            rintro e wa ⟨va, us, rfl, hoa, hra, hca⟩
            rw [HHr.out.all hk1 hk6] at hoa hra
            rw [HHr.out.wlen] at hoa
            obtain ⟨A3, c3, rfl, hl3, _, hs3, hA3⟩ := own_slice hoa
            have HDa := Lib.hid (Dsk.keep HDr.out hca)
            have HXa := Lib.hid (HXr.out.keep hca)
            have HRa := Lib.hid (HRr.out.keep hca)
            have HCa := Lib.hid (HCr.out.new hca)
            have HL3 := Lib.hid hl3
            clear hca hoa hl3 c0 c1 c2
            go_wp2_with fail
            go_loopw [72] (fun v w5 => (∃ j : Nat, j ≤ 5 ∧ v = .int .i64 (j : Int)) ∧ Chg [] wa w5) (fun v _ => 5 - (intOf v).toNat)
            case atStart => exact ⟨⟨0, by omega, rfl⟩, Chg.refl _ _⟩
            case round =>
              obtain ⟨⟨j, hj, rfl⟩, hcr⟩ := hrel
              by_cases hlt : j < 5
              · have hjl : (j : Int) < 5 := by omega
                have hj0 : (0 : Int) ≤ (j : Int) := by omega
                obtain ⟨⟨b3, o3, s3⟩, rfl, _, hx3⟩ := (hs3.keep hcr) (by have := HL3.out; omega)
                obtain rfl : s3 = none := (hA3 _ rfl).1
                obtain ⟨x3, hv3⟩ : ∃ x, us[j]? = some x := ⟨_, List.getElem?_eq_getElem (by have := HL3.out; omega)⟩
                obtain ⟨r, hr⟩ : ∃ r, ws[j]? = some r := ⟨_, List.getElem?_eq_getElem (by have := HHr.out.wlen; omega)⟩
                obtain ⟨A5, c5, rfl, hB5, _⟩ := Bs.of_own (hra.2 j x3 r hv3 hr)
                have HRj := Lib.hid hr
                have HSj := Lib.hid (show r = sectL s.S s.V.length (2 + k + j) by have := HHr.out.at hlt; rw [hr] at this; injection this)
                have HRl := Lib.hid (show r.length = 64 by rw [HSj.out]; exact sectL_len HHr.out.lenS (by have := HHr.out.len; omega))
                have c3j := hx3 j _ hv3
                rw [add_plain] at c3j
                have HDb := Lib.hid (Dsk.keep HDa.out hcr)
                have HRb := Lib.hid (HRa.out.keep hcr)
                have HIN := Lib.hid (hasR_at (k := j) (HHr.out.right hk1 hk6) (by omega))
                clear hx3 hv3 hr
                obtain ⟨c0, c1, c2, _, _, _⟩ := root_cells HRb.out
                go_wp2_with fail
                refine (hpage_any HDb.out k 5 3 j).mono ?_
                rintro e wp (⟨_, vp, rfl, hop, hcp⟩ | ⟨hno, _⟩)
                rotate_left
                · rw [HIN.out.1] at hno; cases hno
                rw [HIN.out.2.1, Int.toNat_natCast, ← HSj.out] at hop
                have hop' := hop
                rw [← HRl.out] at hop'
                obtain ⟨A6, c6, rfl, hB6, _⟩ := Bs.of_own hop'
                rw [HRl.out] at hB6 ⊢
                have HBp := Lib.hid hB6
                have HCp := Lib.hid (hcr.new hcp)
                have HXz := Lib.hid (HXa.out.keep HCp.out)
                have HB5 := Lib.hid (hB5.keep HCp.out)
                have C3j := Lib.hid (cell_keep c3j hcp)
                clear hop hop' hB5 hB6 c3j hcp c0 c1 c2
                go_wp2_with fail
                refine wp_flow (by kernel_rfl) plainT plainT_ok (by kernel_rfl) ?_
                refine flow_move_out plainT_ok rfl rfl rfl ?_
                refine flow1 (r := .bool false) plainT_ok rfl (.inn rfl) rfl (fun ev W he e1 => by go_simp) ?_
                refine flow_move plainT_ok rfl (keeps_isV _) (.inr (keeps_isV _)) rfl ?_
                refine flow_move_out plainT_ok rfl rfl rfl ?_
                refine flow_strd plainT_ok (.inn rfl) (fun W hW => HBp.out.keep (wdrew hW)) Try.underlying22 Try.underlying5 Try.underlying9 rfl ?_
                refine flow_move_out plainT_ok rfl rfl rfl ?_
                refine flow_move_out plainT_ok rfl rfl rfl ?_
                refine flow2 (r := .pointer (some ⟨g7, j, none⟩)) plainT_ok rfl (.inn rfl) (.inn rfl) rfl (fun ev W he e1 e2 => by go_simp) ?_
                refine flow1h (r := .string (strOf r)) plainT_ok rfl (.inn rfl) rfl (fun ev W he hW e1 => by have q0 := txt_cell (HXz.out.keep (wdrew hW)) HRj.out; go_simp) ?_
                refine flow2 (r := .bool false) plainT_ok rfl (.inn rfl) (.inn rfl) rfl (fun ev W he e1 e2 => by go_simp) ?_
                refine flow_or_false plainT_ok rfl rfl rfl ?_
                refine flow_move plainT_ok rfl (keeps_isV _) (.inr (keeps_isV _)) rfl ?_
                refine flow_move_out plainT_ok rfl rfl rfl ?_
                refine flow_move_out plainT_ok rfl rfl rfl ?_
                refine flow2 (r := .pointer (some ⟨b3, o3 + j, none⟩)) plainT_ok rfl (.inn rfl) (.inn rfl) rfl (fun ev W he e1 e2 => by go_simp) ?_
                refine flow1h (r := .slice A5 r.length c5) plainT_ok rfl (.inn rfl) rfl (fun ev W he hW e1 => by have q0 := cell_keep C3j.out (wdrew hW); go_simp) ?_
                refine flow_strd plainT_ok (.inn rfl) (fun W hW => HB5.out.keep (wdrew hW)) Try.underlying22 Try.underlying5 Try.underlying9 rfl ?_
                refine flow_move_out plainT_ok rfl rfl rfl ?_
                refine flow_move_out plainT_ok rfl rfl rfl ?_
                refine flow2 (r := .pointer (some ⟨g7, j, none⟩)) plainT_ok rfl (.inn rfl) (.inn rfl) rfl (fun ev W he e1 e2 => by go_simp) ?_
                refine flow1h (r := .string (strOf r)) plainT_ok rfl (.inn rfl) rfl (fun ev W he hW e1 => by have q0 := txt_cell (HXz.out.keep (wdrew hW)) HRj.out; go_simp) ?_
                refine flow2 (r := .bool false) plainT_ok rfl (.inn rfl) (.inn rfl) rfl (fun ev W he e1 e2 => by go_simp) ?_
                refine flow_or_false plainT_ok rfl rfl rfl ?_
                intro vs W hW hF
                have e104 : vs 104 = .bool false := hF 104 _ rfl rfl
                have hcW := wdrew hW
                simp only [putAll, Act.put, List.setIfInBounds_toArray, List.set_cons_zero, List.set_cons_succ, e104]
                clear hW hF
                go_wp2_with fail
                go_roundw
                case rel => exact ⟨⟨j + 1, by omega, by go_num⟩, HCp.out.new hcW⟩
                case measure => simp [intOf]; omega
              · obtain rfl : j = 5 := by omega
                have HDb := Lib.hid (Dsk.keep HDa.out hcr)
                have HRb := Lib.hid (HRa.out.keep hcr)
                have HCb := Lib.hid (HCa.out.new hcr)
                clear hcr
                go_wp2_with fail
                refine (seen_any HDb.out).mono ?_
                rintro e wz ⟨rfl, hWs, hcz⟩
                have hsl : s.S.length = 896 := by have := HS.out; have := HHr.out.len; omega
                rw [hsl]
                obtain ⟨gs, hgs⟩ : ∃ gs, gs = wr.heap.size := ⟨_, rfl⟩
                rw [← hgs] at hWs ⊢
                clear hgs
                obtain ⟨N, hN, hNl⟩ : ∃ N : Nat, N = (2 + k) * 64 ∧ N ≤ 512 := ⟨_, rfl, by omega⟩
                have HNl := Lib.hid hNl
                have HN := Lib.hid (show (2 + (k : Int)) * 64 = (N : Int) by omega)
                have HW2 := Lib.hid (show IntKind.i64.wrap (2 + (k : Int)) = 2 + (k : Int) by simp [IntKind.wrap, IntKind.signed, IntKind.bits]; omega)
                have HWN := Lib.hid (show IntKind.i64.wrap (N : Int) = (N : Int) by simp [IntKind.wrap, IntKind.signed, IntKind.bits]; omega)
                have HN8 := Lib.hid (show ¬ (896 : Int) < (N : Int) by omega)
                have HSb : Hid (Bs wz (some ⟨gs, 0, none⟩) N 896 (zeros N)) := Lib.hid (by
                  have h1 := Bs.of_all hWs (by omega)
                  rw [hsl] at h1
                  have h2 := h1.take (m := N) (by omega)
                  rw [hN, HHr.out.front] at h2
                  rw [hN]; exact h2)
                have HRz := Lib.hid (HRb.out.keep hcz)
                have HCz := Lib.hid (HCb.out.new hcz)
                clear hN hNl hWs hcz hsl
                have hld := fun (W : World) (hW : Chg [] wz.drew W) => root_cells (HRz.out.drew.keep hW)
                go_wp2_with fail
                refine wp_flow (by kernel_rfl) plainT plainT_ok (by kernel_rfl) ?_
                refine flow_move_out plainT_ok rfl rfl rfl ?_
                refine flow_lend plainT_ok (.inn rfl) (fun ev W he e1 => by go_simp) rfl ?_
                refine flow_eql plainT_ok (.inn rfl) (.const _) (fun ev W he e1 e2 => by go_simp) rfl ?_
                refine flow_move plainT_ok rfl (keeps_isV _) (.inr (keeps_isV _)) rfl ?_
                refine flow_move_out plainT_ok rfl rfl rfl ?_
                refine flow1 (r := .pointer (some ⟨g, 0, none⟩)) plainT_ok rfl (.out rfl rfl) rfl (fun ev W he e1 => by go_simp) ?_
                refine flow1h (r := .int .i64 (k : Int)) plainT_ok rfl (.inn rfl) rfl (fun ev W he hW e1 => by obtain ⟨c0, c1, c2, _, _, _⟩ := hld W hW; go_simp) ?_
                refine flow2 (r := .int .i64 (2 + (k : Int))) plainT_ok rfl (.const _) (.inn rfl) rfl (fun ev W he e1 e2 => by have hw := HW2.out; go_simp) ?_
                refine flow2 (r := .int .i64 ((N : Nat) : Int)) plainT_ok rfl (.inn rfl) (.const _) rfl (fun ev W he e1 e2 => by have hN := HN.out; have hw := HWN.out; go_simp) ?_
                refine flow_slice_hi (r := .slice (some ⟨gs, 0, none⟩) N 896) plainT_ok (.inn rfl) (.inn rfl) (fun ev W he e1 e2 => by have hN := HN8.out; go_simp) rfl ?_
                refine flow_strd plainT_ok (.inn rfl) (fun W hW => HSb.out.keep (wdrew hW)) Try.underlying22 Try.underlying5 Try.underlying9 rfl ?_
                refine flow1 (r := .pointer (some ⟨g, 0, none⟩)) plainT_ok rfl (.out rfl rfl) rfl (fun ev W he e1 => by go_simp) ?_
                refine flow1h (r := .int .i64 (k : Int)) plainT_ok rfl (.inn rfl) rfl (fun ev W he hW e1 => by obtain ⟨c0, c1, c2, _, _, _⟩ := hld W hW; go_simp) ?_
                refine flow2 (r := .int .i64 (2 + (k : Int))) plainT_ok rfl (.const _) (.inn rfl) rfl (fun ev W he e1 e2 => by have hw := HW2.out; go_simp) ?_
                refine flow2 (r := .int .i64 ((N : Nat) : Int)) plainT_ok rfl (.inn rfl) (.const _) rfl (fun ev W he e1 e2 => by have hN := HN.out; have hw := HWN.out; go_simp) ?_
                refine flow_op (ownF wz.drew.heap.size 5 (bts (zeros N))) (keeps_own _ _ _) (.inr (keeps_own _ _ _)) rfl (fun ev W he hW hf => ?_) ?_
                · have f0 : ev (.tmp 122) = .int .i64 ((N : Nat) : Int) := hf.1
                  have hmk := make_u8 N (by have := HNl.out; omega) W
                  have hnew : ownF wz.drew.heap.size 5 (bts (zeros N)) (.slice (some ⟨W.heap.size, 0, none⟩) N N) (W.alloc (.cells (bts (zeros N)).toArray 5)) := by
                    have := own_of_whole (B := wz.drew.heap.size) (n := N) (c := N) (Whole.new W 5 (bts (zeros N))) (Chg.size hW) (by rw [bts_len, zeros_len]) (Nat.le_refl _) (by have := HNl.out; unfold maxLen; omega)
                    rw [List.take_of_length_le (by rw [bts_len, zeros_len]; exact Nat.le_refl _)] at this
                    rw [ownF, bts_len, zeros_len]; exact this
                  have hch : plainT.by_ 15 W (W.alloc (.cells (bts (zeros N)).toArray 5)) := by rw [plain_by]; exact (Chg.refl [] W).alloc _
                  go_simp
                  exact ⟨hch, hnew⟩
                refine flow_str plainT_ok rfl Try.underlying22 Try.underlying5 Try.underlying9 rfl ?_
                refine flow_eql plainT_ok (.inn rfl) (.inn rfl) (fun ev W he e1 e2 => by go_simp) rfl ?_
                refine flow_and plainT_ok rfl rfl rfl ?_
                refine flow_move plainT_ok rfl (keeps_isV _) (.inr (keeps_isV _)) rfl ?_
                refine flow_callv (.bool true) (by kernel_rfl) rfl .nil (fun W hW => hknown_any.mono ?_) ?_
                · rintro e w' ⟨rfl, hc⟩; exact ⟨rfl, hc⟩
                refine flow_and plainT_ok rfl rfl rfl ?_
                refine flow_assign plainT_ok rfl (keeps_isV _) (.inr (keeps_isV _)) rfl ?_
                intro vs W hW hF
                have e4 : vs 4 = .bool true := hF 4 _ rfl rfl
                simp only [putAll, Act.put, List.setIfInBounds_toArray, List.set_cons_zero, List.set_cons_succ, e4]
                have HCW := Lib.hid (HCz.out.new (wdrew hW))
                clear hW hF hld
                go_wp2_with fail
                go_ret
                exact ⟨rfl, HCW.out⟩
end
end Go.Proofs.Ytlhkmbcjgdjegaa
