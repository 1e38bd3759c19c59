/-
  EA: GlTok, EgCodes.
-/
import Derived.Test.YtfhgnoajfipjdaaZEA4
import Derived.Test.YtfhgnoajfipjdaaZEA15
import Derived.Test.YtfhgnoajfipjdaaZEA22
import Derived.Test.YtfhgnoajfipjdaaZEA31
namespace Go.Proofs.Ytfhgnoajfipjdaa
open Go.RowKit
theorem gRun_next {rs : List Nat} {r : Nat} {ys ys' : List TkV} {ph ph' : GPh} (h : gTake ys ph r = some (ys', ph')) : gRun (r :: rs) ys ph = gRun rs ys' ph' := by rw [gRun, h]
theorem gRun_stop {rs : List Nat} {r : Nat} {ys : List TkV} {ph : GPh} (h : gTake ys ph r = none) : gRun (r :: rs) ys ph = none := by rw [gRun, h]
theorem rown_apart {w w' : World} {B n k : Nat} {e : TypeId} {v : Value} {xs : List Value} {T : List Nat} (h : w.ownsRow B e k v n xs) (hc : Chg T w w') (hT : ∀ g, v.ownBlock = some g → g ∉ T) : w'.ownsRow B e k v n xs := by
  refine ⟨h.1, ?_⟩
  rcases h.2 with h1 | ⟨g, cap, cur, rfl, hb, hg, r⟩
  · exact .inl h1
  · refine .inr ⟨g, cap, cur, rfl, hb, ?_, r⟩
    have hlt : g < w.heap.size := by
      rcases Nat.lt_or_ge g w.heap.size with h | h
      · exact h
      · rw [Array.getElem?_eq_none h] at hg; cases hg
    exact (hc.block g hlt (hT g rfl)).trans hg
theorem own_not_iter {w : World} {B n k b : Nat} {e : TypeId} {v : Value} {xs : List Value} {s : ByteArray} {pos : Nat} (h : w.ownsRow B e k v n xs) (hb : w.heap[b]? = some (.stringIter s pos)) : v.ownBlock ≠ some b := by
  intro hv
  rcases h.2 with ⟨rfl, _⟩ | ⟨g, cap, cur, rfl, _, hg, _⟩
  · simp [Value.ownBlock] at hv
  · simp [Value.ownBlock] at hv
    subst hv
    rw [hg] at hb
    injection hb with hb
    cases hb
theorem Gl.chg {W W' : World} {g : Nat} {v : Value} {ys : List TkV} {ph : GPh} {T : List Nat} (h : Gl W g v ys ph) (hc : Chg T W W') (hg : g ∉ T) (hv : ∀ b, v.ownBlock = some b → b ∉ T) : Gl W' g v ys ph := ⟨h.rec_.chg hc hg, rown_apart h.own hc hv, h.few, h.big⟩
section
variable {w : World}
set_option maxHeartbeats 4000000 in
set_option maxRecDepth 100000 in
theorem gtokens_any (s : ByteArray) (hs : s.size ≤ 9223372036854775807) : Calls Try.prog 59 #[.string s] w (TokPost s w) := by
  by_cases hlong : 512 < s.size
  · have hlI : (512 : Int) < (s.size : Int) := by omega
    have HPO := Lib.hid (show TokPost s w (.returned (.tuple #[.slice none 0 0, .int .i64 3])) w from ⟨Chg.refl _ _, .inr ⟨by unfold tokR; rw [if_pos hlong], by unfold tokE; rw [if_pos hlong]⟩⟩)
    go_enter Try.func59, Try.ntmps59
    go_wp2_with fail
    go_ret2
    exact HPO.out
  have hlI : ¬ (512 : Int) < (s.size : Int) := by omega
  have HRT := Lib.hid (gRun_is s hlong)
  have HE := Lib.hid (show tokE s = 12 from by unfold tokE; rw [if_neg hlong])
  have hsz : s.size ≤ 512 := by omega
  clear hlong
  go_enter Try.func59, Try.ntmps59
  go_upto_region 5 with fail
  have hr1 := Whole.new w 180 [.slice none 0 0, .bool false, .bool false]
  have hc1 := (Chg.refl [] w).alloc (.cells #[.slice none 0 0, .bool false, .bool false] 180)
  have hz1 : (w.alloc (.cells #[.slice none 0 0, .bool false, .bool false] 180)).heap.size = w.heap.size + 1 := Array.size_push _
  obtain ⟨g, hg⟩ : ∃ g, g = w.heap.size := ⟨_, rfl⟩
  rw [← hg] at hr1 hz1 ⊢
  generalize w.alloc (.cells #[.slice none 0 0, .bool false, .bool false] 180) = w1 at hr1 hc1 hz1 ⊢
  have hI : (w1.iter s 0).heap[w1.heap.size]? = some (.stringIter s 0) := World.iter_heap w1 s 0
  have hc0 : Chg [] w1 (w1.iter s 0) := (Chg.refl [] w1).alloc _
  rw [hz1] at hI
  obtain ⟨kI, hkI⟩ : ∃ k, k = g + 1 := ⟨_, rfl⟩
  have HK := Lib.hid (show g < kI from by omega)
  have HGW := Lib.hid (show w.heap.size = g from hg.symm)
  have HG1 := Lib.hid (show Gl (w1.iter s 0) g (.slice none 0 0) [] .idle from ⟨hr1.keep hc0, World.ownsRow_nil _ _ _ _, by simp, fun m e => by cases e⟩)
  rw [← hkI] at hI ⊢
  have HC0 := Lib.hid (hc1.new hc0)
  generalize w1.iter s 0 = w2 at hI hc0 HG1 HC0 ⊢
  have HI := Lib.hid hI
  clear hI hc0 hkI hr1 hc1 hz1 hg
  go_loopw [6] (fun _ wr => (∃ (pos f : Nat) (v : Value) (ys : List TkV) (ph : GPh), Hid (wr.heap[kI]? = some (.stringIter s pos)) ∧ s.size - pos ≤ f ∧ Hid (Gl wr g v ys ph) ∧ Hid (tokR s = gRun (runesAt s f pos) ys ph) ∧ ys.length + (pend ph).length + f ≤ s.size) ∧ Hid (Chg [] w wr)) (fun _ wr => s.size - wr.iterPos kI)
  case atStart => exact ⟨⟨0, s.size, _, _, _, HI, by omega, HG1, Lib.hid (by rw [HRT.out]; rfl), by simp [pend]⟩, HC0⟩
  case round =>
    obtain ⟨⟨pos, f, v, ys, ph, HIr, hf, HG, HR, hyl⟩, HC⟩ := hrel
    by_cases hlt : pos < s.size
    · obtain ⟨f', rfl⟩ : ∃ f', f = f' + 1 := ⟨f - 1, by omega⟩
      have hnx := fun ty => Lib.run_next_any_at (P := Try.prog) wr kI s pos ty HIr.out hlt
      go_upto_region 7 with fail
      obtain ⟨d, hd⟩ : ∃ d, d = (Utf8.decode s pos).2 := ⟨_, rfl⟩
      obtain ⟨x, hx⟩ : ∃ r, r = (Utf8.decode s pos).1 := ⟨_, rfl⟩
      have hw := width_pos s pos hlt
      have hxm : x ≤ 2147483647 := by rw [hx]; exact decode_le s pos
      rw [← hd] at hw
      have HR2 := Lib.hid (show tokR s = gRun (x :: runesAt s f' (pos + d)) ys ph from by rw [HR.out, runesAt, if_pos hlt, ← hd, ← hx])
      have hci : Chg [kI] wr (wr.iterAt kI s (pos + d)) := ⟨rfl, rfl, rfl, by rw [Lib.iterAt_size]; exact Nat.le_refl _, fun i _ hn => Lib.iterAt_other wr kI i s (pos + d) (by simpa using hn)⟩
      have HI2 := Lib.hid (Lib.iterAt_heap wr kI s pos (pos + d) HIr.out)
      have HC2 := Lib.hid (show Chg [] w (wr.iterAt kI s (pos + d)) from HC.out.then_ hci (fun i hi hl => by have := HK.out; have := HGW.out; simp only [List.mem_cons, List.not_mem_nil, or_false] at hi; omega))
      have HG2 := Lib.hid (show Gl (wr.iterAt kI s (pos + d)) g v ys ph from HG.out.chg hci (by have := HK.out; simp; omega) (fun b hb => by
        have := own_not_iter HG.out.own HIr.out
        intro hm
        simp only [List.mem_cons, List.not_mem_nil, or_false] at hm
        subst hm
        exact this hb))
      rw [← hd, ← hx]
      have HMP := Lib.hid (show wr.iterPos kI = pos from by unfold World.iterPos; rw [HIr.out])
      have HP2 := Lib.hid (show (wr.iterAt kI s (pos + d)).iterPos kI = pos + d from by unfold World.iterPos; rw [HI2.out])
      generalize wr.iterAt kI s (pos + d) = w3 at HI2 HC2 HP2 HG2 ⊢
      clear hx hd hnx hci
      go_wp2_with fail
      refine (gtake_any HG2.out x hxm (by omega)).mono ?_
      rintro e w4 ⟨hfr, ho⟩
      have HI4 := Lib.hid (hfr.obj HI2.out (by intro _ _ _ h; cases h))
      have HP4 := Lib.hid (show w4.iterPos kI = pos + d from by unfold World.iterPos; rw [HI4.out])
      have HC4 := Lib.hid (show Chg [] w w4 from (Fr.chg (B := g) (TS := glT) ((Fr.of_chg HC2.out).trans hfr) (by have := HGW.out; omega)))
      clear hfr
      rcases ho with ⟨ho, rfl⟩ | ⟨ys', ph', v', ho, rfl, hG⟩
      · have HPO := Lib.hid (show TokPost s w (.returned (.tuple #[.slice none 0 0, .int .i64 12])) w4 from ⟨HC4.out, .inr ⟨by rw [HR2.out, gRun_stop ho], by rw [HE.out]⟩⟩)
        clear ho
        go_wp2_with fail
        go_ret2
        exact HPO.out
      · have hyl' : ys'.length + (pend ph').length + f' ≤ s.size := by have := gTake_len ho; omega
        have HR4 := Lib.hid (show tokR s = gRun (runesAt s f' (pos + d)) ys' ph' from by rw [HR2.out, gRun_next ho])
        have HG4 := Lib.hid hG
        clear ho hG
        go_wp2_with fail
        go_roundw
        case rel => exact ⟨⟨pos + d, f', v', ys', ph', HI4, by omega, HG4, HR4, hyl'⟩, HC4⟩
        case measure => rw [HP4.out, HMP.out]; omega
    · have hnx := fun ty => Lib.run_next_end_at (P := Try.prog) wr kI s pos ty HIr.out hlt
      have HRE := Lib.hid (show tokR s = gEnd ys ph from by
        rw [HR.out]
        cases f with
        | zero => simp [runesAt, gRun]
        | succ f => rw [runesAt, if_neg hlt, gRun])
      have c2 := HG.out.rec_.cell 2
      have c0 := HG.out.rec_.cell 0
      cases hwt : waits ph with
      | true =>
        have HPO := Lib.hid (show TokPost s w (.returned (.tuple #[.slice none 0 0, .int .i64 12])) wr from ⟨HC.out, .inr ⟨(by
          rw [HRE.out]
          cases ph with
          | wait q => rfl
          | num m => cases hwt
          | idle => cases hwt), by rw [HE.out]⟩⟩)
        rw [hwt] at c2
        clear hwt
        go_wp2_with fail
        go_ret2
        exact HPO.out
      | false =>
        have HPO := Lib.hid (show TokPost s w (.returned (.tuple #[v, .int .i64 0])) wr from ⟨HC.out, .inl ⟨ys ++ pend ph, v, (by
          rw [HRE.out]
          cases ph with
          | wait q => cases hwt
          | num m => rfl
          | idle => rw [pend, List.append_nil]; rfl), by rw [List.length_append]; omega, rfl, by
          have := HG.out.own
          rw [List.length_append]
          exact own_more_n this (by have := HGW.out; omega)⟩⟩)
        rw [hwt] at c2
        obtain ⟨A5, n5, c5, rfl, hn5⟩ := HG.out.slice
        clear hwt hn5
        go_wp2_with fail
        go_ret2
        exact HPO.out
end
end Go.Proofs.Ytfhgnoajfipjdaa
namespace Go.Proofs.Ytfhgnoajfipjdaa
open Go.RowKit
theorem info_code : (Try.prog.info? 170).map (fun i => (i.zero, i.size, i.bytes)) = some (some (.agg #[.int .i64 0, .slice none 0 0, .slice none 0 0]), 3, 56) := by kernel_rfl
/-- Codes that can be read. -/
def Readable (l : List FnV) : Prop := ∀ f ∈ l, 0 ≤ f.args ∧ ∃ ts R, tokR f.code = some ts ∧ rNest (signs ts) = some R
theorem codeOf_is {f : FnV} {ts : List TkV} {R : List Int × Nat} (h1 : tokR f.code = some ts) (h2 : rNest (signs ts) = some R) : codeOf f = ⟨f.args.toNat, ts, R.1⟩ := by
  unfold codeOf
  rw [h1]
  simp only
  rw [h2]
/-- All but the row of codes itself. -/
structure Cdx (W : World) (xs : List CdV) : Prop where
  toks : ∀ x ∈ xs, W.ownsRow 0 167 3 x.tv x.c.ts.length (tkCs x.c.ts)
  gos : ∀ x ∈ xs, W.ownsRow 0 3 1 x.gv x.c.go.length (nms x.c.go)
  few : ∀ x ∈ xs, x.c.ts.length ≤ 512 ∧ x.c.go.length = x.c.ts.length
theorem Cdx.keep {W W' : World} {xs : List CdV} (h : Cdx W xs) (hc : Chg [] W W') : Cdx W' xs := ⟨fun x hx => rown_keep (h.toks x hx) hc, fun x hx => rown_keep (h.gos x hx) hc, h.few⟩
theorem Cdx.nil (W : World) : Cdx W [] := ⟨fun x hx => by simp at hx, fun x hx => by simp at hx, fun x hx => by simp at hx⟩
theorem Cdx.cons {W : World} {xs : List CdV} {x : CdV} (h : Cdx W xs) (h1 : W.ownsRow 0 167 3 x.tv x.c.ts.length (tkCs x.c.ts)) (h2 : W.ownsRow 0 3 1 x.gv x.c.go.length (nms x.c.go)) (h3 : x.c.ts.length ≤ 512 ∧ x.c.go.length = x.c.ts.length) : Cdx W (xs ++ [x]) := by
  refine ⟨fun y hy => ?_, fun y hy => ?_, fun y hy => ?_⟩ <;> rcases List.mem_append.1 hy with hy | hy
  · exact h.toks y hy
  · rw [List.mem_singleton] at hy; subst hy; exact h1
  · exact h.gos y hy
  · rw [List.mem_singleton] at hy; subst hy; exact h2
  · exact h.few y hy
  · rw [List.mem_singleton] at hy; subst hy; exact h3
theorem Cdx.grown {W W' : World} {B : Nat} {v : Value} {n : Nat} {ys : List Value} {xs : List CdV} (h : Cdx W xs) (ho : W.ownsRow B 170 3 v n ys) (hg : W.grownBy W' v.ownBlock) : Cdx W' xs :=
  ⟨fun x hx => rown_grown (h.toks x hx) ho (by decide) hg, fun x hx => rown_grown (h.gos x hx) ho (by decide) hg, h.few⟩
def CodesPost (W : World) (l : List FnV) (e : Ending) (w' : World) : Prop := ∃ v xs, e = .returned v ∧ w'.ownsRow W.heap.size 170 3 v xs.length (cdCs xs) ∧ Cdx w' xs ∧ xs.map (·.c) = l.map codeOf ∧ Chg [] W w'
section
variable {W : World} {A : Option Addr} {n c : Nat} {l : List FnV} {pages most : Int}
set_option maxHeartbeats 8000000 in
set_option maxRecDepth 100000 in
theorem codes_any (h : Fnr W A n c l) (hr : Readable l) (h32 : n ≤ 32) (hsz : ∀ f ∈ l, f.code.size ≤ 1000000) : Calls Try.prog 52 #[unitV pages most A n c] W (CodesPost W l) := by
  unfold unitV
  obtain ⟨i0, hi0, hz0, hz1, hz2⟩ := info_parts info_code
  have H := Lib.hid h
  have HRD := Lib.hid hr
  have HSZ := Lib.hid hsz
  clear h hr hsz
  go_enter Try.func52, Try.ntmps52
  go_upto_region 2 with fail
  have hN := Whole.new W 28 [.int .i64 pages, .int .i64 most, .slice A n c]
  have hal : Chg [] W (W.alloc (.cells #[.int .i64 pages, .int .i64 most, .slice A n c] 28)) := (Chg.refl [] W).alloc _
  have c2 := hN.cell 2
  have HC := Lib.hid hal
  obtain ⟨g, hg⟩ : ∃ g, g = W.heap.size := ⟨_, rfl⟩
  rw [← hg] at c2 ⊢
  have HG := Lib.hid (show W.heap.size = g from hg.symm)
  generalize W.alloc (.cells #[.int .i64 pages, .int .i64 most, .slice A n c] 28) = w1 at c2 HC ⊢
  clear hN hal hg
  go_wp2_with fail
  go_loopw [3, 13] (fun v i wr => ∃ k : Nat, i = .int .i64 (k : Int) ∧ k ≤ n ∧ ∃ xs : List CdV, ∃ m : Nat, m = k ∧ Hid (m = xs.length) ∧ wr.ownsRow g 170 3 v m (cdCs xs) ∧ Hid (Cdx wr xs) ∧ Hid (xs.map (·.c) = (l.take k).map codeOf) ∧ Hid (Chg [] W wr)) (fun _ i _ => n - (intOf i).toNat)
  case atStart => exact ⟨0, rfl, by omega, [], 0, rfl, Lib.hid rfl, World.ownsRow_nil _ _ _ _, Lib.hid (Cdx.nil _), Lib.hid rfl, HC⟩
  case round =>
    obtain ⟨k, rfl, hk, xs, m, hm, HXL, hown, HX, HM, HCr⟩ := hrel
    obtain rfl : k = m := hm.symm
    clear hm
    obtain ⟨Av, cv, rfl, _⟩ := rown_slice hown
    have HOW := Lib.hid hown
    clear hown
    by_cases hkn : k < n
    · have hkI : (k : Int) < (n : Int) := by omega
      obtain ⟨t, htk⟩ : ∃ t, l[k]? = some t := ⟨l[k]'(by rw [H.out.len]; exact hkn), by simp⟩
      have hmem : t ∈ l := List.mem_of_getElem? htk
      obtain ⟨ha0, ts, R, htok, hnest⟩ := HRD.out t hmem
      have hcs := HSZ.out t hmem
      have HT := Lib.hid htk
      have HTK := Lib.hid htok
      have HNE := Lib.hid hnest
      obtain ⟨fb, fo, rfl, hfbl, e0, e1, e2⟩ := (H.out.keep HCr.out).cell htk
      obtain ⟨tn, ta, tc⟩ := t
      simp only at e0 e1 e2 ha0 hcs htok
      have ha : (ta.toNat : Int) = ta := Int.toNat_of_nonneg ha0
      have HA := Lib.hid ha
      clear htk hmem htok hnest ha ha0
      go_upto_region 5 with fail
      have hX := Whole.new wr 51 [.int .i32 tn, .int .i64 ta, .string tc]
      have x1 := hX.cell 1
      have x2 := hX.cell 2
      have hc2 := (Chg.refl [] wr).alloc (.cells #[.int .i32 tn, .int .i64 ta, .string tc] 51)
      have HC2 := Lib.hid hc2
      have HO2 := Lib.hid (rown_keep HOW.out hc2)
      generalize wr.heap.size = gx at x1 x2 ⊢
      generalize wr.alloc (.cells #[.int .i32 tn, .int .i64 ta, .string tc] 51) = w3 at x1 x2 HC2 HO2 ⊢
      clear hX e0 e1 e2 hfbl hc2
      go_wp2_with fail
      refine (gtokens_any tc (by omega)).mono ?_
      rintro e w4 ⟨hc4, ⟨ts', tv, ht', htl, rfl, ho4⟩ | ⟨hno, _⟩⟩
      rotate_left
      · have := HTK.out; rw [this] at hno; cases hno
      obtain rfl : ts = ts' := by have := HTK.out; rw [this] at ht'; injection ht'
      obtain ⟨At, ct, rfl, hTk⟩ := Tks.of_own ho4 (by omega)
      have HO4 := Lib.hid (own_more_n ho4 (Nat.zero_le _))
      have HC4 := Lib.hid (HC2.out.new hc4)
      have y1 := cell_keep x1 hc4
      have HTS := Lib.hid hTk
      have HTL := Lib.hid htl
      clear hc4 x1 x2 ho4 hTk ht'
      go_wp2_with fail
      refine (nof_any HTS.out).mono ?_
      rintro e w5 ⟨hc5, ⟨tl, dd, gt, hto, htol, rfl, hW⟩ | ⟨hno, _⟩⟩
      rotate_left
      · rw [nest_same, HNE.out] at hno; cases hno
      have hRe : R.1 = tl := by rw [nest_same, HNE.out] at hto; injection hto with hto; rw [hto]
      have HW5 := Lib.hid hW
      have z1 := cell_keep y1 hc5
      have HC5 := Lib.hid (HC4.out.new hc5)
      have HO5 := Lib.hid (rown_keep HO4.out hc5)
      obtain ⟨N, hN⟩ : ∃ N, N = ts.length := ⟨_, rfl⟩
      rw [← hN] at HO5 htol htl ⊢
      have HTOK5 := Lib.hid (show w5.ownsRow 0 167 3 (.slice At N ct) N (tkCs ts) from HO5.out)
      obtain ⟨x, hx⟩ : ∃ x : CdV, x = ⟨⟨ta.toNat, ts, tl⟩, .slice At N ct, .slice (some ⟨gt, 0, none⟩) N N⟩ := ⟨_, rfl⟩
      have HCX := Lib.hid (show cdC x = [.int .i64 ta, .slice At N ct, .slice (some ⟨gt, 0, none⟩) N N] from by rw [hx]; simp only [cdC]; rw [HA.out])
      have HGO5 := Lib.hid (show w5.ownsRow 0 3 1 (.slice (some ⟨gt, 0, none⟩) N N) N (nms tl) from by
        have := own_of_whole (B := 0) (n := N) (c := N) HW5.out (Nat.zero_le _) (by rw [nms_len]; exact htol) (Nat.le_refl _) (by unfold maxLen; omega)
        rwa [List.take_of_length_le (by rw [nms_len]; omega)] at this)
      have HXC := Lib.hid (show x.c = codeOf ⟨tn, ta, tc⟩ from by rw [hx, codeOf_is HTK.out HNE.out, hRe])
      have HXX := Lib.hid (show w5.ownsRow 0 167 3 x.tv x.c.ts.length (tkCs x.c.ts) ∧ w5.ownsRow 0 3 1 x.gv x.c.go.length (nms x.c.go) ∧ (x.c.ts.length ≤ 512 ∧ x.c.go.length = x.c.ts.length) from by
        rw [hx]
        refine ⟨by rw [← hN]; exact HTOK5.out, by rw [htol]; exact HGO5.out, by rw [← hN]; exact htl, by rw [htol, hN]⟩)
      clear hc5 y1 hW hto hRe hN hx htol htl HO4 HTOK5 HGO5 HO5 HW5 HTS
      have hal : Chg [] w5 (w5.alloc (.cells #[.int .i64 ta, .slice At N ct, .slice (some ⟨gt, 0, none⟩) N N] 170)) := (Chg.refl [] w5).alloc _
      have hc35 : Chg [] wr w5 := HC5.out
      have HO6 := Lib.hid (rown_keep (rown_keep HOW.out hc35) hal)
      have HBZ := Lib.hid (show g ≤ (w5.alloc (.cells #[.int .i64 ta, .slice At N ct, .slice (some ⟨gt, 0, none⟩) N N] 170)).heap.size from by have := HG.out; have h1 := (HCr.out.new hc35).size; have h2 := hal.size; omega)
      have HAL := Lib.hid hal
      clear hal hc35
      go_wp2_with (at_builtin
                   refine wpList_append_own _ rfl (.tmp 28) (.tmp 34) _ rfl g 170 i0 _ 3 56 Try.underlying100 hi0 hz0 hz1 hz2 rfl (by decide) (.slice Av k cv) k (cdCs xs) rfl HO6.out ⟨w5.heap.size, 0, none⟩ 1 1 [.int .i64 ta, .slice At N ct, .slice (some ⟨gt, 0, none⟩) N N] rfl rfl (cells_new _ _ _) (by simp [Value.oneCell']) (by simp only [maxLen]; omega) (by omega) HBZ.out ?_
                   intro v' w6 ho hg _
                   have HO7 := Lib.hid ho
                   have HG7 := Lib.hid hg
                   obtain ⟨A7, c7, rfl, _⟩ := rown_slice ho
                   clear ho hg)
      go_roundw
      case rel =>
        have hcx := (HX.out.keep (HC5.out)).cons HXX.out.1 HXX.out.2.1 HXX.out.2.2
        refine ⟨k + 1, by go_num, by omega, xs ++ [x], k + 1, rfl, Lib.hid (by rw [List.length_append, List.length_singleton, ← HXL.out]), ?_, Lib.hid ((hcx.keep HAL.out).grown HO6.out HG7.out), Lib.hid ?_, Lib.hid ?_⟩
        · rw [cdCs_app, cdCs_one, HCX.out]; exact HO7.out
        · rw [List.map_append, HM.out, List.take_succ_eq_append_getElem (by rw [H.out.len]; exact hkn), List.map_append]
          congr 1
          have := HT.out
          simp only [List.map_cons, List.map_nil]
          rw [HXC.out]
          congr 2
          rw [List.getElem?_eq_getElem (by rw [H.out.len]; exact hkn)] at this
          injection this with this
          exact this.symm
        · exact chg_grown ((HCr.out.new HC5.out).new HAL.out) HG7.out fun q hq => by have := (HO6.out.lt q hq).1; have := HG.out; omega
      case measure => simp [intOf]; omega
    · have hkI : (n : Int) ≤ (k : Int) := by omega
      have HP := Lib.hid (show CodesPost W l (.returned (.slice Av k cv)) wr from ⟨_, xs, rfl, by rw [← HXL.out, HG.out]; exact HOW.out, HX.out, by rw [HM.out, List.take_of_length_le (by rw [H.out.len]; omega)], HCr.out⟩)
      go_wp2_with fail
      go_ret
      exact HP.out
end
end Go.Proofs.Ytfhgnoajfipjdaa
