/-
  PB: GlTok, WkFunc.
-/
import Derived.Test.YtbkfhndmeljlcaaGreatDoorZPB15
import Derived.Test.YtbkfhndmeljlcaaGreatDoorZPB17
import Derived.Test.YtbkfhndmeljlcaaGreatDoorZPB26
namespace Go.Proofs.YtbkfhndmeljlcaaGreatDoor
open Go.RowKit
theorem gRun_next {rs : List Nat} {r : Nat} {ys ys' : List TkV} {ph ph' : GPh} (h : gTake ys ph r = some (ys', ph')) : gRun (r :: rs) ys ph = gRun rs ys' ph' := by rw [gRun, h]
theorem gRun_stop {rs : List Nat} {r : Nat} {ys : List TkV} {ph : GPh} (h : gTake ys ph r = none) : gRun (r :: rs) ys ph = none := by rw [gRun, h]
theorem rown_apart {w w' : World} {B n k : Nat} {e : TypeId} {v : Value} {xs : List Value} {T : List Nat} (h : w.ownsRow B e k v n xs) (hc : Chg T w w') (hT : ∀ g, v.ownBlock = some g → g ∉ T) : w'.ownsRow B e k v n xs := by
  refine ⟨h.1, ?_⟩
  rcases h.2 with h1 | ⟨g, cap, cur, rfl, hb, hg, r⟩
  · exact .inl h1
  · refine .inr ⟨g, cap, cur, rfl, hb, ?_, r⟩
    have hlt : g < w.heap.size := by
      rcases Nat.lt_or_ge g w.heap.size with h | h
      · exact h
      · rw [Array.getElem?_eq_none h] at hg; cases hg
    exact (hc.block g hlt (hT g rfl)).trans hg
theorem own_not_iter {w : World} {B n k b : Nat} {e : TypeId} {v : Value} {xs : List Value} {s : ByteArray} {pos : Nat} (h : w.ownsRow B e k v n xs) (hb : w.heap[b]? = some (.stringIter s pos)) : v.ownBlock ≠ some b := by
  intro hv
  rcases h.2 with ⟨rfl, _⟩ | ⟨g, cap, cur, rfl, _, hg, _⟩
  · simp [Value.ownBlock] at hv
  · simp [Value.ownBlock] at hv
    subst hv
    rw [hg] at hb
    injection hb with hb
    cases hb
theorem Gl.chg {W W' : World} {g : Nat} {v : Value} {ys : List TkV} {ph : GPh} {T : List Nat} (h : Gl W g v ys ph) (hc : Chg T W W') (hg : g ∉ T) (hv : ∀ b, v.ownBlock = some b → b ∉ T) : Gl W' g v ys ph := ⟨h.rec_.chg hc hg, rown_apart h.own hc hv, h.few, h.big⟩
section
variable {w : World}
set_option maxHeartbeats 4000000 in
set_option maxRecDepth 100000 in
theorem gtokens_any (s : ByteArray) (hs : s.size ≤ 9223372036854775807) : Calls Tryz.prog 58 #[.string s] w (TokPost s w) := by
  by_cases hlong : 512 < s.size
  · have hlI : (512 : Int) < (s.size : Int) := by omega
    have HPO := Lib.hid (show TokPost s w (.returned (.tuple #[.slice none 0 0, .int .i64 3])) w from ⟨Chg.refl _ _, .inr ⟨by unfold tokR; rw [if_pos hlong], by unfold tokE; rw [if_pos hlong]⟩⟩)
    go_enter Tryz.func58, Tryz.ntmps58
    go_wp2_with fail
    go_ret2
    exact HPO.out
  have hlI : ¬ (512 : Int) < (s.size : Int) := by omega
  have HRT := Lib.hid (gRun_is s hlong)
  have HE := Lib.hid (show tokE s = 12 from by unfold tokE; rw [if_neg hlong])
  have hsz : s.size ≤ 512 := by omega
  clear hlong
  go_enter Tryz.func58, Tryz.ntmps58
  go_upto_region 5 with fail
  have hr1 := Whole.new w 132 [.slice none 0 0, .bool false, .bool false]
  have hc1 := (Chg.refl [] w).alloc (.cells #[.slice none 0 0, .bool false, .bool false] 132)
  have hz1 : (w.alloc (.cells #[.slice none 0 0, .bool false, .bool false] 132)).heap.size = w.heap.size + 1 := Array.size_push _
  obtain ⟨g, hg⟩ : ∃ g, g = w.heap.size := ⟨_, rfl⟩
  rw [← hg] at hr1 hz1 ⊢
  generalize w.alloc (.cells #[.slice none 0 0, .bool false, .bool false] 132) = w1 at hr1 hc1 hz1 ⊢
  have hI : (w1.iter s 0).heap[w1.heap.size]? = some (.stringIter s 0) := World.iter_heap w1 s 0
  have hc0 : Chg [] w1 (w1.iter s 0) := (Chg.refl [] w1).alloc _
  rw [hz1] at hI
  obtain ⟨kI, hkI⟩ : ∃ k, k = g + 1 := ⟨_, rfl⟩
  have HK := Lib.hid (show g < kI from by omega)
  have HGW := Lib.hid (show w.heap.size = g from hg.symm)
  have HG1 := Lib.hid (show Gl (w1.iter s 0) g (.slice none 0 0) [] .idle from ⟨hr1.keep hc0, World.ownsRow_nil _ _ _ _, by simp, fun m e => by cases e⟩)
  rw [← hkI] at hI ⊢
  have HC0 := Lib.hid (hc1.new hc0)
  generalize w1.iter s 0 = w2 at hI hc0 HG1 HC0 ⊢
  have HI := Lib.hid hI
  clear hI hc0 hkI hr1 hc1 hz1 hg
  go_loopw [6] (fun _ wr => (∃ (pos f : Nat) (v : Value) (ys : List TkV) (ph : GPh), Hid (wr.heap[kI]? = some (.stringIter s pos)) ∧ s.size - pos ≤ f ∧ Hid (Gl wr g v ys ph) ∧ Hid (tokR s = gRun (runesAt s f pos) ys ph) ∧ ys.length + (pend ph).length + f ≤ s.size) ∧ Hid (Chg [] w wr)) (fun _ wr => s.size - wr.iterPos kI)
  case atStart => exact ⟨⟨0, s.size, _, _, _, HI, by omega, HG1, Lib.hid (by rw [HRT.out]; rfl), by simp [pend]⟩, HC0⟩
  case round =>
    obtain ⟨⟨pos, f, v, ys, ph, HIr, hf, HG, HR, hyl⟩, HC⟩ := hrel
    by_cases hlt : pos < s.size
    · obtain ⟨f', rfl⟩ : ∃ f', f = f' + 1 := ⟨f - 1, by omega⟩
      have hnx := fun ty => Lib.run_next_any_at (P := Tryz.prog) wr kI s pos ty HIr.out hlt
      go_upto_region 7 with fail
      obtain ⟨d, hd⟩ : ∃ d, d = (Utf8.decode s pos).2 := ⟨_, rfl⟩
      obtain ⟨x, hx⟩ : ∃ r, r = (Utf8.decode s pos).1 := ⟨_, rfl⟩
      have hw := width_pos s pos hlt
      have hxm : x ≤ 2147483647 := by rw [hx]; exact decode_le s pos
      rw [← hd] at hw
      have HR2 := Lib.hid (show tokR s = gRun (x :: runesAt s f' (pos + d)) ys ph from by rw [HR.out, runesAt, if_pos hlt, ← hd, ← hx])
      have hci : Chg [kI] wr (wr.iterAt kI s (pos + d)) := ⟨rfl, rfl, rfl, by rw [Lib.iterAt_size]; exact Nat.le_refl _, fun i _ hn => Lib.iterAt_other wr kI i s (pos + d) (by simpa using hn)⟩
      have HI2 := Lib.hid (Lib.iterAt_heap wr kI s pos (pos + d) HIr.out)
      have HC2 := Lib.hid (show Chg [] w (wr.iterAt kI s (pos + d)) from HC.out.then_ hci (fun i hi hl => by have := HK.out; have := HGW.out; simp only [List.mem_cons, List.not_mem_nil, or_false] at hi; omega))
      have HG2 := Lib.hid (show Gl (wr.iterAt kI s (pos + d)) g v ys ph from HG.out.chg hci (by have := HK.out; simp; omega) (fun b hb => by
        have := own_not_iter HG.out.own HIr.out
        intro hm
        simp only [List.mem_cons, List.not_mem_nil, or_false] at hm
        subst hm
        exact this hb))
      rw [← hd, ← hx]
      have HMP := Lib.hid (show wr.iterPos kI = pos from by unfold World.iterPos; rw [HIr.out])
      have HP2 := Lib.hid (show (wr.iterAt kI s (pos + d)).iterPos kI = pos + d from by unfold World.iterPos; rw [HI2.out])
      generalize wr.iterAt kI s (pos + d) = w3 at HI2 HC2 HP2 HG2 ⊢
      clear hx hd hnx hci
      go_wp2_with fail
      refine (gtake_any HG2.out x hxm (by omega)).mono ?_
      rintro e w4 ⟨hfr, ho⟩
      have HI4 := Lib.hid (hfr.obj HI2.out (by intro _ _ _ h; cases h))
      have HP4 := Lib.hid (show w4.iterPos kI = pos + d from by unfold World.iterPos; rw [HI4.out])
      have HC4 := Lib.hid (show Chg [] w w4 from (Fr.chg (B := g) (TS := glT) ((Fr.of_chg HC2.out).trans hfr) (by have := HGW.out; omega)))
      clear hfr
      rcases ho with ⟨ho, rfl⟩ | ⟨ys', ph', v', ho, rfl, hG⟩
      · have HPO := Lib.hid (show TokPost s w (.returned (.tuple #[.slice none 0 0, .int .i64 12])) w4 from ⟨HC4.out, .inr ⟨by rw [HR2.out, gRun_stop ho], by rw [HE.out]⟩⟩)
        clear ho
        go_wp2_with fail
        go_ret2
        exact HPO.out
      · have hyl' : ys'.length + (pend ph').length + f' ≤ s.size := by have := gTake_len ho; omega
        have HR4 := Lib.hid (show tokR s = gRun (runesAt s f' (pos + d)) ys' ph' from by rw [HR2.out, gRun_next ho])
        have HG4 := Lib.hid hG
        clear ho hG
        go_wp2_with fail
        go_roundw
        case rel => exact ⟨⟨pos + d, f', v', ys', ph', HI4, by omega, HG4, HR4, hyl'⟩, HC4⟩
        case measure => rw [HP4.out, HMP.out]; omega
    · have hnx := fun ty => Lib.run_next_end_at (P := Tryz.prog) wr kI s pos ty HIr.out hlt
      have HRE := Lib.hid (show tokR s = gEnd ys ph from by
        rw [HR.out]
        cases f with
        | zero => simp [runesAt, gRun]
        | succ f => rw [runesAt, if_neg hlt, gRun])
      have c2 := HG.out.rec_.cell 2
      have c0 := HG.out.rec_.cell 0
      cases hwt : waits ph with
      | true =>
        have HPO := Lib.hid (show TokPost s w (.returned (.tuple #[.slice none 0 0, .int .i64 12])) wr from ⟨HC.out, .inr ⟨(by
          rw [HRE.out]
          cases ph with
          | wait q => rfl
          | num m => cases hwt
          | idle => cases hwt), by rw [HE.out]⟩⟩)
        rw [hwt] at c2
        clear hwt
        go_wp2_with fail
        go_ret2
        exact HPO.out
      | false =>
        have HPO := Lib.hid (show TokPost s w (.returned (.tuple #[v, .int .i64 0])) wr from ⟨HC.out, .inl ⟨ys ++ pend ph, v, (by
          rw [HRE.out]
          cases ph with
          | wait q => cases hwt
          | num m => rfl
          | idle => rw [pend, List.append_nil]; rfl), by rw [List.length_append]; omega, rfl, by
          have := HG.out.own
          rw [List.length_append]
          exact own_more_n this (by have := HGW.out; omega)⟩⟩)
        rw [hwt] at c2
        obtain ⟨A5, n5, c5, rfl, hn5⟩ := HG.out.slice
        clear hwt hn5
        go_wp2_with fail
        go_ret2
        exact HPO.out
end
end Go.Proofs.YtbkfhndmeljlcaaGreatDoor
namespace Go.Proofs.YtbkfhndmeljlcaaGreatDoor
open Go.RowKit
section
variable {A : Option Addr} {n c : Nat} {l : List FnV} {pages most : Int}
theorem Fr.whole' {B : Nat} {TS : List TypeId} {a b : World} (h : Fr B TS a b) {g t : Nat} {cs : List Value} (hW : Whole a g t cs) (ht : TS.contains t = false) : Whole b g t cs := h.whole hW (by simpa using ht)
set_option maxHeartbeats 16000000 in
set_option maxRecDepth 100000 in
theorem cfunc_big {w : World} (hF : Fnr w A n c l) (hcode : ∀ f ∈ l, f.code.size ≤ 9223372036854775807) (k : Int) : Calls Tryz.prog 83 #[unitV pages most A n c, .int .i64 k] w (FnPost (rFn l k) w) := by
  unfold unitV
  obtain ⟨i0, hi0, hz0, hz1, hz2⟩ := info_parts info_int
  obtain ⟨R, hR⟩ : ∃ R, R = rFn l k := ⟨_, rfl⟩
  rw [← hR]
  unfold rFn at hR
  rw [hF.len] at hR
  have HR := Lib.hid hR
  have H := Lib.hid hF
  have hmax := hF.max
  clear hF hR
  go_enter Tryz.func83, Tryz.ntmps83
  go_upto_region 1 with fail
  have hN := Whole.new w 24 [.int .i64 pages, .int .i64 most, .slice A n c]
  have hal : Chg [] w (w.alloc (.cells #[.int .i64 pages, .int .i64 most, .slice A n c] 24)) := (Chg.refl [] w).alloc _
  have HF1 := Lib.hid (H.out.keep hal)
  have HU1 := Lib.hid hN
  have HC1 := Lib.hid hal
  have HBW := Lib.hid (show w.heap.size ≤ w.heap.size from Nat.le_refl _)
  obtain ⟨gu, hgu⟩ : ∃ g, g = w.heap.size := ⟨_, rfl⟩
  rw [← hgu] at HU1 ⊢
  generalize w.alloc (.cells #[.int .i64 pages, .int .i64 most, .slice A n c] 24) = w1 at HF1 HU1 HC1 ⊢
  clear hN hal hgu
  have u2 := HU1.out.cell 2
  by_cases hk0 : k < 0
  · have qk : decide (k < 0) = true := by simpa using hk0
    have HP := Lib.hid (show FnPost R w (.returned (.tuple #[.slice none 0 0, .int .i64 23])) w1 from fn_no 23 (by rw [HR.out, if_pos (.inl hk0)]) HC1.out)
    clear hk0
    go_wp2_with fail
    go_ret2
    exact HP.out
  have qk : decide (k < 0) = false := by simpa using hk0
  by_cases hkn : (n : Int) ≤ k
  · have qn : decide ((n : Int) ≤ k) = true := by simpa using hkn
    have HP := Lib.hid (show FnPost R w (.returned (.tuple #[.slice none 0 0, .int .i64 23])) w1 from fn_no 23 (by rw [HR.out, if_pos (.inr hkn)]) HC1.out)
    clear hkn hk0
    go_wp2_with fail
    go_ret2
    exact HP.out
  have qn : decide ((n : Int) ≤ k) = false := by simpa using hkn
  obtain ⟨q, rfl⟩ : ∃ q : Nat, k = (q : Int) := ⟨k.toNat, by omega⟩
  have hqn : q < n := by omega
  obtain ⟨f, hfk⟩ : ∃ f, l[q]? = some f := ⟨l[q]'(by rw [HF1.out.len]; exact hqn), by simp⟩
  have HR1 := Lib.hid (show R = rFunc l f.code from by rw [HR.out, if_neg (by omega), show ((q : Int)).toNat = q from rfl, hfk])
  have hcd := hcode f (List.mem_of_getElem? hfk)
  obtain ⟨fb, fo, rfl, hfbl, e0, e1, e2⟩ := HF1.out.cell hfk
  have hqI : (q : Int) < (n : Int) := by omega
  clear hfk hk0 hkn hcode e0 e1 HR
  go_wp2_with fail
  refine (gtokens_any f.code (by omega)).mono ?_
  rintro e w2 ⟨hc2, hT⟩
  have HC2 := Lib.hid (HC1.out.new hc2)
  have HF2 := Lib.hid (HF1.out.keep hc2)
  have HU2 := Lib.hid (HU1.out.keep hc2)
  clear u2 e2 hfbl
  rcases hT with ⟨ts, v2, hts, htl, rfl, ho2⟩ | ⟨hts, rfl⟩
  rotate_left
  · have hE : tokE f.code = 3 ∨ tokE f.code = 12 := by unfold tokE; split <;> simp
    have HP := Lib.hid (show FnPost R w (.returned (.tuple #[.slice none 0 0, .int .i64 (tokE f.code)])) w2 from fn_no _ (by rw [HR1.out, rFunc, hts]) HC2.out)
    clear hts hc2
    generalize tokE f.code = te at hE HP ⊢
    have qe : (te != 0) = true := by simp; omega
    clear hE
    go_wp2_with fail
    go_ret2
    exact HP.out
  obtain ⟨TA, tc, rfl, hTk⟩ := Tks.of_own ho2 (by omega)
  have HT2 := Lib.hid hTk
  have HR2 := Lib.hid (show R = match rNest (signs ts) with | none => (13, []) | some _ => rWalk l ts 0 [] [] from by rw [HR1.out, rFunc, hts]; rfl)
  clear hts hc2 ho2 hTk HR1
  obtain ⟨tn, htn⟩ : ∃ tn, tn = ts.length := ⟨_, rfl⟩
  rw [← htn] at HT2 htl ⊢
  have HTN := Lib.hid htn
  clear htn
  go_wp2_with fail
  refine (nof_any HT2.out).mono ?_
  rintro e w3 ⟨hc3, hT⟩
  have HC3 := Lib.hid (HC2.out.new hc3)
  have HF3 := Lib.hid (HF2.out.keep hc3)
  have HU3 := Lib.hid (HU2.out.keep hc3)
  have HT3 := Lib.hid (HT2.out.keep hc3)
  clear hc3
  rw [nest_same] at hT
  rcases hT with ⟨t3, d3, g3, hn3, _, rfl, _⟩ | ⟨hn3, rfl⟩
  rotate_left
  · have HP := Lib.hid (show FnPost R w (.returned (.tuple #[.slice none 0 0, .int .i64 13])) w3 from fn_no 13 (by rw [HR2.out, hn3]) HC3.out)
    clear hn3
    go_wp2_with fail
    go_ret2
    exact HP.out
  have HR3 := Lib.hid (show R = rWalk l ts 0 [] [] from by rw [HR2.out, hn3])
  have HD := Lib.hid (sOk_nest hn3)
  clear hn3
  have hN4 := Whole.new w3 145 [.int .i64 0, .slice none 0 0]
  have hal4 : Chg [] w3 (w3.alloc (.cells #[.int .i64 0, .slice none 0 0] 145)) := (Chg.refl [] w3).alloc _
  have hsz4 : (w3.alloc (.cells #[.int .i64 0, .slice none 0 0] 145)).heap.size = w3.heap.size + 1 := Array.size_push _
  go_upto_region 10 with fail
  have HC4 := Lib.hid (HC3.out.new hal4)
  have HGS := Lib.hid (show w.heap.size ≤ w3.heap.size from HC3.out.size)
  generalize w3.alloc (.cells #[.int .i64 0, .slice none 0 0] 145) = w4 at hN4 hal4 hsz4 HC4 ⊢
  have HC34 := Lib.hid hal4
  obtain ⟨gs, hgs⟩ : ∃ g, g = w3.heap.size := ⟨_, rfl⟩
  rw [← hgs] at hN4 hsz4 HGS ⊢
  have HW4 := Lib.hid (show Wk w4 gs 0 (.slice none 0 0) [] from ⟨hN4, World.ownsRow_nil _ _ _ _, by simp, by omega, fun b hb => by simp at hb⟩)
  have HG3 := Lib.hid hgs
  have HZ4 := Lib.hid hsz4
  clear hN4 hal4 hsz4 hgs HC3 HC2 HF2 HU2 HT2 HC1 HF1 HU1
  have HTL := Lib.hid htl
  have hmk : ∀ W : World, (Instr.makeSlice 26 (.int .i64 0) (.int .i64 (tn : Int))).run Tryz.prog W = .ok (.slice (some ⟨W.heap.size, 0, none⟩) 0 tn) (W.alloc (.cells (List.replicate tn (.int .i64 0)).toArray 3)) := fun W =>
    run_make0 (P := Tryz.prog) 26 3 i0 _ rfl Tryz.underlying26 hi0 hz0 hz1 tn (by rw [hz2]; omega) (by omega) W
  go_upto_region 12 with fail
  have hM := Whole.new w4 3 (List.replicate tn (.int .i64 0))
  have hal5 : Chg [] w4 (w4.alloc (.cells (List.replicate tn (.int .i64 0)).toArray 3)) := (Chg.refl [] w4).alloc _
  have HO4 := Lib.hid (show (w4.alloc (.cells (List.replicate tn (.int .i64 0)).toArray 3)).ownsRow (gs + 1) 3 1 (.slice (some ⟨w4.heap.size, 0, none⟩) 0 tn) 0 (nms []) from by
    have h := own_of_whole (n := 0) hM (show gs + 1 ≤ w4.heap.size from by have := HZ4.out; omega) (by simp) (Nat.zero_le tn) (by unfold maxLen; omega)
    simpa [nms] using h)
  have HW5 := Lib.hid (HW4.out.keep hal5)
  have HC5' := Lib.hid (HC4.out.new hal5)
  have HC35 := Lib.hid (HC34.out.new hal5)
  rw [show (List.replicate tn (Value.int .i64 0)).toArray = Array.replicate tn (Value.int .i64 0) from by simp] at HO4 HW5 HC5' HC35
  generalize w4.heap.size = gm at HO4 ⊢
  generalize w4.alloc (.cells (Array.replicate tn (.int .i64 0)) 3) = w5' at HO4 HW5 HC5' HC35 ⊢
  clear hM hal5 hmk HW4 HC4 HC34
  go_loopw [9, 47] (fun v i wr => ∃ (j : Nat) (h : Int) (bs : List BkV) (vo : Value) (out : List Int), i = .int .i64 (j : Int) ∧ j ≤ tn ∧ Hid (Wk wr gs h vo bs) ∧ Hid (wr.ownsRow (gs + 1) 3 1 v j (nms out)) ∧
    Hid (SOk (signs (ts.drop j)) (bs.map (·.sign))) ∧ Hid (Bas h bs) ∧ Hid (bs.length ≤ 16) ∧ Hid (R = rWalk l (ts.drop j) h bs out) ∧ Hid (Chg [] w wr) ∧ Hid (Chg [] w3 wr)) (fun _ i _ => tn - (intOf i).toNat)
  case atStart => exact ⟨0, 0, [], _, [], rfl, by omega, HW5, HO4, HD, Lib.hid ⟨by simp, fun x hx => by simp at hx, fun _ x hx => by simp at hx⟩, Lib.hid (by simp), HR3, HC5', HC35⟩
  case round =>
    obtain ⟨j, h, bs, vo, out, rfl, hj, HS, HO, HDR, HBA, HB16, HRW, HC, HCW⟩ := hrel
    obtain ⟨AO, co, rfl, _⟩ := own_slice HO.out
    by_cases hjn : j < tn
    · have hjI : (j : Int) < (tn : Int) := by omega
      obtain ⟨t, htj⟩ : ∃ t, ts[j]? = some t := ⟨ts[j]'(by rw [← HTN.out]; exact hjn), by simp⟩
      have HDJ := Lib.hid (show ts.drop j = t :: ts.drop (j + 1) from List.drop_eq_getElem?_toList_append.trans (by rw [htj]; rfl))
      have HTr := Lib.hid (HT3.out.keep HCW.out)
      obtain ⟨b, o, rfl, hbl, t0, t1, t2⟩ := HTr.out.cell htj
      clear htj
      go_upto_region 14 with fail
      have hal5 : Chg [] wr (wr.alloc (.cells #[.int .i32 t.sign, .int .i64 t.n, .int .i32 t.name] 110)) := (Chg.refl [] wr).alloc _
      have HT5 := Lib.hid (Whole.new wr 110 [.int .i32 t.sign, .int .i64 t.n, .int .i32 t.name])
      have HS5 := Lib.hid (HS.out.keep hal5)
      have HO5 := Lib.hid (rown_keep HO.out hal5)
      have HU5 := Lib.hid (HU3.out.keep (HCW.out.new hal5))
      have HC5 := Lib.hid (HC.out.new hal5)
      have HCW5 := Lib.hid (HCW.out.new hal5)
      obtain ⟨gt, hgt⟩ : ∃ g, g = wr.heap.size := ⟨_, rfl⟩
      rw [← hgt] at HT5 ⊢
      generalize wr.alloc (.cells #[.int .i32 t.sign, .int .i64 t.n, .int .i32 t.name] 110) = w5 at hal5 HT5 HS5 HO5 HU5 HC5 HCW5 ⊢
      clear hal5 hgt t0 t1 t2 hbl HTr HC HCW HO HS
      have c0 := HS5.out.rec_.cell 0
      have HAL := Lib.hid (show Chg [] w5 (w5.alloc (.cells #[.int .i64 h] 3)) from (Chg.refl [] w5).alloc _)
      have HO6 := Lib.hid (rown_keep HO5.out HAL.out)
      have HRM := Lib.hid (show gs + 1 ≤ (w5.alloc (.cells #[.int .i64 h] 3)).heap.size from by have := HAL.out.size; have := HS5.out.rec_.lt; omega)
      have hjb := HTL.out
      clear htl
      have HDD := Lib.hid (show TopS t.sign (bs.map (·.sign)) ∧ SOk (signs (ts.drop (j + 1))) (sNext t.sign (bs.map (·.sign))) from by have := HDR.out; rw [HDJ.out] at this; exact this)
      obtain ⟨RT, hRT⟩ : ∃ RT, RT = rTok l h bs t.sign t.name := ⟨_, rfl⟩
      have HRW2 := Lib.hid (show R = if RT.1 = 0 then rWalk l (ts.drop (j + 1)) RT.2.1 RT.2.2 (out ++ [h]) else (RT.1, []) from by rw [HRW.out, HDJ.out, rWalk_next, hRT])
      have HLN := Lib.hid (show RT.1 = 0 → Bas RT.2.1 RT.2.2 ∧ RT.2.2.map (·.sign) = sNext t.sign (bs.map (·.sign)) from fun he => by rw [hRT] at he ⊢; exact rTok_ok HBA.out (fun x hx => (HS5.out.rb x hx).1) HS5.out.hr he)
      have HRT := Lib.hid hRT
      clear hRT
      go_wp2_with (at_builtin
                   refine wpList_append_own _ rfl (.tmp 51) (.tmp 54) _ rfl (gs + 1) 3 i0 _ 1 8 Tryz.underlying26 hi0 hz0 hz1 hz2 rfl (by decide) (.slice AO j co) j (nms out) rfl HO6.out ⟨w5.heap.size, 0, none⟩ 1 1 [.int .i64 h] rfl rfl (cells_page _ _ _) (by simp [Value.oneCell']) (by simp only [maxLen]; omega) (by omega) HRM.out ?_
                   intro v' w6 ho6 hg6 _
                   obtain ⟨A6, c6, rfl, _⟩ := own_slice ho6
                   have HO7 := Lib.hid ho6
                   have HG7 := Lib.hid hg6
                   have HU6 := Lib.hid (whole_grown (HU5.out.keep HAL.out) HO6.out (by decide) hg6)
                   have HT6 := Lib.hid (whole_grown (HT5.out.keep HAL.out) HO6.out (by decide) hg6)
                   have HC6 := Lib.hid (show Chg [] w w6 from chg_grown2 (HC5.out.new HAL.out) hg6 (fun g hg => by have := (HO6.out.lt g hg).1; have := HGS.out; omega))
                   have HCW6 := Lib.hid (show Chg [] w3 w6 from chg_grown2 (HCW5.out.new HAL.out) hg6 (fun g hg => by have := (HO6.out.lt g hg).1; have := HG3.out; omega))
                   have HS7 := Lib.hid (show Wk w6 gs h vo bs from ⟨whole_grown (HS5.out.keep HAL.out).rec_ HO6.out (by decide) HG7.out, rown_grown (HS5.out.keep HAL.out).own HO6.out (by decide) HG7.out, HS5.out.few, HS5.out.hr, HS5.out.rb⟩)
                   have u0 := HU6.out.cell 0
                   have u1 := HU6.out.cell 1
                   have u2 := HU6.out.cell 2
                   have t0 := HT6.out.cell 0
                   have t1 := HT6.out.cell 1
                   have t2 := HT6.out.cell 2
                   clear ho6 hg6)
      have HTK := Lib.hid (wstep_any (pages := pages) (most := most) HS7.out (HF3.out.keep HCW6.out) t HBA.out (topS_top HDD.out.1) (by have := HB16.out; omega))
      rw [← HRT.out] at HTK
      refine HTK.out.mono ?_
      rintro e w7 ⟨hfr, rfl, hS8⟩
      have HC7 := Lib.hid (show Chg [] w w7 from ((Fr.of_chg HC6.out).trans (hfr.sub HGS.out (fun _ h => h))).chg (Nat.le_refl _))
      have HCW7 := Lib.hid (show Chg [] w3 w7 from ((Fr.of_chg HCW6.out).trans (hfr.sub (show w3.heap.size ≤ gs from by have := HG3.out; omega) (fun _ h => h))).chg (Nat.le_refl _))
      have HO8 := Lib.hid (hfr.own HO7.out (by decide))
      have HU8 := Lib.hid (hfr.whole' HU6.out (by decide))
      clear hfr u0 u1 u2 t0 t1 t2 c0
      by_cases her : RT.1 = 0
      · obtain ⟨vo8, hS9⟩ := hS8 her
        have HS9 := Lib.hid hS9
        have HR9 := Lib.hid (HRW2.out.trans (if_pos her))
        have HD9 := Lib.hid (show SOk (signs (ts.drop (j + 1))) (RT.2.2.map (·.sign)) from by rw [(HLN.out her).2]; exact HDD.out.2)
        have HBA9 := Lib.hid (HLN.out her).1
        have HB9 := Lib.hid (show RT.2.2.length ≤ 16 from by
          have h1 := congrArg List.length (HLN.out her).2
          rw [List.length_map] at h1
          rw [h1]
          have h2 := HDD.out.1
          have h3 := HB16.out
          unfold sNext
          split
          · rename_i hs; have := h2.2.2.2.2 hs; simp at this ⊢; omega
          · split
            · rename_i hs
              obtain ⟨y, hy⟩ := h2.1 hs
              have h4 := congrArg List.length hy
              simp at h4 ⊢
              omega
            · split
              · simp; omega
              · simp; exact h3)
        rw [her]
        clear hS8 hS9 her
        go_wp2_with fail
        go_roundw
        case rel => exact ⟨j + 1, RT.2.1, RT.2.2, vo8, out ++ [h], by go_num, by omega, HS9, Lib.hid (by have := HO8.out; simpa [nms] using this), HD9, HBA9, HB9, HR9, HC7, HCW7⟩
        case measure => simp [intOf]; omega
      · have qe : (RT.1 != 0) = true := by simpa using her
        have HP := Lib.hid (show FnPost R w (.returned (.tuple #[.slice none 0 0, .int .i64 RT.1])) w7 from fn_no _ (HRW2.out.trans (if_neg her)) HC7.out)
        clear hS8 her
        go_wp2_with fail
        go_ret2
        exact HP.out
    · have hjI : (tn : Int) ≤ (j : Int) := by omega
      have HRZ := Lib.hid (show R = if h ≠ 1 ∧ 0 ≤ h then (14, []) else (0, out) from by rw [HRW.out, List.drop_eq_nil_of_le (by rw [← HTN.out]; omega), rWalk])
      have c0 := HS.out.rec_.cell 0
      have hhr := HS.out.hr
      have HOW := Lib.hid (own_more_n HO.out (show w.heap.size ≤ gs + 1 from by have := HGS.out; omega))
      have HJO := Lib.hid (show j = out.length from by have := HO.out.1; simpa [nms] using this.symm)
      by_cases h1 : h = 1
      · have q1 : (h != 1) = false := by simpa using h1
        have q2 : (h != -1) = true := by simp; omega
        have HP := Lib.hid (show FnPost R w (.returned (.tuple #[.slice AO j co, .int .i64 0])) wr from by
          rw [HRZ.out, if_neg (by omega)]
          exact ⟨_, rfl, by rw [← HJO.out]; exact HOW.out, HC.out⟩)
        clear h1
        go_wp2_with fail
        go_ret2
        exact HP.out
      · have q1 : (h != 1) = true := by simpa using h1
        by_cases h0 : 0 ≤ h
        · have q0 : (h != -1) = true := by simp; omega
          have HP := Lib.hid (show FnPost R w (.returned (.tuple #[.slice none 0 0, .int .i64 14])) wr from fn_no 14 (by rw [HRZ.out, if_pos ⟨h1, h0⟩]) HC.out)
          clear h1 h0
          go_wp2_with fail
          go_ret2
          exact HP.out
        · have q0 : (h != -1) = false := by simp; omega
          have HP := Lib.hid (show FnPost R w (.returned (.tuple #[.slice AO j co, .int .i64 0])) wr from by
            rw [HRZ.out, if_neg (by omega)]
            exact ⟨_, rfl, by rw [← HJO.out]; exact HOW.out, HC.out⟩)
          clear h1 h0
          go_wp2_with fail
          go_ret2
          exact HP.out
end
end Go.Proofs.YtbkfhndmeljlcaaGreatDoor
