/-
  GL: GlTok.
-/
import Derived.Test.YtodbeeodhekpeaaDoorZGL30
namespace Go.Proofs.YtodbeeodhekpeaaDoor
open Go.RowKit
theorem gRun_next {rs : List Nat} {r : Nat} {ys ys' : List TkV} {ph ph' : GPh} (h : gTake ys ph r = some (ys', ph')) : gRun (r :: rs) ys ph = gRun rs ys' ph' := by rw [gRun, h]
theorem gRun_stop {rs : List Nat} {r : Nat} {ys : List TkV} {ph : GPh} (h : gTake ys ph r = none) : gRun (r :: rs) ys ph = none := by rw [gRun, h]
theorem rown_apart {w w' : World} {B n k : Nat} {e : TypeId} {v : Value} {xs : List Value} {T : List Nat} (h : w.ownsRow B e k v n xs) (hc : Chg T w w') (hT : ∀ g, v.ownBlock = some g → g ∉ T) : w'.ownsRow B e k v n xs := by
  refine ⟨h.1, ?_⟩
  rcases h.2 with h1 | ⟨g, cap, cur, rfl, hb, hg, r⟩
  · exact .inl h1
  · refine .inr ⟨g, cap, cur, rfl, hb, ?_, r⟩
    have hlt : g < w.heap.size := by
      rcases Nat.lt_or_ge g w.heap.size with h | h
      · exact h
      · rw [Array.getElem?_eq_none h] at hg; cases hg
    exact (hc.block g hlt (hT g rfl)).trans hg
theorem own_not_iter {w : World} {B n k b : Nat} {e : TypeId} {v : Value} {xs : List Value} {s : ByteArray} {pos : Nat} (h : w.ownsRow B e k v n xs) (hb : w.heap[b]? = some (.stringIter s pos)) : v.ownBlock ≠ some b := by
  intro hv
  rcases h.2 with ⟨rfl, _⟩ | ⟨g, cap, cur, rfl, _, hg, _⟩
  · simp [Value.ownBlock] at hv
  · simp [Value.ownBlock] at hv
    subst hv
    rw [hg] at hb
    injection hb with hb
    cases hb
theorem Gl.chg {W W' : World} {g : Nat} {v : Value} {ys : List TkV} {ph : GPh} {T : List Nat} (h : Gl W g v ys ph) (hc : Chg T W W') (hg : g ∉ T) (hv : ∀ b, v.ownBlock = some b → b ∉ T) : Gl W' g v ys ph := ⟨h.rec_.chg hc hg, rown_apart h.own hc hv, h.few, h.big⟩
section
variable {w : World}
set_option maxHeartbeats 4000000 in
set_option maxRecDepth 100000 in
theorem gtokens_any (s : ByteArray) (hs : s.size ≤ 9223372036854775807) : Calls Tryd.prog 19 #[.string s] w (TokPost s w) := by
  by_cases hlong : 512 < s.size
  · have hlI : (512 : Int) < (s.size : Int) := by omega
    have HPO := Lib.hid (show TokPost s w (.returned (.tuple #[.slice none 0 0, .int .i64 3])) w from ⟨Chg.refl _ _, .inr ⟨by unfold tokR; rw [if_pos hlong], by unfold tokE; rw [if_pos hlong]⟩⟩)
    go_enter Tryd.func19, Tryd.ntmps19
    go_wp2_with fail
    go_ret2
    exact HPO.out
  have hlI : ¬ (512 : Int) < (s.size : Int) := by omega
  have HRT := Lib.hid (gRun_is s hlong)
  have HE := Lib.hid (show tokE s = 12 from by unfold tokE; rw [if_neg hlong])
  have hsz : s.size ≤ 512 := by omega
  clear hlong
  go_enter Tryd.func19, Tryd.ntmps19
  go_upto_region 5 with fail
  have hr1 := Whole.new w 72 [.slice none 0 0, .bool false, .bool false]
  have hc1 := (Chg.refl [] w).alloc (.cells #[.slice none 0 0, .bool false, .bool false] 72)
  have hz1 : (w.alloc (.cells #[.slice none 0 0, .bool false, .bool false] 72)).heap.size = w.heap.size + 1 := Array.size_push _
  obtain ⟨g, hg⟩ : ∃ g, g = w.heap.size := ⟨_, rfl⟩
  rw [← hg] at hr1 hz1 ⊢
  generalize w.alloc (.cells #[.slice none 0 0, .bool false, .bool false] 72) = w1 at hr1 hc1 hz1 ⊢
  have hI : (w1.iter s 0).heap[w1.heap.size]? = some (.stringIter s 0) := World.iter_heap w1 s 0
  have hc0 : Chg [] w1 (w1.iter s 0) := (Chg.refl [] w1).alloc _
  rw [hz1] at hI
  obtain ⟨kI, hkI⟩ : ∃ k, k = g + 1 := ⟨_, rfl⟩
  have HK := Lib.hid (show g < kI from by omega)
  have HGW := Lib.hid (show w.heap.size = g from hg.symm)
  have HG1 := Lib.hid (show Gl (w1.iter s 0) g (.slice none 0 0) [] .idle from ⟨hr1.keep hc0, World.ownsRow_nil _ _ _ _, by simp, fun m e => by cases e⟩)
  rw [← hkI] at hI ⊢
  have HC0 := Lib.hid (hc1.new hc0)
  generalize w1.iter s 0 = w2 at hI hc0 HG1 HC0 ⊢
  have HI := Lib.hid hI
  clear hI hc0 hkI hr1 hc1 hz1 hg
  go_loopw [6] (fun _ wr => (∃ (pos f : Nat) (v : Value) (ys : List TkV) (ph : GPh), Hid (wr.heap[kI]? = some (.stringIter s pos)) ∧ s.size - pos ≤ f ∧ Hid (Gl wr g v ys ph) ∧ Hid (tokR s = gRun (runesAt s f pos) ys ph) ∧ ys.length + (pend ph).length + f ≤ s.size) ∧ Hid (Chg [] w wr)) (fun _ wr => s.size - wr.iterPos kI)
  case atStart => exact ⟨⟨0, s.size, _, _, _, HI, by omega, HG1, Lib.hid (by rw [HRT.out]; rfl), by simp [pend]⟩, HC0⟩
  case round =>
    obtain ⟨⟨pos, f, v, ys, ph, HIr, hf, HG, HR, hyl⟩, HC⟩ := hrel
    by_cases hlt : pos < s.size
    · obtain ⟨f', rfl⟩ : ∃ f', f = f' + 1 := ⟨f - 1, by omega⟩
      have hnx := fun ty => Lib.run_next_any_at (P := Tryd.prog) wr kI s pos ty HIr.out hlt
      go_upto_region 7 with fail
      obtain ⟨d, hd⟩ : ∃ d, d = (Utf8.decode s pos).2 := ⟨_, rfl⟩
      obtain ⟨x, hx⟩ : ∃ r, r = (Utf8.decode s pos).1 := ⟨_, rfl⟩
      have hw := width_pos s pos hlt
      have hxm : x ≤ 2147483647 := by rw [hx]; exact decode_le s pos
      rw [← hd] at hw
      have HR2 := Lib.hid (show tokR s = gRun (x :: runesAt s f' (pos + d)) ys ph from by rw [HR.out, runesAt, if_pos hlt, ← hd, ← hx])
      have hci : Chg [kI] wr (wr.iterAt kI s (pos + d)) := ⟨rfl, rfl, rfl, by rw [Lib.iterAt_size]; exact Nat.le_refl _, fun i _ hn => Lib.iterAt_other wr kI i s (pos + d) (by simpa using hn)⟩
      have HI2 := Lib.hid (Lib.iterAt_heap wr kI s pos (pos + d) HIr.out)
      have HC2 := Lib.hid (show Chg [] w (wr.iterAt kI s (pos + d)) from HC.out.then_ hci (fun i hi hl => by have := HK.out; have := HGW.out; simp only [List.mem_cons, List.not_mem_nil, or_false] at hi; omega))
      have HG2 := Lib.hid (show Gl (wr.iterAt kI s (pos + d)) g v ys ph from HG.out.chg hci (by have := HK.out; simp; omega) (fun b hb => by
        have := own_not_iter HG.out.own HIr.out
        intro hm
        simp only [List.mem_cons, List.not_mem_nil, or_false] at hm
        subst hm
        exact this hb))
      rw [← hd, ← hx]
      have HMP := Lib.hid (show wr.iterPos kI = pos from by unfold World.iterPos; rw [HIr.out])
      have HP2 := Lib.hid (show (wr.iterAt kI s (pos + d)).iterPos kI = pos + d from by unfold World.iterPos; rw [HI2.out])
      generalize wr.iterAt kI s (pos + d) = w3 at HI2 HC2 HP2 HG2 ⊢
      clear hx hd hnx hci
      go_wp2_with fail
      refine (gtake_any HG2.out x hxm (by omega)).mono ?_
      rintro e w4 ⟨hfr, ho⟩
      have HI4 := Lib.hid (hfr.obj HI2.out (by intro _ _ _ h; cases h))
      have HP4 := Lib.hid (show w4.iterPos kI = pos + d from by unfold World.iterPos; rw [HI4.out])
      have HC4 := Lib.hid (show Chg [] w w4 from (Fr.chg (B := g) (TS := glT) ((Fr.of_chg HC2.out).trans hfr) (by have := HGW.out; omega)))
      clear hfr
      rcases ho with ⟨ho, rfl⟩ | ⟨ys', ph', v', ho, rfl, hG⟩
      · have HPO := Lib.hid (show TokPost s w (.returned (.tuple #[.slice none 0 0, .int .i64 12])) w4 from ⟨HC4.out, .inr ⟨by rw [HR2.out, gRun_stop ho], by rw [HE.out]⟩⟩)
        clear ho
        go_wp2_with fail
        go_ret2
        exact HPO.out
      · have hyl' : ys'.length + (pend ph').length + f' ≤ s.size := by have := gTake_len ho; omega
        have HR4 := Lib.hid (show tokR s = gRun (runesAt s f' (pos + d)) ys' ph' from by rw [HR2.out, gRun_next ho])
        have HG4 := Lib.hid hG
        clear ho hG
        go_wp2_with fail
        go_roundw
        case rel => exact ⟨⟨pos + d, f', v', ys', ph', HI4, by omega, HG4, HR4, hyl'⟩, HC4⟩
        case measure => rw [HP4.out, HMP.out]; omega
    · have hnx := fun ty => Lib.run_next_end_at (P := Tryd.prog) wr kI s pos ty HIr.out hlt
      have HRE := Lib.hid (show tokR s = gEnd ys ph from by
        rw [HR.out]
        cases f with
        | zero => simp [runesAt, gRun]
        | succ f => rw [runesAt, if_neg hlt, gRun])
      have c2 := HG.out.rec_.cell 2
      have c0 := HG.out.rec_.cell 0
      cases hwt : waits ph with
      | true =>
        have HPO := Lib.hid (show TokPost s w (.returned (.tuple #[.slice none 0 0, .int .i64 12])) wr from ⟨HC.out, .inr ⟨(by
          rw [HRE.out]
          cases ph with
          | wait q => rfl
          | num m => cases hwt
          | idle => cases hwt), by rw [HE.out]⟩⟩)
        rw [hwt] at c2
        clear hwt
        go_wp2_with fail
        go_ret2
        exact HPO.out
      | false =>
        have HPO := Lib.hid (show TokPost s w (.returned (.tuple #[v, .int .i64 0])) wr from ⟨HC.out, .inl ⟨ys ++ pend ph, v, (by
          rw [HRE.out]
          cases ph with
          | wait q => cases hwt
          | num m => rfl
          | idle => rw [pend, List.append_nil]; rfl), by rw [List.length_append]; omega, rfl, by
          have := HG.out.own
          rw [List.length_append]
          exact own_more_n this (by have := HGW.out; omega)⟩⟩)
        rw [hwt] at c2
        obtain ⟨A5, n5, c5, rfl, hn5⟩ := HG.out.slice
        clear hwt hn5
        go_wp2_with fail
        go_ret2
        exact HPO.out
end
end Go.Proofs.YtodbeeodhekpeaaDoor
