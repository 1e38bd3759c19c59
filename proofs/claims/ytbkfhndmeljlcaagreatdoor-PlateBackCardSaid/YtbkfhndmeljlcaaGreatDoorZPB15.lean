/-
  PB: Fr, GlMem, GlTake, FlowFr.
-/
import Derived.Test.YtbkfhndmeljlcaaGreatDoorZPB2
import Derived.Test.YtbkfhndmeljlcaaGreatDoorZPB3
import Derived.Test.YtbkfhndmeljlcaaGreatDoorZPB6
import Derived.Test.YtbkfhndmeljlcaaGreatDoorZPB9
import Derived.Test.YtbkfhndmeljlcaaGreatDoorZPB12
import Derived.StillTailTactics
namespace Go.Proofs.YtbkfhndmeljlcaaGreatDoor
open Go.RowKit
structure Fr (B : Nat) (TS : List TypeId) (a b : World) : Prop where
  os : b.os = a.os
  tape : b.tape = a.tape
  output : b.output = a.output
  size : a.heap.size ≤ b.heap.size
  block : ∀ k, k < a.heap.size → (k < B ∨ ∀ cs t fz, a.heap[k]? = some (.cells cs t fz) → t ∉ TS) → b.heap[k]? = a.heap[k]?
section
variable {B : Nat} {TS : List TypeId} {a b c : World}
theorem Fr.refl (B : Nat) (TS : List TypeId) (a : World) : Fr B TS a a := ⟨rfl, rfl, rfl, Nat.le_refl _, fun _ _ _ => rfl⟩
theorem Fr.trans (h : Fr B TS a b) (k : Fr B TS b c) : Fr B TS a c := by
  refine ⟨k.os.trans h.os, k.tape.trans h.tape, k.output.trans h.output, Nat.le_trans h.size k.size, fun i hi hc => ?_⟩
  have h1 := h.block i hi hc
  rw [← h1]
  refine k.block i (Nat.lt_of_lt_of_le hi h.size) ?_
  rw [h1]
  exact hc
theorem Fr.of_chg (h : Chg [] a b) : Fr B TS a b := ⟨h.os, h.tape, h.output, h.size, fun k hk _ => h.block k hk (by simp)⟩
theorem Fr.new (h : Fr B TS a b) (k : Chg [] b c) : Fr B TS a c := h.trans (Fr.of_chg k)
theorem Fr.sub {B' : Nat} {TS' : List TypeId} (h : Fr B TS a b) (hB : B' ≤ B) (hT : ∀ t, t ∈ TS → t ∈ TS') : Fr B' TS' a b :=
  ⟨h.os, h.tape, h.output, h.size, fun k hk hc => h.block k hk (hc.imp (fun h => Nat.lt_of_lt_of_le h hB) (fun h cs t fz e ht => h cs t fz e (hT t ht)))⟩
theorem Fr.chg (h : Fr B TS a b) (hB : a.heap.size ≤ B) : Chg [] a b := ⟨h.os, h.tape, h.output, h.size, fun k hk _ => h.block k hk (.inl (Nat.lt_of_lt_of_le hk hB))⟩
theorem Fr.set (h : Fr B TS a b) {p : Addr} (hp : B ≤ p.block) {cs : Array Value} {t : TypeId} {fz : Nat × Nat} (hb : b.heap[p.block]? = some (.cells cs t fz)) (ht : t ∈ TS) (u : Value) : Fr B TS a (b.setCell p u) := by
  refine h.trans ⟨rfl, rfl, rfl, ?_, fun k hk hc => ?_⟩
  · rw [size_set]; exact Nat.le_refl _
  · refine Below.heap_setCell b p u k (fun e => ?_)
    subst e
    rcases hc with h1 | h1
    · omega
    · exact h1 cs t fz hb ht
theorem Fr.setw (h : Fr B TS a b) {g j t : Nat} {cs : List Value} (hW : Whole b g t cs) (hp : B ≤ g) (ht : t ∈ TS) (u : Value) : Fr B TS a (b.setCell ⟨g, j, none⟩ u) := h.set (p := ⟨g, j, none⟩) hp hW ht u
theorem Fr.seto (h : Fr B TS a b) {g j B2 k n m e : Nat} {xs : List Value} {cap : Nat} (ho : b.ownsRow B2 e k (.slice (some ⟨g, 0, none⟩) n cap) m xs) (hB : B ≤ B2) (ht : e ∈ TS) (u : Value) : Fr B TS a (b.setCell ⟨g, j, none⟩ u) := by
  rcases ho.2 with ⟨e', _⟩ | ⟨g', cap', cur, e', hb, hg, _⟩
  · cases e'
  · injection e' with e1 _ _
    injection e1 with e1
    injection e1 with e1
    subst e1
    exact h.set (p := ⟨g, j, none⟩) (Nat.le_trans hB hb) hg ht u
theorem Fr.grown (h : Fr B TS a b) {B2 k n e : Nat} {v : Value} {xs : List Value} (ho : b.ownsRow B2 e k v n xs) (hB : B ≤ B2) (ht : e ∈ TS) (hg : b.grownBy c v.ownBlock) : Fr B TS a c := by
  refine h.trans ⟨hg.os, hg.tape, hg.output, hg.size, fun i hi hc => hg.block i hi (fun hr => ?_)⟩
  rcases ho.2 with ⟨rfl, _⟩ | ⟨g', cap', cur, rfl, hb, hgb, _⟩
  · simp [Value.ownBlock] at hr
  · simp [Value.ownBlock] at hr
    subst hr
    rcases hc with h1 | h1
    · omega
    · exact h1 _ _ _ hgb ht
theorem Fr.whole (h : Fr B TS a b) {g t : Nat} {cs : List Value} (hW : Whole a g t cs) (ht : t ∉ TS) : Whole b g t cs :=
  (h.block g hW.lt (.inr fun _ _ _ e => by rw [show a.heap[g]? = _ from hW] at e; injection e with e; injection e with _ e2 _; subst e2; exact ht)).trans hW
theorem Fr.obj (h : Fr B TS a b) {k : Nat} {o : Obj} (ho : a.heap[k]? = some o) (hn : ∀ cs t fz, o ≠ .cells cs t fz) : b.heap[k]? = some o := by
  have hk : k < a.heap.size := by
    rcases Nat.lt_or_ge k a.heap.size with h | h
    · exact h
    · rw [Array.getElem?_eq_none h] at ho; cases ho
  rw [h.block k hk (.inr fun cs t fz e => by rw [ho] at e; injection e with e; exact absurd e (hn cs t fz)), ho]
theorem Fr.own (h : Fr B TS a b) {B2 k n e : Nat} {v : Value} {xs : List Value} (ho : a.ownsRow B2 e k v n xs) (ht : e ∉ TS) : b.ownsRow B2 e k v n xs := by
  refine ⟨ho.1, ?_⟩
  rcases ho.2 with h1 | ⟨g, cap, cur, rfl, hb, hg, r⟩
  · exact .inl h1
  · refine .inr ⟨g, cap, cur, rfl, hb, ?_, r⟩
    have hlt : g < a.heap.size := by
      rcases Nat.lt_or_ge g a.heap.size with h | h
      · exact h
      · rw [Array.getElem?_eq_none h] at hg; cases hg
    exact (h.block g hlt (.inr fun _ _ _ e => by rw [hg] at e; injection e with e; injection e with _ e2 _; subst e2; exact ht)).trans hg
end
end Go.Proofs.YtbkfhndmeljlcaaGreatDoor
namespace Go.Proofs.YtbkfhndmeljlcaaGreatDoor
open Go.RowKit
abbrev glT : List TypeId := [110, 132]
structure Gl (W : World) (g : Nat) (v : Value) (ys : List TkV) (ph : GPh) : Prop where
  rec_ : Whole W g 132 [v, .bool (counts ph), .bool (waits ph)]
  own : W.ownsRow (g + 1) 110 3 v (ys.length + (pend ph).length) (tkCs (ys ++ pend ph))
  few : ys.length ≤ 1000
  big : ∀ m, ph = .num m → m ≤ 9223372036854775807
def GPost (W : World) (g : Nat) (o : Option (List TkV × GPh)) (e : Ending) (w' : World) : Prop :=
  Fr g glT W w' ∧ ((o = none ∧ e = .returned (.bool false)) ∨ ∃ ys' ph' v', o = some (ys', ph') ∧ e = .returned (.bool true) ∧ Gl w' g v' ys' ph')
theorem pend_len (ph : GPh) : (pend ph).length ≤ 1 := by cases ph <;> simp [pend]
section
variable {W W' : World} {g : Nat} {v : Value} {ys : List TkV} {ph : GPh}
theorem Gl.keep (h : Gl W g v ys ph) (hc : Chg [] W W') : Gl W' g v ys ph := ⟨h.rec_.keep hc, rown_keep h.own hc, h.few, h.big⟩
theorem Gl.away (h : Gl W g v ys ph) : v.ownBlock ≠ some g := fun e => by have := (h.own.lt g e).1; omega
theorem Gl.slice (h : Gl W g v ys ph) : ∃ A n c, v = .slice A n c ∧ n = ys.length + (pend ph).length := by
  obtain ⟨A, c, e, _⟩ := rown_slice h.own
  exact ⟨A, _, c, e, rfl⟩
/-- A digit's token begins. -/
theorem Gl.begin_ {W2 : World} {v' : Value} (h : Gl W g v ys .idle) {W1 : World} (hW1 : W1 = W.setCell ⟨g, 1, none⟩ (.bool true)) (hc : Chg [] W1 W2) {w3 : World} {n1 : Nat} (hn1 : n1 = ys.length + 1) (ho : w3.ownsRow (g + 1) 110 3 v' n1 (tkCs ys ++ [.int .i32 48, .int .i64 0, .int .i32 0])) (hg : W2.grownBy w3 v.ownBlock) :
    Gl (w3.setCell ⟨g, 0, none⟩ v') g v' ys (.num 0) ∧ Fr g glT W (w3.setCell ⟨g, 0, none⟩ v') := by
  subst hn1
  have hr1 : Whole W1 g 132 [v, .bool true, .bool false] := by subst hW1; have := h.rec_.set_ 1 (.bool true); simpa [counts, waits] using this
  have ho1 : W1.ownsRow (g + 1) 110 3 v ys.length (tkCs ys) := by subst hW1; have := rown_far (p := ⟨g, 1, none⟩) (u := .bool true) h.own (fun e => h.away e); simpa [pend] using this
  have hr3 := whole_grown (hr1.keep hc) (rown_keep ho1 hc) (by decide) hg
  refine ⟨⟨?_, ?_, h.few, fun m e => by injection e with e; omega⟩, ?_⟩
  · have := hr3.set_ 0 v'
    simpa [counts, waits] using this
  · have := rown_far (p := ⟨g, 0, none⟩) (u := v') ho (fun e => by have := (ho.lt g e).1; omega)
    simpa [pend, tkCs_app, tkCs, tkC] using this
  · subst hW1
    exact ((((Fr.refl g glT W).setw h.rec_ (Nat.le_refl _) (by simp [glT]) _).new hc).grown (rown_keep ho1 hc) (Nat.le_succ g) (by simp [glT]) hg).setw hr3 (Nat.le_refl _) (by simp [glT]) _
/-- Its number. -/
theorem Gl.number {gr c m : Nat} (h : Gl W g (.slice (some ⟨gr, 0, none⟩) (ys.length + 1) c) ys (.num m)) (m' : Nat) (hm : m' ≤ 9223372036854775807) :
    Gl (W.setCell ⟨gr, ys.length * 3 + 1, none⟩ (.int .i64 (m' : Int))) g (.slice (some ⟨gr, 0, none⟩) (ys.length + 1) c) ys (.num m') ∧ Fr g glT W (W.setCell ⟨gr, ys.length * 3 + 1, none⟩ (.int .i64 (m' : Int))) := by
  have hgr := (h.own.lt gr rfl).1
  refine ⟨⟨h.rec_.far (by simp only; omega) _, ?_, h.few, fun m e => by injection e with e; omega⟩, (Fr.refl g glT W).seto h.own (Nat.le_succ g) (by simp [glT]) _⟩
  have h2 := rown_set (j := ys.length * 3 + 1) (u := .int .i64 (m' : Int)) h.own
  have e : (tkCs (ys ++ pend (.num m))).set (ys.length * 3 + 1) (.int .i64 (m' : Int)) = tkCs (ys ++ pend (.num m')) := by
    rw [tkCs_app, tkCs_app, List.set_append_right _ _ (by rw [tkCs_len]; omega), tkCs_len, show ys.length * 3 + 1 - ys.length * 3 = 1 from by omega]
    rfl
  rw [e] at h2
  exact h2
end
section
variable {W : World} {g : Nat} {v : Value} {ys : List TkV} {ph : GPh}
def numOf : GPh → Nat
  | .num m => m
  | _ => 0
set_option maxHeartbeats 4000000 in
set_option maxRecDepth 100000 in
theorem gcount_any (h : Gl W g v ys ph) (hw : waits ph = false) (x : Nat) (hx : x ≤ 9) (hfew : ys.length ≤ 900) : Calls Tryz.prog 113 #[.pointer (some ⟨g, 0, none⟩), .int .i64 (x : Int)] W (GPost W g (gCount ys (numOf ph) x)) := by
  obtain ⟨i0, hi0, hz0, hz1, hz2⟩ := info_parts info_token
  obtain ⟨A, n, c, rfl, hn⟩ := h.slice
  have H := Lib.hid h
  have q0 := h.rec_.cell 0
  have q1 := h.rec_.cell 1
  have f0 := h.rec_.frozen 0
  have f1 := h.rec_.frozen 1
  have hnum := h.big
  have HN := Lib.hid hn
  clear h hn
  go_enter Tryz.func113, Tryz.ntmps113
  go_upto_if 11 with fail
  go_cut [] (fun wx => ∃ v2, Hid (Gl wx g v2 ys (.num (numOf ph))) ∧ Hid (Fr g glT W wx))
  case first =>
    cases ph with
    | wait q => cases hw
    | num m =>
      go_wp2_with fail
      go_meet
      exact ⟨_, H, Lib.hid (Fr.refl _ _ _)⟩
    | idle =>
      go_upto_region 3 with fail
      have hn : n = ys.length := by have := HN.out; simpa [pend] using this
      have hn9 : n ≤ 900 := by omega
      obtain ⟨w1, hw1⟩ : ∃ w1, w1 = W.setCell ⟨g, 1, none⟩ (.bool true) := ⟨_, rfl⟩
      have hr1 : Whole w1 g 132 [.slice A n c, .bool true, .bool false] := by subst hw1; have := H.out.rec_.set_ 1 (.bool true); simpa [counts, waits, pend] using this
      have ho1 : w1.ownsRow (g + 1) 110 3 (.slice A n c) n (tkCs ys) := by subst hw1; have := rown_far (p := ⟨g, 1, none⟩) (u := .bool true) H.out.own (fun e => H.out.away e); rw [← HN.out] at this; simpa [pend] using this
      rw [← hw1]
      have hal : Chg [] w1 (w1.alloc (.cells #[.int .i32 48, .int .i64 0, .int .i32 0] 110)) := (Chg.refl [] w1).alloc _
      have hsz : w1.heap.size = W.heap.size := by subst hw1; exact size_set _ _ _
      have hgz := H.out.rec_.lt
      have HW1 := Lib.hid hw1
      have HR1 := Lib.hid hr1
      have HO1 := Lib.hid ho1
      have HO2 := Lib.hid (rown_keep ho1 hal)
      have HR2 := Lib.hid (hr1.keep hal)
      have HAL := Lib.hid hal
      have c0 := hr1.cell 0
      have c2 := HR2.out.cell 0
      have HBZ := Lib.hid (show g + 1 ≤ (w1.alloc (.cells #[.int .i32 48, .int .i64 0, .int .i32 0] 110)).heap.size from by have := hal.size; omega)
      have HNN := Lib.hid hn
      clear hw1 hr1 ho1 hal hsz hgz q0 q1 f0 f1 hn
      go_upto_region 4 with (at_builtin
                             refine wpList_append_own _ rfl (.tmp 19) (.tmp 21) _ rfl (g + 1) 110 i0 _ 3 24 Tryz.underlying90 hi0 hz0 hz1 hz2 rfl (by decide) (.slice A n c) n (tkCs ys) rfl HO2.out ⟨w1.heap.size, 0, none⟩ 1 1 [.int .i32 48, .int .i64 0, .int .i32 0] rfl rfl (cells_page _ _ _) (by simp [Value.oneCell']) (by simp only [maxLen]; omega) (by omega) HBZ.out ?_
                             intro v' w3 ho3 hg3 _
                             have HO3 := Lib.hid ho3
                             have HG3 := Lib.hid hg3
                             have hr3 := whole_grown HR2.out HO2.out (by decide) hg3
                             have c3 := hr3.cell 0
                             have f3 := hr3.frozen 0
                             obtain ⟨A3, c3', rfl, _⟩ := rown_slice ho3
                             clear ho3 hg3 hr3)
      obtain ⟨hGl, hLow⟩ := H.out.begin_ HW1.out HAL.out (by have := HNN.out; omega) HO3.out HG3.out
      go_meet
      exact ⟨_, Lib.hid hGl, Lib.hid hLow⟩
  case rest =>
    obtain ⟨v2, HG, HL⟩ := hcut
    obtain ⟨w2, rfl⟩ : ∃ w2 : World, w2 = wc := ⟨_, rfl⟩
    obtain ⟨m, hme⟩ : ∃ m, m = numOf ph := ⟨_, rfl⟩
    rw [← hme] at HG
    have HME := Lib.hid hme
    clear hme
    have hm := HG.out.big m rfl
    clear H HN q0 q1 f0 f1 hnum hw
    obtain ⟨A2, n2, c2, rfl, hn2⟩ := HG.out.slice
    have hn2' : n2 = ys.length + 1 := hn2
    obtain ⟨gr, hgr, y1⟩ := rown_cell HG.out.own (j := ys.length * 3 + 1) (u := .int .i64 (m : Int)) (by rw [← hn2]) (by rw [tkCs_app, List.getElem?_append_right (by rw [tkCs_len]; omega), tkCs_len, show ys.length * 3 + 1 - ys.length * 3 = 1 from by omega]; rfl)
    subst hgr
    have hown := HG.out.own
    rw [← hn2] at hown
    have fy1 := rown_frozen (j := ys.length * 3 + 1) hown
    have r0 := HG.out.rec_.cell 0
    clear hown hn2
    obtain ⟨k, hk⟩ : ∃ k, k = ys.length := ⟨_, rfl⟩
    rw [← hk] at hn2' y1 fy1
    have HK := Lib.hid hk
    subst hn2'
    have hk9 : k ≤ 900 := by omega
    clear hk
    by_cases hbig : (9223372036854775807 - x) / 10 < m
    · have hbI : (9223372036854775807 - (x : Int)) / 10 < (m : Int) := by omega
      have hbd : decide ((9223372036854775807 - (x : Int)) / 10 < (m : Int)) = true := by simpa using hbI
      have HP := Lib.hid (show GPost W g (gCount ys (numOf ph) x) (.returned (.bool false)) w2 from ⟨HL.out, .inl ⟨by rw [← HME.out]; unfold gCount; rw [if_pos hbig], rfl⟩⟩)
      clear hbig
      go_wp2_with fail
      go_ret
      exact HP.out
    · have hbI : (m : Int) ≤ (9223372036854775807 - (x : Int)) / 10 := by omega
      have hbd : decide ((9223372036854775807 - (x : Int)) / 10 < (m : Int)) = false := by simp; omega
      have hmx : (m : Int) * 10 + (x : Int) ≤ 9223372036854775807 := by omega
      have HP := Lib.hid (show GPost W g (gCount ys (numOf ph) x) (.returned (.bool true)) (w2.setCell ⟨gr, k * 3 + 1, none⟩ (.int .i64 ((m : Int) * 10 + (x : Int)))) from by
        have hG2 := HG.out
        rw [HK.out] at hG2 ⊢
        obtain ⟨h1, h2⟩ := hG2.number (m * 10 + x) (by omega)
        rw [show ((m * 10 + x : Nat) : Int) = (m : Int) * 10 + (x : Int) from by omega] at h1 h2
        exact ⟨HL.out.trans h2, .inr ⟨ys, _, _, by rw [← HME.out]; unfold gCount; rw [if_neg hbig], rfl, h1⟩⟩)
      clear hbig
      go_wp2_with fail
      go_ret
      exact HP.out
end
end Go.Proofs.YtbkfhndmeljlcaaGreatDoor
namespace Go.Proofs.YtbkfhndmeljlcaaGreatDoor
open Go.RowKit
section
variable {W W' : World} {g : Nat} {v : Value} {ys : List TkV} {ph : GPh}
/-- No digit more. -/
theorem Gl.done_ (h : Gl W g v ys ph) (hw : waits ph = false) (hf : ys.length ≤ 900) : Gl (W.setCell ⟨g, 1, none⟩ (.bool false)) g v (ys ++ pend ph) .idle ∧ Fr g glT W (W.setCell ⟨g, 1, none⟩ (.bool false)) := by
  have hp := pend_len ph
  refine ⟨⟨?_, ?_, by rw [List.length_append]; omega, fun m e => by cases e⟩, (Fr.refl g glT W).setw h.rec_ (Nat.le_refl _) (by simp [glT]) _⟩
  · have := h.rec_.set_ 1 (.bool false)
    rw [hw] at this
    exact this
  · have := rown_far (p := ⟨g, 1, none⟩) (u := .bool false) h.own (fun e => h.away e)
    rw [List.length_append]
    simpa [pend] using this
/-- A sign more. -/
theorem Gl.more_ {W2 w3 : World} {v' : Value} {n1 : Nat} {t : TkV} (h : Gl W g v ys .idle) (hc : Chg [] W W2) (hn1 : n1 = ys.length + 1) (ho : w3.ownsRow (g + 1) 110 3 v' n1 (tkCs ys ++ tkC t)) (hg : W2.grownBy w3 v.ownBlock) (hf : ys.length ≤ 950) :
    Gl (w3.setCell ⟨g, 0, none⟩ v') g v' (ys ++ [t]) .idle ∧ Fr g glT W (w3.setCell ⟨g, 0, none⟩ v') := by
  subst hn1
  have ho1 : W.ownsRow (g + 1) 110 3 v ys.length (tkCs ys) := by have := h.own; simpa [pend] using this
  have hr3 := whole_grown (h.rec_.keep hc) (rown_keep ho1 hc) (by decide) hg
  refine ⟨⟨?_, ?_, by rw [List.length_append]; simp; omega, fun m e => by cases e⟩, ?_⟩
  · have := hr3.set_ 0 v'
    simpa [counts, waits] using this
  · have := rown_far (p := ⟨g, 0, none⟩) (u := v') ho (fun e => by have := (ho.lt g e).1; omega)
    rw [List.append_assoc, tkCs_app, show tkCs ([t] ++ pend .idle) = tkC t from by simp [pend, tkCs], List.length_append]
    exact this
  · exact (((Fr.of_chg hc : Fr g glT W W2)).grown (rown_keep ho1 hc) (Nat.le_succ g) (by simp [glT]) hg).setw hr3 (Nat.le_refl _) (by simp [glT]) _
/-- The sign waits for its name, or not. -/
theorem Gl.waits_ {q : Nat} (h : Gl W g v (ys ++ [⟨(q : Int), 0, 0⟩]) .idle) : Gl (W.setCell ⟨g, 2, none⟩ (.bool true)) g v ys (.wait q) := by
  refine ⟨?_, ?_, by have := h.few; rw [List.length_append] at this; omega, fun m e => by cases e⟩
  · have := h.rec_.set_ 2 (.bool true)
    simpa [counts, waits] using this
  · have := rown_far (p := ⟨g, 2, none⟩) (u := .bool true) h.own (fun e => h.away e)
    simpa [pend] using this
theorem Gl.not_ (h : Gl W g v ys .idle) : Gl (W.setCell ⟨g, 2, none⟩ (.bool false)) g v ys .idle := by
  refine ⟨?_, ?_, h.few, fun m e => by cases e⟩
  · have := h.rec_.set_ 2 (.bool false)
    simpa [counts, waits] using this
  · exact rown_far (p := ⟨g, 2, none⟩) (u := .bool false) h.own (fun e => h.away e)
/-- A name comes. -/
theorem Gl.name_ {gr c q : Nat} (h : Gl W g (.slice (some ⟨gr, 0, none⟩) (ys.length + 1) c) ys (.wait q)) {W1 : World} (hW : Chg [] (W.setCell ⟨g, 2, none⟩ (.bool false)) W1) (r : Int) (hf : ys.length ≤ 900) :
    Gl (W1.setCell ⟨gr, ys.length * 3 + 2, none⟩ (.int .i32 r)) g (.slice (some ⟨gr, 0, none⟩) (ys.length + 1) c) (ys ++ [⟨(q : Int), 0, r⟩]) .idle ∧ Fr g glT W (W1.setCell ⟨gr, ys.length * 3 + 2, none⟩ (.int .i32 r)) := by
  have hgr := (h.own.lt gr rfl).1
  have h0 : Whole (W.setCell ⟨g, 2, none⟩ (.bool false)) g 132 [.slice (some ⟨gr, 0, none⟩) (ys.length + 1) c, .bool false, .bool false] := by have := h.rec_.set_ 2 (.bool false); simpa [counts, waits] using this
  have h1 := h0.keep hW
  have h2 := rown_keep (rown_far (p := ⟨g, 2, none⟩) (u := .bool false) h.own (fun e => h.away e)) hW
  have hL0 : Fr g glT W (W.setCell ⟨g, 2, none⟩ (.bool false)) := (Fr.refl g glT W).setw h.rec_ (Nat.le_refl _) (by simp [glT]) _
  refine ⟨⟨h1.far (by simp only; omega) _, ?_, by rw [List.length_append]; simp; omega, fun m e => by cases e⟩, (hL0.new hW).seto h2 (Nat.le_succ g) (by simp [glT]) _⟩
  have h3 := rown_set (j := ys.length * 3 + 2) (u := .int .i32 r) h2
  have e : (tkCs (ys ++ pend (.wait q))).set (ys.length * 3 + 2) (.int .i32 r) = tkCs (ys ++ [⟨(q : Int), 0, r⟩] ++ pend .idle) := by
    rw [tkCs_app, tkCs_app, tkCs_app, List.set_append_right _ _ (by rw [tkCs_len]; omega), tkCs_len, show ys.length * 3 + 2 - ys.length * 3 = 2 from by omega]
    simp [pend, tkCs, tkC]
  rw [e] at h3
  have e2 : (ys ++ [(⟨(q : Int), 0, r⟩ : TkV)]).length + (pend .idle).length = ys.length + (pend (.wait q)).length := by simp [pend]
  rw [e2]
  exact h3
end
section
variable {W : World} {g : Nat} {v : Value} {ys : List TkV}
set_option maxHeartbeats 4000000 in
set_option maxRecDepth 100000 in
theorem gtake_wait {q : Nat} (h : Gl W g v ys (.wait q)) (r : Nat) (hfew : ys.length ≤ 900) : Calls Tryz.prog 88 #[.pointer (some ⟨g, 0, none⟩), .int .i32 (r : Int)] W (GPost W g (gTake ys (.wait q) r)) := by
  obtain ⟨A, n, c, rfl, hn⟩ := h.slice
  have hn2 : n = ys.length + 1 := hn
  obtain ⟨gr, hgr, y2⟩ := rown_cell h.own (j := ys.length * 3 + 2) (u := .int .i32 0) (by rw [← hn]) (by rw [tkCs_app, List.getElem?_append_right (by rw [tkCs_len]; omega), tkCs_len, show ys.length * 3 + 2 - ys.length * 3 = 2 from by omega]; rfl)
  subst hgr
  have hown := h.own
  rw [← hn] at hown
  have fy2 := rown_frozen (j := ys.length * 3 + 2) hown
  have hgr := (hown.lt gr rfl).1
  have r2 := h.rec_.cell 2
  have f2 := h.rec_.frozen 2
  clear hn hown
  subst hn2
  have H := Lib.hid h
  clear h
  obtain ⟨k, hk⟩ : ∃ k, k = ys.length := ⟨_, rfl⟩
  have HK := Lib.hid hk
  rw [← hk] at y2 fy2 hfew r2
  rw [← hk] at H
  have HNM := Lib.hid (fun (W1 : World) (hW : Chg [] (W.setCell ⟨g, 2, none⟩ (.bool false)) W1) => show Gl (W1.setCell ⟨gr, k * 3 + 2, none⟩ (.int .i32 (r : Int))) g (.slice (some ⟨gr, 0, none⟩) (k + 1) c) (ys ++ [⟨(q : Int), 0, (r : Int)⟩]) .idle ∧ Fr g glT W (W1.setCell ⟨gr, k * 3 + 2, none⟩ (.int .i32 (r : Int))) from by
    have h := H.out
    rw [hk] at h ⊢
    exact h.name_ hW (r : Int) (by omega))
  clear hk
  go_enter Tryz.func88, Tryz.ntmps88
  go_upto_region 3 with fail
  have hr1 : Whole (W.setCell ⟨g, 2, none⟩ (.bool false)) g 132 [.slice (some ⟨gr, 0, none⟩) (k + 1) c, .bool false, .bool false] := by have := H.out.rec_.set_ 2 (.bool false); simpa [counts, waits] using this
  have z2 : (W.setCell ⟨g, 2, none⟩ (.bool false)).cell? ⟨gr, k * 3 + 2, none⟩ = some (.int .i32 0) := by rw [← y2]; exact World.cell?_of_block (w := W) (Below.heap_setCell W _ _ _ (by simp only; omega))
  have fz2 : (W.setCell ⟨g, 2, none⟩ (.bool false)).frozen? ⟨gr, k * 3 + 2, none⟩ = false := by rw [← fy2]; exact World.frozen?_of_block (w := W) (Below.heap_setCell W _ _ _ (by simp only; omega))
  generalize W.setCell ⟨g, 2, none⟩ (.bool false) = w1 at HNM hr1 z2 fz2 ⊢
  have hdw : Chg [] (w1.setCell ⟨gr, k * 3 + 2, none⟩ (.int .i32 (r : Int))) (w1.setCell ⟨gr, k * 3 + 2, none⟩ (.int .i32 (r : Int))).drew := (Chg.refl [] _).drew
  have HG1 := Lib.hid (And.intro ((HNM.out _ (Chg.refl [] w1)).1.keep hdw) ((HNM.out _ (Chg.refl [] w1)).2.new hdw))
  clear hdw
  have hk1 : IntKind.i64.wrap ((k : Int) + 1 - 1) = (k : Int) := by rw [show (k : Int) + 1 - 1 = (k : Int) from by omega]; exact IntWalk.i64_in _ (by omega)
  have hk2 : IntKind.i64.wrap (k : Int) = (k : Int) := IntWalk.i64_in _ (by omega)
  have hk3 : (k : Int).toNat = k := Int.toNat_natCast _
  have hk4 : (0 : Int) ≤ (k : Int) := by omega
  have hk5 : (k : Int) < (k : Int) + 1 := by omega
  have d0 : w1.drew.cell? ⟨g, 0, none⟩ = some (.slice (some ⟨gr, 0, none⟩) (k + 1) c) := hr1.drew.cell 0
  have c0 := hr1.cell 0
  clear y2 fy2 r2 f2
  go_still_tail 13, (by kernel_rfl)
  change wpList _ _ _ _ _ w1.drew
  go_wp2_with fail
  generalize (w1.setCell ⟨gr, k * 3 + 2, none⟩ (.int .i32 (r : Int))).drew = w2 at HG1 ⊢
  refine (gname_any (r : Int) _).mono ?_
  rintro e w3 ⟨rfl, rfl⟩
  have HP := Lib.hid (show GPost W g (gTake ys (.wait q) r) (.returned (.bool (nameB (r : Int)))) w2 from ⟨HG1.out.2, by
    cases hb : nameB (r : Int) with
    | false => exact .inl ⟨by rw [gTake, if_neg (by rw [hb]; decide)], rfl⟩
    | true => exact .inr ⟨_, _, _, by rw [gTake, if_pos hb], rfl, HG1.out.1⟩⟩)
  go_wp2_with fail
  go_ret
  exact HP.out
set_option maxHeartbeats 4000000 in
set_option maxRecDepth 100000 in
theorem gtake_digit {ph : GPh} (h : Gl W g v ys ph) (hw : waits ph = false) (r : Nat) (hr : 48 ≤ r ∧ r ≤ 57) (hfew : ys.length ≤ 900) : Calls Tryz.prog 88 #[.pointer (some ⟨g, 0, none⟩), .int .i32 (r : Int)] W (GPost W g (gTake ys ph r)) := by
  have e : gTake ys ph r = gCount ys (numOf ph) (r - 48) := by
    cases ph with
    | wait q => cases hw
    | num m => rw [gTake, if_pos hr]; rfl
    | idle => rw [gTake, if_pos hr]; rfl
  rw [e]
  have hd : digitB (r : Int) = true := by unfold digitB; simp; omega
  have HD := Lib.hid hd
  have HC := Lib.hid (gcount_any h hw (r - 48) (by omega) hfew)
  rw [show ((r - 48 : Nat) : Int) = (r : Int) - 48 from by omega] at HC
  have r2 : W.cell? ⟨g, 2, none⟩ = some (.bool false) := by have := h.rec_.cell 2; rw [hw] at this; exact this
  obtain ⟨hr1, hr2⟩ := hr
  have hr1I : (48 : Int) ≤ (r : Int) := by omega
  have hr2I : (r : Int) ≤ 57 := by omega
  clear h hd e hw
  go_enter Tryz.func88, Tryz.ntmps88
  go_wp2_with fail
  refine (digit_any (r : Int) _).mono ?_
  rw [HD.out]
  rintro e w3 ⟨rfl, rfl⟩
  go_wp2_with fail
  refine HC.out.mono ?_
  rintro e w2 ⟨hl, hp⟩
  rcases hp with ⟨ho, rfl⟩ | ⟨ys', ph', v', ho, rfl, hG⟩
  · have HP := Lib.hid (show GPost W g (gCount ys (numOf ph) (r - 48)) (.returned (.bool false)) w2 from ⟨hl, .inl ⟨ho, rfl⟩⟩)
    clear ho hl
    go_wp2_with fail
    go_ret
    exact HP.out
  · have HP := Lib.hid (show GPost W g (gCount ys (numOf ph) (r - 48)) (.returned (.bool true)) w2 from ⟨hl, .inr ⟨ys', ph', v', ho, rfl, hG⟩⟩)
    clear ho hl hG
    go_wp2_with fail
    go_ret
    exact HP.out
set_option maxHeartbeats 8000000 in
set_option maxRecDepth 100000 in
theorem gtake_other {ph : GPh} (h : Gl W g v ys ph) (hw : waits ph = false) (r : Nat) (hr : ¬ (48 ≤ r ∧ r ≤ 57)) (hrm : r ≤ 2147483647) (hfew : ys.length ≤ 900) : Calls Tryz.prog 88 #[.pointer (some ⟨g, 0, none⟩), .int .i32 (r : Int)] W (GPost W g (gTake ys ph r)) := by
  obtain ⟨i0, hi0, hz0, hz1, hz2⟩ := info_parts info_token
  have e : gTake ys ph r = gOther (ys ++ pend ph) r := by
    cases ph with
    | wait q => cases hw
    | num m => rw [gTake, if_neg hr]; rfl
    | idle => rw [gTake, if_neg hr, pend, List.append_nil]
  rw [e]
  have hd : digitB (r : Int) = false := by unfold digitB; simp; omega
  have HD := Lib.hid hd
  have r2 : W.cell? ⟨g, 2, none⟩ = some (.bool false) := by have := h.rec_.cell 2; rw [hw] at this; exact this
  have r1 := h.rec_.cell 1
  have f1 := h.rec_.frozen 1
  have HG := Lib.hid (h.done_ hw hfew)
  have hbl : (ys ++ pend ph).length ≤ 901 := by rw [List.length_append]; have := pend_len ph; omega
  generalize ys ++ pend ph = bs at HG hbl ⊢
  clear h hd e hw hr hfew
  go_enter Tryz.func88, Tryz.ntmps88
  go_wp2_with fail
  refine (digit_any (r : Int) _).mono ?_
  rw [HD.out]
  rintro e w3 ⟨rfl, rfl⟩
  go_upto_region 8 with fail
  generalize W.setCell ⟨g, 1, none⟩ (.bool false) = w1 at HG ⊢
  clear r1 r2 f1
  by_cases h32 : r = 32
  · subst h32
    have HP := Lib.hid (show GPost W g (gOther bs 32) (.returned (.bool true)) w1 from ⟨HG.out.2, .inr ⟨bs, .idle, v, rfl, rfl, HG.out.1⟩⟩)
    go_wp2_with fail
    go_ret
    exact HP.out
  · have q32 : ((r : Int) == 32) = false := by simp; omega
    obtain ⟨A, n, c, rfl, hn⟩ := HG.out.1.slice
    have hn2 : n = bs.length := by simpa [pend] using hn
    have c0 := HG.out.1.rec_.cell 0
    have hal : Chg [] w1 (w1.alloc (.cells #[.int .i32 (r : Int), .int .i64 0, .int .i32 0] 110)) := (Chg.refl [] w1).alloc _
    have ho1 : w1.ownsRow (g + 1) 110 3 (.slice A n c) n (tkCs bs) := by have := HG.out.1.own; rw [← hn] at this; simpa [pend] using this
    have HO2 := Lib.hid (rown_keep ho1 hal)
    have HAL := Lib.hid hal
    have HR2 := Lib.hid (HG.out.1.rec_.keep hal)
    have HBZ := Lib.hid (show g + 1 ≤ (w1.alloc (.cells #[.int .i32 (r : Int), .int .i64 0, .int .i32 0] 110)).heap.size from by have := hal.size; have := HG.out.1.rec_.lt; omega)
    have HN := Lib.hid hn2
    have hn9 : n ≤ 901 := by omega
    clear hn hn2 ho1 hal h32
    go_upto_region 11 with (at_builtin
                            refine wpList_append_own _ rfl (.tmp 43) (.tmp 46) _ rfl (g + 1) 110 i0 _ 3 24 Tryz.underlying90 hi0 hz0 hz1 hz2 rfl (by decide) (.slice A n c) n (tkCs bs) rfl HO2.out ⟨w1.heap.size, 0, none⟩ 1 1 [.int .i32 (r : Int), .int .i64 0, .int .i32 0] rfl rfl (cells_page _ _ _) (by simp [Value.oneCell']) (by simp only [maxLen]; omega) (by omega) HBZ.out ?_
                            intro v' w3 ho3 hg3 _
                            have HO3 := Lib.hid ho3
                            have HG3 := Lib.hid hg3
                            have hr3 := whole_grown HR2.out HO2.out (by decide) hg3
                            have c3 := hr3.cell 0
                            have f3 := hr3.frozen 0
                            obtain ⟨A3, c3', rfl, _⟩ := rown_slice ho3
                            clear ho3 hg3 hr3)
    obtain ⟨hm1, hm2⟩ := HG.out.1.more_ (t := ⟨(r : Int), 0, 0⟩) HAL.out (by have := HN.out; omega) HO3.out HG3.out (by omega)
    have HM := Lib.hid hm1
    have HL := Lib.hid (HG.out.2.trans hm2)
    generalize w3.setCell ⟨g, 0, none⟩ (.slice A3 (n + 1) c3') = w4 at HM HL ⊢
    clear hm1 hm2 c3 f3 c0 HO2 HO3 HG3 HAL HR2 HBZ
    have s2 := HM.out.rec_.cell 2
    have t2 := HM.out.rec_.frozen 2
    go_wp2_with fail
    refine (named_any (r : Int) _).mono ?_
    rintro e w5 ⟨rfl, rfl⟩
    cases hnm : namedB (r : Int) with
    | true =>
      have hkn : knownB (r : Int) = true := by rcases (named_iff r).1 hnm with rfl | rfl <;> decide
      have HP := Lib.hid (fun (W' : World) (hc : Chg [] (w4.setCell ⟨g, 2, none⟩ (.bool true)) W') => show GPost W g (gOther bs r) (.returned (.bool (knownB (r : Int)))) W' from
        ⟨(HL.out.setw HM.out.rec_ (Nat.le_refl _) (by simp [glT]) _).new hc, .inr ⟨bs, .wait r, _, by unfold gOther; rw [if_neg (by intro e; subst e; revert hnm; decide), if_pos hkn, if_pos hnm], by rw [hkn], HM.out.waits_.keep hc⟩⟩)
      clear hnm hkn
      go_wp2_with fail
      refine (gknown_any (r : Int) _).mono ?_
      rintro e w6 ⟨rfl, hc6⟩
      have HQ := Lib.hid (HP.out w6 hc6)
      clear hc6
      go_wp2_with fail
      go_ret
      exact HQ.out
    | false =>
      have h32 : ¬ r = 32 := by intro e; subst e; revert q32; decide
      have HP := Lib.hid (fun (W' : World) (hc : Chg [] (w4.setCell ⟨g, 2, none⟩ (.bool false)) W') => show GPost W g (gOther bs r) (.returned (.bool (knownB (r : Int)))) W' from
        ⟨(HL.out.setw HM.out.rec_ (Nat.le_refl _) (by simp [glT]) _).new hc, by
          cases hkn : knownB (r : Int) with
          | true => exact .inr ⟨_, .idle, _, by unfold gOther; rw [if_neg h32, if_pos hkn, if_neg (by rw [hnm]; decide)], rfl, HM.out.not_.keep hc⟩
          | false => exact .inl ⟨by unfold gOther; rw [if_neg h32, if_neg (by rw [hkn]; decide)], rfl⟩⟩)
      clear hnm h32
      go_wp2_with fail
      refine (gknown_any (r : Int) _).mono ?_
      rintro e w6 ⟨rfl, hc6⟩
      have HQ := Lib.hid (HP.out w6 hc6)
      clear hc6
      go_wp2_with fail
      go_ret
      exact HQ.out
theorem gtake_any {ph : GPh} (h : Gl W g v ys ph) (r : Nat) (hrm : r ≤ 2147483647) (hfew : ys.length ≤ 900) : Calls Tryz.prog 88 #[.pointer (some ⟨g, 0, none⟩), .int .i32 (r : Int)] W (GPost W g (gTake ys ph r)) := by
  cases hw : waits ph with
  | true =>
    cases ph with
    | wait q => exact gtake_wait h r hfew
    | num m => cases hw
    | idle => cases hw
  | false =>
    by_cases hr : 48 ≤ r ∧ r ≤ 57
    · exact gtake_digit h hw r hr hfew
    · exact gtake_other h hw r hr hrm hfew
end
end Go.Proofs.YtbkfhndmeljlcaaGreatDoor
namespace Go.Proofs.YtbkfhndmeljlcaaGreatDoor
open Go.RowKit
def frT (B : Nat) (TS : List TypeId) (hard soft : List Nat) : Turns := ⟨Chg [], Fr B TS, hard, soft⟩
theorem frT_ok {B : Nat} {TS : List TypeId} {hard soft : List Nat} : (frT B TS hard soft).Ok := ⟨Chg.refl [], fun _ _ h => Fr.of_chg h, fun _ _ _ h k => h.trans k⟩
theorem fr_hard {B : Nat} {TS : List TypeId} {hard soft : List Nat} {k : Nat} (hk : hard.contains k = true) {W W' : World} (h : Fr B TS W W') : (frT B TS hard soft).by_ k W W' := by
  unfold Turns.by_
  rw [if_pos (show (frT B TS hard soft).hard.contains k = true from hk)]
  exact h
theorem fr_star {a b : World} (h : Star (Chg []) a b) : Chg [] a b := h.fold (Chg.refl []) fun _ _ _ h k => h.trans k
end Go.Proofs.YtbkfhndmeljlcaaGreatDoor
