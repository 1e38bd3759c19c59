/-
  PN: Fr, GlMem, FlowFr.
-/
import Derived.Test.YtbkfhndmeljlcaaGreatDoorZPN2
import Derived.Test.YtbkfhndmeljlcaaGreatDoorZPN4
import Derived.Test.YtbkfhndmeljlcaaGreatDoorZPN7
import Derived.Test.YtbkfhndmeljlcaaGreatDoorZPN13
import Derived.Test.YtbkfhndmeljlcaaGreatDoorZPN16
import Derived.StillTailTactics
namespace Go.Proofs.YtbkfhndmeljlcaaGreatDoor
open Go.RowKit
structure Fr (B : Nat) (TS : List TypeId) (a b : World) : Prop where
  os : b.os = a.os
  tape : b.tape = a.tape
  output : b.output = a.output
  size : a.heap.size ≤ b.heap.size
  block : ∀ k, k < a.heap.size → (k < B ∨ ∀ cs t fz, a.heap[k]? = some (.cells cs t fz) → t ∉ TS) → b.heap[k]? = a.heap[k]?
section
variable {B : Nat} {TS : List TypeId} {a b c : World}
theorem Fr.refl (B : Nat) (TS : List TypeId) (a : World) : Fr B TS a a := ⟨rfl, rfl, rfl, Nat.le_refl _, fun _ _ _ => rfl⟩
theorem Fr.trans (h : Fr B TS a b) (k : Fr B TS b c) : Fr B TS a c := by
  refine ⟨k.os.trans h.os, k.tape.trans h.tape, k.output.trans h.output, Nat.le_trans h.size k.size, fun i hi hc => ?_⟩
  have h1 := h.block i hi hc
  rw [← h1]
  refine k.block i (Nat.lt_of_lt_of_le hi h.size) ?_
  rw [h1]
  exact hc
theorem Fr.of_chg (h : Chg [] a b) : Fr B TS a b := ⟨h.os, h.tape, h.output, h.size, fun k hk _ => h.block k hk (by simp)⟩
theorem Fr.new (h : Fr B TS a b) (k : Chg [] b c) : Fr B TS a c := h.trans (Fr.of_chg k)
theorem Fr.sub {B' : Nat} {TS' : List TypeId} (h : Fr B TS a b) (hB : B' ≤ B) (hT : ∀ t, t ∈ TS → t ∈ TS') : Fr B' TS' a b :=
  ⟨h.os, h.tape, h.output, h.size, fun k hk hc => h.block k hk (hc.imp (fun h => Nat.lt_of_lt_of_le h hB) (fun h cs t fz e ht => h cs t fz e (hT t ht)))⟩
theorem Fr.chg (h : Fr B TS a b) (hB : a.heap.size ≤ B) : Chg [] a b := ⟨h.os, h.tape, h.output, h.size, fun k hk _ => h.block k hk (.inl (Nat.lt_of_lt_of_le hk hB))⟩
theorem Fr.set (h : Fr B TS a b) {p : Addr} (hp : B ≤ p.block) {cs : Array Value} {t : TypeId} {fz : Nat × Nat} (hb : b.heap[p.block]? = some (.cells cs t fz)) (ht : t ∈ TS) (u : Value) : Fr B TS a (b.setCell p u) := by
  refine h.trans ⟨rfl, rfl, rfl, ?_, fun k hk hc => ?_⟩
  · rw [size_set]; exact Nat.le_refl _
  · refine Below.heap_setCell b p u k (fun e => ?_)
    subst e
    rcases hc with h1 | h1
    · omega
    · exact h1 cs t fz hb ht
theorem Fr.setw (h : Fr B TS a b) {g j t : Nat} {cs : List Value} (hW : Whole b g t cs) (hp : B ≤ g) (ht : t ∈ TS) (u : Value) : Fr B TS a (b.setCell ⟨g, j, none⟩ u) := h.set (p := ⟨g, j, none⟩) hp hW ht u
theorem Fr.seto (h : Fr B TS a b) {g j B2 k n m e : Nat} {xs : List Value} {cap : Nat} (ho : b.ownsRow B2 e k (.slice (some ⟨g, 0, none⟩) n cap) m xs) (hB : B ≤ B2) (ht : e ∈ TS) (u : Value) : Fr B TS a (b.setCell ⟨g, j, none⟩ u) := by
  rcases ho.2 with ⟨e', _⟩ | ⟨g', cap', cur, e', hb, hg, _⟩
  · cases e'
  · injection e' with e1 _ _
    injection e1 with e1
    injection e1 with e1
    subst e1
    exact h.set (p := ⟨g, j, none⟩) (Nat.le_trans hB hb) hg ht u
theorem Fr.grown (h : Fr B TS a b) {B2 k n e : Nat} {v : Value} {xs : List Value} (ho : b.ownsRow B2 e k v n xs) (hB : B ≤ B2) (ht : e ∈ TS) (hg : b.grownBy c v.ownBlock) : Fr B TS a c := by
  refine h.trans ⟨hg.os, hg.tape, hg.output, hg.size, fun i hi hc => hg.block i hi (fun hr => ?_)⟩
  rcases ho.2 with ⟨rfl, _⟩ | ⟨g', cap', cur, rfl, hb, hgb, _⟩
  · simp [Value.ownBlock] at hr
  · simp [Value.ownBlock] at hr
    subst hr
    rcases hc with h1 | h1
    · omega
    · exact h1 _ _ _ hgb ht
theorem Fr.whole (h : Fr B TS a b) {g t : Nat} {cs : List Value} (hW : Whole a g t cs) (ht : t ∉ TS) : Whole b g t cs :=
  (h.block g hW.lt (.inr fun _ _ _ e => by rw [show a.heap[g]? = _ from hW] at e; injection e with e; injection e with _ e2 _; subst e2; exact ht)).trans hW
theorem Fr.obj (h : Fr B TS a b) {k : Nat} {o : Obj} (ho : a.heap[k]? = some o) (hn : ∀ cs t fz, o ≠ .cells cs t fz) : b.heap[k]? = some o := by
  have hk : k < a.heap.size := by
    rcases Nat.lt_or_ge k a.heap.size with h | h
    · exact h
    · rw [Array.getElem?_eq_none h] at ho; cases ho
  rw [h.block k hk (.inr fun cs t fz e => by rw [ho] at e; injection e with e; exact absurd e (hn cs t fz)), ho]
theorem Fr.own (h : Fr B TS a b) {B2 k n e : Nat} {v : Value} {xs : List Value} (ho : a.ownsRow B2 e k v n xs) (ht : e ∉ TS) : b.ownsRow B2 e k v n xs := by
  refine ⟨ho.1, ?_⟩
  rcases ho.2 with h1 | ⟨g, cap, cur, rfl, hb, hg, r⟩
  · exact .inl h1
  · refine .inr ⟨g, cap, cur, rfl, hb, ?_, r⟩
    have hlt : g < a.heap.size := by
      rcases Nat.lt_or_ge g a.heap.size with h | h
      · exact h
      · rw [Array.getElem?_eq_none h] at hg; cases hg
    exact (h.block g hlt (.inr fun _ _ _ e => by rw [hg] at e; injection e with e; injection e with _ e2 _; subst e2; exact ht)).trans hg
end
end Go.Proofs.YtbkfhndmeljlcaaGreatDoor
namespace Go.Proofs.YtbkfhndmeljlcaaGreatDoor
open Go.RowKit
abbrev glT : List TypeId := [110, 132]
structure Gl (W : World) (g : Nat) (v : Value) (ys : List TkV) (ph : GPh) : Prop where
  rec_ : Whole W g 132 [v, .bool (counts ph), .bool (waits ph)]
  own : W.ownsRow (g + 1) 110 3 v (ys.length + (pend ph).length) (tkCs (ys ++ pend ph))
  few : ys.length ≤ 1000
  big : ∀ m, ph = .num m → m ≤ 9223372036854775807
def GPost (W : World) (g : Nat) (o : Option (List TkV × GPh)) (e : Ending) (w' : World) : Prop :=
  Fr g glT W w' ∧ ((o = none ∧ e = .returned (.bool false)) ∨ ∃ ys' ph' v', o = some (ys', ph') ∧ e = .returned (.bool true) ∧ Gl w' g v' ys' ph')
theorem pend_len (ph : GPh) : (pend ph).length ≤ 1 := by cases ph <;> simp [pend]
section
variable {W W' : World} {g : Nat} {v : Value} {ys : List TkV} {ph : GPh}
theorem Gl.keep (h : Gl W g v ys ph) (hc : Chg [] W W') : Gl W' g v ys ph := ⟨h.rec_.keep hc, rown_keep h.own hc, h.few, h.big⟩
theorem Gl.away (h : Gl W g v ys ph) : v.ownBlock ≠ some g := fun e => by have := (h.own.lt g e).1; omega
theorem Gl.slice (h : Gl W g v ys ph) : ∃ A n c, v = .slice A n c ∧ n = ys.length + (pend ph).length := by
  obtain ⟨A, c, e, _⟩ := rown_slice h.own
  exact ⟨A, _, c, e, rfl⟩
/-- A digit's token begins. -/
theorem Gl.begin_ {W2 : World} {v' : Value} (h : Gl W g v ys .idle) {W1 : World} (hW1 : W1 = W.setCell ⟨g, 1, none⟩ (.bool true)) (hc : Chg [] W1 W2) {w3 : World} {n1 : Nat} (hn1 : n1 = ys.length + 1) (ho : w3.ownsRow (g + 1) 110 3 v' n1 (tkCs ys ++ [.int .i32 48, .int .i64 0, .int .i32 0])) (hg : W2.grownBy w3 v.ownBlock) :
    Gl (w3.setCell ⟨g, 0, none⟩ v') g v' ys (.num 0) ∧ Fr g glT W (w3.setCell ⟨g, 0, none⟩ v') := by
  subst hn1
  have hr1 : Whole W1 g 132 [v, .bool true, .bool false] := by subst hW1; have := h.rec_.set_ 1 (.bool true); simpa [counts, waits] using this
  have ho1 : W1.ownsRow (g + 1) 110 3 v ys.length (tkCs ys) := by subst hW1; have := rown_far (p := ⟨g, 1, none⟩) (u := .bool true) h.own (fun e => h.away e); simpa [pend] using this
  have hr3 := whole_grown (hr1.keep hc) (rown_keep ho1 hc) (by decide) hg
  refine ⟨⟨?_, ?_, h.few, fun m e => by injection e with e; omega⟩, ?_⟩
  · have := hr3.set_ 0 v'
    simpa [counts, waits] using this
  · have := rown_far (p := ⟨g, 0, none⟩) (u := v') ho (fun e => by have := (ho.lt g e).1; omega)
    simpa [pend, tkCs_app, tkCs, tkC] using this
  · subst hW1
    exact ((((Fr.refl g glT W).setw h.rec_ (Nat.le_refl _) (by simp [glT]) _).new hc).grown (rown_keep ho1 hc) (Nat.le_succ g) (by simp [glT]) hg).setw hr3 (Nat.le_refl _) (by simp [glT]) _
/-- Its number. -/
theorem Gl.number {gr c m : Nat} (h : Gl W g (.slice (some ⟨gr, 0, none⟩) (ys.length + 1) c) ys (.num m)) (m' : Nat) (hm : m' ≤ 9223372036854775807) :
    Gl (W.setCell ⟨gr, ys.length * 3 + 1, none⟩ (.int .i64 (m' : Int))) g (.slice (some ⟨gr, 0, none⟩) (ys.length + 1) c) ys (.num m') ∧ Fr g glT W (W.setCell ⟨gr, ys.length * 3 + 1, none⟩ (.int .i64 (m' : Int))) := by
  have hgr := (h.own.lt gr rfl).1
  refine ⟨⟨h.rec_.far (by simp only; omega) _, ?_, h.few, fun m e => by injection e with e; omega⟩, (Fr.refl g glT W).seto h.own (Nat.le_succ g) (by simp [glT]) _⟩
  have h2 := rown_set (j := ys.length * 3 + 1) (u := .int .i64 (m' : Int)) h.own
  have e : (tkCs (ys ++ pend (.num m))).set (ys.length * 3 + 1) (.int .i64 (m' : Int)) = tkCs (ys ++ pend (.num m')) := by
    rw [tkCs_app, tkCs_app, List.set_append_right _ _ (by rw [tkCs_len]; omega), tkCs_len, show ys.length * 3 + 1 - ys.length * 3 = 1 from by omega]
    rfl
  rw [e] at h2
  exact h2
end
section
variable {W : World} {g : Nat} {v : Value} {ys : List TkV} {ph : GPh}
def numOf : GPh → Nat
  | .num m => m
  | _ => 0
set_option maxHeartbeats 4000000 in
set_option maxRecDepth 100000 in
theorem gcount_any (h : Gl W g v ys ph) (hw : waits ph = false) (x : Nat) (hx : x ≤ 9) (hfew : ys.length ≤ 900) : Calls Tryz.prog 113 #[.pointer (some ⟨g, 0, none⟩), .int .i64 (x : Int)] W (GPost W g (gCount ys (numOf ph) x)) := by
  obtain ⟨i0, hi0, hz0, hz1, hz2⟩ := info_parts info_token
  obtain ⟨A, n, c, rfl, hn⟩ := h.slice
  have H := Lib.hid h
  have q0 := h.rec_.cell 0
  have q1 := h.rec_.cell 1
  have f0 := h.rec_.frozen 0
  have f1 := h.rec_.frozen 1
  have hnum := h.big
  have HN := Lib.hid hn
  clear h hn
  go_enter Tryz.func113, Tryz.ntmps113
  go_upto_if 11 with fail
  go_cut [] (fun wx => ∃ v2, Hid (Gl wx g v2 ys (.num (numOf ph))) ∧ Hid (Fr g glT W wx))
  case first =>
    cases ph with
    | wait q => cases hw
    | num m =>
      go_wp2_with fail
      go_meet
      exact ⟨_, H, Lib.hid (Fr.refl _ _ _)⟩
    | idle =>
      go_upto_region 3 with fail
      have hn : n = ys.length := by have := HN.out; simpa [pend] using this
      have hn9 : n ≤ 900 := by omega
      obtain ⟨w1, hw1⟩ : ∃ w1, w1 = W.setCell ⟨g, 1, none⟩ (.bool true) := ⟨_, rfl⟩
      have hr1 : Whole w1 g 132 [.slice A n c, .bool true, .bool false] := by subst hw1; have := H.out.rec_.set_ 1 (.bool true); simpa [counts, waits, pend] using this
      have ho1 : w1.ownsRow (g + 1) 110 3 (.slice A n c) n (tkCs ys) := by subst hw1; have := rown_far (p := ⟨g, 1, none⟩) (u := .bool true) H.out.own (fun e => H.out.away e); rw [← HN.out] at this; simpa [pend] using this
      rw [← hw1]
      have hal : Chg [] w1 (w1.alloc (.cells #[.int .i32 48, .int .i64 0, .int .i32 0] 110)) := (Chg.refl [] w1).alloc _
      have hsz : w1.heap.size = W.heap.size := by subst hw1; exact size_set _ _ _
      have hgz := H.out.rec_.lt
      have HW1 := Lib.hid hw1
      have HR1 := Lib.hid hr1
      have HO1 := Lib.hid ho1
      have HO2 := Lib.hid (rown_keep ho1 hal)
      have HR2 := Lib.hid (hr1.keep hal)
      have HAL := Lib.hid hal
      have c0 := hr1.cell 0
      have c2 := HR2.out.cell 0
      have HBZ := Lib.hid (show g + 1 ≤ (w1.alloc (.cells #[.int .i32 48, .int .i64 0, .int .i32 0] 110)).heap.size from by have := hal.size; omega)
      have HNN := Lib.hid hn
      clear hw1 hr1 ho1 hal hsz hgz q0 q1 f0 f1 hn
      go_upto_region 4 with (at_builtin
                             refine wpList_append_own _ rfl (.tmp 19) (.tmp 21) _ rfl (g + 1) 110 i0 _ 3 24 Tryz.underlying90 hi0 hz0 hz1 hz2 rfl (by decide) (.slice A n c) n (tkCs ys) rfl HO2.out ⟨w1.heap.size, 0, none⟩ 1 1 [.int .i32 48, .int .i64 0, .int .i32 0] rfl rfl (cells_page _ _ _) (by simp [Value.oneCell']) (by simp only [maxLen]; omega) (by omega) HBZ.out ?_
                             intro v' w3 ho3 hg3 _
                             have HO3 := Lib.hid ho3
                             have HG3 := Lib.hid hg3
                             have hr3 := whole_grown HR2.out HO2.out (by decide) hg3
                             have c3 := hr3.cell 0
                             have f3 := hr3.frozen 0
                             obtain ⟨A3, c3', rfl, _⟩ := rown_slice ho3
                             clear ho3 hg3 hr3)
      obtain ⟨hGl, hLow⟩ := H.out.begin_ HW1.out HAL.out (by have := HNN.out; omega) HO3.out HG3.out
      go_meet
      exact ⟨_, Lib.hid hGl, Lib.hid hLow⟩
  case rest =>
    obtain ⟨v2, HG, HL⟩ := hcut
    obtain ⟨w2, rfl⟩ : ∃ w2 : World, w2 = wc := ⟨_, rfl⟩
    obtain ⟨m, hme⟩ : ∃ m, m = numOf ph := ⟨_, rfl⟩
    rw [← hme] at HG
    have HME := Lib.hid hme
    clear hme
    have hm := HG.out.big m rfl
    clear H HN q0 q1 f0 f1 hnum hw
    obtain ⟨A2, n2, c2, rfl, hn2⟩ := HG.out.slice
    have hn2' : n2 = ys.length + 1 := hn2
    obtain ⟨gr, hgr, y1⟩ := rown_cell HG.out.own (j := ys.length * 3 + 1) (u := .int .i64 (m : Int)) (by rw [← hn2]) (by rw [tkCs_app, List.getElem?_append_right (by rw [tkCs_len]; omega), tkCs_len, show ys.length * 3 + 1 - ys.length * 3 = 1 from by omega]; rfl)
    subst hgr
    have hown := HG.out.own
    rw [← hn2] at hown
    have fy1 := rown_frozen (j := ys.length * 3 + 1) hown
    have r0 := HG.out.rec_.cell 0
    clear hown hn2
    obtain ⟨k, hk⟩ : ∃ k, k = ys.length := ⟨_, rfl⟩
    rw [← hk] at hn2' y1 fy1
    have HK := Lib.hid hk
    subst hn2'
    have hk9 : k ≤ 900 := by omega
    clear hk
    by_cases hbig : (9223372036854775807 - x) / 10 < m
    · have hbI : (9223372036854775807 - (x : Int)) / 10 < (m : Int) := by omega
      have hbd : decide ((9223372036854775807 - (x : Int)) / 10 < (m : Int)) = true := by simpa using hbI
      have HP := Lib.hid (show GPost W g (gCount ys (numOf ph) x) (.returned (.bool false)) w2 from ⟨HL.out, .inl ⟨by rw [← HME.out]; unfold gCount; rw [if_pos hbig], rfl⟩⟩)
      clear hbig
      go_wp2_with fail
      go_ret
      exact HP.out
    · have hbI : (m : Int) ≤ (9223372036854775807 - (x : Int)) / 10 := by omega
      have hbd : decide ((9223372036854775807 - (x : Int)) / 10 < (m : Int)) = false := by simp; omega
      have hmx : (m : Int) * 10 + (x : Int) ≤ 9223372036854775807 := by omega
      have HP := Lib.hid (show GPost W g (gCount ys (numOf ph) x) (.returned (.bool true)) (w2.setCell ⟨gr, k * 3 + 1, none⟩ (.int .i64 ((m : Int) * 10 + (x : Int)))) from by
        have hG2 := HG.out
        rw [HK.out] at hG2 ⊢
        obtain ⟨h1, h2⟩ := hG2.number (m * 10 + x) (by omega)
        rw [show ((m * 10 + x : Nat) : Int) = (m : Int) * 10 + (x : Int) from by omega] at h1 h2
        exact ⟨HL.out.trans h2, .inr ⟨ys, _, _, by rw [← HME.out]; unfold gCount; rw [if_neg hbig], rfl, h1⟩⟩)
      clear hbig
      go_wp2_with fail
      go_ret
      exact HP.out
end
end Go.Proofs.YtbkfhndmeljlcaaGreatDoor
namespace Go.Proofs.YtbkfhndmeljlcaaGreatDoor
open Go.RowKit
def frT (B : Nat) (TS : List TypeId) (hard soft : List Nat) : Turns := ⟨Chg [], Fr B TS, hard, soft⟩
theorem frT_ok {B : Nat} {TS : List TypeId} {hard soft : List Nat} : (frT B TS hard soft).Ok := ⟨Chg.refl [], fun _ _ h => Fr.of_chg h, fun _ _ _ h k => h.trans k⟩
theorem fr_hard {B : Nat} {TS : List TypeId} {hard soft : List Nat} {k : Nat} (hk : hard.contains k = true) {W W' : World} (h : Fr B TS W W') : (frT B TS hard soft).by_ k W W' := by
  unfold Turns.by_
  rw [if_pos (show (frT B TS hard soft).hard.contains k = true from hk)]
  exact h
theorem fr_star {a b : World} (h : Star (Chg []) a b) : Chg [] a b := h.fold (Chg.refl []) fun _ _ _ h k => h.trans k
end Go.Proofs.YtbkfhndmeljlcaaGreatDoor
