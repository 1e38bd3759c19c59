/-
  EC: GlPure, GlMem, GlTake.
-/
import Derived.Test.YtfhgnoajfipjdaaZEC6
import Derived.Test.YtfhgnoajfipjdaaZEC7
import Derived.Test.YtfhgnoajfipjdaaZEC9
import Derived.Test.YtfhgnoajfipjdaaZEC11
import Derived.StillTailTactics
namespace Go.Proofs.Ytfhgnoajfipjdaa
open Go.RowKit
inductive GPh where
  | idle
  | num (m : Nat)
  | wait (q : Nat)
def pend : GPh → List TkV
  | .idle => []
  | .num m => [⟨48, (m : Int), 0⟩]
  | .wait q => [⟨(q : Int), 0, 0⟩]
def counts : GPh → Bool
  | .num _ => true
  | _ => false
def waits : GPh → Bool
  | .wait _ => true
  | _ => false
def gCount (ys : List TkV) (m x : Nat) : Option (List TkV × GPh) := if (9223372036854775807 - x) / 10 < m then none else some (ys, .num (m * 10 + x))
def gOther (bs : List TkV) (r : Nat) : Option (List TkV × GPh) :=
  if r = 32 then some (bs, .idle) else if knownB (r : Int) = true then (if namedB (r : Int) = true then some (bs, .wait r) else some (bs ++ [⟨(r : Int), 0, 0⟩], .idle)) else none
def gTake (ys : List TkV) : GPh → Nat → Option (List TkV × GPh)
  | .wait q, r => if nameB (r : Int) = true then some (ys ++ [⟨(q : Int), 0, (r : Int)⟩], .idle) else none
  | .num m, r => if 48 ≤ r ∧ r ≤ 57 then gCount ys m (r - 48) else gOther (ys ++ [⟨48, (m : Int), 0⟩]) r
  | .idle, r => if 48 ≤ r ∧ r ≤ 57 then gCount ys 0 (r - 48) else gOther ys r
def gEnd (ys : List TkV) : GPh → Option (List TkV)
  | .idle => some ys
  | .num m => some (ys ++ [⟨48, (m : Int), 0⟩])
  | .wait _ => none
def gRun : List Nat → List TkV → GPh → Option (List TkV)
  | [], ys, ph => gEnd ys ph
  | r :: rs, ys, ph => match gTake ys ph r with
    | none => none
    | some (ys', ph') => gRun rs ys' ph'
theorem gTake_len {ys ys' : List TkV} {ph ph' : GPh} {r : Nat} (h : gTake ys ph r = some (ys', ph')) : ys'.length + (pend ph').length ≤ ys.length + (pend ph).length + 1 := by
  have ho : ∀ bs : List TkV, gOther bs r = some (ys', ph') → ys'.length + (pend ph').length ≤ bs.length + 1 := fun bs h => by
    unfold gOther at h
    split at h
    · injection h with h; injection h with h1 h2; subst h1; subst h2; simp [pend]
    · split at h
      · split at h
        · injection h with h; injection h with h1 h2; subst h1; subst h2; simp [pend]
        · injection h with h; injection h with h1 h2; subst h1; subst h2; simp [pend]
      · cases h
  have hc : ∀ m x, gCount ys m x = some (ys', ph') → ys'.length + (pend ph').length ≤ ys.length + 1 := fun m x h => by
    unfold gCount at h
    split at h
    · cases h
    · injection h with h; injection h with h1 h2; subst h1; subst h2; simp [pend]
  cases ph with
  | wait q =>
    rw [gTake] at h
    split at h
    · injection h with h; injection h with h1 h2; subst h1; subst h2; simp [pend]
    · cases h
  | num m =>
    have e1 : (pend (.num m)).length = 1 := rfl
    rw [gTake] at h
    split at h
    · have := hc _ _ h; omega
    · have := ho _ h; rw [List.length_append, List.length_singleton] at this; omega
  | idle =>
    have e1 : (pend .idle).length = 0 := rfl
    rw [gTake] at h
    split at h
    · have := hc _ _ h; omega
    · have := ho _ h; omega
theorem drop_cons {L rs : List Nat} {i r : Nat} (h : L.drop i = r :: rs) : L[i]? = some r ∧ L.drop (i + 1) = rs := by
  have h1 : L[i]? = (L.drop i)[0]? := by rw [List.getElem?_drop]; rfl
  refine ⟨by rw [h1, h]; rfl, ?_⟩
  have : L.drop (i + 1) = (L.drop i).drop 1 := by rw [List.drop_drop]
  rw [this, h]; rfl
theorem drop_nil {L : List Nat} {i : Nat} (h : L.drop i = []) : L[i]? = none := by
  have := List.drop_eq_nil_iff.1 h
  exact List.getElem?_eq_none this
theorem gRun_num {L : List Nat} : ∀ (rs : List Nat) (i f m : Nat) (ys : List TkV), L.drop i = rs → rs.length ≤ f →
    (numAt L f i m = none ∧ gRun rs ys (.num m) = none) ∨ ∃ m' j, numAt L f i m = some (m', j) ∧ i ≤ j ∧ gRun rs ys (.num m) = gRun (L.drop j) (ys ++ [⟨48, (m' : Int), 0⟩]) .idle
  | [], i, f, m, ys, h, hf => by
    refine .inr ⟨m, i, ?_, Nat.le_refl _, by rw [h]; rfl⟩
    cases f with
    | zero => rfl
    | succ f => rw [numAt, drop_nil h]
  | r :: rs, i, f, m, ys, h, hf => by
    obtain ⟨h1, h2⟩ := drop_cons h
    obtain ⟨f, rfl⟩ : ∃ f', f = f' + 1 := ⟨f - 1, by simp at hf; omega⟩
    rw [numAt, h1]
    simp only
    by_cases hd : 48 ≤ r ∧ r ≤ 57
    · rw [if_pos hd]
      have hg : gTake ys (.num m) r = gCount ys m (r - 48) := by rw [gTake, if_pos hd]
      by_cases hb : (9223372036854775807 - (r - 48)) / 10 < m
      · left
        rw [if_pos hb, gRun, hg]
        unfold gCount
        rw [if_pos hb]
        exact ⟨rfl, rfl⟩
      · rw [if_neg hb, gRun, hg]
        unfold gCount
        rw [if_neg hb]
        simp only
        rcases gRun_num rs (i + 1) f (m * 10 + (r - 48)) ys h2 (by simp at hf; omega) with h3 | ⟨m', j, h3, h4, h5⟩
        · exact .inl h3
        · exact .inr ⟨m', j, h3, by omega, h5⟩
    · rw [if_neg hd]
      refine .inr ⟨m, i, rfl, Nat.le_refl _, ?_⟩
      rw [h, gRun, gRun]
      have e : gTake ys (.num m) r = gTake (ys ++ [⟨48, (m : Int), 0⟩]) .idle r := by
        rw [gTake, gTake, if_neg hd, if_neg hd]
      rw [e]
theorem named_iff (r : Nat) : namedB (r : Int) = true ↔ r = 955 ∨ r = 960 := by unfold namedB; simp; omega
theorem gRun_tok {L : List Nat} : ∀ (k : Nat) (i f : Nat) (ys : List TkV), L.length - i ≤ k → L.length - i < f → gRun (L.drop i) ys .idle = tokAt L f i ys
  | k, i, f, ys, hk, hf => by
    obtain ⟨f, rfl⟩ : ∃ f', f = f' + 1 := ⟨f - 1, by omega⟩
    rw [tokAt]
    cases hr : L.drop i with
    | nil => rw [drop_nil hr]; rfl
    | cons r rs =>
      obtain ⟨h1, h2⟩ := drop_cons hr
      have hil : i < L.length := (List.getElem?_eq_some_iff.1 h1).1
      have hrl : rs.length = L.length - (i + 1) := by rw [← h2, List.length_drop]
      obtain ⟨k, rfl⟩ : ∃ k', k = k' + 1 := ⟨k - 1, by omega⟩
      rw [h1]
      simp only
      rw [gRun]
      by_cases h32 : r = 32
      · subst h32
        rw [if_pos rfl, show gTake ys .idle 32 = some (ys, .idle) from rfl]
        simp only
        rw [← h2]
        exact gRun_tok k (i + 1) f ys (by omega) (by omega)
      rw [if_neg h32]
      by_cases hd : 48 ≤ r ∧ r ≤ 57
      · rw [if_pos hd]
        have hg : gTake ys .idle r = some (ys, .num (r - 48)) := by
          rw [gTake, if_pos hd]
          unfold gCount
          rw [if_neg (by omega)]
          simp
        have hn : numAt L L.length i 0 = numAt L (L.length - 1) (i + 1) (r - 48) := by
          obtain ⟨n, hn⟩ : ∃ n, L.length = n + 1 := ⟨L.length - 1, by omega⟩
          rw [hn, numAt, h1]
          simp only
          rw [if_pos hd, if_neg (by omega)]
          simp
        rw [hg, hn]
        simp only
        rcases gRun_num rs (i + 1) (L.length - 1) (r - 48) ys h2 (by omega) with ⟨h3, h4⟩ | ⟨m', j, h3, h4, h5⟩
        · rw [h3, h4]
        · rw [h3, h5]
          exact gRun_tok k j f _ (by omega) (by omega)
      rw [if_neg hd]
      have hgo : gTake ys .idle r = gOther ys r := by rw [gTake, if_neg hd]
      rw [hgo]
      unfold gOther
      rw [if_neg h32]
      by_cases hnm : r = 955 ∨ r = 960
      · rw [if_pos hnm]
        have hk : knownB (r : Int) = true := by rcases hnm with rfl | rfl <;> decide
        rw [if_pos hk, if_pos ((named_iff r).2 hnm)]
        simp only
        cases hrs : rs with
        | nil =>
          rw [hrs] at h2
          rw [drop_nil h2]
          rfl
        | cons x xs =>
          rw [hrs] at h2
          obtain ⟨h3, h4⟩ := drop_cons h2
          rw [h3]
          simp only
          rw [gRun]
          by_cases hnx : nameB (x : Int) = true
          · rw [if_pos hnx, show gTake ys (.wait r) x = some (ys ++ [⟨(r : Int), 0, (x : Int)⟩], .idle) from by rw [gTake, if_pos hnx]]
            simp only
            rw [← h4]
            exact gRun_tok k (i + 2) f _ (by omega) (by omega)
          · rw [if_neg hnx, show gTake ys (.wait r) x = none from by rw [gTake, if_neg hnx]]
      · rw [if_neg hnm]
        by_cases hk : knownB (r : Int) = true
        · rw [if_pos hk, if_pos hk, if_neg (fun h => hnm ((named_iff r).1 h))]
          simp only
          rw [← h2]
          exact gRun_tok k (i + 1) f _ (by omega) (by omega)
        · rw [if_neg hk, if_neg hk]
theorem gRun_is (s : ByteArray) (h : ¬ 512 < s.size) : tokR s = gRun (runesL s) [] .idle := by
  unfold tokR
  rw [if_neg h]
  have := gRun_tok (L := runesL s) (runesL s).length 0 ((runesL s).length + 1) [] (by omega) (by omega)
  rw [List.drop_zero] at this
  exact this.symm
end Go.Proofs.Ytfhgnoajfipjdaa
namespace Go.Proofs.Ytfhgnoajfipjdaa
open Go.RowKit
abbrev glT : List TypeId := [167, 180]
structure Gl (W : World) (g : Nat) (v : Value) (ys : List TkV) (ph : GPh) : Prop where
  rec_ : Whole W g 180 [v, .bool (counts ph), .bool (waits ph)]
  own : W.ownsRow (g + 1) 167 3 v (ys.length + (pend ph).length) (tkCs (ys ++ pend ph))
  few : ys.length ≤ 1000
  big : ∀ m, ph = .num m → m ≤ 9223372036854775807
def GPost (W : World) (g : Nat) (o : Option (List TkV × GPh)) (e : Ending) (w' : World) : Prop :=
  Fr g glT W w' ∧ ((o = none ∧ e = .returned (.bool false)) ∨ ∃ ys' ph' v', o = some (ys', ph') ∧ e = .returned (.bool true) ∧ Gl w' g v' ys' ph')
theorem pend_len (ph : GPh) : (pend ph).length ≤ 1 := by cases ph <;> simp [pend]
section
variable {W W' : World} {g : Nat} {v : Value} {ys : List TkV} {ph : GPh}
theorem Gl.keep (h : Gl W g v ys ph) (hc : Chg [] W W') : Gl W' g v ys ph := ⟨h.rec_.keep hc, rown_keep h.own hc, h.few, h.big⟩
theorem Gl.away (h : Gl W g v ys ph) : v.ownBlock ≠ some g := fun e => by have := (h.own.lt g e).1; omega
theorem Gl.slice (h : Gl W g v ys ph) : ∃ A n c, v = .slice A n c ∧ n = ys.length + (pend ph).length := by
  obtain ⟨A, c, e, _⟩ := rown_slice h.own
  exact ⟨A, _, c, e, rfl⟩
/-- A digit's token begins. -/
theorem Gl.begin_ {W2 : World} {v' : Value} (h : Gl W g v ys .idle) {W1 : World} (hW1 : W1 = W.setCell ⟨g, 1, none⟩ (.bool true)) (hc : Chg [] W1 W2) {w3 : World} {n1 : Nat} (hn1 : n1 = ys.length + 1) (ho : w3.ownsRow (g + 1) 167 3 v' n1 (tkCs ys ++ [.int .i32 48, .int .i64 0, .int .i32 0])) (hg : W2.grownBy w3 v.ownBlock) :
    Gl (w3.setCell ⟨g, 0, none⟩ v') g v' ys (.num 0) ∧ Fr g glT W (w3.setCell ⟨g, 0, none⟩ v') := by
  subst hn1
  have hr1 : Whole W1 g 180 [v, .bool true, .bool false] := by subst hW1; have := h.rec_.set_ 1 (.bool true); simpa [counts, waits] using this
  have ho1 : W1.ownsRow (g + 1) 167 3 v ys.length (tkCs ys) := by subst hW1; have := rown_far (p := ⟨g, 1, none⟩) (u := .bool true) h.own (fun e => h.away e); simpa [pend] using this
  have hr3 := whole_grown (hr1.keep hc) (rown_keep ho1 hc) (by decide) hg
  refine ⟨⟨?_, ?_, h.few, fun m e => by injection e with e; omega⟩, ?_⟩
  · have := hr3.set_ 0 v'
    simpa [counts, waits] using this
  · have := rown_far (p := ⟨g, 0, none⟩) (u := v') ho (fun e => by have := (ho.lt g e).1; omega)
    simpa [pend, tkCs_app, tkCs, tkC] using this
  · subst hW1
    exact ((((Fr.refl g glT W).setw h.rec_ (Nat.le_refl _) (by simp [glT]) _).new hc).grown (rown_keep ho1 hc) (Nat.le_succ g) (by simp [glT]) hg).setw hr3 (Nat.le_refl _) (by simp [glT]) _
/-- Its number. -/
theorem Gl.number {gr c m : Nat} (h : Gl W g (.slice (some ⟨gr, 0, none⟩) (ys.length + 1) c) ys (.num m)) (m' : Nat) (hm : m' ≤ 9223372036854775807) :
    Gl (W.setCell ⟨gr, ys.length * 3 + 1, none⟩ (.int .i64 (m' : Int))) g (.slice (some ⟨gr, 0, none⟩) (ys.length + 1) c) ys (.num m') ∧ Fr g glT W (W.setCell ⟨gr, ys.length * 3 + 1, none⟩ (.int .i64 (m' : Int))) := by
  have hgr := (h.own.lt gr rfl).1
  refine ⟨⟨h.rec_.far (by simp only; omega) _, ?_, h.few, fun m e => by injection e with e; omega⟩, (Fr.refl g glT W).seto h.own (Nat.le_succ g) (by simp [glT]) _⟩
  have h2 := rown_set (j := ys.length * 3 + 1) (u := .int .i64 (m' : Int)) h.own
  have e : (tkCs (ys ++ pend (.num m))).set (ys.length * 3 + 1) (.int .i64 (m' : Int)) = tkCs (ys ++ pend (.num m')) := by
    rw [tkCs_app, tkCs_app, List.set_append_right _ _ (by rw [tkCs_len]; omega), tkCs_len, show ys.length * 3 + 1 - ys.length * 3 = 1 from by omega]
    rfl
  rw [e] at h2
  exact h2
end
section
variable {W : World} {g : Nat} {v : Value} {ys : List TkV} {ph : GPh}
def numOf : GPh → Nat
  | .num m => m
  | _ => 0
set_option maxHeartbeats 4000000 in
set_option maxRecDepth 100000 in
theorem gcount_any (h : Gl W g v ys ph) (hw : waits ph = false) (x : Nat) (hx : x ≤ 9) (hfew : ys.length ≤ 900) : Calls Try.prog 148 #[.pointer (some ⟨g, 0, none⟩), .int .i64 (x : Int)] W (GPost W g (gCount ys (numOf ph) x)) := by
  obtain ⟨i0, hi0, hz0, hz1, hz2⟩ := info_parts info_token
  obtain ⟨A, n, c, rfl, hn⟩ := h.slice
  have H := Lib.hid h
  have q0 := h.rec_.cell 0
  have q1 := h.rec_.cell 1
  have f0 := h.rec_.frozen 0
  have f1 := h.rec_.frozen 1
  have hnum := h.big
  have HN := Lib.hid hn
  clear h hn
  go_enter Try.func148, Try.ntmps148
  go_upto_if 11 with fail
  go_cut [] (fun wx => ∃ v2, Hid (Gl wx g v2 ys (.num (numOf ph))) ∧ Hid (Fr g glT W wx))
  case first =>
    cases ph with
    | wait q => cases hw
    | num m =>
      go_wp2_with fail
      go_meet
      exact ⟨_, H, Lib.hid (Fr.refl _ _ _)⟩
    | idle =>
      go_upto_region 3 with fail
      have hn : n = ys.length := by have := HN.out; simpa [pend] using this
      have hn9 : n ≤ 900 := by omega
      obtain ⟨w1, hw1⟩ : ∃ w1, w1 = W.setCell ⟨g, 1, none⟩ (.bool true) := ⟨_, rfl⟩
      have hr1 : Whole w1 g 180 [.slice A n c, .bool true, .bool false] := by subst hw1; have := H.out.rec_.set_ 1 (.bool true); simpa [counts, waits, pend] using this
      have ho1 : w1.ownsRow (g + 1) 167 3 (.slice A n c) n (tkCs ys) := by subst hw1; have := rown_far (p := ⟨g, 1, none⟩) (u := .bool true) H.out.own (fun e => H.out.away e); rw [← HN.out] at this; simpa [pend] using this
      rw [← hw1]
      have hal : Chg [] w1 (w1.alloc (.cells #[.int .i32 48, .int .i64 0, .int .i32 0] 167)) := (Chg.refl [] w1).alloc _
      have hsz : w1.heap.size = W.heap.size := by subst hw1; exact size_set _ _ _
      have hgz := H.out.rec_.lt
      have HW1 := Lib.hid hw1
      have HR1 := Lib.hid hr1
      have HO1 := Lib.hid ho1
      have HO2 := Lib.hid (rown_keep ho1 hal)
      have HR2 := Lib.hid (hr1.keep hal)
      have HAL := Lib.hid hal
      have c0 := hr1.cell 0
      have c2 := HR2.out.cell 0
      have HBZ := Lib.hid (show g + 1 ≤ (w1.alloc (.cells #[.int .i32 48, .int .i64 0, .int .i32 0] 167)).heap.size from by have := hal.size; omega)
      have HNN := Lib.hid hn
      clear hw1 hr1 ho1 hal hsz hgz q0 q1 f0 f1 hn
      go_upto_region 4 with (at_builtin
                             refine wpList_append_own _ rfl (.tmp 19) (.tmp 21) _ rfl (g + 1) 167 i0 _ 3 24 Try.underlying119 hi0 hz0 hz1 hz2 rfl (by decide) (.slice A n c) n (tkCs ys) rfl HO2.out ⟨w1.heap.size, 0, none⟩ 1 1 [.int .i32 48, .int .i64 0, .int .i32 0] rfl rfl (cells_page _ _ _) (by simp [Value.oneCell']) (by simp only [maxLen]; omega) (by omega) HBZ.out ?_
                             intro v' w3 ho3 hg3 _
                             have HO3 := Lib.hid ho3
                             have HG3 := Lib.hid hg3
                             have hr3 := whole_grown HR2.out HO2.out (by decide) hg3
                             have c3 := hr3.cell 0
                             have f3 := hr3.frozen 0
                             obtain ⟨A3, c3', rfl, _⟩ := rown_slice ho3
                             clear ho3 hg3 hr3)
      obtain ⟨hGl, hLow⟩ := H.out.begin_ HW1.out HAL.out (by have := HNN.out; omega) HO3.out HG3.out
      go_meet
      exact ⟨_, Lib.hid hGl, Lib.hid hLow⟩
  case rest =>
    obtain ⟨v2, HG, HL⟩ := hcut
    obtain ⟨w2, rfl⟩ : ∃ w2 : World, w2 = wc := ⟨_, rfl⟩
    obtain ⟨m, hme⟩ : ∃ m, m = numOf ph := ⟨_, rfl⟩
    rw [← hme] at HG
    have HME := Lib.hid hme
    clear hme
    have hm := HG.out.big m rfl
    clear H HN q0 q1 f0 f1 hnum hw
    obtain ⟨A2, n2, c2, rfl, hn2⟩ := HG.out.slice
    have hn2' : n2 = ys.length + 1 := hn2
    obtain ⟨gr, hgr, y1⟩ := rown_cell HG.out.own (j := ys.length * 3 + 1) (u := .int .i64 (m : Int)) (by rw [← hn2]) (by rw [tkCs_app, List.getElem?_append_right (by rw [tkCs_len]; omega), tkCs_len, show ys.length * 3 + 1 - ys.length * 3 = 1 from by omega]; rfl)
    subst hgr
    have hown := HG.out.own
    rw [← hn2] at hown
    have fy1 := rown_frozen (j := ys.length * 3 + 1) hown
    have r0 := HG.out.rec_.cell 0
    clear hown hn2
    obtain ⟨k, hk⟩ : ∃ k, k = ys.length := ⟨_, rfl⟩
    rw [← hk] at hn2' y1 fy1
    have HK := Lib.hid hk
    subst hn2'
    have hk9 : k ≤ 900 := by omega
    clear hk
    by_cases hbig : (9223372036854775807 - x) / 10 < m
    · have hbI : (9223372036854775807 - (x : Int)) / 10 < (m : Int) := by omega
      have hbd : decide ((9223372036854775807 - (x : Int)) / 10 < (m : Int)) = true := by simpa using hbI
      have HP := Lib.hid (show GPost W g (gCount ys (numOf ph) x) (.returned (.bool false)) w2 from ⟨HL.out, .inl ⟨by rw [← HME.out]; unfold gCount; rw [if_pos hbig], rfl⟩⟩)
      clear hbig
      go_wp2_with fail
      go_ret
      exact HP.out
    · have hbI : (m : Int) ≤ (9223372036854775807 - (x : Int)) / 10 := by omega
      have hbd : decide ((9223372036854775807 - (x : Int)) / 10 < (m : Int)) = false := by simp; omega
      have hmx : (m : Int) * 10 + (x : Int) ≤ 9223372036854775807 := by omega
      have HP := Lib.hid (show GPost W g (gCount ys (numOf ph) x) (.returned (.bool true)) (w2.setCell ⟨gr, k * 3 + 1, none⟩ (.int .i64 ((m : Int) * 10 + (x : Int)))) from by
        have hG2 := HG.out
        rw [HK.out] at hG2 ⊢
        obtain ⟨h1, h2⟩ := hG2.number (m * 10 + x) (by omega)
        rw [show ((m * 10 + x : Nat) : Int) = (m : Int) * 10 + (x : Int) from by omega] at h1 h2
        exact ⟨HL.out.trans h2, .inr ⟨ys, _, _, by rw [← HME.out]; unfold gCount; rw [if_neg hbig], rfl, h1⟩⟩)
      clear hbig
      go_wp2_with fail
      go_ret
      exact HP.out
end
end Go.Proofs.Ytfhgnoajfipjdaa
namespace Go.Proofs.Ytfhgnoajfipjdaa
open Go.RowKit
section
variable {W W' : World} {g : Nat} {v : Value} {ys : List TkV} {ph : GPh}
/-- No digit more. -/
theorem Gl.done_ (h : Gl W g v ys ph) (hw : waits ph = false) (hf : ys.length ≤ 900) : Gl (W.setCell ⟨g, 1, none⟩ (.bool false)) g v (ys ++ pend ph) .idle ∧ Fr g glT W (W.setCell ⟨g, 1, none⟩ (.bool false)) := by
  have hp := pend_len ph
  refine ⟨⟨?_, ?_, by rw [List.length_append]; omega, fun m e => by cases e⟩, (Fr.refl g glT W).setw h.rec_ (Nat.le_refl _) (by simp [glT]) _⟩
  · have := h.rec_.set_ 1 (.bool false)
    rw [hw] at this
    exact this
  · have := rown_far (p := ⟨g, 1, none⟩) (u := .bool false) h.own (fun e => h.away e)
    rw [List.length_append]
    simpa [pend] using this
/-- A sign more. -/
theorem Gl.more_ {W2 w3 : World} {v' : Value} {n1 : Nat} {t : TkV} (h : Gl W g v ys .idle) (hc : Chg [] W W2) (hn1 : n1 = ys.length + 1) (ho : w3.ownsRow (g + 1) 167 3 v' n1 (tkCs ys ++ tkC t)) (hg : W2.grownBy w3 v.ownBlock) (hf : ys.length ≤ 950) :
    Gl (w3.setCell ⟨g, 0, none⟩ v') g v' (ys ++ [t]) .idle ∧ Fr g glT W (w3.setCell ⟨g, 0, none⟩ v') := by
  subst hn1
  have ho1 : W.ownsRow (g + 1) 167 3 v ys.length (tkCs ys) := by have := h.own; simpa [pend] using this
  have hr3 := whole_grown (h.rec_.keep hc) (rown_keep ho1 hc) (by decide) hg
  refine ⟨⟨?_, ?_, by rw [List.length_append]; simp; omega, fun m e => by cases e⟩, ?_⟩
  · have := hr3.set_ 0 v'
    simpa [counts, waits] using this
  · have := rown_far (p := ⟨g, 0, none⟩) (u := v') ho (fun e => by have := (ho.lt g e).1; omega)
    rw [List.append_assoc, tkCs_app, show tkCs ([t] ++ pend .idle) = tkC t from by simp [pend, tkCs], List.length_append]
    exact this
  · exact (((Fr.of_chg hc : Fr g glT W W2)).grown (rown_keep ho1 hc) (Nat.le_succ g) (by simp [glT]) hg).setw hr3 (Nat.le_refl _) (by simp [glT]) _
/-- The sign waits for its name, or not. -/
theorem Gl.waits_ {q : Nat} (h : Gl W g v (ys ++ [⟨(q : Int), 0, 0⟩]) .idle) : Gl (W.setCell ⟨g, 2, none⟩ (.bool true)) g v ys (.wait q) := by
  refine ⟨?_, ?_, by have := h.few; rw [List.length_append] at this; omega, fun m e => by cases e⟩
  · have := h.rec_.set_ 2 (.bool true)
    simpa [counts, waits] using this
  · have := rown_far (p := ⟨g, 2, none⟩) (u := .bool true) h.own (fun e => h.away e)
    simpa [pend] using this
theorem Gl.not_ (h : Gl W g v ys .idle) : Gl (W.setCell ⟨g, 2, none⟩ (.bool false)) g v ys .idle := by
  refine ⟨?_, ?_, h.few, fun m e => by cases e⟩
  · have := h.rec_.set_ 2 (.bool false)
    simpa [counts, waits] using this
  · exact rown_far (p := ⟨g, 2, none⟩) (u := .bool false) h.own (fun e => h.away e)
/-- A name comes. -/
theorem Gl.name_ {gr c q : Nat} (h : Gl W g (.slice (some ⟨gr, 0, none⟩) (ys.length + 1) c) ys (.wait q)) {W1 : World} (hW : Chg [] (W.setCell ⟨g, 2, none⟩ (.bool false)) W1) (r : Int) (hf : ys.length ≤ 900) :
    Gl (W1.setCell ⟨gr, ys.length * 3 + 2, none⟩ (.int .i32 r)) g (.slice (some ⟨gr, 0, none⟩) (ys.length + 1) c) (ys ++ [⟨(q : Int), 0, r⟩]) .idle ∧ Fr g glT W (W1.setCell ⟨gr, ys.length * 3 + 2, none⟩ (.int .i32 r)) := by
  have hgr := (h.own.lt gr rfl).1
  have h0 : Whole (W.setCell ⟨g, 2, none⟩ (.bool false)) g 180 [.slice (some ⟨gr, 0, none⟩) (ys.length + 1) c, .bool false, .bool false] := by have := h.rec_.set_ 2 (.bool false); simpa [counts, waits] using this
  have h1 := h0.keep hW
  have h2 := rown_keep (rown_far (p := ⟨g, 2, none⟩) (u := .bool false) h.own (fun e => h.away e)) hW
  have hL0 : Fr g glT W (W.setCell ⟨g, 2, none⟩ (.bool false)) := (Fr.refl g glT W).setw h.rec_ (Nat.le_refl _) (by simp [glT]) _
  refine ⟨⟨h1.far (by simp only; omega) _, ?_, by rw [List.length_append]; simp; omega, fun m e => by cases e⟩, (hL0.new hW).seto h2 (Nat.le_succ g) (by simp [glT]) _⟩
  have h3 := rown_set (j := ys.length * 3 + 2) (u := .int .i32 r) h2
  have e : (tkCs (ys ++ pend (.wait q))).set (ys.length * 3 + 2) (.int .i32 r) = tkCs (ys ++ [⟨(q : Int), 0, r⟩] ++ pend .idle) := by
    rw [tkCs_app, tkCs_app, tkCs_app, List.set_append_right _ _ (by rw [tkCs_len]; omega), tkCs_len, show ys.length * 3 + 2 - ys.length * 3 = 2 from by omega]
    simp [pend, tkCs, tkC]
  rw [e] at h3
  have e2 : (ys ++ [(⟨(q : Int), 0, r⟩ : TkV)]).length + (pend .idle).length = ys.length + (pend (.wait q)).length := by simp [pend]
  rw [e2]
  exact h3
end
section
variable {W : World} {g : Nat} {v : Value} {ys : List TkV}
set_option maxHeartbeats 4000000 in
set_option maxRecDepth 100000 in
theorem gtake_wait {q : Nat} (h : Gl W g v ys (.wait q)) (r : Nat) (hfew : ys.length ≤ 900) : Calls Try.prog 99 #[.pointer (some ⟨g, 0, none⟩), .int .i32 (r : Int)] W (GPost W g (gTake ys (.wait q) r)) := by
  obtain ⟨A, n, c, rfl, hn⟩ := h.slice
  have hn2 : n = ys.length + 1 := hn
  obtain ⟨gr, hgr, y2⟩ := rown_cell h.own (j := ys.length * 3 + 2) (u := .int .i32 0) (by rw [← hn]) (by rw [tkCs_app, List.getElem?_append_right (by rw [tkCs_len]; omega), tkCs_len, show ys.length * 3 + 2 - ys.length * 3 = 2 from by omega]; rfl)
  subst hgr
  have hown := h.own
  rw [← hn] at hown
  have fy2 := rown_frozen (j := ys.length * 3 + 2) hown
  have hgr := (hown.lt gr rfl).1
  have r2 := h.rec_.cell 2
  have f2 := h.rec_.frozen 2
  clear hn hown
  subst hn2
  have H := Lib.hid h
  clear h
  obtain ⟨k, hk⟩ : ∃ k, k = ys.length := ⟨_, rfl⟩
  have HK := Lib.hid hk
  rw [← hk] at y2 fy2 hfew r2
  rw [← hk] at H
  have HNM := Lib.hid (fun (W1 : World) (hW : Chg [] (W.setCell ⟨g, 2, none⟩ (.bool false)) W1) => show Gl (W1.setCell ⟨gr, k * 3 + 2, none⟩ (.int .i32 (r : Int))) g (.slice (some ⟨gr, 0, none⟩) (k + 1) c) (ys ++ [⟨(q : Int), 0, (r : Int)⟩]) .idle ∧ Fr g glT W (W1.setCell ⟨gr, k * 3 + 2, none⟩ (.int .i32 (r : Int))) from by
    have h := H.out
    rw [hk] at h ⊢
    exact h.name_ hW (r : Int) (by omega))
  clear hk
  go_enter Try.func99, Try.ntmps99
  go_upto_region 3 with fail
  have hr1 : Whole (W.setCell ⟨g, 2, none⟩ (.bool false)) g 180 [.slice (some ⟨gr, 0, none⟩) (k + 1) c, .bool false, .bool false] := by have := H.out.rec_.set_ 2 (.bool false); simpa [counts, waits] using this
  have z2 : (W.setCell ⟨g, 2, none⟩ (.bool false)).cell? ⟨gr, k * 3 + 2, none⟩ = some (.int .i32 0) := by rw [← y2]; exact World.cell?_of_block (w := W) (Below.heap_setCell W _ _ _ (by simp only; omega))
  have fz2 : (W.setCell ⟨g, 2, none⟩ (.bool false)).frozen? ⟨gr, k * 3 + 2, none⟩ = false := by rw [← fy2]; exact World.frozen?_of_block (w := W) (Below.heap_setCell W _ _ _ (by simp only; omega))
  generalize W.setCell ⟨g, 2, none⟩ (.bool false) = w1 at HNM hr1 z2 fz2 ⊢
  have hdw : Chg [] (w1.setCell ⟨gr, k * 3 + 2, none⟩ (.int .i32 (r : Int))) (w1.setCell ⟨gr, k * 3 + 2, none⟩ (.int .i32 (r : Int))).drew := (Chg.refl [] _).drew
  have HG1 := Lib.hid (And.intro ((HNM.out _ (Chg.refl [] w1)).1.keep hdw) ((HNM.out _ (Chg.refl [] w1)).2.new hdw))
  clear hdw
  have hk1 : IntKind.i64.wrap ((k : Int) + 1 - 1) = (k : Int) := by rw [show (k : Int) + 1 - 1 = (k : Int) from by omega]; exact IntWalk.i64_in _ (by omega)
  have hk2 : IntKind.i64.wrap (k : Int) = (k : Int) := IntWalk.i64_in _ (by omega)
  have hk3 : (k : Int).toNat = k := Int.toNat_natCast _
  have hk4 : (0 : Int) ≤ (k : Int) := by omega
  have hk5 : (k : Int) < (k : Int) + 1 := by omega
  have d0 : w1.drew.cell? ⟨g, 0, none⟩ = some (.slice (some ⟨gr, 0, none⟩) (k + 1) c) := hr1.drew.cell 0
  have c0 := hr1.cell 0
  clear y2 fy2 r2 f2
  go_still_tail 13, (by kernel_rfl)
  change wpList _ _ _ _ _ w1.drew
  go_wp2_with fail
  generalize (w1.setCell ⟨gr, k * 3 + 2, none⟩ (.int .i32 (r : Int))).drew = w2 at HG1 ⊢
  refine (gname_any (r : Int) _).mono ?_
  rintro e w3 ⟨rfl, rfl⟩
  have HP := Lib.hid (show GPost W g (gTake ys (.wait q) r) (.returned (.bool (nameB (r : Int)))) w2 from ⟨HG1.out.2, by
    cases hb : nameB (r : Int) with
    | false => exact .inl ⟨by rw [gTake, if_neg (by rw [hb]; decide)], rfl⟩
    | true => exact .inr ⟨_, _, _, by rw [gTake, if_pos hb], rfl, HG1.out.1⟩⟩)
  go_wp2_with fail
  go_ret
  exact HP.out
set_option maxHeartbeats 4000000 in
set_option maxRecDepth 100000 in
theorem gtake_digit {ph : GPh} (h : Gl W g v ys ph) (hw : waits ph = false) (r : Nat) (hr : 48 ≤ r ∧ r ≤ 57) (hfew : ys.length ≤ 900) : Calls Try.prog 99 #[.pointer (some ⟨g, 0, none⟩), .int .i32 (r : Int)] W (GPost W g (gTake ys ph r)) := by
  have e : gTake ys ph r = gCount ys (numOf ph) (r - 48) := by
    cases ph with
    | wait q => cases hw
    | num m => rw [gTake, if_pos hr]; rfl
    | idle => rw [gTake, if_pos hr]; rfl
  rw [e]
  have hd : digitB (r : Int) = true := by unfold digitB; simp; omega
  have HD := Lib.hid hd
  have HC := Lib.hid (gcount_any h hw (r - 48) (by omega) hfew)
  rw [show ((r - 48 : Nat) : Int) = (r : Int) - 48 from by omega] at HC
  have r2 : W.cell? ⟨g, 2, none⟩ = some (.bool false) := by have := h.rec_.cell 2; rw [hw] at this; exact this
  obtain ⟨hr1, hr2⟩ := hr
  have hr1I : (48 : Int) ≤ (r : Int) := by omega
  have hr2I : (r : Int) ≤ 57 := by omega
  clear h hd e hw
  go_enter Try.func99, Try.ntmps99
  go_wp2_with fail
  refine (digit_any (r : Int) _).mono ?_
  rw [HD.out]
  rintro e w3 ⟨rfl, rfl⟩
  go_wp2_with fail
  refine HC.out.mono ?_
  rintro e w2 ⟨hl, hp⟩
  rcases hp with ⟨ho, rfl⟩ | ⟨ys', ph', v', ho, rfl, hG⟩
  · have HP := Lib.hid (show GPost W g (gCount ys (numOf ph) (r - 48)) (.returned (.bool false)) w2 from ⟨hl, .inl ⟨ho, rfl⟩⟩)
    clear ho hl
    go_wp2_with fail
    go_ret
    exact HP.out
  · have HP := Lib.hid (show GPost W g (gCount ys (numOf ph) (r - 48)) (.returned (.bool true)) w2 from ⟨hl, .inr ⟨ys', ph', v', ho, rfl, hG⟩⟩)
    clear ho hl hG
    go_wp2_with fail
    go_ret
    exact HP.out
set_option maxHeartbeats 8000000 in
set_option maxRecDepth 100000 in
theorem gtake_other {ph : GPh} (h : Gl W g v ys ph) (hw : waits ph = false) (r : Nat) (hr : ¬ (48 ≤ r ∧ r ≤ 57)) (hrm : r ≤ 2147483647) (hfew : ys.length ≤ 900) : Calls Try.prog 99 #[.pointer (some ⟨g, 0, none⟩), .int .i32 (r : Int)] W (GPost W g (gTake ys ph r)) := by
  obtain ⟨i0, hi0, hz0, hz1, hz2⟩ := info_parts info_token
  have e : gTake ys ph r = gOther (ys ++ pend ph) r := by
    cases ph with
    | wait q => cases hw
    | num m => rw [gTake, if_neg hr]; rfl
    | idle => rw [gTake, if_neg hr, pend, List.append_nil]
  rw [e]
  have hd : digitB (r : Int) = false := by unfold digitB; simp; omega
  have HD := Lib.hid hd
  have r2 : W.cell? ⟨g, 2, none⟩ = some (.bool false) := by have := h.rec_.cell 2; rw [hw] at this; exact this
  have r1 := h.rec_.cell 1
  have f1 := h.rec_.frozen 1
  have HG := Lib.hid (h.done_ hw hfew)
  have hbl : (ys ++ pend ph).length ≤ 901 := by rw [List.length_append]; have := pend_len ph; omega
  generalize ys ++ pend ph = bs at HG hbl ⊢
  clear h hd e hw hr hfew
  go_enter Try.func99, Try.ntmps99
  go_wp2_with fail
  refine (digit_any (r : Int) _).mono ?_
  rw [HD.out]
  rintro e w3 ⟨rfl, rfl⟩
  go_upto_region 8 with fail
  generalize W.setCell ⟨g, 1, none⟩ (.bool false) = w1 at HG ⊢
  clear r1 r2 f1
  by_cases h32 : r = 32
  · subst h32
    have HP := Lib.hid (show GPost W g (gOther bs 32) (.returned (.bool true)) w1 from ⟨HG.out.2, .inr ⟨bs, .idle, v, rfl, rfl, HG.out.1⟩⟩)
    go_wp2_with fail
    go_ret
    exact HP.out
  · have q32 : ((r : Int) == 32) = false := by simp; omega
    obtain ⟨A, n, c, rfl, hn⟩ := HG.out.1.slice
    have hn2 : n = bs.length := by simpa [pend] using hn
    have c0 := HG.out.1.rec_.cell 0
    have hal : Chg [] w1 (w1.alloc (.cells #[.int .i32 (r : Int), .int .i64 0, .int .i32 0] 167)) := (Chg.refl [] w1).alloc _
    have ho1 : w1.ownsRow (g + 1) 167 3 (.slice A n c) n (tkCs bs) := by have := HG.out.1.own; rw [← hn] at this; simpa [pend] using this
    have HO2 := Lib.hid (rown_keep ho1 hal)
    have HAL := Lib.hid hal
    have HR2 := Lib.hid (HG.out.1.rec_.keep hal)
    have HBZ := Lib.hid (show g + 1 ≤ (w1.alloc (.cells #[.int .i32 (r : Int), .int .i64 0, .int .i32 0] 167)).heap.size from by have := hal.size; have := HG.out.1.rec_.lt; omega)
    have HN := Lib.hid hn2
    have hn9 : n ≤ 901 := by omega
    clear hn hn2 ho1 hal h32
    go_upto_region 11 with (at_builtin
                            refine wpList_append_own _ rfl (.tmp 43) (.tmp 46) _ rfl (g + 1) 167 i0 _ 3 24 Try.underlying119 hi0 hz0 hz1 hz2 rfl (by decide) (.slice A n c) n (tkCs bs) rfl HO2.out ⟨w1.heap.size, 0, none⟩ 1 1 [.int .i32 (r : Int), .int .i64 0, .int .i32 0] rfl rfl (cells_page _ _ _) (by simp [Value.oneCell']) (by simp only [maxLen]; omega) (by omega) HBZ.out ?_
                            intro v' w3 ho3 hg3 _
                            have HO3 := Lib.hid ho3
                            have HG3 := Lib.hid hg3
                            have hr3 := whole_grown HR2.out HO2.out (by decide) hg3
                            have c3 := hr3.cell 0
                            have f3 := hr3.frozen 0
                            obtain ⟨A3, c3', rfl, _⟩ := rown_slice ho3
                            clear ho3 hg3 hr3)
    obtain ⟨hm1, hm2⟩ := HG.out.1.more_ (t := ⟨(r : Int), 0, 0⟩) HAL.out (by have := HN.out; omega) HO3.out HG3.out (by omega)
    have HM := Lib.hid hm1
    have HL := Lib.hid (HG.out.2.trans hm2)
    generalize w3.setCell ⟨g, 0, none⟩ (.slice A3 (n + 1) c3') = w4 at HM HL ⊢
    clear hm1 hm2 c3 f3 c0 HO2 HO3 HG3 HAL HR2 HBZ
    have s2 := HM.out.rec_.cell 2
    have t2 := HM.out.rec_.frozen 2
    go_wp2_with fail
    refine (named_any (r : Int) _).mono ?_
    rintro e w5 ⟨rfl, rfl⟩
    cases hnm : namedB (r : Int) with
    | true =>
      have hkn : knownB (r : Int) = true := by rcases (named_iff r).1 hnm with rfl | rfl <;> decide
      have HP := Lib.hid (fun (W' : World) (hc : Chg [] (w4.setCell ⟨g, 2, none⟩ (.bool true)) W') => show GPost W g (gOther bs r) (.returned (.bool (knownB (r : Int)))) W' from
        ⟨(HL.out.setw HM.out.rec_ (Nat.le_refl _) (by simp [glT]) _).new hc, .inr ⟨bs, .wait r, _, by unfold gOther; rw [if_neg (by intro e; subst e; revert hnm; decide), if_pos hkn, if_pos hnm], by rw [hkn], HM.out.waits_.keep hc⟩⟩)
      clear hnm hkn
      go_wp2_with fail
      refine (gknown_any (r : Int) _).mono ?_
      rintro e w6 ⟨rfl, hc6⟩
      have HQ := Lib.hid (HP.out w6 hc6)
      clear hc6
      go_wp2_with fail
      go_ret
      exact HQ.out
    | false =>
      have h32 : ¬ r = 32 := by intro e; subst e; revert q32; decide
      have HP := Lib.hid (fun (W' : World) (hc : Chg [] (w4.setCell ⟨g, 2, none⟩ (.bool false)) W') => show GPost W g (gOther bs r) (.returned (.bool (knownB (r : Int)))) W' from
        ⟨(HL.out.setw HM.out.rec_ (Nat.le_refl _) (by simp [glT]) _).new hc, by
          cases hkn : knownB (r : Int) with
          | true => exact .inr ⟨_, .idle, _, by unfold gOther; rw [if_neg h32, if_pos hkn, if_neg (by rw [hnm]; decide)], rfl, HM.out.not_.keep hc⟩
          | false => exact .inl ⟨by unfold gOther; rw [if_neg h32, if_neg (by rw [hkn]; decide)], rfl⟩⟩)
      clear hnm h32
      go_wp2_with fail
      refine (gknown_any (r : Int) _).mono ?_
      rintro e w6 ⟨rfl, hc6⟩
      have HQ := Lib.hid (HP.out w6 hc6)
      clear hc6
      go_wp2_with fail
      go_ret
      exact HQ.out
theorem gtake_any {ph : GPh} (h : Gl W g v ys ph) (r : Nat) (hrm : r ≤ 2147483647) (hfew : ys.length ≤ 900) : Calls Try.prog 99 #[.pointer (some ⟨g, 0, none⟩), .int .i32 (r : Int)] W (GPost W g (gTake ys ph r)) := by
  cases hw : waits ph with
  | true =>
    cases ph with
    | wait q => exact gtake_wait h r hfew
    | num m => cases hw
    | idle => cases hw
  | false =>
    by_cases hr : 48 ≤ r ∧ r ≤ 57
    · exact gtake_digit h hw r hr hfew
    · exact gtake_other h hw r hr hrm hfew
end
end Go.Proofs.Ytfhgnoajfipjdaa
