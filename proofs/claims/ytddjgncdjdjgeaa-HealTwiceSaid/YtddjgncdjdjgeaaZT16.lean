/-
  T: FrmScan, RedoRec, FrmPure.
-/
import Derived.Test.YtddjgncdjdjgeaaZT5
import Derived.Test.YtddjgncdjdjgeaaZT6
import Derived.Test.YtddjgncdjdjgeaaZT14
import Derived.Test.YtddjgncdjdjgeaaZT15
namespace Go.Proofs.Ytddjgncdjdjgeaa
open Go.RowKit

/-- One record more, if there is one. -/
noncomputable def stepS (l : List UInt8) (ep : Nat) (s : List (List UInt8) × Nat) : List (List UInt8) × Nat :=
  open Classical in if readOk (l.drop s.2) ep s.1.length then (s.1 ++ [recL (l.drop s.2)], s.2 + 16 + getI (l.drop s.2) 8) else s
noncomputable def itS (l : List UInt8) (ep : Nat) : Nat → List (List UInt8) × Nat
  | 0 => ([], 0)
  | k + 1 => stepS l ep (itS l ep k)
/-- What Scan answers. -/
noncomputable def scanS (l : List UInt8) (ep : Nat) : List (List UInt8) × Nat := itS l ep (l.length + 1)
theorem stepS_yes {l : List UInt8} {ep : Nat} {s : List (List UInt8) × Nat} (h : readOk (l.drop s.2) ep s.1.length) : stepS l ep s = (s.1 ++ [recL (l.drop s.2)], s.2 + 16 + getI (l.drop s.2) 8) := by
  unfold stepS; rw [if_pos h]
theorem stepS_no {l : List UInt8} {ep : Nat} {s : List (List UInt8) × Nat} (h : ¬ readOk (l.drop s.2) ep s.1.length) : stepS l ep s = s := by
  unfold stepS; rw [if_neg h]
theorem itS_stay {l : List UInt8} {ep k : Nat} (h : ¬ readOk (l.drop (itS l ep k).2) ep (itS l ep k).1.length) (j : Nat) : itS l ep (k + j) = itS l ep k := by
  induction j with
  | zero => rfl
  | succ j ih => show stepS l ep (itS l ep (k + j)) = _; rw [ih, stepS_no h]
theorem scanS_is {l : List UInt8} {ep k : Nat} (h : ¬ readOk (l.drop (itS l ep k).2) ep (itS l ep k).1.length) (hk : k ≤ l.length + 1) : scanS l ep = itS l ep k := by
  unfold scanS
  have e : l.length + 1 = k + (l.length + 1 - k) := by omega
  rw [e, itS_stay h]

def ScanPost (w : World) (l : List UInt8) (ep : Nat) (e : Ending) (w' : World) : Prop :=
  ∃ v vs, e = .returned (.tuple #[v, .int .i64 ((scanS l ep).2 : Nat)]) ∧ w'.ownsRow w.heap.size 44 1 v (scanS l ep).1.length vs ∧ Rows w.heap.size w' vs (scanS l ep).1 ∧ Chg [] w w'

/-- Behind k records. -/
structure At (l : List UInt8) (ep k : Nat) (rs : List (List UInt8)) (a : Nat) : Prop where
  it : itS l ep k = (rs, a)
  len : rs.length = k
  low : 16 * k ≤ a
  top : a ≤ l.length
theorem At.zero (l : List UInt8) (ep : Nat) : At l ep 0 [] 0 := ⟨rfl, rfl, by omega, by omega⟩
theorem At.next {l : List UInt8} {ep k : Nat} {rs : List (List UInt8)} {a : Nat} (h : At l ep k rs a) (hr : readOk (l.drop a) ep k) : At l ep (k + 1) (rs ++ [recL (l.drop a)]) (a + (16 + getI (l.drop a) 8)) := by
  have h1 := hr.1
  have h2 := hr.2.2.2.1
  rw [List.length_drop] at h1 h2
  refine ⟨?_, by simp [h.len], by have := h.low; omega, by have := h.top; omega⟩
  show stepS l ep (itS l ep k) = _
  rw [h.it, stepS_yes (by simpa [h.len] using hr)]
  simp only [Nat.add_assoc]
theorem At.last {l : List UInt8} {ep k : Nat} {rs : List (List UInt8)} {a : Nat} (h : At l ep k rs a) (hr : ¬ readOk (l.drop a) ep k) : scanS l ep = (rs, a) := by
  have h1 := h.low
  have h2 := h.top
  rw [scanS_is (k := k) (by rw [h.it]; simpa [h.len] using hr) (by omega), h.it]
section
variable {w : World} {A : Option Addr} {n c : Nat} {l : List UInt8}
set_option maxHeartbeats 1000000 in
set_option maxRecDepth 100000 in
theorem scan_any (h : Bs w A n c l) (ep : Nat) (hn : n ≤ 2147483648) :
    Calls Try.prog 68 #[.slice A n c, .int .u32 (ep : Int)] w (ScanPost w l ep) := by
  obtain ⟨i, hi, hz, hs1, hb⟩ := info_parts info_bytes
  go_enter Try.func68, Try.ntmps68
  go_wp2_with fail
  go_loopw [6, 7] (fun v a wr => ∃ k : Nat, ∃ m : Nat, ∃ rs vs, At l ep k rs m ∧ a = .int .i64 (m : Int) ∧ wr.ownsRow w.heap.size 44 1 v k vs ∧ Rows w.heap.size wr vs rs ∧ Chg [] w wr) (fun _ a _ => n - (intOf a).toNat)
  case atStart => exact ⟨0, 0, [], [], At.zero l ep, rfl, own_nil _ _ _, Rows.nil _ _, Chg.refl _ _⟩
  case round =>
    obtain ⟨k, m, rs, vs, hat, rfl, hown, hrows, hcr⟩ := hrel
    obtain ⟨Av, cv, rfl, hvl, hvc, _⟩ := own_slice hown
    have hm := hat.top
    have hk := hat.low
    have hl := h.len
    have hcap := h.cap
    rw [hl] at hm
    have hB := (h.keep hcr).cut (lo := m) (hi := n) hm (Nat.le_refl _)
    have hdr : (l.drop m).take (n - m) = l.drop m := List.take_of_length_le (by rw [List.length_drop]; omega)
    rw [hdr] at hB
    have e1 : (k : Int) % 4294967296 = (k : Int) := by omega
    have e2 : ¬ n < m := by omega
    have e3 : ¬ c < n := by omega
    have hnx : readOk (l.drop m) ep k → m + (16 + getI (l.drop m) 8) ≤ n := fun hr => by have := (hat.next hr).top; omega
    clear hdr hl
    rcases Decidable.em (m = c) with hcm | hcm
    · have hok : ¬ readOk (l.drop m) ep k := fun hr => by have := hnx hr; omega
      have hnm : n = m := by omega
      rw [if_pos hcm.symm] at hB
      subst hcm
      subst hnm
      rw [Nat.sub_self] at hB
      clear hnx
      go_wp2_with fail
      refine (read_any' hB ep k (by omega)).mono ?_
      rintro e w2 (⟨hyes, _⟩ | ⟨_, rfl, hc2⟩)
      · exact absurd hyes hok
      go_wp2_with fail
      go_ret2
      rw [ScanPost, hat.last hok]
      exact ⟨_, vs, rfl, by rw [hat.len]; exact own_keep hown hc2, hrows.keep hc2, hcr.new hc2⟩
    · rw [if_neg (Ne.symm hcm)] at hB
      have e4 : ¬ c = m := Ne.symm hcm
      by_cases hok : readOk (l.drop m) ep k
      · have hnk := hnx hok
        go_wp2_with fail
        refine (read_any' hB ep k (by omega)).mono ?_
        rintro e w2 (⟨_, v2, rfl, ho2, hc2⟩ | ⟨hno, _⟩)
        rotate_left
        · exact absurd hok hno
        obtain ⟨A2, c2, rfl, _⟩ := own_slice ho2
        have how := own_keep hown hc2
        have hrw := hrows.keep hc2
        have hx1 := Lib.hid (show k + 1 ≤ maxLen by unfold maxLen; omega)
        have hx2 := Lib.hid (show (k + 1) * 24 ≤ 140737488355328 by omega)
        have hx3 := Lib.hid (show w.heap.size ≤ w2.heap.size from Nat.le_trans hcr.size hc2.size)
        go_wp2_with (at_builtin
                     refine wpList_append_src rfl (.tmp 27) (.tmp 29) 36 rfl w.heap.size 44 i _ 24 Try.underlying36 hi hz hs1 hb cells_slice (.slice Av k cv) k vs rfl (own_keep how ((Chg.refl _ _).alloc _)) (some ⟨w2.heap.size, 0, none⟩) 1 1 [.slice A2 (recL (l.drop m)).length c2] rfl rfl (Src.of_all (Whole.new w2 44 [.slice A2 (recL (l.drop m)).length c2])) (fun u hu => by simp at hu; rw [hu]; rfl) hx1.out hx2.out (by simp; have := hx3.out; omega) ?_
                     intro v4 w4 ho4 hg4 _)
        have hch4 : Chg [] w w4 := ((hcr.new hc2).alloc _).own (own_keep how ((Chg.refl _ _).alloc _)) (Nat.le_refl _) hg4
        go_roundw
        case rel =>
          refine ⟨k + 1, m + (16 + getI (l.drop m) 8), _, _, hat.next hok, by go_num, ho4, ?_, hch4⟩
          exact ((hrw.keep ((Chg.refl _ _).alloc _)).snoc (own_more (own_keep ho2 ((Chg.refl _ _).alloc _)) hcr.size)).grown (own_keep how ((Chg.refl _ _).alloc _)) hg4
        case measure => simp [intOf]; omega
      · go_wp2_with fail
        refine (read_any' hB ep k (by omega)).mono ?_
        rintro e w2 (⟨hyes, _⟩ | ⟨_, rfl, hc2⟩)
        · exact absurd hyes hok
        go_wp2_with fail
        go_ret2
        rw [ScanPost, hat.last hok]
        exact ⟨_, vs, rfl, by rw [hat.len]; exact own_keep hown hc2, hrows.keep hc2, hcr.new hc2⟩
end
end Go.Proofs.Ytddjgncdjdjgeaa
namespace Go.Proofs.Ytddjgncdjdjgeaa
open Go.RowKit
/-- Are these bytes changes? -/
def okR (P : Int) (b : List UInt8) : Prop := 2 ≤ b.length ∧ b.length = 2 + num2 b * 66 ∧ rightB P (chsOf b (num2 b)) = true
instance (P : Int) (b : List UInt8) : Decidable (okR P b) := by unfold okR; exact inferInstance
def recM (b : List UInt8) : List ChV := chsOf b (num2 b)
/-- The records as far as they are changes, and how long they are. -/
def recF (P : Int) : List (List UInt8) → List (List ChV) × Nat
  | [] => ([], 0)
  | b :: rs => if okR P b then (recM b :: (recF P rs).1, 16 + b.length + (recF P rs).2) else ([], 0)
def lenS (rs : List (List UInt8)) : Nat := (rs.map fun b => 16 + b.length).sum
theorem recF_stop (P : Int) : ∀ (rs : List (List UInt8)) (k : Nat), k ≤ rs.length → (∀ (j : Nat) b, j < k → rs[j]? = some b → okR P b) → (∀ b, rs[k]? = some b → ¬ okR P b) → recF P rs = ((rs.take k).map recM, lenS (rs.take k))
  | [], k, _, _, _ => by simp [recF, lenS]
  | b :: rs, 0, _, _, h => by
    have := h b rfl
    simp [recF, this, lenS]
  | b :: rs, k + 1, hk, h1, h2 => by
    have hb := h1 0 b (by omega) rfl
    have ih := recF_stop P rs k (by simpa using hk) (fun j c hj hc => h1 (j + 1) c (by omega) (by simpa using hc)) (fun c hc => h2 c (by simpa using hc))
    rw [recF, if_pos hb, ih]
    simp [lenS]
theorem lenS_next (rs : List (List UInt8)) (k : Nat) (b : List UInt8) (h : rs[k]? = some b) : lenS (rs.take (k + 1)) = lenS (rs.take k) + (16 + b.length) := by
  obtain ⟨hk, he⟩ := List.getElem?_eq_some_iff.1 h
  unfold lenS
  rw [List.take_succ_eq_append_getElem hk, List.map_append, List.sum_append, he]
  simp
theorem recM_next (rs : List (List UInt8)) (k : Nat) (b : List UInt8) (h : rs[k]? = some b) : (rs.take (k + 1)).map recM = (rs.take k).map recM ++ [recM b] := by
  obtain ⟨hk, he⟩ := List.getElem?_eq_some_iff.1 h
  rw [List.take_succ_eq_append_getElem hk, List.map_append, he]
  rfl
theorem recM_len (b : List UInt8) : (recM b).length = num2 b := chsOf_len b _
/-- Lists of changes of the call's own. -/
def Recs (B : Nat) (w : World) (vs : List Value) (ms : List (List ChV)) : Prop :=
  vs.length = ms.length ∧ ∀ (i : Nat) (v : Value) (m : List ChV), vs[i]? = some v → ms[i]? = some m → ∃ ls, w.ownsRow B 78 2 v m.length (chCs ls) ∧ (∀ a ∈ ls, RMade w B a) ∧ ls.length = m.length ∧ asC ls m
theorem Recs.nil (B : Nat) (w : World) : Recs B w [] [] := ⟨rfl, fun i v m hv => by simp at hv⟩
theorem Recs.keep {B : Nat} {w w' : World} {vs : List Value} {ms : List (List ChV)} (h : Recs B w vs ms) (hc : Chg [] w w') : Recs B w' vs ms :=
  ⟨h.1, fun i v m hv hm => by obtain ⟨ls, h1, h2, h3⟩ := h.2 i v m hv hm; exact ⟨ls, rown_chg h1 hc (by simp), fun a ha => (h2 a ha).chg hc (by simp), h3⟩⟩
theorem Recs.snoc {B : Nat} {w : World} {vs : List Value} {ms : List (List ChV)} (h : Recs B w vs ms) {v : Value} {m ls : List ChV} (h1 : w.ownsRow B 78 2 v m.length (chCs ls)) (h2 : ∀ a ∈ ls, RMade w B a) (h3 : ls.length = m.length) (h4 : asC ls m) : Recs B w (vs ++ [v]) (ms ++ [m]) := by
  refine ⟨by simp [h.1], fun i u x hu hx => ?_⟩
  rcases Nat.lt_trichotomy i vs.length with hi | hi | hi
  · rw [List.getElem?_append_left hi] at hu
    rw [List.getElem?_append_left (by rw [← h.1]; exact hi)] at hx
    exact h.2 i u x hu hx
  · subst hi
    rw [List.getElem?_concat_length] at hu
    rw [h.1, List.getElem?_concat_length] at hx
    cases hu
    cases hx
    exact ⟨ls, h1, h2, h3, h4⟩
  · rw [List.getElem?_eq_none (by simp; omega)] at hu
    cases hu
theorem rown_grownC {w w' : World} {B B2 n m k k2 : Nat} {e e2 : TypeId} {v v2 : Value} {xs ys : List Value} (h : w.ownsRow B e k v n xs) (h2 : w.ownsRow B2 e2 k2 v2 m ys) (hne : e ≠ e2) (hg : w.grownBy w' v2.ownBlock) : w'.ownsRow B e k v n xs := by
  refine ⟨h.1, h.2.imp id ?_⟩
  rintro ⟨g, cap, cur, rfl, hb, hh, r⟩
  exact ⟨g, cap, cur, rfl, hb, (by
    have hW : w.heap[g]? = some (.cells cur.toList.toArray e (0, 0)) := by simpa using hh
    have := whole_grown (show Whole w g e cur.toList from hW) h2 hne hg
    simpa [Whole] using this), r⟩
theorem RMade.grown2 {w w' : World} {B0 B2 e2 k2 m : Nat} {v2 : Value} {ys : List Value} {a : ChV} (h : RMade w B0 a) (h2 : w.ownsRow B2 e2 k2 v2 m ys) (hne : 5 ≠ e2) (hg : w.grownBy w' v2.ownBlock) : RMade w' B0 a := by
  obtain ⟨g, r, hg1, hB, hW, hr⟩ := h.b
  exact { h with b := ⟨g, r, hg1, hB, whole_grown hW h2 hne hg, hr⟩ }
theorem Recs.grown {B B2 m : Nat} {w w' : World} {vs : List Value} {ms : List (List ChV)} (h : Recs B w vs ms) {v2 : Value} {ys : List Value} (h2 : w.ownsRow B2 39 1 v2 m ys) (hg : w.grownBy w' v2.ownBlock) : Recs B w' vs ms :=
  ⟨h.1, fun i v m hv hm => by
    obtain ⟨ls, h1, h2', h3⟩ := h.2 i v m hv hm
    exact ⟨ls, rown_grownC h1 h2 (by decide) hg, fun a ha => (h2' a ha).grown2 h2 (by decide) hg, h3⟩⟩
theorem RMade.more {w : World} {B0 B1 : Nat} {a : ChV} (h : RMade w B0 a) (hB : B1 ≤ B0) : RMade w B1 a := by
  obtain ⟨g, r, hg, hb, hW⟩ := h.b
  exact { h with b := ⟨g, r, hg, Nat.le_trans hB hb, hW⟩ }
theorem rown_more' {w : World} {B B' n k : Nat} {e : TypeId} {v : Value} {xs : List Value} (h : w.ownsRow B e k v n xs) (hB : B' ≤ B) : w.ownsRow B' e k v n xs := by
  refine ⟨h.1, h.2.imp id ?_⟩
  rintro ⟨g, cap, cur, rfl, hb, r⟩
  exact ⟨g, cap, cur, rfl, Nat.le_trans hB hb, r⟩
theorem Recs.more {B B' : Nat} {w : World} {vs : List Value} {ms : List (List ChV)} (h : Recs B w vs ms) (hB : B' ≤ B) : Recs B' w vs ms :=
  ⟨h.1, fun i v m hv hm => by obtain ⟨ls, h1, h2, h3⟩ := h.2 i v m hv hm; exact ⟨ls, rown_more' h1 hB, fun a ha => (h2 a ha).more hB, h3⟩⟩
def RecPost (w : World) (x : List (List ChV) × Nat) (e : Ending) (w' : World) : Prop :=
  ∃ v vs, e = .returned (.tuple #[v, .int .i64 (x.2 : Int)]) ∧ w'.ownsRow w.heap.size 39 1 v x.1.length vs ∧ Recs w.heap.size w' vs x.1 ∧ Chg [] w w'
/-- How many frames there are, and how long. -/
theorem itS_small (l : List UInt8) (ep : Nat) : ∀ k, (itS l ep k).1.length ≤ k ∧ ∀ r ∈ (itS l ep k).1, r.length ≤ l.length
  | 0 => ⟨Nat.le_refl _, fun r hr => by simp [itS] at hr⟩
  | k + 1 => by
    obtain ⟨h1, h2⟩ := itS_small l ep k
    show (stepS l ep (itS l ep k)).1.length ≤ k + 1 ∧ ∀ r ∈ (stepS l ep (itS l ep k)).1, r.length ≤ l.length
    by_cases h : readOk (l.drop (itS l ep k).2) ep (itS l ep k).1.length
    · rw [stepS_yes h]
      refine ⟨by simp; omega, fun r hr => ?_⟩
      rcases List.mem_append.1 hr with h3 | h3
      · exact h2 r h3
      · simp only [List.mem_cons, List.not_mem_nil, or_false] at h3
        subst h3
        unfold recL
        rw [List.length_take, List.length_drop, List.length_drop]; omega
    · rw [stepS_no h]
      exact ⟨by omega, h2⟩
theorem scanS_small (l : List UInt8) (ep : Nat) : (scanS l ep).1.length ≤ l.length + 1 ∧ ∀ r ∈ (scanS l ep).1, r.length ≤ l.length := itS_small l ep _
theorem logL_small (s : St) (L P E : Int) : (logL s L P E).length ≤ 4096 := by
  unfold logL
  split
  · rename_i h
    have := rightR_true.1 h
    unfold logB; rw [List.length_take]; omega
  · simp
/-- What Records answers. -/
noncomputable def recsS (s : St) (L P : Int) (ep : Nat) : List (List ChV) × Nat := recF P (scanS (logL s L P ep) ep).1
/-- Frames as a fact. -/
def scanF (B : Nat) (x : List (List UInt8) × Nat) : Fact := fun v W => ∃ v1 vs, v = .tuple #[v1, .int .i64 (x.2 : Int)] ∧ W.ownsRow B 44 1 v1 x.1.length vs ∧ Rows B W vs x.1
theorem keeps_scan (B : Nat) (x : List (List UInt8) × Nat) : Keeps (Chg []) (scanF B x) := fun _ _ _ ⟨v1, vs, h1, h2, h3⟩ hc => ⟨v1, vs, h1, own_keep h2 hc, h3.keep hc⟩
theorem info_chs : (Try.prog.info? 39).map (fun i => (i.zero, i.size, i.bytes)) = some (some (.slice none 0 0), 1, 24) := by kernel_rfl
end Go.Proofs.Ytddjgncdjdjgeaa
namespace Go.Proofs.Ytddjgncdjdjgeaa
open Go.RowKit

section
variable (ep sq : Nat) (r m : List UInt8)
theorem frame_head (he : ep < 4294967296) (hs : sq < 4294967296) (hr : r.length < 4294967296) :
    getI (frameL ep sq r ++ m) ((0 : Nat) : Int) = ep ∧ getI (frameL ep sq r ++ m) ((4 : Nat) : Int) = sq ∧ getI (frameL ep sq r ++ m) ((8 : Nat) : Int) = r.length ∧
    getI (frameL ep sq r ++ m) ((12 + r.length : Nat) : Int) = sumK (headL ep sq r) ∧ (frameL ep sq r ++ m).take (12 + r.length) = headL ep sq r := by
  have hm : r.length % 4294967296 = r.length := Nat.mod_eq_of_lt hr
  refine ⟨?_, ?_, ?_, ?_, ?_⟩
  · have e : frameL ep sq r ++ m = [] ++ (be4 ep ++ (be4 sq ++ be4 (r.length % 4294967296) ++ r ++ be4 (sumK (headL ep sq r)) ++ m)) := by
      simp only [frameL, headL, List.append_assoc, List.nil_append]
    rw [e]; exact getI_put _ _ ep he _ rfl
  · have e : frameL ep sq r ++ m = be4 ep ++ (be4 sq ++ (be4 (r.length % 4294967296) ++ r ++ be4 (sumK (headL ep sq r)) ++ m)) := by
      simp only [frameL, headL, List.append_assoc]
    rw [e]; exact getI_put _ _ sq hs _ rfl
  · have e : frameL ep sq r ++ m = (be4 ep ++ be4 sq) ++ (be4 (r.length % 4294967296) ++ (r ++ be4 (sumK (headL ep sq r)) ++ m)) := by
      simp only [frameL, headL, List.append_assoc]
    rw [e, hm]; exact getI_put _ _ _ hr _ rfl
  · have e : frameL ep sq r ++ m = headL ep sq r ++ (be4 (sumK (headL ep sq r)) ++ m) := by
      simp only [frameL, List.append_assoc]
    rw [e]; exact getI_put _ _ _ (sumK_lt _) _ (by rw [headL_len])
  · have e : frameL ep sq r ++ m = headL ep sq r ++ (be4 (sumK (headL ep sq r)) ++ m) := by
      simp only [frameL, List.append_assoc]
    rw [e]; exact List.take_left' (headL_len _ _ _)
theorem frame_ok (he : ep < 4294967296) (hs : sq < 4294967296) (hr : r.length < 4294967296) : readOk (frameL ep sq r ++ m) ep sq := by
  obtain ⟨h0, h4, h8, h12, ht⟩ := frame_head ep sq r m he hs hr
  have e8 : getI (frameL ep sq r ++ m) 8 = r.length := h8
  refine ⟨by rw [List.length_append, frameL_len]; omega, h0, h4, ?_, ?_⟩
  · rw [e8, List.length_append, frameL_len]; omega
  · rw [e8, h12, ht]
theorem frame_len (he : ep < 4294967296) (hs : sq < 4294967296) (hr : r.length < 4294967296) : getI (frameL ep sq r ++ m) 8 = r.length := (frame_head ep sq r m he hs hr).2.2.1
theorem frame_rec (he : ep < 4294967296) (hs : sq < 4294967296) (hr : r.length < 4294967296) : recL (frameL ep sq r ++ m) = r := by
  unfold recL
  rw [frame_len ep sq r m he hs hr]
  have e : frameL ep sq r ++ m = (be4 ep ++ be4 sq ++ be4 (r.length % 4294967296)) ++ (r ++ (be4 (sumK (headL ep sq r)) ++ m)) := by
    simp only [frameL, headL, List.append_assoc]
  rw [e, List.drop_left' (by simp only [List.length_append, be4_len]), List.take_left' rfl]
end
end Go.Proofs.Ytddjgncdjdjgeaa
