/-
  N: FrmScan, DeltaRead, RedoRec, FrmPure.
-/
import Derived.Test.YtddjgncdjdjgeaaGreatZN2
import Derived.Test.YtddjgncdjdjgeaaGreatZN8
import Derived.Test.YtddjgncdjdjgeaaGreatZN11
import Derived.Test.YtddjgncdjdjgeaaGreatZN15
import Derived.Laws.CopyOwn
namespace Go.Proofs.YtddjgncdjdjgeaaGreat
open Go.RowKit

/-- One record more, if there is one. -/
noncomputable def stepS (l : List UInt8) (ep : Nat) (s : List (List UInt8) × Nat) : List (List UInt8) × Nat :=
  open Classical in if readOk (l.drop s.2) ep s.1.length then (s.1 ++ [recL (l.drop s.2)], s.2 + 16 + getI (l.drop s.2) 8) else s
noncomputable def itS (l : List UInt8) (ep : Nat) : Nat → List (List UInt8) × Nat
  | 0 => ([], 0)
  | k + 1 => stepS l ep (itS l ep k)
/-- What Scan answers. -/
noncomputable def scanS (l : List UInt8) (ep : Nat) : List (List UInt8) × Nat := itS l ep (l.length + 1)
theorem stepS_yes {l : List UInt8} {ep : Nat} {s : List (List UInt8) × Nat} (h : readOk (l.drop s.2) ep s.1.length) : stepS l ep s = (s.1 ++ [recL (l.drop s.2)], s.2 + 16 + getI (l.drop s.2) 8) := by
  unfold stepS; rw [if_pos h]
theorem stepS_no {l : List UInt8} {ep : Nat} {s : List (List UInt8) × Nat} (h : ¬ readOk (l.drop s.2) ep s.1.length) : stepS l ep s = s := by
  unfold stepS; rw [if_neg h]
theorem itS_stay {l : List UInt8} {ep k : Nat} (h : ¬ readOk (l.drop (itS l ep k).2) ep (itS l ep k).1.length) (j : Nat) : itS l ep (k + j) = itS l ep k := by
  induction j with
  | zero => rfl
  | succ j ih => show stepS l ep (itS l ep (k + j)) = _; rw [ih, stepS_no h]
theorem scanS_is {l : List UInt8} {ep k : Nat} (h : ¬ readOk (l.drop (itS l ep k).2) ep (itS l ep k).1.length) (hk : k ≤ l.length + 1) : scanS l ep = itS l ep k := by
  unfold scanS
  have e : l.length + 1 = k + (l.length + 1 - k) := by omega
  rw [e, itS_stay h]

def ScanPost (w : World) (l : List UInt8) (ep : Nat) (e : Ending) (w' : World) : Prop :=
  ∃ v vs, e = .returned (.tuple #[v, .int .i64 ((scanS l ep).2 : Nat)]) ∧ w'.ownsRow w.heap.size 30 1 v (scanS l ep).1.length vs ∧ Rows w.heap.size w' vs (scanS l ep).1 ∧ Chg [] w w'

/-- Behind k records. -/
structure At (l : List UInt8) (ep k : Nat) (rs : List (List UInt8)) (a : Nat) : Prop where
  it : itS l ep k = (rs, a)
  len : rs.length = k
  low : 16 * k ≤ a
  top : a ≤ l.length
theorem At.zero (l : List UInt8) (ep : Nat) : At l ep 0 [] 0 := ⟨rfl, rfl, by omega, by omega⟩
theorem At.next {l : List UInt8} {ep k : Nat} {rs : List (List UInt8)} {a : Nat} (h : At l ep k rs a) (hr : readOk (l.drop a) ep k) : At l ep (k + 1) (rs ++ [recL (l.drop a)]) (a + (16 + getI (l.drop a) 8)) := by
  have h1 := hr.1
  have h2 := hr.2.2.2.1
  rw [List.length_drop] at h1 h2
  refine ⟨?_, by simp [h.len], by have := h.low; omega, by have := h.top; omega⟩
  show stepS l ep (itS l ep k) = _
  rw [h.it, stepS_yes (by simpa [h.len] using hr)]
  simp only [Nat.add_assoc]
theorem At.last {l : List UInt8} {ep k : Nat} {rs : List (List UInt8)} {a : Nat} (h : At l ep k rs a) (hr : ¬ readOk (l.drop a) ep k) : scanS l ep = (rs, a) := by
  have h1 := h.low
  have h2 := h.top
  rw [scanS_is (k := k) (by rw [h.it]; simpa [h.len] using hr) (by omega), h.it]
section
variable {w : World} {A : Option Addr} {n c : Nat} {l : List UInt8}
set_option maxHeartbeats 1000000 in
set_option maxRecDepth 100000 in
theorem scan_any (h : Bs w A n c l) (ep : Nat) (hn : n ≤ 2147483648) :
    Calls Tryz.prog 96 #[.slice A n c, .int .u32 (ep : Int)] w (ScanPost w l ep) := by
  obtain ⟨i, hi, hz, hs1, hb⟩ := info_parts info_bytes
  go_enter Tryz.func96, Tryz.ntmps96
  go_wp2_with fail
  go_loopw [6, 7] (fun v a wr => ∃ k : Nat, ∃ m : Nat, ∃ rs vs, At l ep k rs m ∧ a = .int .i64 (m : Int) ∧ wr.ownsRow w.heap.size 30 1 v k vs ∧ Rows w.heap.size wr vs rs ∧ Chg [] w wr) (fun _ a _ => n - (intOf a).toNat)
  case atStart => exact ⟨0, 0, [], [], At.zero l ep, rfl, own_nil _ _ _, Rows.nil _ _, Chg.refl _ _⟩
  case round =>
    obtain ⟨k, m, rs, vs, hat, rfl, hown, hrows, hcr⟩ := hrel
    obtain ⟨Av, cv, rfl, hvl, hvc, _⟩ := own_slice hown
    have hm := hat.top
    have hk := hat.low
    have hl := h.len
    have hcap := h.cap
    rw [hl] at hm
    have hB := (h.keep hcr).cut (lo := m) (hi := n) hm (Nat.le_refl _)
    have hdr : (l.drop m).take (n - m) = l.drop m := List.take_of_length_le (by rw [List.length_drop]; omega)
    rw [hdr] at hB
    have e1 : (k : Int) % 4294967296 = (k : Int) := by omega
    have e2 : ¬ n < m := by omega
    have e3 : ¬ c < n := by omega
    have hnx : readOk (l.drop m) ep k → m + (16 + getI (l.drop m) 8) ≤ n := fun hr => by have := (hat.next hr).top; omega
    clear hdr hl
    rcases Decidable.em (m = c) with hcm | hcm
    · have hok : ¬ readOk (l.drop m) ep k := fun hr => by have := hnx hr; omega
      have hnm : n = m := by omega
      rw [if_pos hcm.symm] at hB
      subst hcm
      subst hnm
      rw [Nat.sub_self] at hB
      clear hnx
      go_wp2_with fail
      refine (read_any' hB ep k (by omega)).mono ?_
      rintro e w2 (⟨hyes, _⟩ | ⟨_, rfl, hc2⟩)
      · exact absurd hyes hok
      go_wp2_with fail
      go_ret2
      rw [ScanPost, hat.last hok]
      exact ⟨_, vs, rfl, by rw [hat.len]; exact own_keep hown hc2, hrows.keep hc2, hcr.new hc2⟩
    · rw [if_neg (Ne.symm hcm)] at hB
      have e4 : ¬ c = m := Ne.symm hcm
      by_cases hok : readOk (l.drop m) ep k
      · have hnk := hnx hok
        go_wp2_with fail
        refine (read_any' hB ep k (by omega)).mono ?_
        rintro e w2 (⟨_, v2, rfl, ho2, hc2⟩ | ⟨hno, _⟩)
        rotate_left
        · exact absurd hok hno
        obtain ⟨A2, c2, rfl, _⟩ := own_slice ho2
        have how := own_keep hown hc2
        have hrw := hrows.keep hc2
        have hx1 := Lib.hid (show k + 1 ≤ maxLen by unfold maxLen; omega)
        have hx2 := Lib.hid (show (k + 1) * 24 ≤ 140737488355328 by omega)
        have hx3 := Lib.hid (show w.heap.size ≤ w2.heap.size from Nat.le_trans hcr.size hc2.size)
        go_wp2_with (at_builtin
                     refine wpList_append_src rfl (.tmp 27) (.tmp 29) 66 rfl w.heap.size 30 i _ 24 Tryz.underlying66 hi hz hs1 hb cells_slice (.slice Av k cv) k vs rfl (own_keep how ((Chg.refl _ _).alloc _)) (some ⟨w2.heap.size, 0, none⟩) 1 1 [.slice A2 (recL (l.drop m)).length c2] rfl rfl (Src.of_all (Whole.new w2 30 [.slice A2 (recL (l.drop m)).length c2])) (fun u hu => by simp at hu; rw [hu]; rfl) hx1.out hx2.out (by simp; have := hx3.out; omega) ?_
                     intro v4 w4 ho4 hg4 _)
        have hch4 : Chg [] w w4 := ((hcr.new hc2).alloc _).own (own_keep how ((Chg.refl _ _).alloc _)) (Nat.le_refl _) hg4
        go_roundw
        case rel =>
          refine ⟨k + 1, m + (16 + getI (l.drop m) 8), _, _, hat.next hok, by go_num, ho4, ?_, hch4⟩
          exact ((hrw.keep ((Chg.refl _ _).alloc _)).snoc (own_more (own_keep ho2 ((Chg.refl _ _).alloc _)) hcr.size)).grown (own_keep how ((Chg.refl _ _).alloc _)) hg4
        case measure => simp [intOf]; omega
      · go_wp2_with fail
        refine (read_any' hB ep k (by omega)).mono ?_
        rintro e w2 (⟨hyes, _⟩ | ⟨_, rfl, hc2⟩)
        · exact absurd hyes hok
        go_wp2_with fail
        go_ret2
        rw [ScanPost, hat.last hok]
        exact ⟨_, vs, rfl, by rw [hat.len]; exact own_keep hown hc2, hrows.keep hc2, hcr.new hc2⟩
end
end Go.Proofs.YtddjgncdjdjgeaaGreat
namespace Go.Proofs.YtddjgncdjdjgeaaGreat
open Go.RowKit
theorem size_byte4 : (Tryz.prog.info? 5).map (·.size) = some 1 := by kernel_rfl
/-- The k-th change that the bytes b say. -/
def chOf (b : List UInt8) (k : Nat) : ChV := ⟨(num2 (b.drop (2 + k * 66)) : Nat), none, 64, 64, (b.drop (2 + k * 66 + 2)).take 64⟩
def chsOf (b : List UInt8) (k : Nat) : List ChV := (List.range k).map (chOf b)
theorem chsOf_next (b : List UInt8) (k : Nat) : chsOf b (k + 1) = chsOf b k ++ [chOf b k] := by simp [chsOf, List.range_succ]
theorem chsOf_len (b : List UInt8) (k : Nat) : (chsOf b k).length = k := by simp [chsOf]
/-- The same page, the same bytes, as long. -/
def asC (l m : List ChV) : Prop := l.map keyC = m.map keyC ∧ ∀ (i : Nat) (a b : ChV), l[i]? = some a → m[i]? = some b → a.page = b.page ∧ a.bn = b.bn
theorem asC_nil : asC [] [] := ⟨rfl, fun i a b h => by simp at h⟩
theorem asC_snoc {l m : List ChV} {a b : ChV} (h : asC l m) (hk : keyC a = keyC b) (hb : a.bn = b.bn) : asC (l ++ [a]) (m ++ [b]) := by
  have hlen : l.length = m.length := by have := congrArg List.length h.1; simpa using this
  refine ⟨by simp [h.1, hk], fun i x y hx hy => ?_⟩
  rcases Nat.lt_trichotomy i l.length with hi | hi | hi
  · rw [List.getElem?_append_left hi] at hx
    rw [List.getElem?_append_left (by omega)] at hy
    exact h.2 i x y hx hy
  · subst hi
    rw [List.getElem?_concat_length] at hx
    rw [hlen, List.getElem?_concat_length] at hy
    cases hx
    cases hy
    exact ⟨by injection hk, hb⟩
  · rw [List.getElem?_eq_none (by simp; omega)] at hx
    cases hx
theorem asC_right : ∀ {l m : List ChV} (_ : l.length = m.length) (_ : ∀ (i : Nat) (a b : ChV), l[i]? = some a → m[i]? = some b → a.page = b.page ∧ a.bn = b.bn) (last P : Int), rightS last P l = rightS last P m
  | [], [], _, _, _, _ => rfl
  | [], b :: m, h, _, _, _ => by simp at h
  | a :: l, [], h, _, _, _ => by simp at h
  | a :: l, b :: m, h, hx, last, P => by
    obtain ⟨h1, h2⟩ := hx 0 a b rfl rfl
    unfold rightS
    rw [h1, h2, asC_right (by simpa using h) (fun i x y hi hj => hx (i + 1) x y (by simpa using hi) (by simpa using hj)) b.page P]
theorem asC_rightB {l m : List ChV} (h : asC l m) (P : Int) : rightB P l = rightB P m := by
  unfold rightB
  rw [asC_right (by have := congrArg List.length h.1; simpa using this) h.2]
/-- What Read answers, with rows of the call's own. -/
def DReadOwn (b : List UInt8) (P : Int) (w : World) (e : Ending) (w' : World) : Prop :=
  (2 ≤ b.length ∧ b.length = 2 + num2 b * 66 ∧ rightB P (chsOf b (num2 b)) = true ∧ ∃ v ls, e = .returned (.tuple #[v, .bool true]) ∧ w'.ownsRow w.heap.size 51 2 v (num2 b) (chCs ls) ∧ (∀ a ∈ ls, RMade w' w.heap.size a) ∧ ls.length = num2 b ∧ asC ls (chsOf b (num2 b)) ∧ Chg [] w w') ∨
  (¬ (2 ≤ b.length ∧ b.length = 2 + num2 b * 66 ∧ rightB P (chsOf b (num2 b)) = true) ∧ e = .returned (.tuple #[.slice none 0 0, .bool false]) ∧ Chg [] w w')
/-- What Read answers. -/
def DReadPost (b : List UInt8) (P : Int) (w : World) (e : Ending) (w' : World) : Prop :=
  (2 ≤ b.length ∧ b.length = 2 + num2 b * 66 ∧ rightB P (chsOf b (num2 b)) = true ∧ ∃ A c ls, e = .returned (.tuple #[.slice A (num2 b) c, .bool true]) ∧ Chs w' A ls ∧ ls.length = num2 b ∧ asC ls (chsOf b (num2 b)) ∧ Chg [] w w') ∨
  (¬ (2 ≤ b.length ∧ b.length = 2 + num2 b * 66 ∧ rightB P (chsOf b (num2 b)) = true) ∧ e = .returned (.tuple #[.slice none 0 0, .bool false]) ∧ Chg [] w w')
theorem DReadOwn.post {b : List UInt8} {P : Int} {w : World} {e : Ending} {w' : World} (h : DReadOwn b P w e w') : DReadPost b P w e w' := by
  rcases h with ⟨h1, h2, h3, v, ls, rfl, ho, hm, hl, ha, hc⟩ | h
  · obtain ⟨A, c, rfl, _, hch, _⟩ := chs_own' ho (fun a ha => (hm a ha).ok)
    exact .inl ⟨h1, h2, h3, A, c, ls, rfl, hch, hl, ha, hc⟩
  · exact .inr h
theorem num2_lt (l : List UInt8) : num2 l < 65536 := by
  unfold num2
  have h1 := (l.getD 0 0).toNat_lt
  have h2 := (l.getD 1 0).toNat_lt
  omega
theorem make_changes (n : Nat) (hn : n < 65536) (W : World) : ∃ o : Array Value, o.size = n * 2 ∧ (Instr.makeSlice 52 (.int .i64 0) (.int .i64 (n : Int))).run Tryz.prog W = .ok (.slice (some ⟨W.heap.size, 0, none⟩) 0 n) (W.alloc (.cells o 51)) := by
  obtain ⟨i, hi, hz, hs1, hb⟩ := info_parts info_change
  have h := run_make (P := Tryz.prog) W 52 51 i _ Tryz.underlying52 hi hz .i64 .i64 0 (n : Int) (by omega) (by omega) (by rw [hb]; omega) (by omega)
  rw [hs1] at h
  exact ⟨_, size_madeCells _ _, by simpa using h⟩
/-- What Read has made so far. -/
def ReadSo (b : List UInt8) (w wr : World) (v : Value) (k : Nat) : Prop :=
  ∃ ls : List ChV, wr.ownsRow w.heap.size 51 2 v k (chCs ls) ∧ (∀ a ∈ ls, MadeCh wr w.heap.size a) ∧ asC ls (chsOf b k) ∧ Chg [] w wr
section
variable {w : World} {A : Option Addr} {n c : Nat}
set_option maxHeartbeats 8000000 in
set_option maxRecDepth 100000 in
theorem dread_own {b : List UInt8} (h : Bs w A n c b) (P : Int) :
    Calls Tryz.prog 98 #[.slice A n c, .int .i64 P] w (DReadOwn b P w) := by
  obtain ⟨i0, hi, hz0, hz1, hz2⟩ := info_parts info_change
  have hlen := h.len
  have hcap := h.cap
  have hmax := h.max
  have H := Lib.hid h
  have HLN := Lib.hid hlen
  clear h hlen
  by_cases h2 : n < 2
  · have HNO := Lib.hid (show ¬ (2 ≤ b.length ∧ b.length = 2 + num2 b * 66 ∧ rightB P (chsOf b (num2 b)) = true) from fun h => by have := HLN.out; omega)
    have hd : decide ((n : Int) < 2) = true := by simp; omega
    go_enter Tryz.func98, Tryz.ntmps98
    go_wp2_with fail
    go_ret2
    exact .inr ⟨HNO.out, rfl, Chg.refl _ _⟩
  · have hd : decide ((n : Int) < 2) = false := by simp; omega
    obtain ⟨N, hN⟩ : ∃ N, N = num2 b := ⟨_, rfl⟩
    have hN6 : N < 65536 := by rw [hN]; exact num2_lt b
    have HN := Lib.hid hN
    clear hN
    go_enter Tryz.func98, Tryz.ntmps98
    go_wp2_with fail
    refine (dget_any H.out (by omega)).mono ?_
    rintro e w1 ⟨rfl, hc1⟩
    rw [← HN.out]
    have H1 := Lib.hid (H.out.keep hc1)
    have HC1 := Lib.hid hc1
    clear hc1
    by_cases h66 : n = 2 + N * 66
    · obtain ⟨o, ho, hmk⟩ := make_changes N hN6 w1
      have hnI : (n : Int) = 2 + (N : Int) * 66 := by omega
      have hb1 : ((n : Int) == 2 + (N : Int) * 66) = true := by simp; omega
      have HO := Lib.hid ho
      clear ho
      have hmkp := make_page
      have hb2 : (!((n : Int) == 2 + (N : Int) * 66)) = false := by rw [hb1]; rfl
      have hb3 : ((n : Int) != 2 + (N : Int) * 66) = false := by simp; omega
      have H66 := Lib.hid h66
      clear hnI h66
      go_wp2_with fail
      have hown0 : (w1.alloc (.cells o 51)).ownsRow w.heap.size 51 2 (.slice (some ⟨w1.heap.size, 0, none⟩) 0 N) 0 (chCs []) :=
        ⟨rfl, .inr ⟨_, _, o, rfl, HC1.out.size, heap_alloc_new w1 _, Nat.zero_le _, by unfold maxLen; omega, HO.out, by simp [chCs]⟩⟩
      have hc2 : Chg [] w (w1.alloc (.cells o 51)) := HC1.out.alloc _
      go_loopw [7, 8] (fun v i wr => ∃ (k t : Nat), k ≤ N ∧ i = .int .i64 (t : Int) ∧ Hid (t = 2 + k * 66) ∧ ReadSo b w wr v k) (fun _ i _ => n - (intOf i).toNat)
      case atStart => exact ⟨0, 2, Nat.zero_le _, rfl, Lib.hid rfl, [], hown0, fun a ha => by simp at ha, asC_nil, hc2⟩
      case round =>
        obtain ⟨k, t, hk, rfl, HT, ls, hown, hmade, has, hcr⟩ := hrel
        have hwr := hcr.size
        have HM := Lib.hid hmade
        have HAS := Lib.hid has
        have HC := Lib.hid hcr
        have HB := Lib.hid (H.out.keep hcr)
        clear hown0 hc2 hmade has hcr
        by_cases hlt : k < N
        · have ht66 : t + 66 ≤ n := by have := HT.out; have := H66.out; omega
          have htI : (t : Int) < (n : Int) := by omega
          have htc : ¬ c = t := by omega
          have htc2 : ¬ c = t + 2 := by omega
          obtain ⟨ad, rfl, _, _⟩ := HB.out.src (by rw [bts_len, HLN.out]; omega)
          obtain ⟨b0, o0, s0⟩ := ad
          obtain rfl : s0 = none := HB.out.spot (by omega) _ rfl
          have hcut2 := HB.out.cut (lo := t + 2) (hi := n) (by omega) (Nat.le_refl _)
          have hcut1 := HB.out.cut (lo := t) (hi := n) (by omega) (Nat.le_refl _)
          rw [if_neg htc2, Option.map_some, add_plain] at hcut2
          rw [if_neg htc, Option.map_some, add_plain] at hcut1
          have e2 : (b.drop (t + 2)).take (n - (t + 2)) = b.drop (t + 2) := List.take_of_length_le (by rw [List.length_drop, HLN.out]; exact Nat.le_refl _)
          have e1 : (b.drop t).take (n - t) = b.drop t := List.take_of_length_le (by rw [List.length_drop, HLN.out]; exact Nat.le_refl _)
          rw [e2] at hcut2
          rw [e1] at hcut1
          obtain ⟨Y, hY⟩ : ∃ Y, Y = (b.drop (t + 2)).take 64 := ⟨_, rfl⟩
          have hYl : Y.length = 64 := by rw [hY, List.length_take, List.length_drop, HLN.out]; omega
          have hsY : Src wr (some ⟨b0, o0 + (t + 2), none⟩) (bts Y) := by
            have := (hcut2.take (m := 64) (by omega)).src
            rwa [← hY] at this
          have HY := Lib.hid hY
          have HCUT := Lib.hid hcut1
          have hYn := Lib.hid (show (bts Y).length = Nat.min (n - (t + 2)) 64 by rw [bts_len, hYl]; show 64 = min _ _; omega)
          have hYf := Lib.hid (show 0 + (bts Y).length ≤ (bts (zeros 64)).length by rw [bts_len, bts_len, hYl, zeros_len]; omega)
          have hYs := Lib.hid (show splice (bts (zeros 64)) 0 (bts Y) = bts Y from splice_all _ _ (by rw [bts_len, bts_len, hYl, zeros_len]))
          have HYL := Lib.hid hYl
          have HSY := Lib.hid (hsY.keep ((Chg.refl [] wr).alloc (.cells (bts (zeros 64)).toArray 5)))
          have hsub : ((t : Int) + 2).toNat = t + 2 := by omega
          clear hY hYl hsY hcut1 hcut2 e1 e2
          go_wp2_with (with_reducible refine wpList_copy_chg rfl (.tmp 30) (.tmp 34) _ _ rfl 5 Tryz.underlying30 size_byte4 (some ⟨wr.heap.size, 0, none⟩) (some ⟨b0, o0 + (t + 2), none⟩) 64 64 (n - (t + 2)) (c - (t + 2)) rfl rfl wr.heap.size 0 5 (bts (zeros 64)) (bts Y) (Whole.new wr _ _) hYn.out (fun _ => rfl) HSY.out hYf.out (bts_one _) ?_
                       intro w3 hW3 hc3
                       rw [hYs.out] at hW3)
          have hpg := num2_lt (b.drop t)
          have HW3 := Lib.hid hW3
          have hcg := (Chg.refl [] wr).alloc (.cells (bts (zeros 64)).toArray 5)
          have hc3' : Chg [] wr w3 := hcg.then_ hc3 (fun i hm hlt => by simp only [List.mem_cons, List.not_mem_nil, or_false] at hm; omega)
          have HC3 := Lib.hid hc3'
          have hw3 := hc3'.size
          clear hW3 hc3 hcg hc3'
          go_wp2_with fail
          refine (dget_any (HCUT.out.keep HC3.out) (by omega)).mono ?_
          rintro e w4 ⟨rfl, hc4⟩
          have hown4 := rown_chg (rown_chg hown HC3.out (by simp)) hc4 (by simp)
          have HM4 := Lib.hid (show ∀ a ∈ ls, MadeCh w4 w.heap.size a from fun a ha => ((HM.out a ha).chg HC3.out (by simp)).chg hc4 (by simp))
          have hnew : MadeCh w4 w.heap.size ⟨(num2 (b.drop t) : Nat), some ⟨wr.heap.size, 0, none⟩, 64, 64, Y⟩ := ⟨⟨_, rfl, hwr, HW3.out.keep hc4⟩, HYL.out, rfl, rfl, by simp only; omega⟩
          have HNEW := Lib.hid hnew
          have HC4 := Lib.hid ((HC.out.new HC3.out).new hc4)
          have hw4 := hc4.size
          obtain ⟨X, hX⟩ : ∃ X, X = chCs ls := ⟨_, rfl⟩
          rw [← hX] at hown4
          have HX := Lib.hid hX
          obtain ⟨pg, hpgq⟩ : ∃ pg, pg = num2 (b.drop t) := ⟨_, rfl⟩
          rw [← hpgq]
          have HPG := Lib.hid hpgq
          clear hX hc4 hnew hpgq hown
          go_wp2_with (first
            | (at_builtin
               refine wpList_append_own _ rfl (.tmp 36) (.tmp 43) _ rfl w.heap.size 51 i0 _ 2 32 Tryz.underlying52 hi hz0 hz1 hz2 rfl (by decide) _ k X rfl (rown_chg hown4 ((Chg.refl [] w4).alloc _) (by simp)) ⟨w4.heap.size, 0, none⟩ 1 1 [.int .i64 (pg : Int), .slice (some ⟨wr.heap.size, 0, none⟩) 64 64] rfl rfl ?c1 ?c2 ?c3 ?c4 ?c5 ?_
               case c1 => exact cells_page _ _ _
               case c2 => simp [Value.oneCell']
               case c3 => simp only [maxLen]; omega
               case c4 => omega
               case c5 => simp; omega
               intro v' w6 hown' hg' _))
          have HAL6 := Lib.hid (rown_chg hown4 ((Chg.refl [] w4).alloc (.cells #[.int .i64 (pg : Int), .slice (some ⟨wr.heap.size, 0, none⟩) 64 64] 51)) (by simp))
          go_roundw
          case rel =>
            refine ⟨k + 1, t + 66, by omega, by go_num, Lib.hid (by have := HT.out; omega), ls ++ [⟨(num2 (b.drop t) : Nat), some ⟨wr.heap.size, 0, none⟩, 64, 64, Y⟩], ?_, ?_, ?_, ?_⟩
            · rw [chCs_app, chCs_one, ← HX.out, ← HPG.out]
              exact hown'
            · intro a ha
              rcases List.mem_append.1 ha with h | h
              · exact ((HM4.out a h).chg ((Chg.refl [] w4).alloc _) (by simp)).grown HAL6.out hg'
              · simp only [List.mem_cons, List.not_mem_nil, or_false] at h
                subst h
                exact (HNEW.out.chg ((Chg.refl [] w4).alloc _) (by simp)).grown HAL6.out hg'
            · rw [chsOf_next]
              refine asC_snoc HAS.out ?_ rfl
              unfold keyC chOf
              rw [HY.out, HT.out]
            · exact chg_grown2 (HC4.out.alloc _) hg' fun g hgg => (HAL6.out.lt g hgg).1
          case measure => simp [intOf]; omega
        · obtain rfl : N = k := by omega
          have htI : (n : Int) ≤ (t : Int) := by have := HT.out; have := H66.out; omega
          have HOWN := Lib.hid hown
          obtain ⟨A5, c5, rfl, hll, hch, hm5, hnc5, _⟩ := chs_own hown HM.out
          have HLL := Lib.hid hll
          have HCH := Lib.hid hch
          clear hll hch hown
          cases hr : rightB P (chsOf b N) with
          | true =>
            have HR := Lib.hid hr
            have hrr : rightB P ls = true := by rw [asC_rightB HAS.out P, hr]
            clear hr
            go_wp2_with fail
            refine (right_any HCH.out HLL.out hm5 P).mono ?_
            rintro e w7 ⟨rfl, hc7⟩
            rw [hrr]
            clear hrr
            go_wp2_with fail
            go_ret2
            refine .inl ⟨by have := HLN.out; omega, by have := HLN.out; have := H66.out; have := HN.out; omega, ?_, _, ls, rfl, ?_, fun a ha => ((HM.out a ha).rmade).chg hc7 (by simp), ?_, ?_, HC.out.new hc7⟩
            · rw [← HN.out]; exact HR.out
            · rw [← HN.out]; exact rown_chg HOWN.out hc7 (by simp)
            · rw [← HN.out]; exact HLL.out
            · rw [← HN.out]; exact HAS.out
          | false =>
            have HR := Lib.hid hr
            have hrr : rightB P ls = false := by rw [asC_rightB HAS.out P, hr]
            clear hr
            go_wp2_with fail
            refine (right_any HCH.out HLL.out hm5 P).mono ?_
            rintro e w7 ⟨rfl, hc7⟩
            rw [hrr]
            clear hrr
            go_wp2_with fail
            go_ret2
            refine .inr ⟨fun h => ?_, rfl, HC.out.new hc7⟩
            have := h.2.2
            rw [← HN.out, HR.out] at this
            cases this
    · have HNO := Lib.hid (show ¬ (2 ≤ b.length ∧ b.length = 2 + num2 b * 66 ∧ rightB P (chsOf b (num2 b)) = true) from fun h => by have := HLN.out; have := h.2.1; have := HN.out; omega)
      have hb1 : ((n : Int) == 2 + (N : Int) * 66) = false := by simp; omega
      have hb2 : (!((n : Int) == 2 + (N : Int) * 66)) = true := by rw [hb1]; rfl
      go_wp2_with fail
      go_ret2
      exact .inr ⟨HNO.out, rfl, HC1.out⟩
end
end Go.Proofs.YtddjgncdjdjgeaaGreat
namespace Go.Proofs.YtddjgncdjdjgeaaGreat
open Go.RowKit
/-- Are these bytes changes? -/
def okR (P : Int) (b : List UInt8) : Prop := 2 ≤ b.length ∧ b.length = 2 + num2 b * 66 ∧ rightB P (chsOf b (num2 b)) = true
instance (P : Int) (b : List UInt8) : Decidable (okR P b) := by unfold okR; exact inferInstance
def recM (b : List UInt8) : List ChV := chsOf b (num2 b)
/-- The records as far as they are changes, and how long they are. -/
def recF (P : Int) : List (List UInt8) → List (List ChV) × Nat
  | [] => ([], 0)
  | b :: rs => if okR P b then (recM b :: (recF P rs).1, 16 + b.length + (recF P rs).2) else ([], 0)
def lenS (rs : List (List UInt8)) : Nat := (rs.map fun b => 16 + b.length).sum
theorem recF_stop (P : Int) : ∀ (rs : List (List UInt8)) (k : Nat), k ≤ rs.length → (∀ (j : Nat) b, j < k → rs[j]? = some b → okR P b) → (∀ b, rs[k]? = some b → ¬ okR P b) → recF P rs = ((rs.take k).map recM, lenS (rs.take k))
  | [], k, _, _, _ => by simp [recF, lenS]
  | b :: rs, 0, _, _, h => by
    have := h b rfl
    simp [recF, this, lenS]
  | b :: rs, k + 1, hk, h1, h2 => by
    have hb := h1 0 b (by omega) rfl
    have ih := recF_stop P rs k (by simpa using hk) (fun j c hj hc => h1 (j + 1) c (by omega) (by simpa using hc)) (fun c hc => h2 c (by simpa using hc))
    rw [recF, if_pos hb, ih]
    simp [lenS]
theorem lenS_next (rs : List (List UInt8)) (k : Nat) (b : List UInt8) (h : rs[k]? = some b) : lenS (rs.take (k + 1)) = lenS (rs.take k) + (16 + b.length) := by
  obtain ⟨hk, he⟩ := List.getElem?_eq_some_iff.1 h
  unfold lenS
  rw [List.take_succ_eq_append_getElem hk, List.map_append, List.sum_append, he]
  simp
theorem recM_next (rs : List (List UInt8)) (k : Nat) (b : List UInt8) (h : rs[k]? = some b) : (rs.take (k + 1)).map recM = (rs.take k).map recM ++ [recM b] := by
  obtain ⟨hk, he⟩ := List.getElem?_eq_some_iff.1 h
  rw [List.take_succ_eq_append_getElem hk, List.map_append, he]
  rfl
theorem recM_len (b : List UInt8) : (recM b).length = num2 b := chsOf_len b _
/-- Lists of changes of the call's own. -/
def Recs (B : Nat) (w : World) (vs : List Value) (ms : List (List ChV)) : Prop :=
  vs.length = ms.length ∧ ∀ (i : Nat) (v : Value) (m : List ChV), vs[i]? = some v → ms[i]? = some m → ∃ ls, w.ownsRow B 51 2 v m.length (chCs ls) ∧ (∀ a ∈ ls, RMade w B a) ∧ ls.length = m.length ∧ asC ls m
theorem Recs.nil (B : Nat) (w : World) : Recs B w [] [] := ⟨rfl, fun i v m hv => by simp at hv⟩
theorem Recs.keep {B : Nat} {w w' : World} {vs : List Value} {ms : List (List ChV)} (h : Recs B w vs ms) (hc : Chg [] w w') : Recs B w' vs ms :=
  ⟨h.1, fun i v m hv hm => by obtain ⟨ls, h1, h2, h3⟩ := h.2 i v m hv hm; exact ⟨ls, rown_chg h1 hc (by simp), fun a ha => (h2 a ha).chg hc (by simp), h3⟩⟩
theorem Recs.snoc {B : Nat} {w : World} {vs : List Value} {ms : List (List ChV)} (h : Recs B w vs ms) {v : Value} {m ls : List ChV} (h1 : w.ownsRow B 51 2 v m.length (chCs ls)) (h2 : ∀ a ∈ ls, RMade w B a) (h3 : ls.length = m.length) (h4 : asC ls m) : Recs B w (vs ++ [v]) (ms ++ [m]) := by
  refine ⟨by simp [h.1], fun i u x hu hx => ?_⟩
  rcases Nat.lt_trichotomy i vs.length with hi | hi | hi
  · rw [List.getElem?_append_left hi] at hu
    rw [List.getElem?_append_left (by rw [← h.1]; exact hi)] at hx
    exact h.2 i u x hu hx
  · subst hi
    rw [List.getElem?_concat_length] at hu
    rw [h.1, List.getElem?_concat_length] at hx
    cases hu
    cases hx
    exact ⟨ls, h1, h2, h3, h4⟩
  · rw [List.getElem?_eq_none (by simp; omega)] at hu
    cases hu
theorem rown_grownC {w w' : World} {B B2 n m k k2 : Nat} {e e2 : TypeId} {v v2 : Value} {xs ys : List Value} (h : w.ownsRow B e k v n xs) (h2 : w.ownsRow B2 e2 k2 v2 m ys) (hne : e ≠ e2) (hg : w.grownBy w' v2.ownBlock) : w'.ownsRow B e k v n xs := by
  refine ⟨h.1, h.2.imp id ?_⟩
  rintro ⟨g, cap, cur, rfl, hb, hh, r⟩
  exact ⟨g, cap, cur, rfl, hb, (by
    have hW : w.heap[g]? = some (.cells cur.toList.toArray e (0, 0)) := by simpa using hh
    have := whole_grown (show Whole w g e cur.toList from hW) h2 hne hg
    simpa [Whole] using this), r⟩
theorem RMade.grown2 {w w' : World} {B0 B2 e2 k2 m : Nat} {v2 : Value} {ys : List Value} {a : ChV} (h : RMade w B0 a) (h2 : w.ownsRow B2 e2 k2 v2 m ys) (hne : 5 ≠ e2) (hg : w.grownBy w' v2.ownBlock) : RMade w' B0 a := by
  obtain ⟨g, r, hg1, hB, hW, hr⟩ := h.b
  exact { h with b := ⟨g, r, hg1, hB, whole_grown hW h2 hne hg, hr⟩ }
theorem Recs.grown {B B2 m : Nat} {w w' : World} {vs : List Value} {ms : List (List ChV)} (h : Recs B w vs ms) {v2 : Value} {ys : List Value} (h2 : w.ownsRow B2 52 1 v2 m ys) (hg : w.grownBy w' v2.ownBlock) : Recs B w' vs ms :=
  ⟨h.1, fun i v m hv hm => by
    obtain ⟨ls, h1, h2', h3⟩ := h.2 i v m hv hm
    exact ⟨ls, rown_grownC h1 h2 (by decide) hg, fun a ha => (h2' a ha).grown2 h2 (by decide) hg, h3⟩⟩
theorem RMade.more {w : World} {B0 B1 : Nat} {a : ChV} (h : RMade w B0 a) (hB : B1 ≤ B0) : RMade w B1 a := by
  obtain ⟨g, r, hg, hb, hW⟩ := h.b
  exact { h with b := ⟨g, r, hg, Nat.le_trans hB hb, hW⟩ }
theorem rown_more' {w : World} {B B' n k : Nat} {e : TypeId} {v : Value} {xs : List Value} (h : w.ownsRow B e k v n xs) (hB : B' ≤ B) : w.ownsRow B' e k v n xs := by
  refine ⟨h.1, h.2.imp id ?_⟩
  rintro ⟨g, cap, cur, rfl, hb, r⟩
  exact ⟨g, cap, cur, rfl, Nat.le_trans hB hb, r⟩
theorem Recs.more {B B' : Nat} {w : World} {vs : List Value} {ms : List (List ChV)} (h : Recs B w vs ms) (hB : B' ≤ B) : Recs B' w vs ms :=
  ⟨h.1, fun i v m hv hm => by obtain ⟨ls, h1, h2, h3⟩ := h.2 i v m hv hm; exact ⟨ls, rown_more' h1 hB, fun a ha => (h2 a ha).more hB, h3⟩⟩
def RecPost (w : World) (x : List (List ChV) × Nat) (e : Ending) (w' : World) : Prop :=
  ∃ v vs, e = .returned (.tuple #[v, .int .i64 (x.2 : Int)]) ∧ w'.ownsRow w.heap.size 52 1 v x.1.length vs ∧ Recs w.heap.size w' vs x.1 ∧ Chg [] w w'
/-- How many frames there are, and how long. -/
theorem itS_small (l : List UInt8) (ep : Nat) : ∀ k, (itS l ep k).1.length ≤ k ∧ ∀ r ∈ (itS l ep k).1, r.length ≤ l.length
  | 0 => ⟨Nat.le_refl _, fun r hr => by simp [itS] at hr⟩
  | k + 1 => by
    obtain ⟨h1, h2⟩ := itS_small l ep k
    show (stepS l ep (itS l ep k)).1.length ≤ k + 1 ∧ ∀ r ∈ (stepS l ep (itS l ep k)).1, r.length ≤ l.length
    by_cases h : readOk (l.drop (itS l ep k).2) ep (itS l ep k).1.length
    · rw [stepS_yes h]
      refine ⟨by simp; omega, fun r hr => ?_⟩
      rcases List.mem_append.1 hr with h3 | h3
      · exact h2 r h3
      · simp only [List.mem_cons, List.not_mem_nil, or_false] at h3
        subst h3
        unfold recL
        rw [List.length_take, List.length_drop, List.length_drop]; omega
    · rw [stepS_no h]
      exact ⟨by omega, h2⟩
theorem scanS_small (l : List UInt8) (ep : Nat) : (scanS l ep).1.length ≤ l.length + 1 ∧ ∀ r ∈ (scanS l ep).1, r.length ≤ l.length := itS_small l ep _
theorem logL_small (s : St) (L P E : Int) : (logL s L P E).length ≤ 4096 := by
  unfold logL
  split
  · rename_i h
    have := rightR_true.1 h
    unfold logB; rw [List.length_take]; omega
  · simp
/-- What Records answers. -/
noncomputable def recsS (s : St) (L P : Int) (ep : Nat) : List (List ChV) × Nat := recF P (scanS (logL s L P ep) ep).1
/-- Frames as a fact. -/
def scanF (B : Nat) (x : List (List UInt8) × Nat) : Fact := fun v W => ∃ v1 vs, v = .tuple #[v1, .int .i64 (x.2 : Int)] ∧ W.ownsRow B 30 1 v1 x.1.length vs ∧ Rows B W vs x.1
theorem keeps_scan (B : Nat) (x : List (List UInt8) × Nat) : Keeps (Chg []) (scanF B x) := fun _ _ _ ⟨v1, vs, h1, h2, h3⟩ hc => ⟨v1, vs, h1, own_keep h2 hc, h3.keep hc⟩
theorem info_chs : (Tryz.prog.info? 52).map (fun i => (i.zero, i.size, i.bytes)) = some (some (.slice none 0 0), 1, 24) := by kernel_rfl
end Go.Proofs.YtddjgncdjdjgeaaGreat
namespace Go.Proofs.YtddjgncdjdjgeaaGreat
open Go.RowKit

section
variable (ep sq : Nat) (r m : List UInt8)
theorem frame_head (he : ep < 4294967296) (hs : sq < 4294967296) (hr : r.length < 4294967296) :
    getI (frameL ep sq r ++ m) ((0 : Nat) : Int) = ep ∧ getI (frameL ep sq r ++ m) ((4 : Nat) : Int) = sq ∧ getI (frameL ep sq r ++ m) ((8 : Nat) : Int) = r.length ∧
    getI (frameL ep sq r ++ m) ((12 + r.length : Nat) : Int) = sumK (headL ep sq r) ∧ (frameL ep sq r ++ m).take (12 + r.length) = headL ep sq r := by
  have hm : r.length % 4294967296 = r.length := Nat.mod_eq_of_lt hr
  refine ⟨?_, ?_, ?_, ?_, ?_⟩
  · have e : frameL ep sq r ++ m = [] ++ (be4 ep ++ (be4 sq ++ be4 (r.length % 4294967296) ++ r ++ be4 (sumK (headL ep sq r)) ++ m)) := by
      simp only [frameL, headL, List.append_assoc, List.nil_append]
    rw [e]; exact getI_put _ _ ep he _ rfl
  · have e : frameL ep sq r ++ m = be4 ep ++ (be4 sq ++ (be4 (r.length % 4294967296) ++ r ++ be4 (sumK (headL ep sq r)) ++ m)) := by
      simp only [frameL, headL, List.append_assoc]
    rw [e]; exact getI_put _ _ sq hs _ rfl
  · have e : frameL ep sq r ++ m = (be4 ep ++ be4 sq) ++ (be4 (r.length % 4294967296) ++ (r ++ be4 (sumK (headL ep sq r)) ++ m)) := by
      simp only [frameL, headL, List.append_assoc]
    rw [e, hm]; exact getI_put _ _ _ hr _ rfl
  · have e : frameL ep sq r ++ m = headL ep sq r ++ (be4 (sumK (headL ep sq r)) ++ m) := by
      simp only [frameL, List.append_assoc]
    rw [e]; exact getI_put _ _ _ (sumK_lt _) _ (by rw [headL_len])
  · have e : frameL ep sq r ++ m = headL ep sq r ++ (be4 (sumK (headL ep sq r)) ++ m) := by
      simp only [frameL, List.append_assoc]
    rw [e]; exact List.take_left' (headL_len _ _ _)
theorem frame_ok (he : ep < 4294967296) (hs : sq < 4294967296) (hr : r.length < 4294967296) : readOk (frameL ep sq r ++ m) ep sq := by
  obtain ⟨h0, h4, h8, h12, ht⟩ := frame_head ep sq r m he hs hr
  have e8 : getI (frameL ep sq r ++ m) 8 = r.length := h8
  refine ⟨by rw [List.length_append, frameL_len]; omega, h0, h4, ?_, ?_⟩
  · rw [e8, List.length_append, frameL_len]; omega
  · rw [e8, h12, ht]
theorem frame_len (he : ep < 4294967296) (hs : sq < 4294967296) (hr : r.length < 4294967296) : getI (frameL ep sq r ++ m) 8 = r.length := (frame_head ep sq r m he hs hr).2.2.1
theorem frame_rec (he : ep < 4294967296) (hs : sq < 4294967296) (hr : r.length < 4294967296) : recL (frameL ep sq r ++ m) = r := by
  unfold recL
  rw [frame_len ep sq r m he hs hr]
  have e : frameL ep sq r ++ m = (be4 ep ++ be4 sq ++ be4 (r.length % 4294967296)) ++ (r ++ (be4 (sumK (headL ep sq r)) ++ m)) := by
    simp only [frameL, headL, List.append_assoc]
  rw [e, List.drop_left' (by simp only [List.length_append, be4_len]), List.take_left' rfl]
end
end Go.Proofs.YtddjgncdjdjgeaaGreat
