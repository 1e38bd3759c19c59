/-
  package frame's Scan: a contract.
-/
import Derived.Test.YtlhkmbcjgdjegaaBRows
import Derived.Test.YtlhkmbcjgdjegaaFrmRead
namespace Go.Proofs.Ytlhkmbcjgdjegaa
open Go.RowKit

/-- One record more, if there is one. -/
noncomputable def stepS (l : List UInt8) (ep : Nat) (s : List (List UInt8) × Nat) : List (List UInt8) × Nat :=
  open Classical in if readOk (l.drop s.2) ep s.1.length then (s.1 ++ [recL (l.drop s.2)], s.2 + 16 + getI (l.drop s.2) 8) else s
noncomputable def itS (l : List UInt8) (ep : Nat) : Nat → List (List UInt8) × Nat
  | 0 => ([], 0)
  | k + 1 => stepS l ep (itS l ep k)
/-- What Scan answers. -/
noncomputable def scanS (l : List UInt8) (ep : Nat) : List (List UInt8) × Nat := itS l ep (l.length + 1)
theorem stepS_yes {l : List UInt8} {ep : Nat} {s : List (List UInt8) × Nat} (h : readOk (l.drop s.2) ep s.1.length) : stepS l ep s = (s.1 ++ [recL (l.drop s.2)], s.2 + 16 + getI (l.drop s.2) 8) := by
  unfold stepS; rw [if_pos h]
theorem stepS_no {l : List UInt8} {ep : Nat} {s : List (List UInt8) × Nat} (h : ¬ readOk (l.drop s.2) ep s.1.length) : stepS l ep s = s := by
  unfold stepS; rw [if_neg h]
theorem itS_stay {l : List UInt8} {ep k : Nat} (h : ¬ readOk (l.drop (itS l ep k).2) ep (itS l ep k).1.length) (j : Nat) : itS l ep (k + j) = itS l ep k := by
  induction j with
  | zero => rfl
  | succ j ih => show stepS l ep (itS l ep (k + j)) = _; rw [ih, stepS_no h]
theorem scanS_is {l : List UInt8} {ep k : Nat} (h : ¬ readOk (l.drop (itS l ep k).2) ep (itS l ep k).1.length) (hk : k ≤ l.length + 1) : scanS l ep = itS l ep k := by
  unfold scanS
  have e : l.length + 1 = k + (l.length + 1 - k) := by omega
  rw [e, itS_stay h]

def ScanPost (w : World) (l : List UInt8) (ep : Nat) (e : Ending) (w' : World) : Prop :=
  ∃ v vs, e = .returned (.tuple #[v, .int .i64 ((scanS l ep).2 : Nat)]) ∧ w'.ownsRow w.heap.size 22 1 v (scanS l ep).1.length vs ∧ Rows w.heap.size w' vs (scanS l ep).1 ∧ Chg [] w w'

/-- Behind k records. -/
structure At (l : List UInt8) (ep k : Nat) (rs : List (List UInt8)) (a : Nat) : Prop where
  it : itS l ep k = (rs, a)
  len : rs.length = k
  low : 16 * k ≤ a
  top : a ≤ l.length
theorem At.zero (l : List UInt8) (ep : Nat) : At l ep 0 [] 0 := ⟨rfl, rfl, by omega, by omega⟩
theorem At.next {l : List UInt8} {ep k : Nat} {rs : List (List UInt8)} {a : Nat} (h : At l ep k rs a) (hr : readOk (l.drop a) ep k) : At l ep (k + 1) (rs ++ [recL (l.drop a)]) (a + (16 + getI (l.drop a) 8)) := by
  have h1 := hr.1
  have h2 := hr.2.2.2.1
  rw [List.length_drop] at h1 h2
  refine ⟨?_, by simp [h.len], by have := h.low; omega, by have := h.top; omega⟩
  show stepS l ep (itS l ep k) = _
  rw [h.it, stepS_yes (by simpa [h.len] using hr)]
  simp only [Nat.add_assoc]
theorem At.last {l : List UInt8} {ep k : Nat} {rs : List (List UInt8)} {a : Nat} (h : At l ep k rs a) (hr : ¬ readOk (l.drop a) ep k) : scanS l ep = (rs, a) := by
  have h1 := h.low
  have h2 := h.top
  rw [scanS_is (k := k) (by rw [h.it]; simpa [h.len] using hr) (by omega), h.it]
section
variable {w : World} {A : Option Addr} {n c : Nat} {l : List UInt8}
set_option maxHeartbeats 1000000 in
theorem scan_any (h : Bs w A n c l) (ep : Nat) (hn : n ≤ 2147483648) :
    Calls Try.prog 108 #[.slice A n c, .int .u32 (ep : Int)] w (ScanPost w l ep) := by
  obtain ⟨i, hi, hz, hs1, hb⟩ := info_parts info_bytes
  go_enter Try.func108, Try.ntmps108
  go_wp2_with fail
  go_loopw [6, 7] (fun v a wr => ∃ k : Nat, ∃ m : Nat, ∃ rs vs, At l ep k rs m ∧ a = .int .i64 (m : Int) ∧ wr.ownsRow w.heap.size 22 1 v k vs ∧ Rows w.heap.size wr vs rs ∧ Chg [] w wr) (fun _ a _ => n - (intOf a).toNat)
  case atStart => exact ⟨0, 0, [], [], At.zero l ep, rfl, own_nil _ _ _, Rows.nil _ _, Chg.refl _ _⟩
  case round =>
    obtain ⟨k, m, rs, vs, hat, rfl, hown, hrows, hcr⟩ := hrel
    obtain ⟨Av, cv, rfl, hvl, hvc, _⟩ := own_slice hown
    have hm := hat.top
    have hk := hat.low
    have hl := h.len
    have hcap := h.cap
    rw [hl] at hm
    have hB := (h.keep hcr).cut (lo := m) (hi := n) hm (Nat.le_refl _)
    have hdr : (l.drop m).take (n - m) = l.drop m := List.take_of_length_le (by rw [List.length_drop]; omega)
    rw [hdr] at hB
    have e1 : (k : Int) % 4294967296 = (k : Int) := by omega
    have e2 : ¬ n < m := by omega
    have e3 : ¬ c < n := by omega
    have hnx : readOk (l.drop m) ep k → m + (16 + getI (l.drop m) 8) ≤ n := fun hr => by have := (hat.next hr).top; omega
    clear hdr hl
    rcases Decidable.em (m = c) with hcm | hcm
    · have hok : ¬ readOk (l.drop m) ep k := fun hr => by have := hnx hr; omega
      have hnm : n = m := by omega
      rw [if_pos hcm.symm] at hB
      subst hcm
      subst hnm
      rw [Nat.sub_self] at hB
      clear hnx
      go_wp2_with fail
      refine (read_any' hB ep k (by omega)).mono ?_
      rintro e w2 (⟨hyes, _⟩ | ⟨_, rfl, hc2⟩)
      · exact absurd hyes hok
      go_wp2_with fail
      go_ret2
      rw [ScanPost, hat.last hok]
      exact ⟨_, vs, rfl, by rw [hat.len]; exact own_keep hown hc2, hrows.keep hc2, hcr.new hc2⟩
    · rw [if_neg (Ne.symm hcm)] at hB
      have e4 : ¬ c = m := Ne.symm hcm
      by_cases hok : readOk (l.drop m) ep k
      · have hnk := hnx hok
        go_wp2_with fail
        refine (read_any' hB ep k (by omega)).mono ?_
        rintro e w2 (⟨_, v2, rfl, ho2, hc2⟩ | ⟨hno, _⟩)
        rotate_left
        · exact absurd hok hno
        obtain ⟨A2, c2, rfl, _⟩ := own_slice ho2
        have how := own_keep hown hc2
        have hrw := hrows.keep hc2
        have hx1 := Lib.hid (show k + 1 ≤ maxLen by unfold maxLen; omega)
        have hx2 := Lib.hid (show (k + 1) * 24 ≤ 140737488355328 by omega)
        have hx3 := Lib.hid (show w.heap.size ≤ w2.heap.size from Nat.le_trans hcr.size hc2.size)
        go_wp2_with (at_builtin
                     refine wpList_append_src rfl (.tmp 27) (.tmp 29) 30 rfl w.heap.size 22 i _ 24 Try.underlying30 hi hz hs1 hb cells_slice (.slice Av k cv) k vs rfl (own_keep how ((Chg.refl _ _).alloc _)) (some ⟨w2.heap.size, 0, none⟩) 1 1 [.slice A2 (recL (l.drop m)).length c2] rfl rfl (Src.of_all (Whole.new w2 22 [.slice A2 (recL (l.drop m)).length c2])) (fun u hu => by simp at hu; rw [hu]; rfl) hx1.out hx2.out (by simp; have := hx3.out; omega) ?_
                     intro v4 w4 ho4 hg4 _)
        have hch4 : Chg [] w w4 := ((hcr.new hc2).alloc _).own (own_keep how ((Chg.refl _ _).alloc _)) (Nat.le_refl _) hg4
        go_roundw
        case rel =>
          refine ⟨k + 1, m + (16 + getI (l.drop m) 8), _, _, hat.next hok, by go_num, ho4, ?_, hch4⟩
          exact ((hrw.keep ((Chg.refl _ _).alloc _)).snoc (own_more (own_keep ho2 ((Chg.refl _ _).alloc _)) hcr.size)).grown (own_keep how ((Chg.refl _ _).alloc _)) hg4
        case measure => simp [intOf]; omega
      · go_wp2_with fail
        refine (read_any' hB ep k (by omega)).mono ?_
        rintro e w2 (⟨hyes, _⟩ | ⟨_, rfl, hc2⟩)
        · exact absurd hyes hok
        go_wp2_with fail
        go_ret2
        rw [ScanPost, hat.last hok]
        exact ⟨_, vs, rfl, by rw [hat.len]; exact own_keep hown hc2, hrows.keep hc2, hcr.new hc2⟩
end
end Go.Proofs.Ytlhkmbcjgdjegaa
