/-
  PB: Rown, Runes, Digits, TapeFlow, Txt, FnRow, TokSigns, Tok.
-/
import Derived.Test.YtbkfhndmeljlcaaGreatDoorZPB3
import Derived.Test.YtbkfhndmeljlcaaGreatDoorZPB4
import Derived.Test.YtbkfhndmeljlcaaGreatDoorZPB5
import Derived.Laws.RangeAny
import Derived.Lib.OthersKept
import Derived.Deep.DeepCutAuto
import Derived.Laws.Cover4
import Derived.Laws.BitsAllLaws
import Derived.Deep.RegionLaw
namespace Go.Proofs.YtbkfhndmeljlcaaGreatDoor
open Go.RowKit
section
variable {w w' : World} {B B2 n m k k2 : Nat} {e e2 : TypeId} {v v2 : Value} {xs ys : List Value}
theorem rown_keep (h : w.ownsRow B e k v n xs) (hc : Chg [] w w') : w'.ownsRow B e k v n xs := by
  refine ⟨h.1, h.2.imp id ?_⟩
  rintro ⟨g, cap, cur, rfl, hb, hg, r⟩
  refine ⟨g, cap, cur, rfl, hb, ?_, r⟩
  rw [hc.block g ?_ (by simp)]
  · exact hg
  · rcases Nat.lt_or_ge g w.heap.size with hlt | hge
    · exact hlt
    · rw [Array.getElem?_eq_none hge] at hg; cases hg
theorem rown_slice (h : w.ownsRow B e k v n xs) : ∃ A c, v = .slice A n c ∧ n ≤ c ∧ c ≤ 9223372036854775807 ∧ (∀ ad, A = some ad → ad.spot = none ∧ B ≤ ad.block ∧ ad.off = 0 ∧ ad.block < w.heap.size) := by
  rcases h.2 with ⟨rfl, rfl⟩ | ⟨g, cap, cur, rfl, hb, hg, hn, hc, hs, ht⟩
  · exact ⟨none, 0, rfl, Nat.le_refl _, by omega, fun ad h => by cases h⟩
  · have hgl : g < w.heap.size := by
      rcases Nat.lt_or_ge g w.heap.size with hlt | hge
      · exact hlt
      · rw [Array.getElem?_eq_none hge] at hg; cases hg
    exact ⟨some ⟨g, 0, none⟩, cap, rfl, hn, by unfold maxLen at hc; omega, fun ad h => by injection h with h; subst h; exact ⟨rfl, hb, rfl, hgl⟩⟩
theorem rown_cell (h : w.ownsRow B e k v n xs) {A : Option Addr} {c : Nat} (hv : v = .slice A n c) {j : Nat} {u : Value} (hj : xs[j]? = some u) : ∃ g, A = some ⟨g, 0, none⟩ ∧ w.cell? ⟨g, j, none⟩ = some u := by
  rcases h.2 with ⟨rfl, rfl⟩ | ⟨g, cap, cur, rfl, hb, hg, hn, hc, hs, ht⟩
  · have := (List.getElem?_eq_some_iff.1 hj).1
    have h1 := h.1
    simp at h1
    subst h1
    simp at hj
  · injection hv with h1
    refine ⟨g, h1.symm, ?_⟩
    have := h.cells (g := g) rfl j u hj
    rwa [add_plain, Nat.zero_add] at this
theorem rown_grown (h : w.ownsRow B e k v n xs) (h2 : w.ownsRow B2 e2 k2 v2 m ys) (hne : e ≠ e2) (hg : w.grownBy w' v2.ownBlock) : w'.ownsRow B e k v n xs := by
  refine ⟨h.1, h.2.imp id ?_⟩
  rintro ⟨g, cap, cur, rfl, hb, hh, r⟩
  refine ⟨g, cap, cur, rfl, hb, ?_, r⟩
  rw [hg.block g ?_ ?_]
  · exact hh
  · rcases Nat.lt_or_ge g w.heap.size with hlt | hge
    · exact hlt
    · rw [Array.getElem?_eq_none hge] at hh; cases hh
  · intro hc
    rcases h2.2 with ⟨rfl, _⟩ | ⟨g2, cap2, cur2, rfl, hb2, hh2, _⟩
    · simp [Value.ownBlock] at hc
    · simp [Value.ownBlock] at hc
      subst hc
      rw [hh] at hh2
      simp at hh2
      exact hne hh2.2
end
end Go.Proofs.YtbkfhndmeljlcaaGreatDoor
namespace Go.Proofs.YtbkfhndmeljlcaaGreatDoor
open Go.RowKit
/-- The runes from a place on. -/
def runesAt (s : ByteArray) : Nat → Nat → List Nat
  | 0, _ => []
  | f + 1, pos => if pos < s.size then (Utf8.decode s pos).1 :: runesAt s f (pos + (Utf8.decode s pos).2) else []
def runesL (s : ByteArray) : List Nat := runesAt s s.size 0
theorem width_pos (s : ByteArray) (pos : Nat) (h : pos < s.size) : 1 ≤ (Utf8.decode s pos).2 := by
  by_cases ha : (s[pos]'h).toNat < 128
  · rw [decode_ascii s pos h ha]; exact Nat.le_refl _
  · exact (decode_high s pos h (by omega)).2
theorem runesAt_more (s : ByteArray) : ∀ (f g pos : Nat), s.size - pos ≤ f → f ≤ g → runesAt s f pos = runesAt s g pos
  | 0, 0, _, _, _ => rfl
  | 0, g + 1, pos, h, _ => by
    rw [runesAt, runesAt, if_neg (by omega)]
  | f + 1, g + 1, pos, h, hg => by
    rw [runesAt, runesAt]
    by_cases hp : pos < s.size
    · rw [if_pos hp, if_pos hp, runesAt_more s f g _ (by have := width_pos s pos hp; omega) (by omega)]
    · rw [if_neg hp, if_neg hp]
theorem runesAt_len (s : ByteArray) : ∀ (f pos : Nat), (runesAt s f pos).length ≤ f
  | 0, _ => Nat.le_refl _
  | f + 1, pos => by
    rw [runesAt]
    split
    · have := runesAt_len s f (pos + (Utf8.decode s pos).2); simp; omega
    · simp
theorem runesAt_le (s : ByteArray) : ∀ (f pos : Nat), ∀ r ∈ runesAt s f pos, r ≤ 2147483647
  | 0, _, r, h => by cases h
  | f + 1, pos, r, h => by
    rw [runesAt] at h
    split at h
    · rcases List.mem_cons.1 h with rfl | h
      · exact decode_le s pos
      · exact runesAt_le s f _ r h
    · cases h
/-- Runes, as cells. -/
def r32 (l : List Nat) : List Value := l.map fun k : Nat => Value.int .i32 (k : Int)
theorem r32_len (l : List Nat) : (r32 l).length = l.length := by simp [r32]
theorem r32_app (l m : List Nat) : r32 (l ++ m) = r32 l ++ r32 m := by simp [r32]
theorem info_rune : (Tryz.prog.info? 21).map (fun i => (i.zero, i.size, i.bytes)) = some (some (.int .i32 0), 1, 4) := by kernel_rfl
def RunesPost (s : ByteArray) (w : World) (e : Ending) (w' : World) : Prop := ∃ v, e = .returned v ∧ w'.ownsRow w.heap.size 21 1 v (runesL s).length (r32 (runesL s)) ∧ Chg [] w w'
set_option maxHeartbeats 2000000 in
set_option maxRecDepth 100000 in
theorem runes_any (s : ByteArray) (w : World) (hs : s.size ≤ 1000000) : Calls Tryz.prog 76 #[.string s] w (RunesPost s w) := by
  obtain ⟨i0, hi0, hz0, hz1, hz2⟩ := info_parts info_rune
  go_enter Tryz.func76, Tryz.ntmps76
  go_upto_region 3 with fail
  have hI : (w.iter s 0).heap[w.heap.size]? = some (.stringIter s 0) := World.iter_heap w s 0
  have hc0 : Chg [] w (w.iter s 0) := (Chg.refl [] w).alloc _
  obtain ⟨kI, hkI⟩ : ∃ k, k = w.heap.size := ⟨_, rfl⟩
  have hsz : (w.iter s 0).heap.size = kI + 1 := by rw [hkI]; simp [World.iter]
  rw [← hkI] at hI ⊢
  generalize w.iter s 0 = w1 at hI hc0 hsz ⊢
  have HI := Lib.hid hI
  have HC0 := Lib.hid hc0
  have HK := Lib.hid hkI
  have HSZ := Lib.hid hsz
  clear hI hc0 hkI hsz
  go_loopw [3, 5] (fun v _ wr => (∃ out : List Nat, wr.ownsRow (kI + 1) 21 1 v out.length (r32 out) ∧ out.length ≤ 1000000 ∧ ∃ pos f, Hid (wr.heap[kI]? = some (.stringIter s pos)) ∧ s.size - pos ≤ f ∧ out.length + f ≤ s.size ∧ Hid (runesL s = out ++ runesAt s f pos)) ∧ Hid (Chg [kI] w1 wr)) (fun _ _ wr => s.size - wr.iterPos kI)
  case atStart => exact ⟨⟨[], World.ownsRow_nil _ _ _ _, by simp, 0, s.size, HI, by omega, by simp, Lib.hid rfl⟩, Lib.hid (Chg.refl _ _)⟩
  case round =>
    obtain ⟨⟨out, ho, hol, pos, f, HIr, hf, hof, HR⟩, HCr⟩ := hrel
    have HO := Lib.hid ho
    clear ho
    by_cases hlt : pos < s.size
    · obtain ⟨f', rfl⟩ : ∃ f', f = f' + 1 := ⟨f - 1, by omega⟩
      have hnx := fun ty => Lib.run_next_any_at (P := Tryz.prog) wr kI s pos ty HIr.out hlt
      go_upto_region 5 with fail
      obtain ⟨d, hd⟩ : ∃ d, d = (Utf8.decode s pos).2 := ⟨_, rfl⟩
      obtain ⟨r, hr⟩ : ∃ r, r = (Utf8.decode s pos).1 := ⟨_, rfl⟩
      have hw := width_pos s pos hlt
      rw [← hd] at hw
      have HR2 := Lib.hid (show runesL s = (out ++ [r]) ++ runesAt s f' (pos + d) from by rw [HR.out, runesAt, if_pos hlt, ← hd, ← hr]; simp)
      have HI2 := Lib.hid (Lib.iterAt_heap wr kI s pos (pos + d) HIr.out)
      have HC2 := Lib.hid (show Chg [kI] w1 (wr.iterAt kI s (pos + d)) from HCr.out.trans ⟨rfl, rfl, rfl, by rw [Lib.iterAt_size]; exact Nat.le_refl _, fun i _ hn => Lib.iterAt_other wr kI i s (pos + d) (by simpa using hn)⟩)
      have HO2 := Lib.hid (show (wr.iterAt kI s (pos + d)).ownsRow (kI + 1) 21 1 _ out.length (r32 out) from rown_chg HO.out (T := [kI]) ⟨rfl, rfl, rfl, by rw [Lib.iterAt_size]; exact Nat.le_refl _, fun i _ hn => Lib.iterAt_other wr kI i s (pos + d) (by simpa using hn)⟩ (by simp))
      rw [← hd, ← hr]
      generalize wr.iterAt kI s (pos + d) = w3 at HI2 HC2 HO2 ⊢
      have HMP := Lib.hid (show wr.iterPos kI = pos from by unfold World.iterPos; rw [HIr.out])
      have hkw : kI < w3.heap.size := Lib.hid (Array.getElem?_eq_some_iff.1 HI2.out).1 |>.out
      have hr32 : (r : Int) ≤ 2147483647 := by have := decode_le s pos; omega
      clear hr hd hnx
      go_wp2_with (at_builtin
                   refine wpList_append_own _ rfl (.tmp 11) (.tmp 13) _ rfl (kI + 1) 21 i0 _ 1 4 Tryz.underlying68 hi0 hz0 hz1 hz2 rfl (by decide) u3 out.length (r32 out) rfl (own_keep HO2.out ((Chg.refl [] w3).alloc _)) ⟨w3.heap.size, 0, none⟩ 1 1 [.int .i32 (r : Int)] rfl rfl (cells_page _ _ _) (by simp [Value.oneCell']) (by simp only [maxLen]; omega) (by omega) (by simp; omega) ?_
                   intro v' w6 ho6 hg6 _
                   have HO6 := Lib.hid ho6
                   have HG6 := Lib.hid hg6
                   clear ho6 hg6)
      have HOW := Lib.hid (own_keep HO2.out ((Chg.refl [] w3).alloc (.cells #[.int .i32 (r : Int)] 21)))
      have HI6 := Lib.hid (show w6.heap[kI]? = some (.stringIter s (pos + d)) from by
        rw [HG6.out.block kI (by simp; omega) (fun hc => by have := (HOW.out.lt kI hc.symm).1; omega)]
        exact (((Chg.refl [] w3).alloc (.cells #[.int .i32 (r : Int)] 21)).block kI hkw (by simp)).trans HI2.out)
      have HC6 := Lib.hid (show Chg [kI] w1 w6 from chg_grown2 (HC2.out.alloc _) HG6.out (fun g hg => by have := (HOW.out.lt g hg).1; have := HSZ.out; omega))
      have HP6 := Lib.hid (show w6.iterPos kI = pos + d from by unfold World.iterPos; rw [HI6.out])
      go_roundw
      case rel => exact ⟨⟨out ++ [r], by rw [List.length_append, r32_app]; exact HO6.out, by simp; omega, pos + d, f', HI6, by omega, by simp; omega, HR2⟩, HC6⟩
      case measure => rw [HP6.out, HMP.out]; omega
    · have HRZ := Lib.hid (show runesL s = out from by rw [HR.out]; cases f with
        | zero => simp [runesAt]
        | succ f => rw [runesAt, if_neg hlt]; simp)
      have hnx := fun ty => Lib.run_next_end_at (P := Tryz.prog) wr kI s pos ty HIr.out hlt
      have HCz := Lib.hid (show Chg [] w wr from HC0.out.then_ HCr.out (fun i hi hl => by have := HK.out; simp only [List.mem_cons, List.not_mem_nil, or_false] at hi; omega))
      have HOz := Lib.hid (show RunesPost s w (.returned u3) wr from ⟨_, rfl, by rw [HRZ.out]; exact own_more HO.out (by have := HK.out; omega), HCz.out⟩)
      go_wp2_with fail
      go_ret
      exact HOz.out
end Go.Proofs.YtbkfhndmeljlcaaGreatDoor
namespace Go.Proofs.YtbkfhndmeljlcaaGreatDoor
open Go.RowKit
/-- Some text of at most so many bytes. -/
def TxtPost (m : Nat) (w : World) (e : Ending) (w' : World) : Prop := ∃ s : ByteArray, e = .returned (.string s) ∧ s.size ≤ m ∧ Chg [] w w'
theorem encode_le4 (i : Int) : (Utf8.encode i).size ≤ 4 := encode_size_le i
set_option maxHeartbeats 1000000 in
set_option maxRecDepth 100000 in
theorem digits_any : ∀ (k n : Nat), n < 10 ^ (k + 1) → k ≤ 10 → ∀ w : World, Calls Tryz.prog 62 #[.int .i64 (n : Int)] w (TxtPost (4 * (k + 1)) w)
  | k, n, hn, hk, w => by
    have hp : 10 ^ (k + 1) ≤ 10 ^ 11 := Nat.pow_le_pow_right (by omega) (by omega)
    have hn2 : n < 100000000000 := Nat.lt_of_lt_of_le hn hp
    clear hp
    by_cases h10 : 10 ≤ n
    · match k, hn, hk with
      | 0, hn, hk => omega
      | k + 1, hn, hk =>
        have IH := Lib.hid (fun W => digits_any k (n / 10) (by rw [Nat.pow_succ] at hn; omega) (by omega) W)
        have hq : (n : Int).tdiv 10 = ((n / 10 : Nat) : Int) := rfl
        have hr : (n : Int).tmod 10 = ((n % 10 : Nat) : Int) := rfl
        generalize hgr : n % 10 = r at hr
        have hr9 : r < 10 := by omega
        have hq9 : n / 10 < 100000000000 := by omega
        generalize n / 10 = q at *
        clear hn hgr
        go_enter Tryz.func62, Tryz.ntmps62
        go_wp2_with fail
        refine (IH.out _).mono ?_
        rintro e w1 ⟨s, rfl, hs, hc⟩
        obtain ⟨y, hy⟩ : ∃ y, s ++ Utf8.encode (48 + (r : Int)) = y := ⟨_, rfl⟩
        have hys : y.size ≤ 4 * (k + 1 + 1) := by rw [← hy, ByteArray.size_append']; have := encode_le4 (48 + (r : Int)); omega
        have hadd : (Op.stringOp .add s (Utf8.encode (48 + (r : Int)))).run Tryz.prog w1 = .ok (.string y) w1 := by
          rw [← hy]; exact run_string_add_sum _ _ _ (by have := encode_le4 (48 + (r : Int)); omega)
        clear hy
        go_wp2_with fail
        go_ret
        exact ⟨y, rfl, hys, hc⟩
    · go_enter Tryz.func62, Tryz.ntmps62
      go_wp2_with fail
      go_ret
      exact ⟨_, rfl, by have := encode_le4 (48 + (n : Int)); omega, Chg.refl _ _⟩
/-- Yes or no. -/
def AnyB (w : World) (e : Ending) (w' : World) : Prop := ∃ b : Bool, e = .returned (.bool b) ∧ w = w'
set_option maxHeartbeats 1000000 in
set_option maxRecDepth 100000 in
theorem halts_any (s : ByteArray) (w : World) (hs : s.size ≤ 1000000) : Calls Tryz.prog 36 #[.string s] w (AnyB w) := by
  by_cases h : 2 < s.size
  · have hd : decide (2 < s.size) = true := by simpa using h
    go_enter Tryz.func36, Tryz.ntmps36
    go_wp2_with fail
    go_ret
    exact ⟨_, rfl, rfl⟩
  · have hd : decide (2 < s.size) = false := by simpa using h
    go_enter Tryz.func36, Tryz.ntmps36
    go_wp2_with fail
    go_ret
    exact ⟨_, rfl, rfl⟩
set_option maxHeartbeats 1000000 in
set_option maxRecDepth 100000 in
theorem live_any (s : ByteArray) (w : World) (hs : s.size ≤ 1000000) : Calls Tryz.prog 63 #[.string s] w fun e w' => ∃ t : ByteArray, e = .returned (.string t) ∧ t.size ≤ s.size ∧ w = w' := by
  have HH := Lib.hid (halts_any s w hs)
  go_enter Tryz.func63, Tryz.ntmps63
  go_wp2_with fail
  refine HH.out.mono ?_
  rintro e w1 ⟨b, rfl, hw⟩
  cases b
  · go_wp2_with fail
    go_ret
    exact ⟨_, rfl, by first | exact Nat.le_refl _ | exact Nat.zero_le _, hw⟩
  · go_wp2_with fail
    go_ret
    exact ⟨_, rfl, by first | exact Nat.le_refl _ | exact Nat.zero_le _, hw⟩
end Go.Proofs.YtbkfhndmeljlcaaGreatDoor
namespace Go.Proofs.YtbkfhndmeljlcaaGreatDoor
open Go.RowKit
def nochg : List UInt8 := [110, 111, 32, 99, 104, 97, 110, 103, 101, 115]
/-- The tape goes on, rows of that constant are marked from B on, all else stays. -/
structure TapeR (p B : Nat) (A : Option Addr) (n c : Nat) (l : List Int) (a b : World) : Prop where
  os : b.os = a.os
  tape : b.tape = a.tape
  output : b.output = a.output
  size : a.heap.size ≤ b.heap.size
  block : ∀ k, k < a.heap.size → k ≠ p → b.heap[k]? = a.heap[k]? ∨ (B ≤ k ∧ ∃ fz fz', a.heap[k]? = some (.cells (bts nochg).toArray 5 fz) ∧ b.heap[k]? = some (.cells (bts nochg).toArray 5 fz'))
  tp : ∀ i, Tp a p A n c l i → ∃ j, Tp b p A n c l j
/-- What lies below B stays, but for the tape. -/
structure TapeH (p B : Nat) (A : Option Addr) (n c : Nat) (l : List Int) (a b : World) : Prop where
  os : b.os = a.os
  tape : b.tape = a.tape
  output : b.output = a.output
  size : a.heap.size ≤ b.heap.size
  block : ∀ k, k < B → k < a.heap.size → k ≠ p → b.heap[k]? = a.heap[k]?
  tp : ∀ i, Tp a p A n c l i → ∃ j, Tp b p A n c l j
section
variable {p B B3 n c : Nat} {A : Option Addr} {l : List Int}
theorem TapeR.of_chg {a b : World} (h : Chg [] a b) : TapeR p B A n c l a b := ⟨h.os, h.tape, h.output, h.size, fun k hk _ => .inl (h.block k hk (by simp)), fun i hi => ⟨i, hi.keep h⟩⟩
theorem TapeR.next {a b : World} (h : Chg [p] a b) {j : Nat} (ht : Tp b p A n c l j) : TapeR p B A n c l a b := ⟨h.os, h.tape, h.output, h.size, fun k hk hp => .inl (h.block k hk (by simpa using hp)), fun _ _ => ⟨j, ht⟩⟩
theorem TapeR.refl (a : World) : TapeR p B A n c l a a := .of_chg (Chg.refl _ _)
theorem TapeR.trans {a b d : World} (h : TapeR p B A n c l a b) (k : TapeR p B A n c l b d) : TapeR p B A n c l a d := by
  refine ⟨k.os.trans h.os, k.tape.trans h.tape, k.output.trans h.output, Nat.le_trans h.size k.size, fun i hi hp => ?_, fun i hi => by obtain ⟨j, hj⟩ := h.tp i hi; exact k.tp j hj⟩
  rcases h.block i hi hp with h1 | ⟨hB, fz, fz', h1, h2⟩
  · rcases k.block i (Nat.lt_of_lt_of_le hi h.size) hp with k1 | ⟨hB, fz, fz', k1, k2⟩
    · exact .inl (k1.trans h1)
    · exact .inr ⟨hB, fz, fz', by rw [← h1]; exact k1, k2⟩
  · rcases k.block i (Nat.lt_of_lt_of_le hi h.size) hp with k1 | ⟨_, fz2, fz3, k1, k2⟩
    · exact .inr ⟨hB, fz, fz', h1, k1.trans h2⟩
    · exact .inr ⟨hB, fz, fz3, h1, k2⟩
theorem TapeR.h {a b : World} (h : TapeR p B A n c l a b) (hB : B3 ≤ B) : TapeH p B3 A n c l a b :=
  ⟨h.os, h.tape, h.output, h.size, fun k h3 hk hp => (h.block k hk hp).elim id fun ⟨hb, _⟩ => by omega, h.tp⟩
theorem TapeH.trans {a b d : World} (h : TapeH p B A n c l a b) (k : TapeH p B A n c l b d) : TapeH p B A n c l a d :=
  ⟨k.os.trans h.os, k.tape.trans h.tape, k.output.trans h.output, Nat.le_trans h.size k.size, fun i hB hi hp => (k.block i hB (Nat.lt_of_lt_of_le hi h.size) hp).trans (h.block i hB hi hp), fun i hi => by obtain ⟨j, hj⟩ := h.tp i hi; exact k.tp j hj⟩
theorem TapeH.whole {a b : World} (h : TapeH p B A n c l a b) {g t : Nat} {cs : List Value} (hW : Whole a g t cs) (hg : g < B) (hp : g ≠ p) : Whole b g t cs := (h.block g hg hW.lt hp).trans hW
theorem TapeH.chg {a b : World} (h : TapeH p B A n c l a b) (hB : a.heap.size ≤ B) : Chg [p] a b := ⟨h.os, h.tape, h.output, h.size, fun k hk hn => h.block k (by omega) hk (by simpa using hn)⟩
theorem TapeH.after {a b W : World} (h1 : Chg [p] a b) (h2 : TapeH p B A n c l b W) (hB : a.heap.size ≤ B) : Chg [p] a W :=
  ⟨h2.os.trans h1.os, h2.tape.trans h1.tape, h2.output.trans h1.output, Nat.le_trans h1.size h2.size, fun k hk hn => (h2.block k (by omega) (Nat.lt_of_lt_of_le hk h1.size) (by simpa using hn)).trans (h1.block k hk hn)⟩
theorem tf_lt {W : World} {g : Nat} {o : Obj} (h : W.heap[g]? = some o) : g < W.heap.size := by
  rcases Nat.lt_or_ge g W.heap.size with hlt | hge
  · exact hlt
  · rw [Array.getElem?_eq_none hge] at h; cases h
end
end Go.Proofs.YtbkfhndmeljlcaaGreatDoor
namespace Go.Proofs.YtbkfhndmeljlcaaGreatDoor
open Go.RowKit
/-- The tape goes on, all else stays. -/
structure TapeQ (p : Nat) (A : Option Addr) (n c : Nat) (l : List Int) (a b : World) : Prop where
  chg : Chg [p] a b
  tp : ∀ i, Tp a p A n c l i → ∃ j, Tp b p A n c l j
section
variable {p n c : Nat} {A : Option Addr} {l : List Int}
theorem TapeQ.refl (a : World) : TapeQ p A n c l a a := ⟨Chg.refl _ _, fun i h => ⟨i, h⟩⟩
theorem TapeQ.trans {a b d : World} (h : TapeQ p A n c l a b) (k : TapeQ p A n c l b d) : TapeQ p A n c l a d := ⟨h.chg.trans k.chg, fun i hi => by obtain ⟨j, hj⟩ := h.tp i hi; exact k.tp j hj⟩
theorem TapeQ.of_chg {a b : World} (h : Chg [] a b) : TapeQ p A n c l a b := ⟨h.sub (by simp), fun i hi => ⟨i, hi.keep h⟩⟩
def IsTxt (m : Nat) (v : Value) : Prop := ∃ s : ByteArray, v = .string s ∧ s.size ≤ m
def IsNum (m : Nat) (v : Value) : Prop := ∃ r : Nat, v = .int .i64 (r : Int) ∧ r < m
end
end Go.Proofs.YtbkfhndmeljlcaaGreatDoor
namespace Go.Proofs.YtbkfhndmeljlcaaGreatDoor
open Go.RowKit
structure FnV where
  name : Int
  args : Int
  code : ByteArray
def fnC (t : FnV) : List Value := [.int .i32 t.name, .int .i64 t.args, .string t.code]
def fnCs : List FnV → List Value
  | [] => []
  | t :: l => fnC t ++ fnCs l
theorem fnCs_len : ∀ l, (fnCs l).length = l.length * 3
  | [] => rfl
  | t :: l => by rw [fnCs, List.length_append, fnCs_len l]; simp [fnC]; omega
theorem fnCs_app : ∀ l m, fnCs (l ++ m) = fnCs l ++ fnCs m
  | [], _ => rfl
  | t :: l, m => by rw [List.cons_append, fnCs, fnCs, fnCs_app l m, List.append_assoc]
theorem fnCs_one (t : FnV) : fnCs [t] = fnC t := by simp [fnCs]
theorem fnCs_get : ∀ (l : List FnV) (k : Nat) (t : FnV) (j : Nat), l[k]? = some t → j < 3 → (fnCs l)[k * 3 + j]? = (fnC t)[j]?
  | [], k, t, j, h, hj => by simp at h
  | u :: l, 0, t, j, h, hj => by
    simp at h; subst h
    rw [fnCs, List.getElem?_append_left (by simp [fnC]; omega)]
    congr 1; omega
  | u :: l, k + 1, t, j, h, hj => by
    simp at h
    rw [fnCs, List.getElem?_append_right (by simp [fnC]; omega)]
    rw [← fnCs_get l k t j h hj]
    congr 1; simp [fnC]; omega
theorem info_func : (Tryz.prog.info? 58).map (fun i => (i.zero, i.size, i.bytes)) = some (some (.agg #[.int .i32 0, .int .i64 0, .string ⟨#[]⟩]), 3, 32) := by kernel_rfl
/-- The slice value '.slice A n c' is the functions l; they do not lie in block p. -/
structure Fns (W : World) (p : Nat) (A : Option Addr) (n c : Nat) (l : List FnV) : Prop where
  len : l.length = n
  src : Src W A (fnCs l)
  cap : n ≤ c
  max : n ≤ 1000
  spot : 0 < n → ∀ ad, A = some ad → ad.spot = none ∧ ad.block ≠ p
  args : ∀ f ∈ l, 0 ≤ f.args ∧ f.args ≤ 2
section
variable {W W' : World} {p : Nat} {A : Option Addr} {n c : Nat} {l : List FnV}
theorem Fns.keep (h : Fns W p A n c l) (hc : Chg [p] W W') : Fns W' p A n c l := by
  refine ⟨h.len, fun hp => ?_, h.cap, h.max, h.spot, h.args⟩
  obtain ⟨ad, e, hb, hx⟩ := h.src hp
  have hn : 0 < n := by have := h.len; rw [fnCs_len] at hp; omega
  refine ⟨ad, e, Nat.lt_of_lt_of_le hb hc.size, fun j v hj => ?_⟩
  have h1 := hx j v hj
  rw [← h1]
  have e2 : (ad.add j).block = ad.block := by unfold Addr.add; split <;> rfl
  refine World.cell?_of_block (w := W) (hc.block _ (by rw [e2]; exact hb) ?_)
  rw [e2]
  have := (h.spot hn ad e).2
  simpa using this
theorem Fns.cell (h : Fns W p A n c l) {k : Nat} {t : FnV} (hk : l[k]? = some t) : ∃ b o, A = some ⟨b, o, none⟩ ∧ b ≠ p ∧ b < W.heap.size ∧ W.cell? ⟨b, o + k * 3, none⟩ = some (.int .i32 t.name) ∧ W.cell? ⟨b, o + k * 3 + 1, none⟩ = some (.int .i64 t.args) ∧ W.cell? ⟨b, o + k * 3 + 2, none⟩ = some (.string t.code) := by
  have hkl := (List.getElem?_eq_some_iff.1 hk).1
  obtain ⟨⟨b, o, s⟩, e, hb, hx⟩ := h.src (by rw [fnCs_len]; omega)
  obtain ⟨hs, hbp⟩ := h.spot (by have := h.len; omega) _ e
  simp only at hs hbp
  subst hs
  refine ⟨b, o, e, hbp, hb, ?_, ?_, ?_⟩
  · have := hx _ _ ((fnCs_get l k t 0 hk (by omega)).trans rfl); rwa [add_plain] at this
  · have := hx _ _ ((fnCs_get l k t 1 hk (by omega)).trans rfl); rwa [add_plain] at this
  · have := hx _ _ ((fnCs_get l k t 2 hk (by omega)).trans rfl); rwa [add_plain] at this
end
end Go.Proofs.YtbkfhndmeljlcaaGreatDoor
namespace Go.Proofs.YtbkfhndmeljlcaaGreatDoor
open Go.RowKit
def hasB (s : ByteArray) (r : Int) : Bool := (runesL s).any fun x => (x : Int) == r
set_option maxHeartbeats 2000000 in
set_option maxRecDepth 100000 in
theorem has_any (s : ByteArray) (r : Int) (w : World) (hs : s.size ≤ 1000000) : Calls Tryz.prog 105 #[.string s, .int .i32 r] w (BoolPost (hasB s r) w) := by
  go_enter Tryz.func105, Tryz.ntmps105
  go_upto_region 2 with fail
  have hI : (w.iter s 0).heap[w.heap.size]? = some (.stringIter s 0) := World.iter_heap w s 0
  have hc0 : Chg [] w (w.iter s 0) := (Chg.refl [] w).alloc _
  obtain ⟨kI, hkI⟩ : ∃ k, k = w.heap.size := ⟨_, rfl⟩
  rw [← hkI] at hI ⊢
  generalize w.iter s 0 = w1 at hI hc0 ⊢
  have HI := Lib.hid hI
  have HC0 := Lib.hid hc0
  have HK := Lib.hid hkI
  clear hI hc0 hkI
  go_loopw [6] (fun _ wr => (∃ pos f, Hid (wr.heap[kI]? = some (.stringIter s pos)) ∧ s.size - pos ≤ f ∧ Hid (hasB s r = (runesAt s f pos).any fun x => (x : Int) == r)) ∧ Hid (Chg [kI] w1 wr)) (fun _ wr => s.size - wr.iterPos kI)
  case atStart => exact ⟨⟨0, s.size, HI, by omega, Lib.hid rfl⟩, Lib.hid (Chg.refl _ _)⟩
  case round =>
    obtain ⟨⟨pos, f, HIr, hf, HR⟩, HCr⟩ := hrel
    have HCZ := Lib.hid (fun (W : World) (hW : Chg [kI] w1 W) => show Chg [] w W from HC0.out.then_ hW (fun i hi hl => by have := HK.out; simp only [List.mem_cons, List.not_mem_nil, or_false] at hi; omega))
    by_cases hlt : pos < s.size
    · obtain ⟨f', rfl⟩ : ∃ f', f = f' + 1 := ⟨f - 1, by omega⟩
      have hnx := fun ty => Lib.run_next_any_at (P := Tryz.prog) wr kI s pos ty HIr.out hlt
      go_upto_region 4 with fail
      obtain ⟨d, hd⟩ : ∃ d, d = (Utf8.decode s pos).2 := ⟨_, rfl⟩
      obtain ⟨x, hx⟩ : ∃ r, r = (Utf8.decode s pos).1 := ⟨_, rfl⟩
      have hw := width_pos s pos hlt
      rw [← hd] at hw
      have HR2 := Lib.hid (show hasB s r = (((x : Int) == r) || (runesAt s f' (pos + d)).any fun x => (x : Int) == r) from by rw [HR.out, runesAt, if_pos hlt, ← hd, ← hx]; simp)
      have HI2 := Lib.hid (Lib.iterAt_heap wr kI s pos (pos + d) HIr.out)
      have HC2 := Lib.hid (show Chg [kI] w1 (wr.iterAt kI s (pos + d)) from HCr.out.trans ⟨rfl, rfl, rfl, by rw [Lib.iterAt_size]; exact Nat.le_refl _, fun i _ hn => Lib.iterAt_other wr kI i s (pos + d) (by simpa using hn)⟩)
      rw [← hd, ← hx]
      have HMP := Lib.hid (show wr.iterPos kI = pos from by unfold World.iterPos; rw [HIr.out])
      have HP2 := Lib.hid (show (wr.iterAt kI s (pos + d)).iterPos kI = pos + d from by unfold World.iterPos; rw [HI2.out])
      generalize wr.iterAt kI s (pos + d) = w3 at HI2 HC2 HP2 ⊢
      clear hx hd hnx
      by_cases hxr : (x : Int) = r
      · have hxd : ((x : Int) == r) = true := by simpa using hxr
        have HPO := Lib.hid (show BoolPost (hasB s r) w (.returned (.bool true)) w3 from ⟨by rw [HR2.out, hxd]; rfl, HCZ.out _ HC2.out⟩)
        clear hxr
        go_wp2_with fail
        go_ret
        exact HPO.out
      · have hxd : ((x : Int) == r) = false := by simpa using hxr
        have HR3 := Lib.hid (show hasB s r = (runesAt s f' (pos + d)).any fun x => (x : Int) == r from by rw [HR2.out, hxd]; rfl)
        go_wp2_with fail
        go_roundw
        case rel => exact ⟨⟨pos + d, f', HI2, by omega, HR3⟩, HC2⟩
        case measure => rw [HP2.out, HMP.out]; omega
    · have hnx := fun ty => Lib.run_next_end_at (P := Tryz.prog) wr kI s pos ty HIr.out hlt
      have HPO := Lib.hid (show BoolPost (hasB s r) w (.returned (.bool false)) wr from ⟨by rw [HR.out]; cases f with
        | zero => simp [runesAt]
        | succ f => rw [runesAt, if_neg hlt]; simp, HCZ.out _ HCr.out⟩)
      go_wp2_with fail
      go_ret
      exact HPO.out
def nameB (r : Int) : Bool := (decide (97 ≤ r) && decide (r ≤ 122)) || (decide (255 < r) && (r != 65533) && decide (r ≤ 1114111) && (decide (r < 55296) || decide (57343 < r)))
def signL : List Nat := [43, 45, 42, 47, 37, 38, 124, 94, 60, 61, 33, 46, 44, 64, 36, 35, 63, 58, 59, 91, 93, 126, 171, 187, 169, 174, 164, 161, 955, 960]
def knownB (r : Int) : Bool := (decide (97 ≤ r) && decide (r ≤ 122)) || (decide (65 ≤ r) && decide (r ≤ 90)) || signL.any fun x => (x : Int) == r
set_option maxHeartbeats 1000000 in
set_option maxRecDepth 100000 in
theorem name_any (r : Int) (w : World) : Calls Tryz.prog 77 #[.int .i32 r] w fun e w' => e = .returned (.bool (nameB r)) ∧ w = w' := by
  obtain ⟨b, hb⟩ : ∃ b, b = nameB r := ⟨_, rfl⟩
  rw [← hb]
  have HB := Lib.hid hb
  clear hb
  by_cases h1 : 97 ≤ r
  · by_cases h2 : r ≤ 122
    · have HE := Lib.hid (show b = true from by rw [HB.out]; simp [nameB, h1, h2])
      go_enter Tryz.func77, Tryz.ntmps77
      go_wp2_with fail
      go_ret
      exact ⟨ret_bool HE.out.symm, rfl⟩
    · have h2d : decide (r ≤ 122) = false := by simpa using h2
      by_cases h3 : 255 < r
      · by_cases h4 : r = 65533
        · subst h4
          have HE := Lib.hid (show b = false from by rw [HB.out]; rfl)
          clear h1 h2 h2d h3
          go_enter Tryz.func77, Tryz.ntmps77
          go_wp2_with fail
          go_ret
          exact ⟨ret_bool HE.out.symm, rfl⟩
        · have h4d : (r != 65533) = true := by simpa using h4
          by_cases h5 : r ≤ 1114111
          · by_cases h6 : r < 55296
            · have HE := Lib.hid (show b = true from by rw [HB.out]; simp [nameB, h3, h4, h5, h6])
              go_enter Tryz.func77, Tryz.ntmps77
              go_wp2_with fail
              go_ret
              exact ⟨ret_bool HE.out.symm, rfl⟩
            · have h6d : decide (r < 55296) = false := by simpa using h6
              by_cases h7 : 57343 < r
              · have HE := Lib.hid (show b = true from by rw [HB.out]; simp [nameB, h3, h4, h5, h7])
                go_enter Tryz.func77, Tryz.ntmps77
                go_wp2_with fail
                go_ret
                exact ⟨ret_bool HE.out.symm, rfl⟩
              · have h7d : decide (57343 < r) = false := by simpa using h7
                have HE := Lib.hid (show b = false from by rw [HB.out]; simp [nameB, h2, h6, h7])
                go_enter Tryz.func77, Tryz.ntmps77
                go_wp2_with fail
                go_ret
                exact ⟨ret_bool HE.out.symm, rfl⟩
          · have h5d : decide (r ≤ 1114111) = false := by simpa using h5
            have HE := Lib.hid (show b = false from by rw [HB.out]; simp [nameB, h2, h5])
            go_enter Tryz.func77, Tryz.ntmps77
            go_wp2_with fail
            go_ret
            exact ⟨ret_bool HE.out.symm, rfl⟩
      · have h3d : decide (255 < r) = false := by simpa using h3
        have HE := Lib.hid (show b = false from by rw [HB.out]; simp [nameB, h2, h3])
        go_enter Tryz.func77, Tryz.ntmps77
        go_wp2_with fail
        go_ret
        exact ⟨ret_bool HE.out.symm, rfl⟩
  · have h1d : decide (97 ≤ r) = false := by simpa using h1
    have h3d : decide (255 < r) = false := by simp; omega
    have h3 : ¬ 255 < r := by omega
    have HE := Lib.hid (show b = false from by rw [HB.out]; simp [nameB, h1, h3])
    go_enter Tryz.func77, Tryz.ntmps77
    go_wp2_with fail
    go_ret
    exact ⟨ret_bool HE.out.symm, rfl⟩
def signS : ByteArray := ⟨#[43, 45, 42, 47, 37, 38, 124, 94, 60, 61, 33, 46, 44, 64, 36, 35, 63, 58, 59, 91, 93, 126, 194, 171, 194, 187, 194, 169, 194, 174, 194, 164, 194, 161, 206, 187, 207, 128]⟩
theorem sign_runes : runesL signS = signL := by decide +kernel
set_option maxRecDepth 10000 in
theorem sign_any (r : Int) (w : World) : Calls Tryz.prog 105 #[.string ⟨#[43, 45, 42, 47, 37, 38, 124, 94, 60, 61, 33, 46, 44, 64, 36, 35, 63, 58, 59, 91, 93, 126, 194, 171, 194, 187, 194, 169, 194, 174, 194, 164, 194, 161, 206, 187, 207, 128]⟩, .int .i32 r] w (BoolPost (signL.any fun x => (x : Int) == r) w) := by
  have h := has_any signS r w (by decide)
  unfold hasB at h
  rw [sign_runes] at h
  exact h
set_option maxHeartbeats 1000000 in
set_option maxRecDepth 10000 in
theorem known_any (r : Int) (w : World) : Calls Tryz.prog 78 #[.int .i32 r] w (BoolPost (knownB r) w) := by
  obtain ⟨b, hb⟩ : ∃ b, b = knownB r := ⟨_, rfl⟩
  rw [← hb]
  have HB := Lib.hid hb
  clear hb
  have hsg := Lib.hid (sign_any r w)
  by_cases hz : 97 ≤ r ∧ r ≤ 122
  · obtain ⟨h1, h2⟩ := hz
    have HE := Lib.hid (show b = true from by rw [HB.out]; simp [knownB, h1, h2])
    go_enter Tryz.func78, Tryz.ntmps78
    go_wp2_with fail
    go_ret
    exact ⟨ret_bool HE.out.symm, Chg.refl _ _⟩
  · by_cases hZ : 65 ≤ r ∧ r ≤ 90
    · obtain ⟨h3, h4⟩ := hZ
      have h1d : decide (97 ≤ r) = false := by simp; omega
      have h1 : ¬ 97 ≤ r := by omega
      have HE := Lib.hid (show b = true from by rw [HB.out]; simp [knownB, h3, h4])
      go_enter Tryz.func78, Tryz.ntmps78
      go_wp2_with fail
      go_ret
      exact ⟨ret_bool HE.out.symm, Chg.refl _ _⟩
    · have HE := Lib.hid (show b = signL.any fun x => (x : Int) == r from by
        rw [HB.out]
        unfold knownB
        have e1 : (decide (97 ≤ r) && decide (r ≤ 122)) = false := by simp; omega
        have e2 : (decide (65 ≤ r) && decide (r ≤ 90)) = false := by simp; omega
        rw [e1, e2]; simp)
      by_cases h1 : 97 ≤ r
      · have h2 : ¬ r ≤ 122 := fun h => hz ⟨h1, h⟩
        have h2d : decide (r ≤ 122) = false := by simpa using h2
        have h3 : 65 ≤ r := by omega
        have h4 : ¬ r ≤ 90 := by omega
        have h4d : decide (r ≤ 90) = false := by simpa using h4
        clear hz hZ
        go_enter Tryz.func78, Tryz.ntmps78
        go_wp2_with fail
        refine hsg.out.mono ?_
        rintro e w1 ⟨rfl, hc⟩
        have HC := Lib.hid hc
        clear hc
        rw [← HE.out]
        go_wp2_with fail
        go_ret
        exact ⟨rfl, HC.out⟩
      · have h1d : decide (97 ≤ r) = false := by simpa using h1
        clear hz
        by_cases h3 : 65 ≤ r
        · have h4 : ¬ r ≤ 90 := fun h => hZ ⟨h3, h⟩
          have h4d : decide (r ≤ 90) = false := by simpa using h4
          clear hZ
          go_enter Tryz.func78, Tryz.ntmps78
          go_wp2_with fail
          refine hsg.out.mono ?_
          rintro e w1 ⟨rfl, hc⟩
          have HC := Lib.hid hc
          clear hc
          rw [← HE.out]
          go_wp2_with fail
          go_ret
          exact ⟨rfl, HC.out⟩
        · have h3d : decide (65 ≤ r) = false := by simpa using h3
          clear hZ
          go_enter Tryz.func78, Tryz.ntmps78
          go_wp2_with fail
          refine hsg.out.mono ?_
          rintro e w1 ⟨rfl, hc⟩
          have HC := Lib.hid hc
          clear hc
          rw [← HE.out]
          go_wp2_with fail
          go_ret
          exact ⟨rfl, HC.out⟩
end Go.Proofs.YtbkfhndmeljlcaaGreatDoor
namespace Go.Proofs.YtbkfhndmeljlcaaGreatDoor
open Go.RowKit
/-- A token. -/
structure TkV where
  sign : Int
  n : Int
  name : Int
def tkC (t : TkV) : List Value := [.int .i32 t.sign, .int .i64 t.n, .int .i32 t.name]
def tkCs : List TkV → List Value
  | [] => []
  | t :: l => tkC t ++ tkCs l
theorem tkCs_len : ∀ l, (tkCs l).length = l.length * 3
  | [] => rfl
  | t :: l => by rw [tkCs, List.length_append, tkCs_len l]; simp [tkC]; omega
theorem tkCs_app : ∀ l m, tkCs (l ++ m) = tkCs l ++ tkCs m
  | [], _ => rfl
  | t :: l, m => by rw [List.cons_append, tkCs, tkCs, tkCs_app l m, List.append_assoc]
theorem tkCs_one (t : TkV) : tkCs [t] = tkC t := by simp [tkCs]
theorem tkCs_get : ∀ (l : List TkV) (k : Nat) (t : TkV) (j : Nat), l[k]? = some t → j < 3 → (tkCs l)[k * 3 + j]? = (tkC t)[j]?
  | [], k, t, j, h, hj => by simp at h
  | u :: l, 0, t, j, h, hj => by
    simp at h; subst h
    rw [tkCs, List.getElem?_append_left (by simp [tkC]; omega)]
    congr 1; omega
  | u :: l, k + 1, t, j, h, hj => by
    simp at h
    rw [tkCs, List.getElem?_append_right (by simp [tkC]; omega)]
    rw [← tkCs_get l k t j h hj]
    congr 1; simp [tkC]; omega
def signs (l : List TkV) : List Int := l.map (·.sign)
theorem info_token : (Tryz.prog.info? 110).map (fun i => (i.zero, i.size, i.bytes)) = some (some (.agg #[.int .i32 0, .int .i64 0, .int .i32 0]), 3, 24) := by kernel_rfl
/-- The slice value '.slice A n c' is the tokens l. -/
structure Tks (W : World) (A : Option Addr) (n c : Nat) (l : List TkV) : Prop where
  len : l.length = n
  src : Src W A (tkCs l)
  cap : n ≤ c
  max : n ≤ 100000
  spot : 0 < n → ∀ ad, A = some ad → ad.spot = none
section
variable {W W' : World} {A : Option Addr} {n c : Nat} {l : List TkV}
theorem Tks.keep (h : Tks W A n c l) (hc : Chg [] W W') : Tks W' A n c l := ⟨h.len, h.src.keep hc, h.cap, h.max, h.spot⟩
theorem Tks.nil (W : World) : Tks W none 0 0 [] := ⟨rfl, Src.nil _ _, Nat.le_refl _, by omega, fun h => absurd h (by omega)⟩
theorem Tks.cell (h : Tks W A n c l) {k : Nat} {t : TkV} (hk : l[k]? = some t) : ∃ b o, A = some ⟨b, o, none⟩ ∧ b < W.heap.size ∧ W.cell? ⟨b, o + k * 3, none⟩ = some (.int .i32 t.sign) ∧ W.cell? ⟨b, o + k * 3 + 1, none⟩ = some (.int .i64 t.n) ∧ W.cell? ⟨b, o + k * 3 + 2, none⟩ = some (.int .i32 t.name) := by
  have hkl := (List.getElem?_eq_some_iff.1 hk).1
  obtain ⟨⟨b, o, s⟩, e, hb, hx⟩ := h.src (by rw [tkCs_len]; omega)
  obtain rfl : s = none := h.spot (by have := h.len; omega) _ e
  refine ⟨b, o, e, hb, ?_, ?_, ?_⟩
  · have := hx _ _ ((tkCs_get l k t 0 hk (by omega)).trans rfl); rwa [add_plain] at this
  · have := hx _ _ ((tkCs_get l k t 1 hk (by omega)).trans rfl); rwa [add_plain] at this
  · have := hx _ _ ((tkCs_get l k t 2 hk (by omega)).trans rfl); rwa [add_plain] at this
theorem Tks.of_own {B : Nat} {e : TypeId} {v : Value} (h : W.ownsRow B e 3 v n (tkCs l)) (hm : n ≤ 100000) : ∃ A c, v = .slice A n c ∧ Tks W A n c l := by
  have hl : l.length = n := by have := h.1; rw [tkCs_len] at this; omega
  rcases h.2 with ⟨rfl, rfl⟩ | ⟨g, cap, cur, rfl, hb, hg, hn, hc, hs, ht⟩
  · exact ⟨none, 0, rfl, hl, fun h => absurd h (by rw [tkCs_len]; omega), Nat.le_refl _, by omega, fun h => absurd h (by omega)⟩
  · refine ⟨_, cap, rfl, hl, fun _ => ⟨_, rfl, ?_, fun j u hj => h.cells rfl j u hj⟩, hn, hm, fun _ ad e => by injection e with e; subst e; rfl⟩
    rcases Nat.lt_or_ge g W.heap.size with hlt | hge
    · exact hlt
    · rw [Array.getElem?_eq_none hge] at hg; cases hg
end
end Go.Proofs.YtbkfhndmeljlcaaGreatDoor
