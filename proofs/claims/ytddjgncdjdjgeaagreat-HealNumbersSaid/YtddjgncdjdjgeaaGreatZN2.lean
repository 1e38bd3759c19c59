/-
  N: Fresh, Dsk, Sect, Waits, Write, AppZeros, BRows.
-/
import Derived.Test.YtddjgncdjdjgeaaGreatZN1
import Derived.Test.YtddjgncdjdjgeaaGreatChecked
import Derived.Deep.QuietTactic
import Derived.BigQuiet
import Derived.BigRegion
import Derived.Deep.RegionWith
import Derived.Lib.AppendZerosOnto
namespace Go.Proofs.YtddjgncdjdjgeaaGreat
open Go.RowKit

theorem info_u8 : (Tryz.prog.info? 5).map (fun i => (i.zero, i.size, i.bytes)) = some (some (.int .u8 0), 1, 1) := by kernel_rfl
theorem info_bool : (Tryz.prog.info? 4).map (fun i => (i.zero, i.size, i.bytes)) = some (some (.bool false), 1, 1) := by kernel_rfl
theorem info_int : (Tryz.prog.info? 3).map (fun i => (i.zero, i.size, i.bytes)) = some (some (.int .i64 0), 1, 8) := by kernel_rfl
theorem size_u8 : (Tryz.prog.info? 5).map (·.size) = some 1 := by kernel_rfl

theorem make_u8 (n : Nat) (h : n ≤ 1000000) (w : World) :
    (Instr.makeSlice 30 (.int .i64 (n : Int)) (.int .i64 (n : Int))).run Tryz.prog w = .ok (.slice (some ⟨w.heap.size, 0, none⟩) n n) (w.alloc (.cells (bts (zeros n)).toArray 5)) := by
  rw [bts_zeros]
  obtain ⟨i, hi, hz, hs, hb⟩ := info_parts info_u8
  exact run_make1 _ _ i _ rfl Tryz.underlying30 hi hz hs n (by rw [hb]; omega) (by omega) w
theorem make_bool (n : Nat) (h : n ≤ 1000000) (w : World) :
    (Instr.makeSlice 67 (.int .i64 (n : Int)) (.int .i64 (n : Int))).run Tryz.prog w = .ok (.slice (some ⟨w.heap.size, 0, none⟩) n n) (w.alloc (.cells (bls (falses n)).toArray 4)) := by
  rw [bls_falses]
  obtain ⟨i, hi, hz, hs, hb⟩ := info_parts info_bool
  exact run_make1 _ _ i _ rfl Tryz.underlying67 hi hz hs n (by rw [hb]; omega) (by omega) w

set_option maxHeartbeats 400000 in
set_option maxRecDepth 100000 in
theorem fresh_any {w : World} {A : Option Addr} {n c : Nat} {xs : List Value} (hl : xs.length = n) (hs : Src w A xs) (h1 : ∀ v ∈ xs, v.oneCell' = true) (hn : n ≤ 1000000) :
    Calls Tryz.prog 87 #[.slice A n c] w fun e w' => e = .returned (.slice (some ⟨w.heap.size, 0, none⟩) n n) ∧ Whole w' w.heap.size 5 xs ∧ Chg [] w w' := by
  have hmk := make_u8 n hn
  go_enter Tryz.func87, Tryz.ntmps87
  go_wp2_with (first
    | (with_reducible refine wpList_copy_splice rfl (.tmp 7) (.tmp 8) _ _ rfl 5 Tryz.underlying30 size_u8 (some ⟨w.heap.size, 0, none⟩) A n n n c rfl rfl w.heap.size 0 (bts (zeros n)) 5 ?c1 xs ?c2 ?c3 ?c4 h1 w.heap.size w ?c5 (Nat.le_refl _) ?_
       case c1 => exact heap_alloc_new w _
       case c2 => simp [hl]
       case c3 =>
         intro hp
         obtain ⟨ad, e, _, hx⟩ := (hs.keep ((Chg.refl [] w).alloc _)) hp
         exact ⟨rfl, ad, e, hx⟩
       case c4 => simp [hl, bts_len, zeros_len]
       case c5 => exact (Below.refl _ _).alloc (Nat.le_refl _) _
       intro w1 HG hB))
  go_ret
  have HG' := HG.out
  rw [splice_all _ _ (by simp [hl, bts_len, zeros_len])] at HG'
  exact ⟨rfl, HG', Chg.of_below hB⟩

end Go.Proofs.YtddjgncdjdjgeaaGreat
namespace Go.Proofs.YtddjgncdjdjgeaaGreat
open Go.RowKit

/-- A disk: its struct lies in block p, the lasting bytes L in bL, the seen ones S in bS, what waits (V) in bW. -/
structure Dsk (w : World) (p bL bS bW : Nat) (L S : List UInt8) (V : List Bool) : Prop where
  rec_ : Whole w p 123 [.slice (some ⟨bL, 0, none⟩) L.length L.length, .slice (some ⟨bS, 0, none⟩) S.length S.length, .slice (some ⟨bW, 0, none⟩) V.length V.length]
  last : Whole w bL 5 (bts L)
  seen : Whole w bS 5 (bts S)
  wait : Whole w bW 4 (bls V)
  lenL : L.length = 64 * V.length
  lenS : S.length = 64 * V.length
  pos : 0 < V.length
  le : V.length ≤ 160
  ne : bL ≠ bS

section
variable {w w' : World} {p bL bS bW : Nat} {L S : List UInt8} {V : List Bool}
theorem Dsk.keep (h : Dsk w p bL bS bW L S V) (hc : Chg [] w w') : Dsk w' p bL bS bW L S V :=
  ⟨h.rec_.keep hc, h.last.keep hc, h.seen.keep hc, h.wait.keep hc, h.lenL, h.lenS, h.pos, h.le, h.ne⟩
theorem Dsk.away {T : List Nat} (h : Dsk w p bL bS bW L S V) (hc : Chg T w w') (h0 : p ∉ T) (h1 : bL ∉ T) (h2 : bS ∉ T) (h3 : bW ∉ T) : Dsk w' p bL bS bW L S V :=
  ⟨h.rec_.chg hc h0, h.last.chg hc h1, h.seen.chg hc h2, h.wait.chg hc h3, h.lenL, h.lenS, h.pos, h.le, h.ne⟩

set_option maxHeartbeats 400000 in
set_option maxRecDepth 100000 in
theorem len_any (h : Dsk w p bL bS bW L S V) : Calls Tryz.prog 49 #[.pointer (some ⟨p, 0, none⟩)] w fun e w' => e = .returned (.int .i64 (V.length : Int)) ∧ w = w' := by
  have c2 := h.rec_.cell 2
  go_enter Tryz.func49, Tryz.ntmps49
  go_wp2_with fail
  go_ret
  exact ⟨rfl, rfl⟩

set_option maxHeartbeats 400000 in
set_option maxRecDepth 100000 in
theorem has_yes (h : Dsk w p bL bS bW L S V) (i : Int) (h0 : 0 ≤ i) (h1 : i < V.length) :
    Calls Tryz.prog 118 #[.pointer (some ⟨p, 0, none⟩), .int .i64 i] w fun e w' => e = .returned (.bool true) ∧ w = w' := by
  go_enter Tryz.func118, Tryz.ntmps118
  go_wp2_with (go_at_call 49; refine (len_any h).mono ?_; rintro e w' ⟨rfl, rfl⟩)
  go_ret
  exact ⟨rfl, rfl⟩

set_option maxHeartbeats 400000 in
set_option maxRecDepth 100000 in
theorem has_no (h : Dsk w p bL bS bW L S V) (i : Int) (h0 : i < 0 ∨ (V.length : Int) ≤ i) :
    Calls Tryz.prog 118 #[.pointer (some ⟨p, 0, none⟩), .int .i64 i] w fun e w' => e = .returned (.bool false) ∧ w = w' := by
  rcases h0 with h0 | h0
  · have hd : decide (0 ≤ i) = false := by simp; omega
    go_enter Tryz.func118, Tryz.ntmps118
    go_wp2_with (go_at_call 49; refine (len_any h).mono ?_; rintro e w' ⟨rfl, rfl⟩)
    go_ret
    exact ⟨rfl, rfl⟩
  · by_cases hi : 0 ≤ i
    · go_enter Tryz.func118, Tryz.ntmps118
      go_wp2_with (go_at_call 49; refine (len_any h).mono ?_; rintro e w' ⟨rfl, rfl⟩)
      go_ret
      exact ⟨by simp; omega, rfl⟩
    · have := h.pos
      exact absurd h0 (by omega)
end
end Go.Proofs.YtddjgncdjdjgeaaGreat
namespace Go.Proofs.YtddjgncdjdjgeaaGreat
open Go.RowKit
set_option maxHeartbeats 400000 in
set_option maxRecDepth 100000 in
theorem dsector_any {w : World} {g n c : Nat} (k : Nat) (h : 64 * (k + 1) ≤ n) (hc : n ≤ c) (hn : c ≤ 1000000) :
    Calls Tryz.prog 88 #[.slice (some ⟨g, 0, none⟩) n c, .int .i64 (k : Int)] w fun e w' => e = .returned (.slice (some ⟨g, k * 64, none⟩) 64 (c - k * 64)) ∧ w = w' := by
  go_enter Tryz.func88, Tryz.ntmps88
  go_wp2_with fail
  go_ret
  exact ⟨by show Ending.returned (.slice _ ((k + 1) * 64 - k * 64) _) = _; rw [show (k + 1) * 64 - k * 64 = 64 by omega], rfl⟩

section
variable {w : World} {p bL bS bW : Nat} {L S : List UInt8} {V : List Bool}
set_option maxHeartbeats 400000 in
set_option maxRecDepth 100000 in
theorem image_any (h : Dsk w p bL bS bW L S V) :
    Calls Tryz.prog 83 #[.pointer (some ⟨p, 0, none⟩)] w fun e w' => e = .returned (.slice (some ⟨w.heap.size, 0, none⟩) L.length L.length) ∧ Whole w' w.heap.size 5 (bts L) ∧ Chg [] w w' := by
  have c0 := h.rec_.cell 0
  have hb := h.lenL
  have hv := h.le
  have hlt : L.length ≤ 1000000 := by omega
  clear hb
  go_enter Tryz.func83, Tryz.ntmps83
  go_wp2_with (go_at_call 87; refine (fresh_any (bts_len L) (Src.of_all h.last) (bts_one L) hlt).mono ?_; rintro e w1 ⟨rfl, HB, HC⟩)
  go_ret
  exact ⟨rfl, HB, HC⟩
set_option maxHeartbeats 400000 in
set_option maxRecDepth 100000 in
theorem seen_any (h : Dsk w p bL bS bW L S V) :
    Calls Tryz.prog 84 #[.pointer (some ⟨p, 0, none⟩)] w fun e w' => e = .returned (.slice (some ⟨w.heap.size, 0, none⟩) S.length S.length) ∧ Whole w' w.heap.size 5 (bts S) ∧ Chg [] w w' := by
  have c0 := h.rec_.cell 1
  have hb := h.lenS
  have hv := h.le
  have hlt : S.length ≤ 1000000 := by omega
  clear hb
  go_enter Tryz.func84, Tryz.ntmps84
  go_wp2_with (go_at_call 87; refine (fresh_any (bts_len S) (Src.of_all h.seen) (bts_one S) hlt).mono ?_; rintro e w1 ⟨rfl, HB, HC⟩)
  go_ret
  exact ⟨rfl, HB, HC⟩
end
end Go.Proofs.YtddjgncdjdjgeaaGreat
namespace Go.Proofs.YtddjgncdjdjgeaaGreat
open Go.RowKit

/-- Numbers, as cells hold them. -/
def nmsN (l : List Nat) : List Value := l.map fun (i : Nat) => Value.int .i64 (i : Int)
theorem nmsN_len (l : List Nat) : (nmsN l).length = l.length := by simp [nmsN]
theorem nmsN_get (l : List Nat) (i : Nat) (h : i < l.length) : (nmsN l)[i]? = some (.int .i64 (l[i] : Int)) := by simp [nmsN, h]
/-- Which of the first k wait, rising. -/
def wl (V : List Bool) (k : Nat) : List Nat := (List.range k).filter fun i => V.getD i false
theorem wl_le (V : List Bool) (k : Nat) : (wl V k).length ≤ k := by
  have := List.length_filter_le (fun i => V.getD i false) (List.range k)
  simpa [wl] using this
theorem wl_yes (V : List Bool) (k : Nat) (h : k < V.length) (hv : V[k] = true) : wl V (k + 1) = wl V k ++ [k] := by
  unfold wl
  rw [List.range_succ, List.filter_append]
  simp [List.getD, h, hv]
theorem wl_no (V : List Bool) (k : Nat) (h : k < V.length) (hv : V[k] = false) : wl V (k + 1) = wl V k := by
  unfold wl
  rw [List.range_succ, List.filter_append]
  simp [List.getD, h, hv]

theorem nmsN_app (l : List Nat) (k : Nat) : nmsN (l ++ [k]) = nmsN l ++ [.int .i64 (k : Int)] := by simp [nmsN]
theorem chg_grown {T : List Nat} {a w w' : World} {row : Option Nat} (h : Chg T a w) (hg : w.grownBy w' row) (hr : ∀ g, row = some g → a.heap.size ≤ g) : Chg T a w' :=
  h.then_ (T' := row.toList) (Chg.of_grown hg fun g e _ => by simp [e]) fun i hi hlt => by
    have := hr i (by simpa using hi)
    omega

section
variable {w : World} {p bL bS bW : Nat} {L S : List UInt8} {V : List Bool}
set_option maxHeartbeats 1000000 in
set_option maxRecDepth 100000 in
theorem waits_any (h : Dsk w p bL bS bW L S V) :
    Calls Tryz.prog 42 #[.pointer (some ⟨p, 0, none⟩)] w fun e w' => ∃ v, e = .returned v ∧ w'.ownsRow w.heap.size 3 1 v (wl V V.length).length (nmsN (wl V V.length)) ∧ Chg [] w w' := by
  obtain ⟨i0, hi, hz0, hz1, hz2⟩ := info_parts info_int
  have c2 := h.rec_.cell 2
  have hle := h.le
  go_enter Tryz.func42, Tryz.ntmps42
  go_wp2_with fail
  go_loopw [3, 11] (fun v i wr => ∃ k : Nat, k ≤ V.length ∧ i = .int .i64 (k : Int) ∧ wr.ownsRow w.heap.size 3 1 v (wl V k).length (nmsN (wl V k)) ∧ Chg [] w wr) (fun _ i _ => V.length - (intOf i).toNat)
  case atStart => exact ⟨0, Nat.zero_le _, rfl, by simpa [wl, nmsN] using World.ownsRow_nil w w.heap.size 3 1, Chg.refl _ _⟩
  case round =>
    obtain ⟨k, hk, rfl, hown, hcg⟩ := hrel
    have hd := h.keep hcg
    have hll := wl_le V k
    have hwr := hcg.size
    by_cases hlt : k < V.length
    · have c4 := (hd.wait.cell k).trans (bls_get V k hlt)
      cases hv : V[k] with
      | true =>
        rw [hv] at c4
        have HY := Lib.hid (wl_yes V k hlt hv)
        clear hv
        obtain ⟨X, hX⟩ : ∃ X, X = nmsN (wl V k) := ⟨_, rfl⟩
        obtain ⟨N, hN⟩ : ∃ N, N = (wl V k).length := ⟨_, rfl⟩
        rw [← hX, ← hN] at hown
        have HX := Lib.hid hX
        have HN := Lib.hid hN
        rw [← hN] at hll
        clear hX hN
        go_wp2_with (first
          | (at_builtin
             refine wpList_append_own _ rfl (.tmp 17) (.tmp 19) _ rfl w.heap.size 3 i0 (.int .i64 0) 1 8 Tryz.underlying26 hi hz0 hz1 hz2 rfl (by decide) _ N X rfl (hown.alloc _) ⟨wr.heap.size, 0, none⟩ 1 1 [.int .i64 (k : Int)] rfl rfl ?c1 ?c2 ?c3 ?c4 ?c5 ?_
             case c1 => exact cell_one_new _ _ _
             case c2 => simp [Value.oneCell']
             case c3 => simp only [maxLen]; omega
             case c4 => omega
             case c5 => simp; omega
             intro v' w1 hown' hg' _))
        go_roundw
        case rel =>
          refine ⟨k + 1, by omega, by go_num, ?_, chg_grown (hcg.alloc _) hg' fun g hgg => (hown.lt g hgg).1⟩
          rw [HY.out, nmsN_app, List.length_append, ← HX.out, ← HN.out]
          exact hown'
        case measure => simp [intOf]; omega
      | false =>
        rw [hv] at c4
        have HY := Lib.hid (wl_no V k hlt hv)
        clear hv
        go_wp2_with fail
        go_roundw
        case rel => exact ⟨k + 1, by omega, by go_num, by rw [HY.out]; exact hown, hcg⟩
        case measure => simp [intOf]; omega
    · obtain rfl : k = V.length := by omega
      go_wp2_with fail
      go_ret
      exact ⟨_, rfl, hown, hcg⟩
end
end Go.Proofs.YtddjgncdjdjgeaaGreat
namespace Go.Proofs.YtddjgncdjdjgeaaGreat
open Go.RowKit
section
variable {w : World} {p bL bS bW : Nat} {L S : List UInt8} {V : List Bool}

set_option maxHeartbeats 400000 in
set_option maxRecDepth 100000 in
theorem write_no (h : Dsk w p bL bS bW L S V) (i : Int) (A : Option Addr) (n c : Nat) (hi : i < 0 ∨ (V.length : Int) ≤ i ∨ n ≠ 64) :
    Calls Tryz.prog 91 #[.pointer (some ⟨p, 0, none⟩), .int .i64 i, .slice A n c] w fun e w' => e = .returned (.bool false) ∧ w = w' := by
  by_cases hok : 0 ≤ i ∧ i < V.length
  · obtain ⟨h0, h1⟩ := hok
    have hd : ((n : Int) != 64) = true := by simp; omega
    clear hi
    go_enter Tryz.func91, Tryz.ntmps91
    go_wp2_with (go_at_call 118; refine (has_yes h i h0 h1).mono ?_; rintro e w' ⟨rfl, rfl⟩)
    go_ret
    exact ⟨rfl, rfl⟩
  · have h2 : i < 0 ∨ (V.length : Int) ≤ i := by omega
    clear hi hok
    go_enter Tryz.func91, Tryz.ntmps91
    go_wp2_with (go_at_call 118; refine (has_no h i h2).mono ?_; rintro e w' ⟨rfl, rfl⟩)
    go_ret
    exact ⟨rfl, rfl⟩

theorem write_end {w2 : World} {k : Nat} {x : List UInt8} (h : Dsk w p bL bS bW L S V) (hk : k < V.length) (hx : x.length = 64) (HC : Chg [bS] w w2) (HG : Whole w2 bS 5 (splice (bts S) (k * 64) (bts x))) :
    Dsk (w2.setCell ⟨bW, k, none⟩ (.bool true)) p bL bS bW L (splice S (k * 64) x) (V.set k true) ∧ Chg [bS, bW] w (w2.setCell ⟨bW, k, none⟩ (.bool true)) := by
  have s1 : 64 * (k + 1) ≤ S.length := by have := h.lenS; omega
  have eS : (splice S (k * 64) x).length = S.length := length_splice _ _ _ (by omega)
  rw [bts_splice] at HG
  have d0 := h.rec_.ne_ h.seen (by decide)
  have d1 := h.rec_.ne_ h.wait (by decide)
  have d2 := h.last.ne_ h.wait (by decide)
  have d3 := h.seen.ne_ h.wait (by decide)
  have V2 := h.wait.chg HC (by simpa using fun e => d3 e.symm)
  have hw : Whole (w2.setCell ⟨bW, k, none⟩ (.bool true)) bW 4 (bls (V.set k true)) := by
    have := V2.set_ k (.bool true)
    rwa [bls_set] at this
  refine ⟨⟨?_, (h.last.chg HC (by simpa using h.ne)).far d2 _, HG.far d3 _, hw, by rw [List.length_set]; exact h.lenL, by rw [eS, List.length_set]; exact h.lenS, by rw [List.length_set]; exact h.pos, by rw [List.length_set]; exact h.le, h.ne⟩, ?_⟩
  · rw [eS, List.length_set]
    exact (h.rec_.chg HC (by simpa using d0)).far d1 _
  · exact (HC.sub (T' := [bS, bW]) (by simp)).setCell (by simp) _

set_option maxHeartbeats 1000000 in
set_option maxRecDepth 100000 in
theorem write_yes (h : Dsk w p bL bS bW L S V) (k : Nat) (hk : k < V.length) {A : Option Addr} {c : Nat} {x : List UInt8} (hx : x.length = 64) (hs : Src w A (bts x)) :
    Calls Tryz.prog 91 #[.pointer (some ⟨p, 0, none⟩), .int .i64 (k : Int), .slice A 64 c] w fun e w' => e = .returned (.bool true) ∧
      Dsk w' p bL bS bW L (splice S (k * 64) x) (V.set k true) ∧ Chg [bS, bW] w w' := by
  have c1 := h.rec_.cell 1
  have hS := h.lenS
  have hv := h.le
  have s1 : 64 * (k + 1) ≤ S.length := by omega
  have s2 : S.length ≤ 1000000 := by omega
  clear hS
  have hfit : k * 64 + (bts x).length ≤ (bts S).length := by rw [bts_len, bts_len]; omega
  have Hn := Lib.hid (show (bts x).length = Nat.min 64 64 by rw [bts_len, hx]; rfl)
  have Hx := Lib.hid hx
  have b1 := bts_one x
  have n2 := Lib.hid (show p ∉ [bS] by simpa using h.rec_.ne_ h.seen (by decide))
  have n3 := Lib.hid (show bW ∉ [bS] by simpa using h.wait.ne_ h.seen (by decide))
  obtain ⟨Y, hY⟩ : ∃ Y, Y = bts x := ⟨_, rfl⟩
  have HY := Lib.hid hY
  rw [← hY] at hfit Hn b1 hs
  clear hx hY
  go_enter Tryz.func91, Tryz.ntmps91
  go_wp2_with (first
    | (go_at_call 118; refine (has_yes h _ (by omega) (by omega)).mono ?_; rintro e w' ⟨rfl, rfl⟩)
    | (go_at_call 88; refine (dsector_any k s1 (Nat.le_refl _) s2).mono ?_; rintro e w' ⟨rfl, rfl⟩)
    | (with_reducible refine wpList_copy_chg rfl (.tmp 21) (.tmp 22) _ _ rfl 5 Tryz.underlying30 size_u8 (some ⟨bS, k * 64, none⟩) A 64 (S.length - k * 64) 64 c rfl rfl bS (k * 64) 5 (bts S) Y h.seen Hn.out (fun _ => rfl) hs hfit b1 ?_
       intro w2 HG HC
       have R2 := h.rec_.chg HC n2.out
       have V2 := h.wait.chg HC n3.out
       have c2 := R2.cell 2
       have c4 := (V2.cell k).trans (bls_get V k hk)
       have c5 := V2.frozen k))
  go_ret
  rw [HY.out] at HG
  exact ⟨rfl, write_end h hk Hx.out HC HG⟩

set_option maxHeartbeats 400000 in
set_option maxRecDepth 100000 in
theorem read_no (h : Dsk w p bL bS bW L S V) (i : Int) (hi : i < 0 ∨ (V.length : Int) ≤ i) :
    Calls Tryz.prog 93 #[.pointer (some ⟨p, 0, none⟩), .int .i64 i] w fun e w' => e = .returned (.tuple #[.slice none 0 0, .bool false]) ∧ w = w' := by
  go_enter Tryz.func93, Tryz.ntmps93
  go_wp2_with (go_at_call 118; refine (has_no h i hi).mono ?_; rintro e w' ⟨rfl, rfl⟩)
  go_ret2
  exact ⟨rfl, rfl⟩

set_option maxHeartbeats 1000000 in
set_option maxRecDepth 100000 in
theorem read_yes (h : Dsk w p bL bS bW L S V) (k : Nat) (hk : k < V.length) :
    Calls Tryz.prog 93 #[.pointer (some ⟨p, 0, none⟩), .int .i64 (k : Int)] w fun e w' => e = .returned (.tuple #[.slice (some ⟨w.heap.size, 0, none⟩) 64 64, .bool true]) ∧
      Whole w' w.heap.size 5 (bts ((S.drop (k * 64)).take 64)) ∧ Chg [] w w' := by
  have c1 := h.rec_.cell 1
  have hS := h.lenS
  have hv := h.le
  have s1 : 64 * (k + 1) ≤ S.length := by omega
  have s2 : S.length ≤ 1000000 := by omega
  clear hS
  have hl : (bts ((S.drop (k * 64)).take 64)).length = 64 := by rw [bts_len, List.length_take, List.length_drop]; omega
  have Hl := Lib.hid hl
  have hsr : Src w (some ⟨bS, k * 64, none⟩) (bts ((S.drop (k * 64)).take 64)) := by rw [← bts_cut]; exact Src.of_whole h.seen _ _
  have b1 := bts_one ((S.drop (k * 64)).take 64)
  obtain ⟨Y, hY⟩ : ∃ Y, Y = bts ((S.drop (k * 64)).take 64) := ⟨_, rfl⟩
  rw [← hY] at Hl hsr b1
  rw [← hY]
  clear hl hY
  go_enter Tryz.func93, Tryz.ntmps93
  go_wp2_with (first
    | (go_at_call 118; refine (has_yes h _ (by omega) (by omega)).mono ?_; rintro e w' ⟨rfl, rfl⟩)
    | (go_at_call 88; refine (dsector_any k s1 (Nat.le_refl _) s2).mono ?_; rintro e w' ⟨rfl, rfl⟩)
    | (go_at_call 87; refine (fresh_any Hl.out hsr b1 (by omega)).mono ?_; rintro e w2 ⟨rfl, HB, HC⟩))
  go_ret2
  exact ⟨rfl, HB, HC⟩
end
end Go.Proofs.YtddjgncdjdjgeaaGreat
namespace Go.Proofs.YtddjgncdjdjgeaaGreat
open Go.RowKit
theorem zeroCells_one (z : Value) (n : Nat) : Builtin.zeroCells #[z] n = (List.replicate n z).toArray := by
  apply Array.ext
  · simp [Builtin.zeroCells]
  · intro i h1 h2
    simp [Builtin.zeroCells, Nat.mod_one]
theorem run_append_zeros {P : Program} (w : World) (base : Nat) (t tn ty e : TypeId) (i : TypeInfo) (z : Value) (bytes : Nat) (kn : IntKind) (ht : P.underlying t = some (.slice e)) (htn : P.underlying tn = some (.int kn)) (hi : P.info? e = some i) (hz : i.zero = some z)
    (hsize : i.size = 1) (hby : i.bytes = bytes) (hzc : z.cells = #[z]) (hz1 : z.oneCell' = true)
    (g n cap : Nat) (xs : List Value) (hown : w.ownsRow base e 1 (.slice (some ⟨g, 0, none⟩) n cap) n xs)
    (k : Nat) (h63 : n + k ≤ maxLen) (hbytes : (n + k) * bytes ≤ 140737488355328) (hbase : base ≤ w.heap.size) :
    ∃ g' cap' w', (Builtin.append_ #[t, tn] ty #[.slice (some ⟨g, 0, none⟩) n cap, .int .i64 (k : Int)]).run P w = .ok (.slice (some ⟨g', 0, none⟩) (n + k) cap') w' ∧
      w'.ownsRow base e 1 (.slice (some ⟨g', 0, none⟩) (n + k) cap') (n + k) (xs ++ List.replicate k z) ∧ w.grownBy w' (some g) ∧ (g' = g ∨ g' = w.heap.size) := by
  have hsmall : n + k ≤ 9223372036854775807 := by simpa only [maxLen] using h63
  have hw : IntKind.i64.wrap (k : Int) = k := by rw [IntKind.wrap_i64]; omega
  have hneg : ¬ ((k : Int) < 0) := by omega
  have h48 : k * bytes ≤ 281474976710656 := by have : k * bytes ≤ (n + k) * bytes := Nat.mul_le_mul_right _ (by omega); omega
  have h48i : ¬ (281474976710656 < (k : Int) * (i.bytes : Int)) := by rw [hby, ← Int.natCast_mul]; omega
  have hlx := hown.1
  rcases hown.2 with ⟨h, _⟩ | ⟨g', cap', cur, h, hbg, hg, hnc, hcm, hcs, htake⟩
  · simp at h
  · simp only [Value.slice.injEq, Option.some.injEq, Addr.mk.injEq, and_true, true_and] at h
    obtain ⟨rfl, rfl⟩ := h
    rw [Nat.mul_one] at hcs htake hlx
    by_cases hk0 : k = 0
    · subst hk0
      refine ⟨g, cap, w, ?_, by simpa using hown, World.grownBy.refl w _, .inl rfl⟩
      have hw0 : IntKind.i64.wrap 0 = 0 := by decide
      simp [Builtin.append_, run_underlying ht, run_underlying htn, sizeOf, typeInfo, hi, asInt, asIntOf, storeCells, hnc, hw0]
    · have hns : ¬ (k * i.size = 0) := by rw [hsize]; omega
      by_cases hroom : n + k ≤ cap
      · have hfit : n + (List.replicate k z).length ≤ cur.size := by rw [List.length_replicate]; omega
        have hst := run_storeCells_at P g n e (List.replicate k z) 0 cur w hg (by simpa using hfit) (fun u hu => by rw [(List.mem_replicate.1 hu).2]; exact hz1)
        simp only [Nat.add_zero] at hst
        rw [List.length_replicate] at hst
        have hr : (Builtin.append_ #[t, tn] ty #[.slice (some ⟨g, 0, none⟩) n cap, .int .i64 (k : Int)]).run P w = .ok (.slice (some ⟨g, 0, none⟩) (n + k) cap) (w.setRow g (cur.toList.take n ++ List.replicate k z ++ cur.toList.drop (n + k)).toArray) := by
          simp [Builtin.append_, run_underlying ht, run_underlying htn, sizeOf, typeInfo, zeroValue, hi, hz, asInt, asIntOf, hw, hneg, h48i, hk0, hroom, hsize, hzc, zeroCells_one, Addr.add_lit, hst]
        refine ⟨_, _, _, hr, ⟨by simp [hlx], .inr ⟨g, cap, _, rfl, hbg, setRow_heap w g cur _ e _ hg, hroom, hcm, ?_, ?_⟩⟩, ⟨rfl, rfl, rfl, by simp, fun j _ hj => setRow_other w g j _ (fun e => hj (by simp [e]))⟩, .inl rfl⟩
        · simp only [List.size_toArray, List.length_append, List.length_take, List.length_drop, Array.length_toList, List.length_replicate]
          omega
        · rw [htake, Nat.mul_one]
          have e1 : (xs ++ List.replicate k z).length = n + k := by rw [List.length_append, List.length_replicate, hlx]
          rw [← e1]
          exact List.take_left
      · have hf := run_firstCells_some (P := P) w.drew i.size n ⟨g, 0, none⟩ n cap xs (by rw [hsize, Nat.mul_one]; exact hlx) (fun j u hj => hown.cells (g := g) rfl j u hj)
        have hr := Lib.run_append_grow_zeros (P := P) w t tn ty e i z .i64 kn ht htn hi hz (some ⟨g, 0, none⟩) n cap xs hf k (by omega) (by omega) (by omega) (by omega) (by rw [hby]; exact h48) (by rw [hby]; exact growslice_fits (by omega) hbytes)
        rw [hzc, zeroCells_one, zeroCells_one] at hr
        have hge := grownCap_ge w (n + k) cap e
        have hcm2 : grownCap w (n + k) cap e ≤ maxLen := grownCap_le_maxLen w (n + k) cap e h63
        refine ⟨_, _, _, hr, ⟨by simp [hlx], .inr ⟨w.heap.size, _, _, rfl, hbase, heap_alloc_new w.drew _, hge, hcm2, ?_, ?_⟩⟩, ⟨rfl, rfl, rfl, by simp, fun j hj _ => Below.heap_alloc w.drew _ j hj⟩, .inr rfl⟩
        · simp only [Array.size_append, List.size_toArray, List.length_replicate, hlx]
          omega
        · simp only [Array.toList_append, Nat.mul_one]
          have e1 : (xs ++ List.replicate k z).length = n + k := by rw [List.length_append, List.length_replicate, hlx]
          rw [← e1]
          exact List.take_left
end Go.Proofs.YtddjgncdjdjgeaaGreat
namespace Go.Proofs.YtddjgncdjdjgeaaGreat
open Go.RowKit
/-- Slices of bytes of our own, one for each list. -/
def Rows (B : Nat) (w : World) (vs : List Value) (rs : List (List UInt8)) : Prop :=
  vs.length = rs.length ∧ ∀ (i : Nat) (v : Value) (l : List UInt8), vs[i]? = some v → rs[i]? = some l → w.ownsRow B 5 1 v l.length (bts l)
theorem Rows.keep {B : Nat} {w w' : World} {vs : List Value} {rs : List (List UInt8)} (h : Rows B w vs rs) (hc : Chg [] w w') : Rows B w' vs rs :=
  ⟨h.1, fun i v l hv hl => own_keep (h.2 i v l hv hl) hc⟩
theorem Rows.nil (B : Nat) (w : World) : Rows B w [] [] := ⟨rfl, fun i v l hv => by simp at hv⟩
theorem Rows.snoc {B : Nat} {w : World} {vs : List Value} {rs : List (List UInt8)} (h : Rows B w vs rs) {v : Value} {l : List UInt8} (ho : w.ownsRow B 5 1 v l.length (bts l)) : Rows B w (vs ++ [v]) (rs ++ [l]) := by
  refine ⟨by simp [h.1], fun i u x hu hx => ?_⟩
  rcases Nat.lt_or_ge i vs.length with hi | hi
  · rw [List.getElem?_append_left hi] at hu
    rw [List.getElem?_append_left (by rw [← h.1]; exact hi)] at hx
    exact h.2 i u x hu hx
  · rw [List.getElem?_append_right hi] at hu
    rw [List.getElem?_append_right (by rw [← h.1]; exact hi)] at hx
    rw [← h.1] at hx
    cases hj : i - vs.length with
    | zero => rw [hj] at hu hx; simp at hu hx; subst hu; subst hx; exact ho
    | succ j => rw [hj] at hu; simp at hu
theorem own_grown {w w' : World} {B B2 n m : Nat} {e e2 : TypeId} {v v2 : Value} {xs ys : List Value} (h : w.ownsRow B e 1 v n xs) (h2 : w.ownsRow B2 e2 1 v2 m ys) (hne : e ≠ e2) (hg : w.grownBy w' v2.ownBlock) : w'.ownsRow B e 1 v n xs := by
  refine ⟨h.1, h.2.imp id ?_⟩
  rintro ⟨g, cap, cur, rfl, hb, hh, r⟩
  refine ⟨g, cap, cur, rfl, hb, ?_, r⟩
  rw [hg.block g ?_ ?_]
  · exact hh
  · rcases Nat.lt_or_ge g w.heap.size with hlt | hge
    · exact hlt
    · rw [Array.getElem?_eq_none hge] at hh; cases hh
  · intro hc
    rcases h2.2 with ⟨rfl, _⟩ | ⟨g2, cap2, cur2, rfl, hb2, hh2, _⟩
    · simp [Value.ownBlock] at hc
    · simp [Value.ownBlock] at hc
      subst hc
      rw [hh] at hh2
      simp at hh2
      exact hne hh2.2
theorem Rows.grown {B B2 m : Nat} {w w' : World} {vs : List Value} {rs : List (List UInt8)} (h : Rows B w vs rs) {v2 : Value} {ys : List Value} (h2 : w.ownsRow B2 30 1 v2 m ys) (hg : w.grownBy w' v2.ownBlock) : Rows B w' vs rs :=
  ⟨h.1, fun i v l hv hl => own_grown (h.2 i v l hv hl) h2 (by decide) hg⟩
theorem info_bytes : (Tryz.prog.info? 30).map (fun i => (i.zero, i.size, i.bytes)) = some (some (.slice none 0 0), 1, 24) := by kernel_rfl
theorem cells_slice : (Value.slice none 0 0).cells.size = 1 := rfl
end Go.Proofs.YtddjgncdjdjgeaaGreat
