/-
  T: Sect, Waits, RefFlush, Settle, SettleLt, SettleAll, Write.
-/
import Derived.Test.YtddjgncdjdjgeaaZT7
import Derived.Test.YtddjgncdjdjgeaaZT8
namespace Go.Proofs.Ytddjgncdjdjgeaa
open Go.RowKit
set_option maxHeartbeats 400000 in
set_option maxRecDepth 100000 in
theorem dsector_any {w : World} {g n c : Nat} (k : Nat) (h : 64 * (k + 1) ≤ n) (hc : n ≤ c) (hn : c ≤ 1000000) :
    Calls Try.prog 80 #[.slice (some ⟨g, 0, none⟩) n c, .int .i64 (k : Int)] w fun e w' => e = .returned (.slice (some ⟨g, k * 64, none⟩) 64 (c - k * 64)) ∧ w = w' := by
  go_enter Try.func80, Try.ntmps80
  go_wp2_with fail
  go_ret
  exact ⟨by show Ending.returned (.slice _ ((k + 1) * 64 - k * 64) _) = _; rw [show (k + 1) * 64 - k * 64 = 64 by omega], rfl⟩

section
variable {w : World} {p bL bS bW : Nat} {L S : List UInt8} {V : List Bool}
set_option maxHeartbeats 400000 in
set_option maxRecDepth 100000 in
theorem image_any (h : Dsk w p bL bS bW L S V) :
    Calls Try.prog 21 #[.pointer (some ⟨p, 0, none⟩)] w fun e w' => e = .returned (.slice (some ⟨w.heap.size, 0, none⟩) L.length L.length) ∧ Whole w' w.heap.size 5 (bts L) ∧ Chg [] w w' := by
  have c0 := h.rec_.cell 0
  have hb := h.lenL
  have hv := h.le
  have hlt : L.length ≤ 1000000 := by omega
  clear hb
  go_enter Try.func21, Try.ntmps21
  go_wp2_with (go_at_call 53; refine (fresh_any (bts_len L) (Src.of_all h.last) (bts_one L) hlt).mono ?_; rintro e w1 ⟨rfl, HB, HC⟩)
  go_ret
  exact ⟨rfl, HB, HC⟩
set_option maxHeartbeats 400000 in
set_option maxRecDepth 100000 in
theorem seen_any (h : Dsk w p bL bS bW L S V) :
    Calls Try.prog 98 #[.pointer (some ⟨p, 0, none⟩)] w fun e w' => e = .returned (.slice (some ⟨w.heap.size, 0, none⟩) S.length S.length) ∧ Whole w' w.heap.size 5 (bts S) ∧ Chg [] w w' := by
  have c0 := h.rec_.cell 1
  have hb := h.lenS
  have hv := h.le
  have hlt : S.length ≤ 1000000 := by omega
  clear hb
  go_enter Try.func98, Try.ntmps98
  go_wp2_with (go_at_call 53; refine (fresh_any (bts_len S) (Src.of_all h.seen) (bts_one S) hlt).mono ?_; rintro e w1 ⟨rfl, HB, HC⟩)
  go_ret
  exact ⟨rfl, HB, HC⟩
end
end Go.Proofs.Ytddjgncdjdjgeaa
namespace Go.Proofs.Ytddjgncdjdjgeaa
open Go.RowKit

/-- Numbers, as cells hold them. -/
def nmsN (l : List Nat) : List Value := l.map fun (i : Nat) => Value.int .i64 (i : Int)
theorem nmsN_len (l : List Nat) : (nmsN l).length = l.length := by simp [nmsN]
theorem nmsN_get (l : List Nat) (i : Nat) (h : i < l.length) : (nmsN l)[i]? = some (.int .i64 (l[i] : Int)) := by simp [nmsN, h]
/-- Which of the first k wait, rising. -/
def wl (V : List Bool) (k : Nat) : List Nat := (List.range k).filter fun i => V.getD i false
theorem wl_le (V : List Bool) (k : Nat) : (wl V k).length ≤ k := by
  have := List.length_filter_le (fun i => V.getD i false) (List.range k)
  simpa [wl] using this
theorem wl_yes (V : List Bool) (k : Nat) (h : k < V.length) (hv : V[k] = true) : wl V (k + 1) = wl V k ++ [k] := by
  unfold wl
  rw [List.range_succ, List.filter_append]
  simp [List.getD, h, hv]
theorem wl_no (V : List Bool) (k : Nat) (h : k < V.length) (hv : V[k] = false) : wl V (k + 1) = wl V k := by
  unfold wl
  rw [List.range_succ, List.filter_append]
  simp [List.getD, h, hv]

theorem nmsN_app (l : List Nat) (k : Nat) : nmsN (l ++ [k]) = nmsN l ++ [.int .i64 (k : Int)] := by simp [nmsN]
theorem chg_grown {T : List Nat} {a w w' : World} {row : Option Nat} (h : Chg T a w) (hg : w.grownBy w' row) (hr : ∀ g, row = some g → a.heap.size ≤ g) : Chg T a w' :=
  h.then_ (T' := row.toList) (Chg.of_grown hg fun g e _ => by simp [e]) fun i hi hlt => by
    have := hr i (by simpa using hi)
    omega

section
variable {w : World} {p bL bS bW : Nat} {L S : List UInt8} {V : List Bool}
set_option maxHeartbeats 1000000 in
set_option maxRecDepth 100000 in
theorem waits_any (h : Dsk w p bL bS bW L S V) :
    Calls Try.prog 47 #[.pointer (some ⟨p, 0, none⟩)] w fun e w' => ∃ v, e = .returned v ∧ w'.ownsRow w.heap.size 3 1 v (wl V V.length).length (nmsN (wl V V.length)) ∧ Chg [] w w' := by
  obtain ⟨i0, hi, hz0, hz1, hz2⟩ := info_parts info_int
  have c2 := h.rec_.cell 2
  have hle := h.le
  go_enter Try.func47, Try.ntmps47
  go_wp2_with fail
  go_loopw [3, 11] (fun v i wr => ∃ k : Nat, k ≤ V.length ∧ i = .int .i64 (k : Int) ∧ wr.ownsRow w.heap.size 3 1 v (wl V k).length (nmsN (wl V k)) ∧ Chg [] w wr) (fun _ i _ => V.length - (intOf i).toNat)
  case atStart => exact ⟨0, Nat.zero_le _, rfl, by simpa [wl, nmsN] using World.ownsRow_nil w w.heap.size 3 1, Chg.refl _ _⟩
  case round =>
    obtain ⟨k, hk, rfl, hown, hcg⟩ := hrel
    have hd := h.keep hcg
    have hll := wl_le V k
    have hwr := hcg.size
    by_cases hlt : k < V.length
    · have c4 := (hd.wait.cell k).trans (bls_get V k hlt)
      cases hv : V[k] with
      | true =>
        rw [hv] at c4
        have HY := Lib.hid (wl_yes V k hlt hv)
        clear hv
        obtain ⟨X, hX⟩ : ∃ X, X = nmsN (wl V k) := ⟨_, rfl⟩
        obtain ⟨N, hN⟩ : ∃ N, N = (wl V k).length := ⟨_, rfl⟩
        rw [← hX, ← hN] at hown
        have HX := Lib.hid hX
        have HN := Lib.hid hN
        rw [← hN] at hll
        clear hX hN
        go_wp2_with (first
          | (at_builtin
             refine wpList_append_own _ rfl (.tmp 17) (.tmp 19) _ rfl w.heap.size 3 i0 (.int .i64 0) 1 8 Try.underlying22 hi hz0 hz1 hz2 rfl (by decide) _ N X rfl (hown.alloc _) ⟨wr.heap.size, 0, none⟩ 1 1 [.int .i64 (k : Int)] rfl rfl ?c1 ?c2 ?c3 ?c4 ?c5 ?_
             case c1 => exact cell_one_new _ _ _
             case c2 => simp [Value.oneCell']
             case c3 => simp only [maxLen]; omega
             case c4 => omega
             case c5 => simp; omega
             intro v' w1 hown' hg' _))
        go_roundw
        case rel =>
          refine ⟨k + 1, by omega, by go_num, ?_, chg_grown (hcg.alloc _) hg' fun g hgg => (hown.lt g hgg).1⟩
          rw [HY.out, nmsN_app, List.length_append, ← HX.out, ← HN.out]
          exact hown'
        case measure => simp [intOf]; omega
      | false =>
        rw [hv] at c4
        have HY := Lib.hid (wl_no V k hlt hv)
        clear hv
        go_wp2_with fail
        go_roundw
        case rel => exact ⟨k + 1, by omega, by go_num, by rw [HY.out]; exact hown, hcg⟩
        case measure => simp [intOf]; omega
    · obtain rfl : k = V.length := by omega
      go_wp2_with fail
      go_ret
      exact ⟨_, rfl, hown, hcg⟩
end
end Go.Proofs.Ytddjgncdjdjgeaa
namespace Go.Proofs.Ytddjgncdjdjgeaa
open Go.RowKit

section
variable {w w' : World} {p gL gN gW : Nat} {rL rN : List Value} {m : Int} {s : St}

set_option maxHeartbeats 1000000 in
set_option maxRecDepth 100000 in
theorem rwaits_any (h : Rfd w p gL gN gW rL rN m s) :
    Calls Try.prog 97 #[.pointer (some ⟨p, 0, none⟩)] w fun e w' => ∃ A c, e = .returned (.slice A (wl s.V s.V.length).length c) ∧ Src w' A (nmsN (wl s.V s.V.length)) ∧ (∀ ad, A = some ad → ad.spot = none ∧ w.heap.size ≤ ad.block) ∧ Chg [] w w' := by
  obtain ⟨i0, hi, hz0, hz1, hz2⟩ := info_parts info_int
  have c2 := h.rec_.cell 2
  have hle := h.le
  go_enter Try.func97, Try.ntmps97
  go_wp2_with fail
  go_loopw [3, 10] (fun v i wr => ∃ k : Nat, k ≤ s.V.length ∧ i = .int .i64 (k : Int) ∧ wr.ownsRow w.heap.size 3 1 v (wl s.V k).length (nmsN (wl s.V k)) ∧ Chg [] w wr) (fun _ i _ => s.V.length - (intOf i).toNat)
  case atStart => exact ⟨0, Nat.zero_le _, rfl, by simpa [wl, nmsN] using World.ownsRow_nil w w.heap.size 3 1, Chg.refl _ _⟩
  case round =>
    obtain ⟨k, hk, rfl, hown, hcg⟩ := hrel
    have hd := h.keep hcg
    have c2' := hd.rec_.cell 2
    have hll := wl_le s.V k
    have hwr := hcg.size
    by_cases hlt : k < s.V.length
    · have c4 := (hd.wait.cell k).trans (bls_get s.V k hlt)
      cases hv : s.V[k] with
      | true =>
        rw [hv] at c4
        have HY := Lib.hid (wl_yes s.V k hlt hv)
        clear hv
        obtain ⟨X, hX⟩ : ∃ X, X = nmsN (wl s.V k) := ⟨_, rfl⟩
        obtain ⟨N, hN⟩ : ∃ N, N = (wl s.V k).length := ⟨_, rfl⟩
        rw [← hX, ← hN] at hown
        have HX := Lib.hid hX
        have HN := Lib.hid hN
        rw [← hN] at hll
        clear hX hN
        go_wp2_with (first
          | (at_builtin
             refine wpList_append_own _ rfl (.tmp 20) (.tmp 22) _ rfl w.heap.size 3 i0 (.int .i64 0) 1 8 Try.underlying22 hi hz0 hz1 hz2 rfl (by decide) _ N X rfl (hown.alloc _) ⟨wr.heap.size, 0, none⟩ 1 1 [.int .i64 (k : Int)] rfl rfl ?c1 ?c2 ?c3 ?c4 ?c5 ?_
             case c1 => exact cell_one_new _ _ _
             case c2 => simp [Value.oneCell']
             case c3 => simp only [maxLen]; omega
             case c4 => omega
             case c5 => simp; omega
             intro v' w1 hown' hg' _))
        go_roundw
        case rel =>
          refine ⟨k + 1, by omega, by go_num, ?_, chg_grown (hcg.alloc _) hg' fun g hgg => (hown.lt g hgg).1⟩
          rw [HY.out, nmsN_app, List.length_append, ← HX.out, ← HN.out]
          exact hown'
        case measure => simp [intOf]; omega
      | false =>
        rw [hv] at c4
        have HY := Lib.hid (wl_no s.V k hlt hv)
        clear hv
        go_wp2_with fail
        go_roundw
        case rel => exact ⟨k + 1, by omega, by go_num, by rw [HY.out]; exact hown, hcg⟩
        case measure => simp [intOf]; omega
    · obtain rfl : k = s.V.length := by omega
      obtain ⟨A, c, rfl, hs, _, hA⟩ := own_form hown
      go_wp2_with fail
      go_ret
      exact ⟨A, c, rfl, hs, hA, hcg⟩

end
end Go.Proofs.Ytddjgncdjdjgeaa
namespace Go.Proofs.Ytddjgncdjdjgeaa
open Go.RowKit

/-- The lasting bytes behind settle(k, cut), and the seen ones. -/
def setL (L S : List UInt8) (k cut : Nat) : List UInt8 := splice L (k * 64) ((S.drop (k * 64)).take cut)
def setS (L S : List UInt8) (k cut : Nat) : List UInt8 := splice S (k * 64 + cut) ((L.drop (k * 64 + cut)).take (64 - cut))

theorem part_n {S : List UInt8} {k cut : Nat} (s1 : 64 * (k + 1) ≤ S.length) (hc : cut ≤ 64) : (bts ((S.drop (k * 64)).take cut)).length = Nat.min cut cut := by
  rw [bts_len, List.length_take, List.length_drop, show Nat.min cut cut = cut from Nat.min_self cut]; omega
theorem part_src {w : World} {S : List UInt8} {g t o cut : Nat} (h : Whole w g t (bts S)) : Src w (some ⟨g, o, none⟩) (bts ((S.drop o).take cut)) := by
  rw [← bts_cut]; exact Src.of_whole h o cut
theorem part_fit {L S : List UInt8} {k cut : Nat} (l1 : 64 * (k + 1) ≤ L.length) (hc : cut ≤ 64) : k * 64 + (bts ((S.drop (k * 64)).take cut)).length ≤ (bts L).length := by
  rw [bts_len, bts_len, List.length_take, List.length_drop]; omega

theorem setL_len {L S : List UInt8} {k cut : Nat} (l1 : 64 * (k + 1) ≤ L.length) (hc : cut ≤ 64) : (setL L S k cut).length = L.length := by
  unfold setL
  rw [length_splice]
  rw [List.length_take, List.length_drop]; omega
theorem setS_len {L S : List UInt8} {k cut : Nat} (s1 : 64 * (k + 1) ≤ S.length) (hc : cut ≤ 64) : (setS L S k cut).length = S.length := by
  unfold setS
  rw [length_splice]
  rw [List.length_take, List.length_drop]; omega
theorem setL_tail {L S : List UInt8} {k cut : Nat} (l1 : 64 * (k + 1) ≤ L.length) (s1 : 64 * (k + 1) ≤ S.length) (hc : cut ≤ 64) : (setL L S k cut).drop (k * 64 + cut) = L.drop (k * 64 + cut) := by
  have e : ((S.drop (k * 64)).take cut).length = cut := by rw [List.length_take, List.length_drop]; omega
  unfold setL splice
  rw [e, ← List.append_assoc]
  rw [List.drop_append_of_le_length (by simp [e]; omega)]
  rw [List.drop_of_length_le (by simp [e]; omega)]
  simp
theorem part2_n {L S : List UInt8} {k cut : Nat} (l1 : 64 * (k + 1) ≤ L.length) (s1 : 64 * (k + 1) ≤ S.length) (hc : cut ≤ 64) : (bts (((setL L S k cut).drop (k * 64 + cut)).take (64 - cut))).length = Nat.min (64 - cut) (64 - cut) := by
  rw [setL_tail l1 s1 hc, bts_len, List.length_take, List.length_drop, show Nat.min (64 - cut) (64 - cut) = 64 - cut from Nat.min_self _]; omega
theorem part2_fit {L S : List UInt8} {k cut : Nat} (s1 : 64 * (k + 1) ≤ S.length) (hc : cut ≤ 64) : k * 64 + cut + (bts (((setL L S k cut).drop (k * 64 + cut)).take (64 - cut))).length ≤ (bts S).length := by
  rw [bts_len, bts_len, List.length_take, List.length_drop]; omega

theorem settle_end {w w2 w3 : World} {p bL bS bW nq k cut : Nat} {L S : List UInt8} {V : List Bool} (h : Dsk w p bL bS bW L S V) (hk : k < V.length) (hc : cut ≤ 64) (HC : Chg [bL] (w.drewN nq).drew w2) (HC3 : Chg [bS] w2.drew w3)
    (R3 : Whole w3 p 97 [.slice (some ⟨bL, 0, none⟩) L.length L.length, .slice (some ⟨bS, 0, none⟩) S.length S.length, .slice (some ⟨bW, 0, none⟩) V.length V.length])
    (L3 : Whole w3 bL 5 (bts (setL L S k cut))) (V3 : Whole w3 bW 4 (bls V)) (HG : Whole w3 bS 5 (splice (bts S) (k * 64 + cut) (bts (((setL L S k cut).drop (k * 64 + cut)).take (64 - cut))))) :
    Ending.returned (.tuple #[]) = Ending.returned (.tuple #[]) ∧ Dsk (w3.setCell ⟨bW, k, none⟩ (.bool false)) p bL bS bW (setL L S k cut) (setS L S k cut) (V.set k false) ∧ Chg [bL, bS, bW] w (w3.setCell ⟨bW, k, none⟩ (.bool false)) := by
  have l1 : 64 * (k + 1) ≤ L.length := by have := h.lenL; omega
  have s1 : 64 * (k + 1) ≤ S.length := by have := h.lenS; omega
  have eL := setL_len (S := S) l1 hc
  have eS := setS_len (L := L) s1 hc
  rw [bts_splice, setL_tail l1 s1 hc] at HG
  have d1 := h.rec_.ne_ h.wait (by decide)
  have d2 := h.last.ne_ h.wait (by decide)
  have d3 := h.seen.ne_ h.wait (by decide)
  have hw : Whole (w3.setCell ⟨bW, k, none⟩ (.bool false)) bW 4 (bls (V.set k false)) := by
    have := V3.set_ k (.bool false)
    rwa [bls_set] at this
  refine ⟨rfl, ⟨?_, L3.far d2 _, HG.far d3 _, hw, by rw [eL, List.length_set]; exact h.lenL, by rw [eS, List.length_set]; exact h.lenS, by rw [List.length_set]; exact h.pos, by rw [List.length_set]; exact h.le, h.ne⟩, ?_⟩
  · rw [eL, eS, List.length_set]
    exact R3.far d1 _
  · have a1 : Chg [bL, bS, bW] w w2 := ((Chg.refl [bL, bS, bW] w).drewN nq).drew.trans (HC.sub (by simp))
    have a2 : Chg [bL, bS, bW] w w3 := a1.drew.trans (HC3.sub (by simp))
    exact a2.setCell (by simp) _

end Go.Proofs.Ytddjgncdjdjgeaa
namespace Go.Proofs.Ytddjgncdjdjgeaa
open Go.RowKit
section
variable {w : World} {p bL bS bW : Nat} {L S : List UInt8} {V : List Bool}
set_option maxHeartbeats 3000000 in
set_option maxRecDepth 100000 in
theorem settle_lt (h : Dsk w p bL bS bW L S V) (k cut : Nat) (hk : k < V.length) (h64 : cut < 64) :
    Calls Try.prog 48 #[.pointer (some ⟨p, 0, none⟩), .int .i64 (k : Int), .int .i64 (cut : Int)] w fun e w' => e = .returned (.tuple #[]) ∧
      Dsk w' p bL bS bW (setL L S k cut) (setS L S k cut) (V.set k false) ∧ Chg [bL, bS, bW] w w' := by
  have hc : cut ≤ 64 := by omega
  have c0 := h.rec_.cell 0
  have c1 := h.rec_.cell 1
  have c2 := h.rec_.cell 2
  have hL := h.lenL
  have hS := h.lenS
  have hv := h.le
  have l1 : 64 * (k + 1) ≤ L.length := by omega
  have l2 : L.length ≤ 1000000 := by omega
  have s1 : 64 * (k + 1) ≤ S.length := by omega
  have s2 : S.length ≤ 1000000 := by omega
  clear hL hS
  have n1 := Lib.hid (show bS ∉ [bL] by simpa using fun e => h.ne e.symm)
  have n2 := Lib.hid (show p ∉ [bL] by simpa using h.rec_.ne_ h.last (by decide))
  have n3 := Lib.hid (show bW ∉ [bL] by simpa using h.wait.ne_ h.last (by decide))
  have hci : (cut : Int) ≤ 64 := by omega
  have m1 := Lib.hid (show bL ∉ [bS] by simpa using h.ne)
  have m2 := Lib.hid (show p ∉ [bS] by simpa using h.rec_.ne_ h.seen (by decide))
  have m3 := Lib.hid (show bW ∉ [bS] by simpa using h.wait.ne_ h.seen (by decide))
  have e1 : cut ≤ L.length - k * 64 := by omega
  have e2 : cut ≤ S.length - k * 64 := by omega
  go_enter Try.func48, Try.ntmps48
  go_wp2_with fail
  go_quiet ((go_at_call 80; exact Calls.quiet_of_same ((dsector_any k (by assumption) (Nat.le_refl _) (by assumption)).mono fun _ _ hh => ⟨hh.1, hh.2.symm⟩)))
  go_wp2_with fail
  go_region_law (with_reducible refine step_copy_chg rfl (.tmp 22) (.tmp 25) _ _ rfl 5 Try.underlying44 size_u8 (some ⟨bL, k * 64, none⟩) (some ⟨bS, k * 64, none⟩) cut (L.length - k * 64) cut (S.length - k * 64) rfl rfl bL (k * 64) 5 (bts L) (bts ((S.drop (k * 64)).take cut)) ((h.last.drewN _).drew) (part_n s1 hc) (fun _ => rfl) (Src.drew (Src.drewN (part_src h.seen) _)) (part_fit l1 hc) (bts_one _) ?_; intro w2 HG HC)
  have S2 : Whole w2 bS 5 (bts S) := (h.seen.drewN _).drew.chg HC n1.out
  have R2 := (h.rec_.drewN _).drew.chg HC n2.out
  have V2 := (h.wait.drewN _).drew.chg HC n3.out
  clear c0 c1 c2
  have c2 := R2.cell 2
  rw [bts_splice] at HG
  have HL2 : Whole w2 bL 5 (bts (setL L S k cut)) := HG
  clear HG
  have hne : ¬ (S.length - k * 64 = cut) := by omega
  have hne2 : ¬ (L.length - k * 64 = cut) := by omega
  go_wp2_with fail
  go_region_law (with_reducible refine step_copy_chg rfl (.tmp 29) (.tmp 32) _ _ rfl 5 Try.underlying44 size_u8 (some ⟨bS, k * 64 + cut, none⟩) (some ⟨bL, k * 64 + cut, none⟩) (64 - cut) (S.length - k * 64 - cut) (64 - cut) (L.length - k * 64 - cut) rfl rfl bS (k * 64 + cut) 5 (bts S) (bts (((setL L S k cut).drop (k * 64 + cut)).take (64 - cut))) (S2.drew) (part2_n l1 s1 hc) (fun _ => rfl) (Src.drew (part_src HL2)) (part2_fit s1 hc) (bts_one _) ?_; intro w3 HG HC3)
  have L3 : Whole w3 bL 5 (bts (setL L S k cut)) := HL2.drew.chg HC3 m1.out
  have R3 := R2.drew.chg HC3 m2.out
  have V3 := V2.drew.chg HC3 m3.out
  clear c2
  have c2 := R3.cell 2
  have c4 := (V3.cell k).trans (bls_get V k hk)
  have c5 := V3.frozen k
  go_wp2_with fail
  go_end0
  exact settle_end h hk hc HC HC3 R3 L3 V3 HG
end
end Go.Proofs.Ytddjgncdjdjgeaa
namespace Go.Proofs.Ytddjgncdjdjgeaa
open Go.RowKit
section
variable {w : World} {p bL bS bW : Nat} {L S : List UInt8} {V : List Bool}
set_option maxHeartbeats 3000000 in
set_option maxRecDepth 100000 in
theorem settle_64 (h : Dsk w p bL bS bW L S V) (k : Nat) (hk : k < V.length) :
    Calls Try.prog 48 #[.pointer (some ⟨p, 0, none⟩), .int .i64 (k : Int), .int .i64 64] w fun e w' => e = .returned (.tuple #[]) ∧
      Dsk w' p bL bS bW (setL L S k 64) (setS L S k 64) (V.set k false) ∧ Chg [bL, bS, bW] w w' := by
  have c0 := h.rec_.cell 0
  have c1 := h.rec_.cell 1
  have c2 := h.rec_.cell 2
  have hL := h.lenL
  have hS := h.lenS
  have hv := h.le
  have hc : (64 : Nat) ≤ 64 := Nat.le_refl _
  have l1 : 64 * (k + 1) ≤ L.length := by omega
  have l2 : L.length ≤ 1000000 := by omega
  have s1 : 64 * (k + 1) ≤ S.length := by omega
  have s2 : S.length ≤ 1000000 := by omega
  have hLS := Lib.hid (show L.length = S.length by omega)
  clear hL hS
  have n1 := Lib.hid (show bS ∉ [bL] by simpa using fun e => h.ne e.symm)
  have n2 := Lib.hid (show p ∉ [bL] by simpa using h.rec_.ne_ h.last (by decide))
  have n3 := Lib.hid (show bW ∉ [bL] by simpa using h.wait.ne_ h.last (by decide))
  have m1 := Lib.hid (show bL ∉ [bS] by simpa using h.ne)
  have m2 := Lib.hid (show p ∉ [bS] by simpa using h.rec_.ne_ h.seen (by decide))
  have m3 := Lib.hid (show bW ∉ [bS] by simpa using h.wait.ne_ h.seen (by decide))
  have e1 : (64 : Int) ≤ ((L.length - k * 64 : Nat) : Int) := by omega
  have e2 : (64 : Int) ≤ ((S.length - k * 64 : Nat) : Int) := by omega
  have hn0 := part_n s1 hc
  have hf0 := part_fit (S := S) l1 hc
  have hs0 := part_src (o := k * 64) (cut := 64) h.seen
  have hsp := Lib.hid (bts_splice L ((S.drop (k * 64)).take 64) (k * 64))
  have hb1 := bts_one ((S.drop (k * 64)).take 64)
  obtain ⟨Y, hY⟩ : ∃ Y, Y = bts ((S.drop (k * 64)).take 64) := ⟨_, rfl⟩
  rw [← hY] at hn0 hf0 hs0 hsp hb1
  have Hn := Lib.hid hn0
  clear hn0 hY
  go_enter Try.func48, Try.ntmps48
  go_wp2_with fail
  go_quiet ((go_at_call 80; exact Calls.quiet_of_same ((dsector_any k (by assumption) (Nat.le_refl _) (by assumption)).mono fun _ _ hh => ⟨hh.1, hh.2.symm⟩)))
  go_wp2_with fail
  go_region_law (with_reducible refine step_copy_chg rfl (.tmp 22) (.tmp 25) _ _ rfl 5 Try.underlying44 size_u8 (some ⟨bL, k * 64, none⟩) (some ⟨bS, k * 64, none⟩) 64 (L.length - k * 64) 64 (S.length - k * 64) rfl rfl bL (k * 64) 5 (bts L) Y ((h.last.drewN _).drew) Hn.out (fun _ => rfl) (Src.drew (Src.drewN hs0 _)) hf0 hb1 ?_; intro w2 HG HC)
  have S2 : Whole w2 bS 5 (bts S) := (h.seen.drewN _).drew.chg HC n1.out
  have R2 := (h.rec_.drewN _).drew.chg HC n2.out
  have V2 := (h.wait.drewN _).drew.chg HC n3.out
  clear c0 c1 c2
  have c2 := R2.cell 2
  rw [hsp.out] at HG
  have HL2 : Whole w2 bL 5 (bts (setL L S k 64)) := HG
  clear HG
  have c4 := (V2.cell k).trans (bls_get V k hk)
  have c5 := V2.frozen k
  by_cases hlast : S.length - k * 64 = 64
  · have hlast2 : L.length - k * 64 = 64 := by have := hLS.out; omega
    go_wp2_with fail
    go_region_law (with_reducible refine step_copy_none rfl (.tmp 29) (.tmp 32) _ _ rfl 5 Try.underlying44 size_u8 _ _ 0 _ 0 _ rfl rfl rfl ?_)
    go_wp2_with fail
    go_end0
    exact settle_end h hk hc HC (Chg.refl _ _) R2.drew HL2.drew V2.drew (by simpa [splice, bts] using S2.drew)
  · have hlast2 : ¬ (L.length - k * 64 = 64) := by have := hLS.out; omega
    go_wp2_with fail
    go_region_law (with_reducible refine step_copy_none rfl (.tmp 29) (.tmp 32) _ _ rfl 5 Try.underlying44 size_u8 _ _ 0 _ 0 _ rfl rfl rfl ?_)
    go_wp2_with fail
    go_end0
    exact settle_end h hk hc HC (Chg.refl _ _) R2.drew HL2.drew V2.drew (by simpa [splice, bts] using S2.drew)
end
end Go.Proofs.Ytddjgncdjdjgeaa
namespace Go.Proofs.Ytddjgncdjdjgeaa
open Go.RowKit
section
variable {w : World} {p bL bS bW : Nat} {L S : List UInt8} {V : List Bool}

set_option maxHeartbeats 400000 in
set_option maxRecDepth 100000 in
theorem write_no (h : Dsk w p bL bS bW L S V) (i : Int) (A : Option Addr) (n c : Nat) (hi : i < 0 ∨ (V.length : Int) ≤ i ∨ n ≠ 64) :
    Calls Try.prog 63 #[.pointer (some ⟨p, 0, none⟩), .int .i64 i, .slice A n c] w fun e w' => e = .returned (.bool false) ∧ w = w' := by
  by_cases hok : 0 ≤ i ∧ i < V.length
  · obtain ⟨h0, h1⟩ := hok
    have hd : ((n : Int) != 64) = true := by simp; omega
    clear hi
    go_enter Try.func63, Try.ntmps63
    go_wp2_with (go_at_call 101; refine (has_yes h i h0 h1).mono ?_; rintro e w' ⟨rfl, rfl⟩)
    go_ret
    exact ⟨rfl, rfl⟩
  · have h2 : i < 0 ∨ (V.length : Int) ≤ i := by omega
    clear hi hok
    go_enter Try.func63, Try.ntmps63
    go_wp2_with (go_at_call 101; refine (has_no h i h2).mono ?_; rintro e w' ⟨rfl, rfl⟩)
    go_ret
    exact ⟨rfl, rfl⟩

theorem write_end {w2 : World} {k : Nat} {x : List UInt8} (h : Dsk w p bL bS bW L S V) (hk : k < V.length) (hx : x.length = 64) (HC : Chg [bS] w w2) (HG : Whole w2 bS 5 (splice (bts S) (k * 64) (bts x))) :
    Dsk (w2.setCell ⟨bW, k, none⟩ (.bool true)) p bL bS bW L (splice S (k * 64) x) (V.set k true) ∧ Chg [bS, bW] w (w2.setCell ⟨bW, k, none⟩ (.bool true)) := by
  have s1 : 64 * (k + 1) ≤ S.length := by have := h.lenS; omega
  have eS : (splice S (k * 64) x).length = S.length := length_splice _ _ _ (by omega)
  rw [bts_splice] at HG
  have d0 := h.rec_.ne_ h.seen (by decide)
  have d1 := h.rec_.ne_ h.wait (by decide)
  have d2 := h.last.ne_ h.wait (by decide)
  have d3 := h.seen.ne_ h.wait (by decide)
  have V2 := h.wait.chg HC (by simpa using fun e => d3 e.symm)
  have hw : Whole (w2.setCell ⟨bW, k, none⟩ (.bool true)) bW 4 (bls (V.set k true)) := by
    have := V2.set_ k (.bool true)
    rwa [bls_set] at this
  refine ⟨⟨?_, (h.last.chg HC (by simpa using h.ne)).far d2 _, HG.far d3 _, hw, by rw [List.length_set]; exact h.lenL, by rw [eS, List.length_set]; exact h.lenS, by rw [List.length_set]; exact h.pos, by rw [List.length_set]; exact h.le, h.ne⟩, ?_⟩
  · rw [eS, List.length_set]
    exact (h.rec_.chg HC (by simpa using d0)).far d1 _
  · exact (HC.sub (T' := [bS, bW]) (by simp)).setCell (by simp) _

set_option maxHeartbeats 1000000 in
set_option maxRecDepth 100000 in
theorem write_yes (h : Dsk w p bL bS bW L S V) (k : Nat) (hk : k < V.length) {A : Option Addr} {c : Nat} {x : List UInt8} (hx : x.length = 64) (hs : Src w A (bts x)) :
    Calls Try.prog 63 #[.pointer (some ⟨p, 0, none⟩), .int .i64 (k : Int), .slice A 64 c] w fun e w' => e = .returned (.bool true) ∧
      Dsk w' p bL bS bW L (splice S (k * 64) x) (V.set k true) ∧ Chg [bS, bW] w w' := by
  have c1 := h.rec_.cell 1
  have hS := h.lenS
  have hv := h.le
  have s1 : 64 * (k + 1) ≤ S.length := by omega
  have s2 : S.length ≤ 1000000 := by omega
  clear hS
  have hfit : k * 64 + (bts x).length ≤ (bts S).length := by rw [bts_len, bts_len]; omega
  have Hn := Lib.hid (show (bts x).length = Nat.min 64 64 by rw [bts_len, hx]; rfl)
  have Hx := Lib.hid hx
  have b1 := bts_one x
  have n2 := Lib.hid (show p ∉ [bS] by simpa using h.rec_.ne_ h.seen (by decide))
  have n3 := Lib.hid (show bW ∉ [bS] by simpa using h.wait.ne_ h.seen (by decide))
  obtain ⟨Y, hY⟩ : ∃ Y, Y = bts x := ⟨_, rfl⟩
  have HY := Lib.hid hY
  rw [← hY] at hfit Hn b1 hs
  clear hx hY
  go_enter Try.func63, Try.ntmps63
  go_wp2_with (first
    | (go_at_call 101; refine (has_yes h _ (by omega) (by omega)).mono ?_; rintro e w' ⟨rfl, rfl⟩)
    | (go_at_call 80; refine (dsector_any k s1 (Nat.le_refl _) s2).mono ?_; rintro e w' ⟨rfl, rfl⟩)
    | (with_reducible refine wpList_copy_chg rfl (.tmp 21) (.tmp 22) _ _ rfl 5 Try.underlying44 size_u8 (some ⟨bS, k * 64, none⟩) A 64 (S.length - k * 64) 64 c rfl rfl bS (k * 64) 5 (bts S) Y h.seen Hn.out (fun _ => rfl) hs hfit b1 ?_
       intro w2 HG HC
       have R2 := h.rec_.chg HC n2.out
       have V2 := h.wait.chg HC n3.out
       have c2 := R2.cell 2
       have c4 := (V2.cell k).trans (bls_get V k hk)
       have c5 := V2.frozen k))
  go_ret
  rw [HY.out] at HG
  exact ⟨rfl, write_end h hk Hx.out HC HG⟩

set_option maxHeartbeats 400000 in
set_option maxRecDepth 100000 in
theorem read_no (h : Dsk w p bL bS bW L S V) (i : Int) (hi : i < 0 ∨ (V.length : Int) ≤ i) :
    Calls Try.prog 65 #[.pointer (some ⟨p, 0, none⟩), .int .i64 i] w fun e w' => e = .returned (.tuple #[.slice none 0 0, .bool false]) ∧ w = w' := by
  go_enter Try.func65, Try.ntmps65
  go_wp2_with (go_at_call 101; refine (has_no h i hi).mono ?_; rintro e w' ⟨rfl, rfl⟩)
  go_ret2
  exact ⟨rfl, rfl⟩

set_option maxHeartbeats 1000000 in
set_option maxRecDepth 100000 in
theorem read_yes (h : Dsk w p bL bS bW L S V) (k : Nat) (hk : k < V.length) :
    Calls Try.prog 65 #[.pointer (some ⟨p, 0, none⟩), .int .i64 (k : Int)] w fun e w' => e = .returned (.tuple #[.slice (some ⟨w.heap.size, 0, none⟩) 64 64, .bool true]) ∧
      Whole w' w.heap.size 5 (bts ((S.drop (k * 64)).take 64)) ∧ Chg [] w w' := by
  have c1 := h.rec_.cell 1
  have hS := h.lenS
  have hv := h.le
  have s1 : 64 * (k + 1) ≤ S.length := by omega
  have s2 : S.length ≤ 1000000 := by omega
  clear hS
  have hl : (bts ((S.drop (k * 64)).take 64)).length = 64 := by rw [bts_len, List.length_take, List.length_drop]; omega
  have Hl := Lib.hid hl
  have hsr : Src w (some ⟨bS, k * 64, none⟩) (bts ((S.drop (k * 64)).take 64)) := by rw [← bts_cut]; exact Src.of_whole h.seen _ _
  have b1 := bts_one ((S.drop (k * 64)).take 64)
  obtain ⟨Y, hY⟩ : ∃ Y, Y = bts ((S.drop (k * 64)).take 64) := ⟨_, rfl⟩
  rw [← hY] at Hl hsr b1
  rw [← hY]
  clear hl hY
  go_enter Try.func65, Try.ntmps65
  go_wp2_with (first
    | (go_at_call 101; refine (has_yes h _ (by omega) (by omega)).mono ?_; rintro e w' ⟨rfl, rfl⟩)
    | (go_at_call 80; refine (dsector_any k s1 (Nat.le_refl _) s2).mono ?_; rintro e w' ⟨rfl, rfl⟩)
    | (go_at_call 53; refine (fresh_any Hl.out hsr b1 (by omega)).mono ?_; rintro e w2 ⟨rfl, HB, HC⟩))
  go_ret2
  exact ⟨rfl, HB, HC⟩
end
end Go.Proofs.Ytddjgncdjdjgeaa
