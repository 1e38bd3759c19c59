/-
  S: Append, RefMore, RefFlush, Into, RefOf.
-/
import Derived.Test.YtddjgncdjdjgeaaGreatZS1
import Derived.Test.YtddjgncdjdjgeaaGreatZS3
import Derived.Test.YtddjgncdjdjgeaaGreatZS5
import Derived.Test.YtddjgncdjdjgeaaGreatChecked
namespace Go.Proofs.YtddjgncdjdjgeaaGreat
open Go.RowKit

theorem run_append_fresh {P : Program} (w : World) (t ty e : TypeId) (i : TypeInfo) (z : Value) (bytes : Nat) (ht : P.underlying t = some (.slice e)) (hi : P.info? e = some i) (hz : i.zero = some z) (hs : i.size = 1) (hby : i.bytes = bytes) (hz1 : z.cells.size = 1)
    (b : Addr) (sp : Option Addr) (m c : Nat) (news : List Value) (hl : news.length = m) (hm : 0 < m) (hsrc : Src w sp news) (hb : m * bytes ≤ 140737488355328) (h63 : m ≤ maxLen) :
    ∃ r : List Value, (Builtin.append_ #[t, t] ty #[.slice (some b) 0 0, .slice sp m c]).run P w = .ok (.slice (some ⟨w.heap.size, 0, none⟩) m (m + r.length)) (w.drew.alloc (.cells (news ++ r).toArray e)) := by
  subst hby
  obtain ⟨ad, rfl, _, hx⟩ := hsrc (by omega)
  have h63' : m ≤ 9223372036854775807 := by simpa [maxLen] using h63
  have h := run_append_grow (P := P) w t ty e i z ht hi hz b 0 0 [] (by simp) (by simp) ad m c news (by rw [hs, hl]; omega) hx (by omega) (by omega) (growslice_fits (by omega) (by simpa using hb))
  have hge := grownCap_ge w m 0 e
  simp only [Nat.zero_add] at h
  refine ⟨(Builtin.zeroCells z.cells (grownCap w m 0 e - m)).toList, ?_⟩
  have hlen : m + (Builtin.zeroCells z.cells (grownCap w m 0 e - m)).toList.length = grownCap w m 0 e := by
    rw [Array.length_toList, size_zeroCells, hz1]; omega
  rw [h, hlen]
  congr 3
  apply Array.ext'
  simp

theorem step_append_fresh {P : Program} {w : World} {ops : Array Oper} {o : Oper} {a : Act} {K : Act → World → Prop} {Q : Exit → Act → World → Prop} {E : Prop} (hgd : o.guard = none) (s x : Operand) (t : TypeId)
    (ho : o.op = .call { callee := .builtin .append, args := #[s, x], argTypes := #[t, t] })
    (e : TypeId) (i : TypeInfo) (z : Value) (bytes : Nat) (ht : P.underlying t = some (.slice e)) (hi : P.info? e = some i) (hz : i.zero = some z) (hs : i.size = 1) (hby : i.bytes = bytes) (hz1 : z.cells.size = 1)
    (b : Addr) (hse : a.eval s = .slice (some b) 0 0) (sp : Option Addr) (m c : Nat) (hxe : a.eval x = .slice sp m c) (news : List Value) (hl : news.length = m) (hm : 0 < m) (hsrc : Src w sp news) (hb : m * bytes ≤ 140737488355328) (h63 : m ≤ maxLen)
    (h : ∀ (r : List Value) (O : Obj), O = .cells (news ++ r).toArray e → K (a.put o.dst (.slice (some ⟨w.heap.size, 0, none⟩) m (m + r.length))) (w.drew.alloc O)) :
    if Region.wanted o (yielded ops a.tmps) = true then Oper.wp P o a w K Q else E := by
  have hw : Region.wanted o (yielded ops a.tmps) = true := by simp [Region.wanted, hgd]
  rw [if_pos hw]
  obtain ⟨r, hrun⟩ := run_append_fresh (P := P) w t o.type e i z bytes ht hi hz hs hby hz1 b sp m c news hl hm hsrc hb h63
  unfold Oper.wp execOp
  simp only [ho, resolve, invoke, builtin, Sem.run_bind, Sem.run_pure, Result.andThen_ok, List.map_toArray, List.map_cons, List.map_nil, hse, hxe, hrun]
  exact h r _ rfl

theorem splice_app {α : Type} (L r m : List α) (o : Nat) (h : o + m.length ≤ L.length) : splice (L ++ r) o m = splice L o m ++ r := by
  unfold splice
  rw [List.take_append_of_le_length (by omega), List.drop_append_of_le_length (by omega)]
  simp
end Go.Proofs.YtddjgncdjdjgeaaGreat
namespace Go.Proofs.YtddjgncdjdjgeaaGreat
open Go.RowKit

section
variable {w w' : World} {p gL gN gW : Nat} {rL rN : List Value} {lf m : Int} {s : St}

set_option maxHeartbeats 1000000 in
set_option maxRecDepth 100000 in
theorem rwrite_yes (h : Rfd w p gL gN gW rL rN m s) (k : Nat) (hk : k < s.V.length) {A : Option Addr} {c : Nat} {x : List UInt8} (hx : x.length = 64) (hs : Src w A (bts x)) (hA : ∀ ad, A = some ad → ad.block ≠ p) :
    Calls Tryz.prog 54 #[.pointer (some ⟨p, 0, none⟩), .int .i64 (k : Int), .slice A 64 c] w fun e w' => ∃ m', e = .returned (.bool true) ∧
      Rfd w' p gL gN gW rL rN m' (s.write k x) ∧ Chg [p, gN, gW] w w' := by
  have hd : decide ((k : Int) < 0) = false := by simp
  have hd1 : decide ((s.V.length : Int) ≤ (k : Int)) = false := by simp; omega
  have hS := h.lenS
  have hv := h.le
  have s1 : 64 * (k + 1) ≤ s.S.length := by omega
  have s2 : s.S.length ≤ 1000000 := by omega
  have hne : ¬ (s.S.length + rN.length = k * 64) := by omega
  have hle : k * 64 ≤ s.S.length := by omega
  clear hS
  have hfit : k * 64 + (bts x).length ≤ (bts s.S ++ rN).length := by rw [List.length_append, bts_len, bts_len]; omega
  have Hn := Lib.hid (show (bts x).length = Nat.min 64 (s.S.length - k * 64) by rw [bts_len, hx]; exact (Nat.min_eq_left (by omega)).symm)
  have Hx := Lib.hid hx
  have b1 := bts_one x
  have HA := Lib.hid hA
  have n2 := Lib.hid (show p ∉ [gN] by simpa using h.rec_.ne_ h.now (by decide))
  have n3 := Lib.hid (show gW ∉ [gN] by simpa using h.wait.ne_ h.now (by decide))
  have HX := Lib.hid (show splice (bts s.S ++ rN) (k * 64) (bts x) = bts (splice s.S (k * 64) x) ++ rN by rw [splice_app _ _ _ _ (by rw [bts_len, bts_len]; omega), bts_splice])
  obtain ⟨Y, hY⟩ : ∃ Y, Y = bts x := ⟨_, rfl⟩
  rw [← hY] at hfit Hn b1 hs HX
  clear hx hY hA
  go_enter Tryz.func54, Tryz.ntmps54
  go_wp2_with (go_at_call 53; refine (rlen_any h).mono ?_; rintro e w' ⟨rfl, rfl⟩)
  refine (rdeed_any h).mono ?_
  rintro e w1 ⟨m1, rfl, h1, hc1⟩
  have c1 := h1.rec_.cell 1
  have hs1 : Src w1 A Y := hs.chg hc1 (fun _ ad e => by simpa using HA.out ad e)
  go_wp2_with (with_reducible refine wpList_copy_chg rfl (.tmp 28) (.tmp 29) _ _ rfl 5 Tryz.underlying30 size_u8 (some ⟨gN, k * 64, none⟩) A (s.S.length - k * 64) (s.S.length + rN.length - k * 64) 64 c rfl rfl gN (k * 64) 5 (bts s.S ++ rN) Y h1.now Hn.out (fun _ => rfl) hs1 hfit b1 ?_
               intro w2 HG HC
               have R2 := h1.rec_.chg HC n2.out
               have V2 := h1.wait.chg HC n3.out
               have c2 := R2.cell 2
               have c4 := (V2.cell k).trans (bls_get s.V k hk)
               have c5 := V2.frozen k)
  go_ret
  rw [HX.out] at HG
  have eS : (splice s.S (k * 64) x).length = s.S.length := length_splice _ _ _ (by rw [Hx.out]; omega)
  have d1 := h1.rec_.ne_ h1.wait (by decide)
  have d2 := h1.last.ne_ h1.wait (by decide)
  have d3 := h1.now.ne_ h1.wait (by decide)
  have hw : Whole (w2.setCell ⟨gW, k, none⟩ (.bool true)) gW 4 (bls (s.V.set k true)) := by
    have := V2.set_ k (.bool true)
    rwa [bls_set] at this
  refine ⟨m1, rfl, ⟨?_, (h1.last.chg HC (by simpa using h1.ne)).far d2 _, HG.far d3 _, hw, by simp only [St.write, List.length_set]; exact h.lenL, by simp only [St.write, List.length_set]; rw [eS]; exact h.lenS, by simp only [St.write, List.length_set]; exact h.le, h.ne⟩, ?_⟩
  · simp only [St.write, List.length_set]
    rw [eS]
    exact R2.far d1 _
  · exact (((hc1.sub (by simp)).trans (HC.sub (T' := [p, gN, gW]) (by simp)))).setCell (by simp) _

set_option maxHeartbeats 400000 in
set_option maxRecDepth 100000 in
theorem rread_no (h : Rfx w p gL gN gW rL rN lf m s) (i : Int) (hi : i < 0 ∨ (s.V.length : Int) ≤ i) :
    Calls Tryz.prog 100 #[.pointer (some ⟨p, 0, none⟩), .int .i64 i] w fun e w' => e = .returned (.tuple #[.slice none 0 0, .bool false]) ∧ w = w' := by
  by_cases h0 : i < 0
  · have hd : decide (i < 0) = true := by simp; omega
    go_enter Tryz.func100, Tryz.ntmps100
    go_wp2_with fail
    go_ret2
    exact ⟨rfl, rfl⟩
  · have hd : decide (i < 0) = false := by simp; omega
    have hd1 : decide ((s.V.length : Int) ≤ i) = true := by simp; omega
    go_enter Tryz.func100, Tryz.ntmps100
    go_wp2_with (go_at_call 53; refine (rlen_any h).mono ?_; rintro e w' ⟨rfl, rfl⟩)
    go_ret2
    exact ⟨rfl, rfl⟩

end
end Go.Proofs.YtddjgncdjdjgeaaGreat
namespace Go.Proofs.YtddjgncdjdjgeaaGreat
open Go.RowKit

section
variable {w w' : World} {p gL gN gW : Nat} {rL rN : List Value} {m : Int} {s : St}

set_option maxHeartbeats 1000000 in
set_option maxRecDepth 100000 in
theorem rwaits_any (h : Rfd w p gL gN gW rL rN m s) :
    Calls Tryz.prog 44 #[.pointer (some ⟨p, 0, none⟩)] w fun e w' => ∃ A c, e = .returned (.slice A (wl s.V s.V.length).length c) ∧ Src w' A (nmsN (wl s.V s.V.length)) ∧ (∀ ad, A = some ad → ad.spot = none ∧ w.heap.size ≤ ad.block) ∧ Chg [] w w' := by
  obtain ⟨i0, hi, hz0, hz1, hz2⟩ := info_parts info_int
  have c2 := h.rec_.cell 2
  have hle := h.le
  go_enter Tryz.func44, Tryz.ntmps44
  go_wp2_with fail
  go_loopw [3, 10] (fun v i wr => ∃ k : Nat, k ≤ s.V.length ∧ i = .int .i64 (k : Int) ∧ wr.ownsRow w.heap.size 3 1 v (wl s.V k).length (nmsN (wl s.V k)) ∧ Chg [] w wr) (fun _ i _ => s.V.length - (intOf i).toNat)
  case atStart => exact ⟨0, Nat.zero_le _, rfl, by simpa [wl, nmsN] using World.ownsRow_nil w w.heap.size 3 1, Chg.refl _ _⟩
  case round =>
    obtain ⟨k, hk, rfl, hown, hcg⟩ := hrel
    have hd := h.keep hcg
    have c2' := hd.rec_.cell 2
    have hll := wl_le s.V k
    have hwr := hcg.size
    by_cases hlt : k < s.V.length
    · have c4 := (hd.wait.cell k).trans (bls_get s.V k hlt)
      cases hv : s.V[k] with
      | true =>
        rw [hv] at c4
        have HY := Lib.hid (wl_yes s.V k hlt hv)
        clear hv
        obtain ⟨X, hX⟩ : ∃ X, X = nmsN (wl s.V k) := ⟨_, rfl⟩
        obtain ⟨N, hN⟩ : ∃ N, N = (wl s.V k).length := ⟨_, rfl⟩
        rw [← hX, ← hN] at hown
        have HX := Lib.hid hX
        have HN := Lib.hid hN
        rw [← hN] at hll
        clear hX hN
        go_wp2_with (first
          | (at_builtin
             refine wpList_append_own _ rfl (.tmp 20) (.tmp 22) _ rfl w.heap.size 3 i0 (.int .i64 0) 1 8 Tryz.underlying26 hi hz0 hz1 hz2 rfl (by decide) _ N X rfl (hown.alloc _) ⟨wr.heap.size, 0, none⟩ 1 1 [.int .i64 (k : Int)] rfl rfl ?c1 ?c2 ?c3 ?c4 ?c5 ?_
             case c1 => exact cell_one_new _ _ _
             case c2 => simp [Value.oneCell']
             case c3 => simp only [maxLen]; omega
             case c4 => omega
             case c5 => simp; omega
             intro v' w1 hown' hg' _))
        go_roundw
        case rel =>
          refine ⟨k + 1, by omega, by go_num, ?_, chg_grown (hcg.alloc _) hg' fun g hgg => (hown.lt g hgg).1⟩
          rw [HY.out, nmsN_app, List.length_append, ← HX.out, ← HN.out]
          exact hown'
        case measure => simp [intOf]; omega
      | false =>
        rw [hv] at c4
        have HY := Lib.hid (wl_no s.V k hlt hv)
        clear hv
        go_wp2_with fail
        go_roundw
        case rel => exact ⟨k + 1, by omega, by go_num, by rw [HY.out]; exact hown, hcg⟩
        case measure => simp [intOf]; omega
    · obtain rfl : k = s.V.length := by omega
      obtain ⟨A, c, rfl, hs, _, hA⟩ := own_form hown
      go_wp2_with fail
      go_ret
      exact ⟨A, c, rfl, hs, hA, hcg⟩

end
end Go.Proofs.YtddjgncdjdjgeaaGreat
namespace Go.Proofs.YtddjgncdjdjgeaaGreat
open Go.RowKit
/-- r is a number of lo .. hi, and n itself where n is one. -/
def Into (n lo hi r : Int) : Prop := lo ≤ r ∧ r ≤ hi ∧ (lo ≤ n → n ≤ hi → r = n)
/-- The number itself, or brought into lo .. hi. -/
def withinI (n lo hi : Int) : Int := if lo ≤ n ∧ n ≤ hi then n else if n.tmod (hi - lo + 1) < 0 then lo + (n.tmod (hi - lo + 1) + hi - lo + 1) else lo + n.tmod (hi - lo + 1)
theorem into_within (n lo hi : Int) (h1 : lo ≤ hi) : Into n lo hi (withinI n lo hi) := by
  have b1 := Int.tmod_lt_of_pos n (show 0 < hi - lo + 1 by omega)
  have b2 := Int.lt_tmod_of_pos n (show 0 < hi - lo + 1 by omega)
  unfold withinI
  split
  · rename_i h; exact ⟨h.1, h.2, fun _ _ => rfl⟩
  · rename_i h
    split
    · exact ⟨by omega, by omega, fun ha hb => absurd ⟨ha, hb⟩ h⟩
    · exact ⟨by omega, by omega, fun ha hb => absurd ⟨ha, hb⟩ h⟩
theorem ret_within {a b : Int} (h : a = b) : Ending.returned (.int .i64 a) = .returned (.int .i64 b) := by rw [h]
section
variable {w : World}
set_option maxHeartbeats 1000000 in
set_option maxRecDepth 100000 in
theorem within_is (n lo hi : Int) (h0 : -1000000 ≤ lo) (h1 : lo ≤ hi) (h2 : hi ≤ 1000000) (hn0 : -9223372036854775808 ≤ n) (hn1 : n ≤ 9223372036854775807) :
    Calls Tryz.prog 12 #[.int .i64 n, .int .i64 lo, .int .i64 hi] w fun e w' => e = .returned (.int .i64 (withinI n lo hi)) ∧ w = w' := by
  have b1 := Int.tmod_lt_of_pos n (show 0 < hi - lo + 1 by omega)
  have b2 := Int.lt_tmod_of_pos n (show 0 < hi - lo + 1 by omega)
  have hne : ((hi - lo + 1) == 0) = false := by simp; omega
  by_cases ha : lo ≤ n
  · by_cases hb : n ≤ hi
    · have HI := Lib.hid (show withinI n lo hi = n by unfold withinI; rw [if_pos ⟨ha, hb⟩])
      go_enter Tryz.func12, Tryz.ntmps12
      go_wp2_with fail
      go_ret
      exact ⟨ret_within HI.out.symm, rfl⟩
    · by_cases hm : n.tmod (hi - lo + 1) < 0
      · have HI := Lib.hid (show withinI n lo hi = lo + (n.tmod (hi - lo + 1) + hi - lo + 1) by unfold withinI; rw [if_neg (fun h => hb h.2), if_pos hm])
        go_enter Tryz.func12, Tryz.ntmps12
        go_wp2_with fail
        go_ret
        exact ⟨ret_within HI.out.symm, rfl⟩
      · have HI := Lib.hid (show withinI n lo hi = lo + n.tmod (hi - lo + 1) by unfold withinI; rw [if_neg (fun h => hb h.2), if_neg hm])
        go_enter Tryz.func12, Tryz.ntmps12
        go_wp2_with fail
        go_ret
        exact ⟨ret_within HI.out.symm, rfl⟩
  · have hd : decide (lo ≤ n) = false := by simp; omega
    by_cases hm : n.tmod (hi - lo + 1) < 0
    · have HI := Lib.hid (show withinI n lo hi = lo + (n.tmod (hi - lo + 1) + hi - lo + 1) by unfold withinI; rw [if_neg (fun h => ha h.1), if_pos hm])
      go_enter Tryz.func12, Tryz.ntmps12
      go_wp2_with fail
      go_ret
      exact ⟨ret_within HI.out.symm, rfl⟩
    · have HI := Lib.hid (show withinI n lo hi = lo + n.tmod (hi - lo + 1) by unfold withinI; rw [if_neg (fun h => ha h.1), if_neg hm])
      go_enter Tryz.func12, Tryz.ntmps12
      go_wp2_with fail
      go_ret
      exact ⟨ret_within HI.out.symm, rfl⟩
end
end Go.Proofs.YtddjgncdjdjgeaaGreat
namespace Go.Proofs.YtddjgncdjdjgeaaGreat
open Go.RowKit

section
variable {w : World} {A : Option Addr} {n c : Nat} {l : List UInt8}

set_option maxHeartbeats 400000 in
set_option maxRecDepth 100000 in
theorem rof_no (hn : n ≤ 1000000) (h : n < 64 ∨ 10304 ≤ n ∨ n % 64 ≠ 0) :
    Calls Tryz.prog 40 #[.slice A n c] w fun e w' => e = .returned (.pointer none) ∧ w = w' := by
  by_cases h3 : n % 64 = 0
  · have hd3 : ((n : Int) % 64 != 0) = false := by simp; omega
    by_cases h1 : n < 64
    · have hd : decide ((n : Int) / 64 < 1) = true := by simp; omega
      clear h h3
      go_enter Tryz.func40, Tryz.ntmps40
      go_wp2_with fail
      go_ret
      exact ⟨rfl, rfl⟩
    · have hd1 : decide ((n : Int) / 64 < 1) = false := by simp; omega
      have hd2 : decide (160 < (n : Int) / 64) = true := by simp; omega
      clear h h3
      go_enter Tryz.func40, Tryz.ntmps40
      go_wp2_with fail
      go_ret
      exact ⟨rfl, rfl⟩
  · have hd3 : ((n : Int) % 64 != 0) = true := by simp; omega
    clear h
    go_enter Tryz.func40, Tryz.ntmps40
    go_wp2_with fail
    go_ret
    exact ⟨rfl, rfl⟩

theorem rfd_end {W F : World} {q gL gN gW : Nat} {rL rN : List Value} (hF : Chg [] (W.alloc (.cells #[.slice (some ⟨gL, 0, none⟩) l.length (l.length + rL.length), .slice (some ⟨gN, 0, none⟩) l.length (l.length + rN.length), .slice (some ⟨gW, 0, none⟩) (l.length / 64) (l.length / 64), .int .i64 (-1), .int .i64 0] 71)) F)
    (hq : q = W.heap.size) (hL : Whole W gL 5 (bts l ++ rL)) (hN : Whole W gN 5 (bts l ++ rN)) (hV : Whole W gW 4 (bls (falses (l.length / 64)))) (hne : gL ≠ gN)
    (h1 : 64 ≤ l.length) (h2 : l.length < 10304) (h3 : l.length % 64 = 0) (hc : Chg [] w W) (b1 : w.heap.size ≤ gL) (b2 : w.heap.size ≤ gN) (b3 : w.heap.size ≤ gW) :
    ∃ p gL' gN' gW' rL' rN' m, Ending.returned (.pointer (some ⟨q, 0, none⟩)) = .returned (.pointer (some ⟨p, 0, none⟩)) ∧
      Rfd F p gL' gN' gW' rL' rN' m ⟨l, l, falses (l.length / 64)⟩ ∧ w.heap.size ≤ p ∧ w.heap.size ≤ gL' ∧ w.heap.size ≤ gN' ∧ w.heap.size ≤ gW' ∧ Chg [] w F := by
  subst hq
  have hk := ((Chg.refl [] W).alloc (.cells #[.slice (some ⟨gL, 0, none⟩) l.length (l.length + rL.length), .slice (some ⟨gN, 0, none⟩) l.length (l.length + rN.length), .slice (some ⟨gW, 0, none⟩) (l.length / 64) (l.length / 64), .int .i64 (-1), .int .i64 0] 71)).new hF
  refine ⟨W.heap.size, gL, gN, gW, rL, rN, 0, rfl, ⟨?_, hL.keep hk, hN.keep hk, hV.keep hk, ?_, ?_, ?_, hne⟩, hc.size, b1, b2, b3, hc.new hk⟩
  · have := (Whole.new W 71 [.slice (some ⟨gL, 0, none⟩) l.length (l.length + rL.length), .slice (some ⟨gN, 0, none⟩) l.length (l.length + rN.length), .slice (some ⟨gW, 0, none⟩) (l.length / 64) (l.length / 64), .int .i64 (-1), .int .i64 0]).keep hF
    simpa only [falses_len] using this
  · show l.length = 64 * (falses (l.length / 64)).length
    rw [falses_len]; omega
  · show l.length = 64 * (falses (l.length / 64)).length
    rw [falses_len]; omega
  · show (falses (l.length / 64)).length ≤ 160
    rw [falses_len]; omega

set_option maxHeartbeats 4000000 in
set_option maxRecDepth 100000 in
theorem rof_yes (hl : l.length = n) (hs : Src w A (bts l)) (h1 : 64 ≤ n) (h2 : n < 10304) (h3 : n % 64 = 0) :
    Calls Tryz.prog 40 #[.slice A n c] w fun e w' => ∃ p gL gN gW rL rN m, e = .returned (.pointer (some ⟨p, 0, none⟩)) ∧ Rfd w' p gL gN gW rL rN m ⟨l, l, falses (n / 64)⟩ ∧
      w.heap.size ≤ p ∧ w.heap.size ≤ gL ∧ w.heap.size ≤ gN ∧ w.heap.size ≤ gW ∧ Chg [] w w' := by
  obtain ⟨i0, hi, hz0, hz1, hz2⟩ := info_parts info_u8
  have hd1 : decide ((n : Int) / 64 < 1) = false := by simp; omega
  have hd2 : decide (160 < (n : Int) / 64) = false := by simp; omega
  have hd3 : ((n : Int) % 64 != 0) = false := by simp; omega
  have hmk : ∀ W : World, (Instr.makeSlice 67 (.int .i64 ((n : Int) / 64)) (.int .i64 ((n : Int) / 64))).run Tryz.prog W = .ok (.slice (some ⟨W.heap.size, 0, none⟩) (n / 64) (n / 64)) (W.alloc (.cells (bls (falses (n / 64))).toArray 4)) :=
    fun W => make_bool (n / 64) (by omega) W
  have HL := Lib.hid hl
  have H3 := Lib.hid h3
  have hpos : 0 < n := by omega
  have hb : n * 1 ≤ 140737488355328 := by omega
  have hb2 : n ≤ maxLen := by unfold maxLen; omega
  clear hl h3
  go_enter Tryz.func40, Tryz.ntmps40
  go_wp2_with fail
  go_region_law (first
    | (with_reducible refine step_append_fresh rfl (.tmp 19) (.tmp 20) _ rfl 5 i0 (.int .u8 0) 1 Tryz.underlying30 hi hz0 hz1 hz2 rfl _ rfl A n c rfl (bts l) ?_ hpos (hs.keep ?_) hb hb2 ?_; (rw [bts_len]; exact HL.out); (repeat (first | exact Chg.refl _ _ | apply Chg.drew | apply Chg.alloc)); (intro r1 O1 hO1; have HO1 := Lib.hid hO1; clear hO1))
    | (with_reducible refine step_append_fresh rfl (.tmp 22) (.tmp 23) _ rfl 5 i0 (.int .u8 0) 1 Tryz.underlying30 hi hz0 hz1 hz2 rfl _ rfl A n c rfl (bts l) ?_ hpos (hs.keep ?_) hb hb2 ?_; (rw [bts_len]; exact HL.out); (repeat (first | exact Chg.refl _ _ | apply Chg.drew | apply Chg.alloc)); (intro r2 O2 hO2; have HO2 := Lib.hid hO2; clear hO2)))
  all_goals (go_wp2_with fail; go_ret)
  all_goals (obtain rfl := HL.out)
  all_goals (obtain rfl := HO1.out)
  all_goals (obtain rfl := HO2.out)
  all_goals (refine rfd_end (by repeat (first | exact Chg.refl _ _ | apply Chg.drew | apply Chg.drewN)) ?_ ?_ ?_ ?_ ?_ h1 h2 H3.out ?_ ?_ ?_ ?_)
  all_goals first
    | omega
    | ((repeat (first | exact Chg.refl _ _ | apply Chg.drew | apply Chg.drewN | apply Chg.alloc)); done)
    | ((repeat (first | exact whole_at (Whole.new _ _ _) (by simp) | apply Whole.drew | apply Whole.drewN | refine Whole.keep ?_ ((Chg.refl _ _).alloc _))); done)
    | (simp; done)
end
end Go.Proofs.YtddjgncdjdjgeaaGreat
