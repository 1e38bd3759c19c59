/-
  S: RedoRefA, Rst3.
-/
import Derived.Test.YtddjgncdjdjgeaaGreatZS6
import Derived.Test.YtddjgncdjdjgeaaGreatZS7
import Derived.Test.YtddjgncdjdjgeaaGreatZS19
import Derived.Test.YtddjgncdjdjgeaaGreatZS22
import Derived.Test.YtddjgncdjdjgeaaGreatZS24
import Derived.Test.YtddjgncdjdjgeaaGreatZS28
import Derived.Deep.DeepCutAuto
import Derived.Lib.SliceRun
namespace Go.Proofs.YtddjgncdjdjgeaaGreat
open Go.RowKit
/-- The log's sector i, behind b was copied in. -/
theorem log_sect {s : St} {L a i k' : Nat} {b : List UInt8} (hS : 128 + L * 64 ≤ s.S.length) (hab : a + b.length ≤ L * 64) (hi : i < L) (hk : k' = min b.length ((i + 1) * 64 - a)) :
    ((splice (logB s L) a b).drop (i * 64)).take 64 = ((splice s.S (128 + a) (b.take k')).drop ((2 + i) * 64)).take 64 := by
  have hl := logB_len (s := s) hS
  have lk : (b.take k').length = k' := by rw [List.length_take]; omega
  apply List.ext_getElem?
  intro j
  rcases Nat.lt_or_ge j 64 with hj | hj
  · rw [List.getElem?_take, List.getElem?_take, if_pos hj, if_pos hj, List.getElem?_drop, List.getElem?_drop, splice_get _ _ _ _ (by rw [hl]; exact hab), splice_get _ _ _ _ (by rw [lk]; omega), lk]
    by_cases h1 : a ≤ i * 64 + j ∧ i * 64 + j < a + b.length
    · rw [if_pos h1, if_pos (by omega), List.getElem?_take, if_pos (by omega)]
      congr 1; omega
    · rw [if_neg h1, if_neg (by omega)]
      unfold logB
      rw [List.getElem?_take, if_pos (by omega), List.getElem?_drop]
      congr 1; omega
  · rw [List.getElem?_take, List.getElem?_take, if_neg (by omega), if_neg (by omega)]
/-- What the reference's Append does. -/
def RAppPost (w : World) (p gL gN gW : Nat) (rL rN : List Value) (s : St) (L P E at_ : Int) (l : List UInt8) (e : Ending) (w' : World) : Prop :=
  (canA s L P E at_ l.length ∧ e = .returned (.bool true) ∧ (∃ m', Rfd w' p gL gN gW rL rN m' (apS s (128 + at_.toNat) l)) ∧ Chg [p, gN, gW] w w') ∨
  (¬ canA s L P E at_ l.length ∧ e = .returned (.bool false) ∧ Chg [] w w')
section
variable {w : World} {p gL gN gW : Nat} {rL rN : List Value} {m : Int} {s : St}
set_option maxHeartbeats 4000000 in
set_option maxRecDepth 100000 in
theorem rappend_any (h : Rfd w p gL gN gW rL rN m s) (L P E at_ : Int) (hL0 : -9223372036854775808 ≤ at_) (hL1 : at_ ≤ 9223372036854775807) {A : Option Addr} {n c : Nat} {l : List UInt8} (hx : Bs w A n c l) :
    Calls Tryz.prog 77 #[.pointer (some ⟨p, 0, none⟩), rootV L P E, .int .i64 at_, .slice A n c] w (RAppPost w p gL gN gW rL rN s L P E at_ l) := by
  have hr0 : rootV L P E = .agg #[.int .i64 L, .int .i64 P, .int .u32 E] := rfl
  have H := Lib.hid h
  have HX := Lib.hid hx
  have hln := hx.len
  have hnm := hx.le
  clear h hx
  rw [hr0]
  have hnl := fun W a n c => Lib.run_eql_slice_nil (P := Tryz.prog) W 30 5 a n c 0 0 Tryz.underlying30
  go_enter Tryz.func77, Tryz.ntmps77
  go_wp2_with fail
  have hR := Whole.new w 58 [.int .i64 L, .int .i64 P, .int .u32 E]
  have hc1 : Chg [] w (w.alloc (.cells #[.int .i64 L, .int .i64 P, .int .u32 E] 58)) := (Chg.refl [] w).alloc _
  obtain ⟨g, hg⟩ : ∃ g, g = w.heap.size := ⟨_, rfl⟩
  rw [← hg] at hR ⊢
  generalize w.alloc (.cells #[.int .i64 L, .int .i64 P, .int .u32 E] 58) = w1 at hc1 hR ⊢
  have HGg := Lib.hid (show g ≠ p ∧ g ≠ gN ∧ g ≠ gW ∧ w.heap.size ≤ g by have h1 := H.out.rec_.lt; have h2 := H.out.now.lt; have h3 := H.out.wait.lt; omega)
  clear hg
  obtain ⟨c0, c1, c2, _, _, _⟩ := root_cells hR
  go_wp2_with fail
  refine (rlog_nil (H.out.keep hc1) L P E).mono ?_
  rintro e w2 ⟨⟨v2, rfl, ho2, hc2⟩, hnil⟩
  have HC2 := Lib.hid (hc1.new hc2)
  have HR2 := Lib.hid (hR.keep hc2)
  have HLN := Lib.hid hln
  have HS1 := Lib.hid hc1.size
  clear hc1 hc2 hR c0 c1 c2 hln
  cases hrr : rightR L P E s.V.length with
  | false =>
    have HF := Lib.hid (show ¬ canA s L P E at_ l.length from fun h => by have := h.1; rw [hrr] at this; cases this)
    obtain ⟨rfl⟩ : v2 = .slice none 0 0 := by have := hnil hrr; injection this
    clear hnil ho2
    go_wp2_with fail
    go_ret
    exact .inr ⟨HF.out, rfl, HC2.out⟩
  | true =>
    have hrt := rightR_true.1 hrr
    obtain ⟨k, rfl⟩ := Int.eq_ofNat_of_zero_le (show 0 ≤ L by omega)
    have hl1 : 1 ≤ k := by omega
    have hl64 : k ≤ 64 := by omega
    have hlV := Lib.hid (show 2 + (k : Int) + P ≤ s.V.length ∧ 1 ≤ P from ⟨hrt.2.2.2.2.1, hrt.2.2.1⟩)
    have HS := Lib.hid (show 128 + k * 64 ≤ s.S.length ∧ s.S.length = 64 * s.V.length by have := H.out.lenS; have := hlV.out; omega)
    have hlog : logL s k P E = logB s k := by unfold logL; rw [if_pos hrr, Int.toNat_natCast]
    obtain ⟨N, hN, hN4, hN0⟩ : ∃ N, N = k * 64 ∧ N ≤ 4096 ∧ 0 < N := ⟨_, rfl, by omega, by omega⟩
    have hlen : (logB s k).length = N := by rw [logB_len HS.out.1, hN]
    rw [hlog, hlen] at ho2
    obtain ⟨gl, r, rfl, hgl, hW2, hcap⟩ := own_whole ho2 hN0
    obtain ⟨cN, hcN⟩ : ∃ c, c = N + r.length := ⟨_, rfl⟩
    rw [← hcN] at hcap ⊢
    have hcN1 : N ≤ cN := by omega
    have HCA := Lib.hid (show canA s k P E at_ l.length ↔ (0 ≤ at_ ∧ at_ ≤ (N : Int) ∧ (n : Int) ≤ (N : Int) - at_) by unfold canA; rw [hrr, HLN.out, show (k : Int) * 64 = (N : Int) by omega]; simp)
    have HNk := Lib.hid hN
    have HLB := Lib.hid hlen
    have HGL := Lib.hid (show w.heap.size ≤ gl by have := HS1.out; omega)
    have HW2 := Lib.hid hW2
    clear hnil hrt hlog hN hlen ho2 hcN hW2 hgl
    unfold maxLen at hcap
    by_cases ha0 : at_ < 0
    · have HF := Lib.hid (show ¬ canA s k P E at_ l.length from fun h => by have := (HCA.out.1 h).1; omega)
      go_wp2_with fail
      go_ret
      exact .inr ⟨HF.out, rfl, HC2.out⟩
    obtain ⟨a, rfl⟩ := Int.eq_ofNat_of_zero_le (show 0 ≤ at_ by omega)
    have ha0' : ¬ ((a : Int) < 0) := ha0
    clear ha0 hL0
    by_cases ha1 : (N : Int) < (a : Int)
    · have HF := Lib.hid (show ¬ canA s k P E a l.length from fun h => by have := (HCA.out.1 h).2.1; omega)
      go_wp2_with fail
      go_ret
      exact .inr ⟨HF.out, rfl, HC2.out⟩
    have haN : a ≤ N := by omega
    by_cases hn1 : (N : Int) - (a : Int) < (n : Int)
    · have HF := Lib.hid (show ¬ canA s k P E a l.length from fun h => by have := (HCA.out.1 h).2.2; omega)
      go_wp2_with fail
      go_ret
      exact .inr ⟨HF.out, rfl, HC2.out⟩
    have hnN : a + n ≤ N := by omega
    have HY := Lib.hid (HCA.out.2 ⟨by omega, by omega, by omega⟩)
    clear HCA
    go_upto_region 4 with fail
    have HNL := Lib.hid hnl
    clear hnl
    have hcsl := Lib.hid (show (bts l).length = Nat.min n (N - a) by rw [bts_len, HLN.out]; show n = min _ _; omega)
    have hfit : a + (bts l).length ≤ (bts (logB s k) ++ r).length := by rw [List.length_append, bts_len, bts_len, HLN.out, HLB.out]; omega
    have hb1 := bts_one l
    have hsr := (HX.out.keep HC2.out).src
    have hspl := Lib.hid (show splice (bts (logB s k) ++ r) a (bts l) = bts (splice (logB s k) a l) ++ r by rw [splice_app _ _ _ _ (by rw [bts_len, bts_len, HLN.out, HLB.out]; omega), bts_splice])
    have hW2 := HW2.out
    have hcNa : ¬ cN < a := by omega
    have hNa : ¬ N < a := by omega
    go_cut [9] (fun s9 wx => s9 = .slice (some ⟨gl, 0, none⟩) N cN ∧ Hid (Whole wx gl 5 (bts (splice (logB s k) a l) ++ r)) ∧ Hid (Chg [gl] w2 wx))
    case first =>
      by_cases hac : cN = a
      · have hz : ¬ 0 < (bts l).length := by rw [bts_len, HLN.out]; omega
        go_wp2_with (with_reducible refine wpList_copy_chg rfl (.tmp 37) (.tmp 38) _ _ rfl 5 Tryz.underlying30 size_u8 _ A (N - a) _ n c rfl rfl gl a 5 (bts (logB s k) ++ r) (bts l) hW2 hcsl.out (fun h => absurd h hz) hsr hfit hb1 ?_
                     intro w6 HG6 HC6)
        rw [hspl.out] at HG6
        go_meet
        exact ⟨rfl, Lib.hid HG6, Lib.hid HC6⟩
      · go_wp2_with (with_reducible refine wpList_copy_chg rfl (.tmp 37) (.tmp 38) _ _ rfl 5 Tryz.underlying30 size_u8 (some ⟨gl, a, none⟩) A (N - a) (cN - a) n c rfl rfl gl a 5 (bts (logB s k) ++ r) (bts l) hW2 hcsl.out (fun _ => rfl) hsr hfit hb1 ?_
                     intro w6 HG6 HC6)
        rw [hspl.out] at HG6
        go_meet
        exact ⟨rfl, Lib.hid HG6, Lib.hid HC6⟩
    case rest =>
      obtain ⟨rfl, HG6, HC6⟩ := hcut
      obtain ⟨w6, rfl⟩ : ∃ w6 : World, w6 = wc := ⟨_, rfl⟩
      have HC6' := Lib.hid (show Chg [] w w6 from HC2.out.then_ HC6.out (fun i hi hlt => by
        simp only [List.mem_cons, List.not_mem_nil, or_false] at hi
        have := HGL.out
        omega))
      have HNg := Lib.hid (show g ≠ gl from HR2.out.ne_ HW2.out (by decide))
      have HR6 := Lib.hid (HR2.out.chg HC6.out (by simp; exact HNg.out))
      have HP := Lib.hid (show p < w.heap.size ∧ gN < w.heap.size ∧ gW < w.heap.size from ⟨H.out.rec_.lt, H.out.now.lt, H.out.wait.lt⟩)
      have h0 : apS s (128 + a) (l.take (min n (0 * 64 - a))) = s := by rw [show min n (0 * 64 - a) = 0 by omega, List.take_zero]; exact apS_nil s _ (by have := HS.out; have := HNk.out; omega)
      have HT0 : Hid (Rfd w6 p gL gN gW rL rN m (apS s (128 + a) (l.take (min n (0 * 64 - a))))) := Lib.hid (by rw [h0]; exact H.out.keep HC6'.out)
      have HV6 := Lib.hid (show 2 + k ≤ s.V.length by have := hlV.out; omega)
      clear h0 hcsl hfit hb1 hsr hspl hW2 hcNa ha1 hn1
      go_wp2_with fail
      go_loopw [10] (fun v wr => ∃ i : Nat, i ≤ k ∧ v = .int .i64 (i : Int) ∧ (∃ m', Hid (Rfd wr p gL gN gW rL rN m' (apS s (128 + a) (l.take (min n (i * 64 - a)))))) ∧ Hid (Chg [p, gN, gW] w6 wr)) (fun v _ => k - (intOf v).toNat)
      case atStart => exact ⟨0, Nat.zero_le _, rfl, ⟨m, HT0⟩, Lib.hid (Chg.refl _ _)⟩
      case round =>
        obtain ⟨i, hi, rfl, ⟨m', HT⟩, HCr⟩ := hrel
        obtain ⟨d0, d1, d2, _, _, _⟩ := root_cells (HR6.out.chg HCr.out (by have := HGg.out; simp; omega))
        have hend : (i = k ∨ n = 0) → min n (i * 64 - a) = n := fun h => by have := HNk.out; rcases h with h | h <;> subst h <;> omega
        by_cases hlt : i < k ∧ 0 < n
        · obtain ⟨hlt, hn0⟩ := hlt
          have hltI : (i : Int) < (k : Int) := by omega
          have hn0I : (0 : Int) < (n : Int) := by omega
          obtain ⟨o, ho⟩ : ∃ o, o = i * 64 := ⟨_, rfl⟩
          obtain ⟨o2, ho2⟩ : ∃ o2, o2 = (i + 1) * 64 := ⟨_, rfl⟩
          have hI1 : (i : Int) * 64 = (o : Int) := by omega
          have hI2 : ((i : Int) + 1) * 64 = (o2 : Int) := by omega
          have HO := Lib.hid (show o = i * 64 ∧ o2 = (i + 1) * 64 from ⟨ho, ho2⟩)
          have ho3 : o2 ≤ N := by have := HNk.out; omega
          have ho64 : o2 - o = 64 := by omega
          have ho5 : ¬ o2 < o := by omega
          have ho6 : ¬ cN < o2 := by omega
          have ho7 : ¬ cN = o := by omega
          clear ho ho2 hend
          by_cases hc1 : o < a + n
          · by_cases hc2 : a < o2
            · have hc1I : (o : Int) < (a : Int) + (n : Int) := by omega
              have hc2I : (a : Int) < (o2 : Int) := by omega
              obtain ⟨q, hq⟩ : ∃ q : Nat, (2 : Int) + (i : Int) = (q : Int) := ⟨2 + i, by omega⟩
              have HQ := Lib.hid (show q = 2 + i by omega)
              have HHl := Lib.hid (show 128 + a + l.length ≤ s.S.length by have := HS.out; have := HLN.out; have := HNk.out; omega)
              obtain ⟨x, hx⟩ : ∃ x, x = ((splice (logB s k) a l).drop (i * 64)).take 64 := ⟨_, rfl⟩
              have hx2 := hx
              rw [log_sect (k' := min n ((i + 1) * 64 - a)) HS.out.1 (by rw [HLN.out]; have := HNk.out; omega) hlt (by rw [HLN.out])] at hx2
              have HST := Lib.hid (apS_step (s := s) (a := 128 + a) (b := l) (k := min n (i * 64 - a)) (k' := min n ((i + 1) * 64 - a)) (q := q) (x := x) HS.out.2 HHl.out (by have := HO.out; omega) (by rw [HLN.out]; omega) (by have := HQ.out; have := HO.out; omega) (by have := HQ.out; have := HO.out; omega) (by have := HQ.out; have := HO.out; omega) (by rw [hx2, HQ.out]))
              have HXL := Lib.hid (show x.length = 64 by rw [hx, List.length_take, List.length_drop, splice_len _ _ _ (by rw [HLN.out, HLB.out]; exact hnN), HLB.out]; have := HO.out; omega)
              have hGr := HG6.out.chg HCr.out (by have := HGL.out; have := HP.out; simp; omega)
              have HSX := Lib.hid (show Src wr (some ⟨gl, o, none⟩) (bts x) by
                have h := Src.of_whole hGr o 64
                have e : ((bts (splice (logB s k) a l) ++ r).drop o).take 64 = bts x := by
                  rw [List.drop_append_of_le_length (by rw [bts_len, splice_len _ _ _ (by rw [HLN.out, HLB.out]; exact hnN), HLB.out]; omega), List.take_append_of_le_length (by rw [List.length_drop, bts_len, splice_len _ _ _ (by rw [HLN.out, HLB.out]; exact hnN), HLB.out]; omega)]
                  rw [hx, HO.out.1]
                  simp only [bts, List.map_take, List.map_drop]
                rwa [e] at h)
              have hqV : q < (apS s (128 + a) (l.take (min n (i * 64 - a)))).V.length := by rw [apS_V]; have := HQ.out; have := HV6.out; omega
              have HPb := Lib.hid (show gl ≠ p by have := HGL.out; have := HP.out; omega)
              clear hx hx2 hGr
              go_wp2_with fail
              refine (rwrite_yes HT.out q hqV (x := x) HXL.out HSX.out (fun ad e => by injection e with e; subst e; exact HPb.out)).mono ?_
              rintro e w7 ⟨m7, rfl, hT7, hc7⟩
              rw [HST.out] at hT7
              have HT7 := Lib.hid hT7
              have HC7 := Lib.hid (HCr.out.trans hc7)
              clear hT7 hc7 hqV
              go_wp2_with fail
              go_roundw
              case rel => exact ⟨i + 1, by omega, by go_num, ⟨m7, HT7⟩, HC7⟩
              case measure => simp [intOf]; omega
            · have hc1I : (o : Int) < (a : Int) + (n : Int) := by omega
              have hc2I : ¬ (a : Int) < (o2 : Int) := by omega
              have he : Hid (min n ((i + 1) * 64 - a) = min n (i * 64 - a)) := Lib.hid (by have := HO.out; omega)
              go_wp2_with fail
              go_roundw
              case rel => exact ⟨i + 1, by omega, by go_num, ⟨m', by rw [he.out]; exact HT⟩, HCr⟩
              case measure => simp [intOf]; omega
          · have hc1I : ¬ (o : Int) < (a : Int) + (n : Int) := by omega
            have he : Hid (min n ((i + 1) * 64 - a) = min n (i * 64 - a)) := Lib.hid (by have := HO.out; omega)
            go_wp2_with fail
            go_roundw
            case rel => exact ⟨i + 1, by omega, by go_num, ⟨m', by rw [he.out]; exact HT⟩, HCr⟩
            case measure => simp [intOf]; omega
        · have HE := Lib.hid (hend (by omega))
          have HFin : Hid (∃ m', Rfd wr p gL gN gW rL rN m' (apS s (128 + a) l)) := Lib.hid ⟨m', by have h := HT.out; rwa [HE.out, List.take_of_length_le (by rw [HLN.out]; exact Nat.le_refl _)] at h⟩
          have HCe := Lib.hid ((HC6'.out.sub (T' := [p, gN, gW]) (by simp)).trans HCr.out)
          clear hend
          by_cases hik : i < k
          · have hn00 : n = 0 := by omega
            have hikI : (i : Int) < (k : Int) := by omega
            have hn0I : ¬ (0 : Int) < (n : Int) := by omega
            have HYY := HY
            clear hlt
            go_wp2_with fail
            go_ret
            exact .inl ⟨HYY.out, rfl, by rw [Int.toNat_natCast]; exact HFin.out, HCe.out⟩
          · have hikI : ¬ (i : Int) < (k : Int) := by omega
            go_wp2_with fail
            go_ret
            exact .inl ⟨HY.out, rfl, by rw [Int.toNat_natCast]; exact HFin.out, HCe.out⟩
end
end Go.Proofs.YtddjgncdjdjgeaaGreat
namespace Go.Proofs.YtddjgncdjdjgeaaGreat
open Go.RowKit
def RK.WP (k : RK) (gW : Nat) : List Nat := [k.q, k.gL, k.gN, gW, k.g, k.gM, k.gP]
def RComPost (w : World) (k : RK) (gW : Nat) (rL rN : List Value) (s : St) (x : SV) (rP : List Value) (ls : List ChV) (e : Ending) (w' : World) : Prop :=
  (rightB x.P ls = false ∧ e = .returned (.int .i64 1) ∧ Chg [] w w') ∨
  (rightB x.P ls = true ∧ fitsB x.L x.used ls.length = false ∧ e = .returned (.int .i64 24) ∧ Chg [] w w') ∨
  (rightB x.P ls = true ∧ fitsB x.L x.used ls.length = true ∧ e = .returned (.int .i64 0) ∧ (∃ m' us', RSto w' k gW rL rN ⟨comS s x ls, -1, m'⟩ (comV x ls) us' rP) ∧ Chg (k.WP gW) w w')
def rmF (q gL gN gW : Nat) (rL rN : List Value) (s : St) : Fact := fun _ W => ∃ m, Rfd W q gL gN gW rL rN m s
theorem keeps_rm {q gL gN gW : Nat} {rL rN : List Value} {s : St} : Keeps (Chg []) (rmF q gL gN gW rL rN s) := fun _ _ _ ⟨m, h⟩ hc => ⟨m, Rfx.keep h hc⟩
/-- Other numbers of what is used. -/
theorem RSto.used_ {w : World} {k : RK} {gW : Nat} {rL rN : List Value} {d : Dg} {x : SV} {us rP : List Value} (h : RSto w k gW rL rN d x us rP) (u q : Nat) (hu : u ≤ 4096) (hq : q * 18 ≤ u) :
    RSto ((w.setCell ⟨k.g, 6, none⟩ (.int .i64 (u : Int))).setCell ⟨k.g, 7, none⟩ (.int .u32 (q : Int))) k gW rL rN d ⟨x.L, x.P, x.E, x.pages, x.named, u, q⟩ us rP ∧ Chg [k.g] w ((w.setCell ⟨k.g, 6, none⟩ (.int .i64 (u : Int))).setCell ⟨k.g, 7, none⟩ (.int .u32 (q : Int))) := by
  have hr := (h.rec_.set_ 6 (.int .i64 (u : Int))).set_ 7 (.int .u32 (q : Int))
  have hc : Chg [k.g] w ((w.setCell ⟨k.g, 6, none⟩ (.int .i64 (u : Int))).setCell ⟨k.g, 7, none⟩ (.int .u32 (q : Int))) := ((Chg.refl [k.g] w).setCell (p := ⟨k.g, 6, none⟩) (fun _ => by simp) _).setCell (p := ⟨k.g, 7, none⟩) (fun _ => by simp) _
  simp only [List.set_cons_succ, List.set_cons_zero] at hr
  refine ⟨{ dsk := ?_, rec_ := hr, pg := h.pg.chg hc ?_, els := h.els.chg hc (by simp [RK.D]), nm := h.nm.chg hc ?_, ng := h.ng, rt := h.rt, ep := h.ep, pl := h.pl, nl := h.nl, p64 := h.p64, us_ := hu, sq := hq, exl := fun i hi => Nat.lt_of_lt_of_le (h.exl i hi) hc.size }, hc⟩
  · exact Rfx.away h.dsk hc (by simp only [List.mem_singleton]; exact fun e => (Rfx.rec_ h.dsk).ne_ h.rec_ (by decide) e) (by simp only [List.mem_singleton]; exact fun e => (Rfx.last h.dsk).ne_ h.rec_ (by decide) e) (by simp only [List.mem_singleton]; exact fun e => (Rfx.now h.dsk).ne_ h.rec_ (by decide) e) (by simp only [List.mem_singleton]; exact fun e => (Rfx.wait h.dsk).ne_ h.rec_ (by decide) e)
  · simp only [List.mem_singleton]; exact fun e => h.pg.ne_ h.rec_ (by decide) e
  · simp only [List.mem_singleton]; exact fun e => h.nm.ne_ h.rec_ (by decide) e
/-- The disk has turned. -/
theorem RSto.disk_ {w w' : World} {k : RK} {gW : Nat} {rL rN : List Value} {d d' : Dg} {x : SV} {us rP : List Value} (h : RSto w k gW rL rN d x us rP) (hd : Rd w' k.q k.gL k.gN gW rL rN d') (hc : Chg [k.q, k.gN, gW] w w') (hl : d'.s.V.length = d.s.V.length) : RSto w' k gW rL rN d' x us rP := by
  have key : ∀ (b t : Nat) (cs : List Value), Whole w b t cs → t ≠ 71 → t ≠ 5 → (t ≠ 4 ∨ b ≠ gW) → b ∉ [k.q, k.gN, gW] := fun b t cs hW h1 h2 h3 hm => by
    simp only [List.mem_cons, List.not_mem_nil, or_false] at hm
    rcases hm with e | e | e
    · exact hW.ne_ (Rfx.rec_ h.dsk) h1 e
    · exact hW.ne_ (Rfx.now h.dsk) h2 e
    · rcases h3 with h3 | h3
      · exact hW.ne_ (Rfx.wait h.dsk) h3 e
      · exact h3 e
  exact { h with dsk := hd, rec_ := h.rec_.chg hc (key _ _ _ h.rec_ (by decide) (by decide) (.inl (by decide))), pg := h.pg.chg hc (key _ _ _ h.pg (by decide) (by decide) (.inl (by decide))), els := h.els.chg hc (by simp [RK.D]), nm := h.nm.chg hc (key _ _ _ h.nm (by decide) (by decide) (.inr h.ng)), rt := by rw [hl]; exact h.rt, exl := fun i hi => Nat.lt_of_lt_of_le (h.exl i hi) hc.size }
section
variable {w : World} {k : RK} {gW : Nat} {rL rN : List Value} {s : St} {md : Int} {x : SV} {us rP : List Value} {C : Option Addr} {m d : Nat} {ls : List ChV}
set_option maxHeartbeats 16000000 in
set_option maxRecDepth 100000 in
theorem rcommit_any (h : RSto w k gW rL rN ⟨s, -1, md⟩ x us rP) (hC : ChsD (k.D gW) w C ls) (hm : ls.length = m) (hm1 : m ≤ 9223372036854775807) :
    Calls Tryz.prog 26 #[.pointer (some ⟨k.g, 0, none⟩), .slice C m d] w (RComPost w k gW rL rN s x rP ls) := by
  have hrt := rightR_true.1 h.rt
  have HRT := Lib.hid hrt
  have H := Lib.hid h
  have HCH := Lib.hid hC
  have HLM := Lib.hid hm
  have hr := h.rec_
  have HR := Lib.hid hr
  have e2 := hr.cell 2
  have hnum := Lib.hid (show x.L ≤ 64 ∧ x.P ≤ 64 ∧ x.used ≤ 4096 ∧ x.seq * 18 ≤ x.used ∧ x.E < 4294967296 from ⟨by omega, by omega, h.us_, h.sq, h.ep⟩)
  clear hrt h hC hm hr
  go_enter Tryz.func26, Tryz.ntmps26
  go_wp2_with fail
  refine (rchanges_any HCH.out.chs HLM.out hm1 (x.P : Int)).mono ?_
  rintro e w2 ⟨rfl, hc2⟩
  have HC2 := Lib.hid hc2
  have HR2 := Lib.hid (HR.out.keep hc2)
  clear hc2 e2
  by_cases hright : rightB (x.P : Int) ls = true
  rotate_left
  · have hr' : rightB (x.P : Int) ls = false := by simpa using hright
    have HP := Lib.hid (show RComPost w k gW rL rN s x rP ls (.returned (.int .i64 1)) w2 from .inl ⟨hr', rfl, HC2.out⟩)
    rw [hr']
    clear hright hr'
    go_wp2_with fail
    go_ret
    exact HP.out
  have HRI := Lib.hid hright
  rw [hright]
  have hrs : rightS (-1) (x.P : Int) ls = true := by unfold rightB at hright; rw [Bool.and_eq_true] at hright; exact hright.2
  obtain ⟨hl1, hl2⟩ := rs_len hrs (by omega)
  have hm64 : m ≤ 64 := by have := HLM.out; have := hnum.out; omega
  have HL2 := Lib.hid hl2
  have HM64 := Lib.hid hm64
  clear hright hrs hl1 hl2 hm1
  go_upto_region 3 with fail
  have hC0 := (Chg.refl [] w2).drew
  refine wp_flow (by kernel_rfl) plainT plainT_ok (by kernel_rfl) ?_
  refine flow_move_out plainT_ok rfl rfl rfl ?_
  refine flow1 (r := .pointer (some ⟨k.g, 0, none⟩)) plainT_ok rfl (.inn rfl) rfl (fun ev W he e1 => by go_simp) ?_
  refine flow1 (r := .pointer (some ⟨k.g, 1, none⟩)) plainT_ok rfl (.inn rfl) rfl (fun ev W he e1 => by go_simp) ?_
  refine flow1h (r := rootV x.L x.P x.E) plainT_ok rfl (.inn rfl) rfl (fun ev W he hW e1 => by have hx := HR2.out.keep (hC0.new hW); have r1 := hx.cell 1; have r2 := hx.cell 2; have r3 := hx.cell 3; clear hW hx; unfold rootV; go_simp) ?_
  refine flow_move_out plainT_ok rfl rfl rfl ?_
  refine flow1 (r := .pointer (some ⟨k.g, 0, none⟩)) plainT_ok rfl (.inn rfl) rfl (fun ev W he e1 => by go_simp) ?_
  refine flow1 (r := .pointer (some ⟨k.g, 6, none⟩)) plainT_ok rfl (.inn rfl) rfl (fun ev W he e1 => by go_simp) ?_
  refine flow1h (r := .int .i64 (x.used : Int)) plainT_ok rfl (.inn rfl) rfl (fun ev W he hW e1 => by have r6 := (HR2.out.keep (hC0.new hW)).cell 6; clear hW; go_simp) ?_
  refine flow_move_out plainT_ok rfl rfl rfl ?_
  refine flow_lend plainT_ok (.inn rfl) (fun ev W he e1 => by go_simp) rfl ?_
  refine flow_callv (.bool (fitsB x.L x.used m)) (by kernel_rfl) rfl (.cons (.inn rfl) (.cons (.inn rfl) (.cons (.inn rfl) .nil))) (fun W hW => (rfits_any (x.L : Int) x.P x.E x.used m (by have := hnum.out; omega) (by have := hnum.out; omega) (by omega)).mono ?_) ?_
  · rintro e w' ⟨rfl, hc⟩; exact ⟨rfl, hc⟩
  refine flow1 (r := .bool (!fitsB x.L x.used m)) plainT_ok rfl (.inn rfl) rfl (fun ev W he e1 => by go_simp) ?_
  intro vs W hW hF
  have e25 : vs 25 = .bool (!fitsB x.L x.used m) := hF 25 _ rfl rfl
  have hcw : Chg [] w2 W := hC0.new hW
  have HR3 := Lib.hid (HR2.out.keep hcw)
  have HC3 := Lib.hid (HC2.out.new hcw)
  simp only [putAll, Act.put, List.setIfInBounds_toArray, List.set_cons_zero, List.set_cons_succ]
  rw [e25]
  clear hF hW e25 hcw hC0
  obtain ⟨w3, hw3⟩ : ∃ w3 : World, w3 = W := ⟨_, rfl⟩
  rw [← hw3] at HR3 HC3 ⊢
  clear hw3
  by_cases hfit : fitsB x.L x.used m = true
  rotate_left
  · have hr' : fitsB x.L x.used m = false := by simpa using hfit
    have HP := Lib.hid (show RComPost w k gW rL rN s x rP ls (.returned (.int .i64 24)) w3 from .inr (.inl ⟨HRI.out, by rw [HLM.out]; exact hr', rfl, HC3.out⟩))
    rw [hr']
    clear hfit hr'
    go_wp2_with fail
    go_ret
    exact HP.out
  have HFI := Lib.hid hfit
  rw [hfit]
  have HFN := Lib.hid (show x.used + (18 + 66 * m) ≤ x.L * 64 by
    have h1 := HRT.out
    unfold fitsB at hfit
    rw [Bool.and_eq_true, decide_eq_true_iff, decide_eq_true_iff] at hfit
    have h2 := hfit.2
    unfold leftI sizeI needI at h2
    rw [if_neg (by omega), if_neg (by omega)] at h2
    omega)
  have HPG := Lib.hid (show ∀ a ∈ ls, Page a from fun a ha => ⟨by have h2 := HL2.out a ha; have := hnum.out; exact ⟨by omega, by omega, h2.2.2⟩, by have h1 := (HCH.out.chs.ok a ha).bs.len; have := HL2.out a ha; omega⟩)
  clear hfit
  have hbl : (bytesD ls).length = 2 + m * 66 := by rw [back_len HPG.out, HLM.out]
  have hcl : (comL x ls).length = 18 + 66 * m := by unfold comL; rw [frameL_len, hbl]; omega
  have HBL := Lib.hid hbl
  have HCL := Lib.hid hcl
  have HCH3 := Lib.hid (HCH.out.chg HC3.out (fun _ h => by cases h))
  clear hbl hcl
  go_upto_region 5 with fail
  have hC0 := (Chg.refl [] w3).drew
  refine wp_flow (by kernel_rfl) plainT plainT_ok (by kernel_rfl) ?_
  refine flow_move_out plainT_ok rfl rfl rfl ?_
  refine flow1 (r := .pointer (some ⟨k.g, 0, none⟩)) plainT_ok rfl (.inn rfl) rfl (fun ev W he e1 => by go_simp) ?_
  refine flow1 (r := .pointer (some ⟨k.g, 1, none⟩)) plainT_ok rfl (.inn rfl) rfl (fun ev W he e1 => by go_simp) ?_
  refine flow1 (r := .pointer (some ⟨k.g, 3, none⟩)) plainT_ok rfl (.inn rfl) rfl (fun ev W he e1 => by go_simp) ?_
  refine flow1h (r := .int .u32 (x.E : Int)) plainT_ok rfl (.inn rfl) rfl (fun ev W he hW e1 => by have r3 := (HR3.out.keep (hC0.new hW)).cell 3; clear hW; go_simp) ?_
  refine flow_move_out plainT_ok rfl rfl rfl ?_
  refine flow1 (r := .pointer (some ⟨k.g, 0, none⟩)) plainT_ok rfl (.inn rfl) rfl (fun ev W he e1 => by go_simp) ?_
  refine flow1 (r := .pointer (some ⟨k.g, 7, none⟩)) plainT_ok rfl (.inn rfl) rfl (fun ev W he e1 => by go_simp) ?_
  refine flow1h (r := .int .u32 (x.seq : Int)) plainT_ok rfl (.inn rfl) rfl (fun ev W he hW e1 => by have r7 := (HR3.out.keep (hC0.new hW)).cell 7; clear hW; go_simp) ?_
  refine flow_move_out plainT_ok rfl rfl rfl ?_
  refine flow_calld (ownF w3.heap.size 5 (bts (bytesD ls))) (keeps_own _ _ _) (.inr (keeps_own _ _ _)) (by kernel_rfl) rfl (.cons (.inn rfl) .nil) (fun W hW => (rdelta_any (HCH3.out.chs.keep (hC0.new hW)) (fun a ha => (HPG.out a ha).1) HLM.out (by have := HM64.out; omega)).mono ?_) ?_
  · rintro e w' ⟨v, rfl, ho, hc⟩
    exact ⟨v, rfl, hc, by unfold ownF; rw [bts_len]; exact own_more ho (hC0.new hW).size⟩
  refine flow_call (ownF w3.heap.size 5 (bts (comL x ls))) (keeps_own _ _ _) (.inr (keeps_own _ _ _)) (by kernel_rfl) rfl (fun ev W he hW hfs => ?_) ?_
  · obtain ⟨f1, f2, f3, _⟩ := hfs
    have e1 : ev (.tmp 30) = .int .u32 (x.E : Int) := f1
    have e2 : ev (.tmp 34) = .int .u32 (x.seq : Int) := f2
    have f3' : ownF w3.heap.size 5 (bts (bytesD ls)) (ev (.tmp 36)) W := f3
    obtain ⟨Ad, cd, e3, hBd, _⟩ := Bs.of_own (n := (bts (bytesD ls)).length) f3'
    rw [show (List.map ev (#[.tmp 30, .tmp 34, .tmp 36] : Array Operand).toList).toArray = #[ev (.tmp 30), ev (.tmp 34), ev (.tmp 36)] by simp]
    rw [e1, e2, e3]
    have hnu := hnum.out
    refine (rframe_any hBd x.E x.seq hnu.2.2.2.2 (by omega) (by rw [bts_len, HBL.out]; have := HM64.out; omega)).mono ?_
    rintro e w' ⟨v, rfl, ho, hc⟩
    exact ⟨v, rfl, hc, by unfold ownF; rw [bts_len]; exact own_more ho (hC0.new hW).size⟩
  refine flow_assign plainT_ok rfl (keeps_own _ _ _) (.inr (keeps_own _ _ _)) rfl ?_
  intro vs5 W hW hF
  have h5 : ownF w3.heap.size 5 (bts (comL x ls)) (vs5 5) W := hF 5 _ rfl rfl
  have hcw : Chg [] w3 W := hC0.new hW
  unfold ownF at h5
  rw [bts_len, HCL.out] at h5
  obtain ⟨Ab, cb, e5, _, hcb, hsb, hspb⟩ := own_slice h5
  have HBB := Lib.hid (Bs.of_own h5)
  have HAB := Lib.hid (show ∀ ad, Ab = some ad → w3.heap.size ≤ ad.block from fun ad e => (hspb ad e).2.1)
  have HR4 := Lib.hid (HR3.out.keep hcw)
  have HC4 := Lib.hid (HC3.out.new hcw)
  have HCH4 := Lib.hid (HCH3.out.chg hcw (fun _ h => by cases h))
  simp only [putAll, Act.put, List.setIfInBounds_toArray, List.set_cons_zero, List.set_cons_succ]
  rw [e5]
  rw [e5] at HBB
  clear hF hW hcw hC0 h5 e5 hcb hsb hspb
  obtain ⟨w4, hw4⟩ : ∃ w4 : World, w4 = W := ⟨_, rfl⟩
  rw [← hw4] at HBB HR4 HC4 HCH4 ⊢
  clear hw4
  obtain ⟨nb, hnb⟩ : ∃ nb, nb = 18 + 66 * m := ⟨_, rfl⟩
  have HNB := Lib.hid hnb
  rw [← hnb] at HBB ⊢
  clear hnb
  go_upto_region 6 with fail
  have HS4 := Lib.hid (H.out.keep HC4.out)
  have hgT : k.g ∉ [k.q, k.gN, gW] := by
    simp only [List.mem_cons, List.not_mem_nil, or_false]
    rintro (e | e | e)
    · exact H.out.rec_.ne_ (Rfx.rec_ H.out.dsk) (by decide) e
    · exact H.out.rec_.ne_ (Rfx.now H.out.dsk) (by decide) e
    · exact H.out.rec_.ne_ (Rfx.wait H.out.dsk) (by decide) e
  have HGT := Lib.hid hgT
  clear hgT
  have hC0 := (Chg.refl [] w4).drew.sub (T' := [k.q, k.gN, gW]) (fun _ h => by cases h)
  have TOK := dkT_ok (T := [k.q, k.gN, gW]) (hard := [13]) (soft := [13])
  refine wp_flow (by kernel_rfl) (dkT [k.q, k.gN, gW] [13] [13]) TOK (by kernel_rfl) ?_
  refine flow_move_out TOK rfl rfl rfl ?_
  refine flow1 (r := .pointer (some ⟨k.g, 0, none⟩)) TOK rfl (.inn rfl) rfl (fun ev W he e1 => by go_simp) ?_
  refine flow1 (r := .pointer (some ⟨k.g, 0, none⟩)) TOK rfl (.inn rfl) rfl (fun ev W he e1 => by go_simp) ?_
  refine flow1h (r := .pointer (some ⟨k.q, 0, none⟩)) TOK rfl (.inn rfl) rfl (fun ev W he hW e1 => by have r0 := (HR4.out.chg (hC0.trans hW) HGT.out).cell 0; clear hW; go_simp) ?_
  refine flow_move_out TOK rfl rfl rfl ?_
  refine flow1 (r := .pointer (some ⟨k.g, 0, none⟩)) TOK rfl (.inn rfl) rfl (fun ev W he e1 => by go_simp) ?_
  refine flow1 (r := .pointer (some ⟨k.g, 1, none⟩)) TOK rfl (.inn rfl) rfl (fun ev W he e1 => by go_simp) ?_
  refine flow1h (r := rootV x.L x.P x.E) TOK rfl (.inn rfl) rfl (fun ev W he hW e1 => by have hx := HR4.out.chg (hC0.trans hW) HGT.out; have r1 := hx.cell 1; have r2 := hx.cell 2; have r3 := hx.cell 3; clear hW hx; unfold rootV; go_simp) ?_
  refine flow_move_out TOK rfl rfl rfl ?_
  refine flow1 (r := .pointer (some ⟨k.g, 0, none⟩)) TOK rfl (.inn rfl) rfl (fun ev W he e1 => by go_simp) ?_
  refine flow1 (r := .pointer (some ⟨k.g, 6, none⟩)) TOK rfl (.inn rfl) rfl (fun ev W he e1 => by go_simp) ?_
  refine flow1h (r := .int .i64 (x.used : Int)) TOK rfl (.inn rfl) rfl (fun ev W he hW e1 => by have r6 := (HR4.out.chg (hC0.trans hW) HGT.out).cell 6; clear hW; go_simp) ?_
  refine flow_move_out TOK rfl rfl rfl ?_
  refine flow_early (rmF k.q k.gL k.gN gW rL rN (comS s x ls)) keeps_rm (.inl rfl) rfl rfl (fun ev W he hW hfs => ?_) ?_
  · have hc0 : Chg [] w4 W := (Chg.refl [] w4).drew.new (star_chg hW)
    rw [run_call he (by kernel_rfl)]
    obtain ⟨_, f1, f2, f3, f4, _⟩ := hfs
    have e1 : ev (.tmp 41) = .pointer (some ⟨k.q, 0, none⟩) := f1
    have e2 : ev (.tmp 45) = rootV x.L x.P x.E := f2
    have e3 : ev (.tmp 49) = .int .i64 (x.used : Int) := f3
    have e4 : ev (.tmp 50) = .slice Ab nb cb := f4
    rw [show Array.map ev #[.tmp 41, .tmp 45, .tmp 49, .tmp 50] = #[ev (.tmp 41), ev (.tmp 45), ev (.tmp 49), ev (.tmp 50)] by simp]
    unfold Leaves
    simp only
    rw [e1, e2, e3, e4]
    have hnu := hnum.out
    obtain ⟨Ab', cb', e6, hB6, _⟩ := HBB.out
    injection e6 with e6 _ e7
    subst e6 e7
    refine (rappend_any (Rfx.keep HS4.out.dsk hc0) x.L x.P x.E x.used (by omega) (by omega) (hB6.keep hc0)).mono ?_
    · have hcan : canA s x.L x.P x.E x.used (comL x ls).length := by
        refine ⟨H.out.rt, by omega, ?_, ?_⟩
        · have := HFN.out; omega
        · have := HFN.out; have := HCL.out; omega
      rintro e w5 (⟨_, rfl, ⟨m', hd5⟩, hc5⟩ | ⟨hno, _⟩)
      · refine ⟨_, rfl, dk_hard rfl hc5, ?_⟩
        refine ⟨m', ?_⟩
        show Rfd w5 k.q k.gL k.gN gW rL rN m' (comS s x ls)
        unfold comS
        rw [show ((x.used : Int)).toNat = x.used from rfl] at hd5
        exact hd5
      · exact absurd hcan hno
  intro vs6 W hW hF
  have hd : rmF k.q k.gL k.gN gW rL rN (comS s x ls) (vs6 51) W := hF 51 _ rfl rfl
  have hcw := hC0.trans hW
  obtain ⟨m5, hd⟩ := hd
  have HS5 := Lib.hid (show RSto W k gW rL rN ⟨comS s x ls, -1, m5⟩ x us rP from HS4.out.disk_ hd (hcw.sub (by simp)) (apS_V _ _ _))
  have HC5 := Lib.hid (show Chg (k.WP gW) w W from (HC4.out.sub (T' := k.WP gW) (fun _ h => by cases h)).trans (hcw.sub (by simp [RK.WP])))
  have HCH5 := Lib.hid (HCH4.out.chg hcw (by simp [RK.D]))
  simp only [putAll, Act.put, List.setIfInBounds_toArray, List.set_cons_zero, List.set_cons_succ]
  clear hF hW hd hcw TOK hC0 HBB
  obtain ⟨w5, hw5⟩ : ∃ w5 : World, w5 = W := ⟨_, rfl⟩
  rw [← hw5] at HS5 HC5 HCH5 ⊢
  clear hw5
  have HIN := Lib.hid (show InP x.P ls from fun a ha => ⟨by have := (HL2.out a ha).1; omega, (HL2.out a ha).2.1, (HPG.out a ha).2⟩)
  go_wp2_with fail
  refine (rapply_any HS5.out HCH5.out HLM.out (by have := HM64.out; omega) HIN.out).mono ?_
  rintro e w6 ⟨rfl, ⟨v6, hS6⟩, hc6⟩
  have HS6 := Lib.hid hS6
  have HC6 := Lib.hid (HC5.out.trans (hc6.sub (T' := k.WP gW) (by simp [RK.WP])))
  have r6 : w6.cell? ⟨k.g, 6, none⟩ = some (.int .i64 (x.used : Int)) := hS6.rec_.cell 6
  have f6 := hS6.rec_.frozen 6
  have r7 : w6.cell? ⟨k.g, 7, none⟩ = some (.int .u32 (x.seq : Int)) := hS6.rec_.cell 7
  have f7 := hS6.rec_.frozen 7
  have hnu := hnum.out
  have hm6 := HM64.out
  have hfn := HFN.out
  have hnb2 := HNB.out
  obtain ⟨u2, hu2⟩ : ∃ u2, u2 = x.used + nb := ⟨_, rfl⟩
  obtain ⟨q2, hq2⟩ : ∃ q2, q2 = x.seq + 1 := ⟨_, rfl⟩
  have hw1 : IntKind.i64.wrap ((x.used : Int) + (nb : Int)) = (u2 : Int) := by rw [IntKind.wrap_i64]; omega
  have hw2 : IntKind.u32.wrap ((x.seq : Int) + 1) = (q2 : Int) := by rw [IntKind.wrap_u32]; omega
  have HU := Lib.hid (hS6.used_ u2 q2 (by omega) (by omega))
  have HUQ := Lib.hid (And.intro hu2 hq2)
  clear hS6 hc6 hu2 hq2 hnu hm6 hfn hnb2
  go_wp2_with fail
  have HP := Lib.hid (show RComPost w k gW rL rN s x rP ls (.returned (.int .i64 0)) ((w6.setCell ⟨k.g, 6, none⟩ (.int .i64 (u2 : Int))).setCell ⟨k.g, 7, none⟩ (.int .u32 (q2 : Int))) from .inr (.inr ⟨HRI.out, by rw [HLM.out]; exact HFI.out, rfl, ⟨m5, v6, by
    have h1 := HU.out.1
    have h2 := HUQ.out
    have h3 := HNB.out
    have h4 := HLM.out
    show RSto _ k gW rL rN ⟨comS s x ls, -1, m5⟩ ⟨x.L, x.P, x.E, applyL x.pages ls, nameL x.named ls, x.used + (18 + 66 * ls.length), x.seq + 1⟩ v6 rP
    rw [h4, ← h3, ← h2.1, ← h2.2]
    exact h1⟩, HC6.out.trans (HU.out.2.sub (T' := k.WP gW) (by simp [RK.WP]))⟩))
  generalize (w6.setCell ⟨k.g, 6, none⟩ (.int .i64 (u2 : Int))).setCell ⟨k.g, 7, none⟩ (.int .u32 (q2 : Int)) = w7 at HP ⊢
  clear r6 f6 r7 f7
  go_ret
  exact HP.out
end
end Go.Proofs.YtddjgncdjdjgeaaGreat
