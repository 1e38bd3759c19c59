/-
  E: FrmRefScan, RedoRefL, Sto19, RedoRefA, Sto20.
-/
import Derived.Test.YtddjgncdjdjgeaaGreatZE6
import Derived.Test.YtddjgncdjdjgeaaGreatZE14
import Derived.Test.YtddjgncdjdjgeaaGreatZE18
import Derived.Test.YtddjgncdjdjgeaaGreatZE24
import Derived.Test.YtddjgncdjdjgeaaGreatZE32
import Derived.Test.YtddjgncdjdjgeaaGreatZE33
import Derived.Deep.DeepCutAuto
import Derived.Lib.SliceRun
namespace Go.Proofs.YtddjgncdjdjgeaaGreat
open Go.RowKit
section
variable {w : World} {A : Option Addr} {n c : Nat} {l : List UInt8}
set_option maxHeartbeats 1000000 in
set_option maxRecDepth 100000 in
theorem rscan_any (h : Bs w A n c l) (ep : Nat) (hn : n ≤ 2147483648) :
    Calls Tryz.prog 102 #[.slice A n c, .int .u32 (ep : Int)] w (ScanPost w l ep) := by
  obtain ⟨i, hi, hz, hs1, hb⟩ := info_parts info_bytes
  go_enter Tryz.func102, Tryz.ntmps102
  go_wp2_with fail
  go_loopw [6, 7] (fun v a wr => ∃ k : Nat, ∃ m : Nat, ∃ rs vs, At l ep k rs m ∧ a = .int .i64 (m : Int) ∧ wr.ownsRow w.heap.size 30 1 v k vs ∧ Rows w.heap.size wr vs rs ∧ Chg [] w wr) (fun _ a _ => n - (intOf a).toNat)
  case atStart => exact ⟨0, 0, [], [], At.zero l ep, rfl, own_nil _ _ _, Rows.nil _ _, Chg.refl _ _⟩
  case round =>
    obtain ⟨k, m, rs, vs, hat, rfl, hown, hrows, hcr⟩ := hrel
    obtain ⟨Av, cv, rfl, hvl, hvc, _⟩ := own_slice hown
    have hm := hat.top
    have hk := hat.low
    have hl := h.len
    have hcap := h.cap
    rw [hl] at hm
    have hB := (h.keep hcr).cut (lo := m) (hi := n) hm (Nat.le_refl _)
    have hdr : (l.drop m).take (n - m) = l.drop m := List.take_of_length_le (by rw [List.length_drop]; omega)
    rw [hdr] at hB
    have e1 : (k : Int) % 4294967296 = (k : Int) := by omega
    have e2 : ¬ n < m := by omega
    have e3 : ¬ c < n := by omega
    have hnx : readOk (l.drop m) ep k → m + (16 + getI (l.drop m) 8) ≤ n := fun hr => by have := (hat.next hr).top; omega
    clear hdr hl
    rcases Decidable.em (m = c) with hcm | hcm
    · have hok : ¬ readOk (l.drop m) ep k := fun hr => by have := hnx hr; omega
      have hnm : n = m := by omega
      rw [if_pos hcm.symm] at hB
      subst hcm
      subst hnm
      rw [Nat.sub_self] at hB
      clear hnx
      go_wp2_with fail
      refine (rread_any' hB ep k (by omega)).mono ?_
      rintro e w2 (⟨hyes, _⟩ | ⟨_, rfl, hc2⟩)
      · exact absurd hyes hok
      go_wp2_with fail
      go_ret2
      rw [ScanPost, hat.last hok]
      exact ⟨_, vs, rfl, by rw [hat.len]; exact own_keep hown hc2, hrows.keep hc2, hcr.new hc2⟩
    · rw [if_neg (Ne.symm hcm)] at hB
      have e4 : ¬ c = m := Ne.symm hcm
      by_cases hok : readOk (l.drop m) ep k
      · have hnk := hnx hok
        go_wp2_with fail
        refine (rread_any' hB ep k (by omega)).mono ?_
        rintro e w2 (⟨_, v2, rfl, ho2, hc2⟩ | ⟨hno, _⟩)
        rotate_left
        · exact absurd hok hno
        obtain ⟨A2, c2, rfl, _⟩ := own_slice ho2
        have how := own_keep hown hc2
        have hrw := hrows.keep hc2
        have hx1 := Lib.hid (show k + 1 ≤ maxLen by unfold maxLen; omega)
        have hx2 := Lib.hid (show (k + 1) * 24 ≤ 140737488355328 by omega)
        have hx3 := Lib.hid (show w.heap.size ≤ w2.heap.size from Nat.le_trans hcr.size hc2.size)
        go_wp2_with (at_builtin
                     refine wpList_append_src rfl (.tmp 27) (.tmp 29) 66 rfl w.heap.size 30 i _ 24 Tryz.underlying66 hi hz hs1 hb cells_slice (.slice Av k cv) k vs rfl (own_keep how ((Chg.refl _ _).alloc _)) (some ⟨w2.heap.size, 0, none⟩) 1 1 [.slice A2 (recL (l.drop m)).length c2] rfl rfl (Src.of_all (Whole.new w2 30 [.slice A2 (recL (l.drop m)).length c2])) (fun u hu => by simp at hu; rw [hu]; rfl) hx1.out hx2.out (by simp; have := hx3.out; omega) ?_
                     intro v4 w4 ho4 hg4 _)
        have hch4 : Chg [] w w4 := ((hcr.new hc2).alloc _).own (own_keep how ((Chg.refl _ _).alloc _)) (Nat.le_refl _) hg4
        go_roundw
        case rel =>
          refine ⟨k + 1, m + (16 + getI (l.drop m) 8), _, _, hat.next hok, by go_num, ho4, ?_, hch4⟩
          exact ((hrw.keep ((Chg.refl _ _).alloc _)).snoc (own_more (own_keep ho2 ((Chg.refl _ _).alloc _)) hcr.size)).grown (own_keep how ((Chg.refl _ _).alloc _)) hg4
        case measure => simp [intOf]; omega
      · go_wp2_with fail
        refine (rread_any' hB ep k (by omega)).mono ?_
        rintro e w2 (⟨hyes, _⟩ | ⟨_, rfl, hc2⟩)
        · exact absurd hyes hok
        go_wp2_with fail
        go_ret2
        rw [ScanPost, hat.last hok]
        exact ⟨_, vs, rfl, by rw [hat.len]; exact own_keep hown hc2, hrows.keep hc2, hcr.new hc2⟩
end
end Go.Proofs.YtddjgncdjdjgeaaGreat
namespace Go.Proofs.YtddjgncdjdjgeaaGreat
open Go.RowKit
section
variable {w : World} {p gL gN gW : Nat} {rL rN : List Value} {lf m : Int} {s : St}
set_option maxHeartbeats 2000000 in
set_option maxRecDepth 100000 in
theorem rlog_nil (h : Rfx w p gL gN gW rL rN lf m s) (L P E : Int) :
    Calls Tryz.prog 103 #[.pointer (some ⟨p, 0, none⟩), rootV L P E] w fun e w' => BytesPost w (logL s L P E) e w' ∧ (rightR L P E s.V.length = false → e = .returned (.slice none 0 0)) := by
  obtain ⟨iu, hui, huz, hus, hub⟩ := info_parts info_byte
  have hr0 : rootV L P E = .agg #[.int .i64 L, .int .i64 P, .int .u32 E] := rfl
  have H := Lib.hid h
  clear h
  rw [hr0]
  go_enter Tryz.func103, Tryz.ntmps103
  go_wp2_with fail
  have hR := Whole.new w 58 [.int .i64 L, .int .i64 P, .int .u32 E]
  have hc1 : Chg [] w (w.alloc (.cells #[.int .i64 L, .int .i64 P, .int .u32 E] 58)) := (Chg.refl [] w).alloc _
  obtain ⟨g, hg⟩ : ∃ g, g = w.heap.size := ⟨_, rfl⟩
  rw [← hg] at hR ⊢
  generalize w.alloc (.cells #[.int .i64 L, .int .i64 P, .int .u32 E] 58) = w1 at hc1 hR ⊢
  clear hg
  have hld := fun (W : World) (hW : Chg [] w1.drew W) => root_cells (hR.drew.keep hW)
  cases hrr : rightR L P E s.V.length with
  | false =>
    have HF := Lib.hid (show logL s L P E = [] by unfold logL; rw [if_neg (by rw [hrr]; simp)])
    refine wp_flow (by kernel_rfl) plainT plainT_ok (by kernel_rfl) ?_
    refine flow1h (r := rootV L P E) plainT_ok rfl (.out rfl rfl) rfl (fun ev W he hW e1 => by obtain ⟨c0, c1, c2, _, _, _⟩ := hld W hW; go_simp) ?_
    refine flow_move_out plainT_ok rfl rfl rfl ?_
    refine flow_callv (.int .i64 (s.V.length : Int)) (by kernel_rfl) rfl (.cons (.inn rfl) .nil) (fun W hW => (rlen_any ((H.out.keep hc1.drew).keep hW)).mono ?_) ?_
    · rintro e w' ⟨rfl, rfl⟩; exact ⟨rfl, Chg.refl _ _⟩
    refine flow_callv (.bool false) (by kernel_rfl) rfl (.cons (.inn rfl) (.cons (.inn rfl) .nil)) (fun W hW => (rrright_any _ _ _ _).mono ?_) ?_
    · rintro e w' ⟨rfl, hc⟩; exact ⟨by rw [hrr], hc⟩
    refine flow1 (r := .bool true) plainT_ok rfl (.inn rfl) rfl (fun ev W he e1 => by go_simp) ?_
    intro vs W hW hF
    have e13 : vs 13 = .bool true := hF 13 _ rfl rfl
    simp only [putAll, Act.put, List.setIfInBounds_toArray, List.set_cons_zero, List.set_cons_succ, e13]
    have HCW := Lib.hid (hc1.drew.new hW)
    clear hF hld hW
    go_wp2_with fail
    go_ret
    rw [HF.out]
    exact ⟨⟨_, rfl, own_nil _ _ _, HCW.out⟩, fun _ => rfl⟩
  | true =>
    have hrt := rightR_true.1 hrr
    obtain ⟨l, rfl⟩ := Int.eq_ofNat_of_zero_le (show 0 ≤ L by omega)
    have hl1 : 1 ≤ l := by omega
    have hl64 : l ≤ 64 := by omega
    have hlV : 2 + l ≤ s.V.length := by omega
    have HF := Lib.hid (show logL s l P E = logB s l by unfold logL; rw [if_pos hrr, Int.toNat_natCast])
    have HS := Lib.hid H.out.lenS
    refine wp_flow (by kernel_rfl) plainT plainT_ok (by kernel_rfl) ?_
    refine flow1h (r := rootV l P E) plainT_ok rfl (.out rfl rfl) rfl (fun ev W he hW e1 => by obtain ⟨c0, c1, c2, _, _, _⟩ := hld W hW; go_simp) ?_
    refine flow_move_out plainT_ok rfl rfl rfl ?_
    refine flow_callv (.int .i64 (s.V.length : Int)) (by kernel_rfl) rfl (.cons (.inn rfl) .nil) (fun W hW => (rlen_any ((H.out.keep hc1.drew).keep hW)).mono ?_) ?_
    · rintro e w' ⟨rfl, rfl⟩; exact ⟨rfl, Chg.refl _ _⟩
    refine flow_callv (.bool true) (by kernel_rfl) rfl (.cons (.inn rfl) (.cons (.inn rfl) .nil)) (fun W hW => (rrright_any _ _ _ _).mono ?_) ?_
    · rintro e w' ⟨rfl, hc⟩; exact ⟨by rw [hrr], hc⟩
    refine flow1 (r := .bool false) plainT_ok rfl (.inn rfl) rfl (fun ev W he e1 => by go_simp) ?_
    intro vs W hW hF
    have e13 : vs 13 = .bool false := hF 13 _ rfl rfl
    simp only [putAll, Act.put, List.setIfInBounds_toArray, List.set_cons_zero, List.set_cons_succ, e13]
    have HRW := Lib.hid (hR.drew.keep hW)
    have HCW := Lib.hid (hc1.drew.new hW)
    clear hF hld hW hR hc1 hrt
    go_wp2_with fail
    go_loopw [5, 6] (fun v i wr => ∃ k : Nat, k ≤ l ∧ (∃ q : Nat, i = .int .i64 (q : Int) ∧ Hid (q = 2 + k)) ∧ (∃ n, Hid (n = k * 64) ∧ wr.ownsRow W.heap.size 5 1 v n (bts (logB s k))) ∧ Hid (Chg [] W wr)) (fun _ i _ => 2 + l - (intOf i).toNat)
    case atStart => exact ⟨0, by omega, ⟨2, rfl, Lib.hid rfl⟩, ⟨0, Lib.hid rfl, by unfold logB; simpa [bts] using own_nil _ _ _⟩, Lib.hid (Chg.refl _ _)⟩
    case round =>
      obtain ⟨k, hk, ⟨q, rfl, HQ⟩, ⟨n, Hn, hown⟩, HCr⟩ := hrel
      obtain ⟨Av, cv, rfl, hvl, hvc, _⟩ := own_slice hown
      have HCa := Lib.hid (HCW.out.new HCr.out)
      obtain ⟨c0, c1, c2, _, _, _⟩ := root_cells (HRW.out.keep HCr.out)
      by_cases hlt : k < l
      · have hkI : (q : Int) < 2 + (l : Int) := by have := HQ.out; omega
        have hqV : q < s.V.length := by have := HQ.out; omega
        have hq66 : q ≤ 66 := by have := HQ.out; omega
        go_wp2_with fail
        refine (rread_own (H.out.keep HCa.out) q hqV).mono ?_
        rintro e w5 ⟨v2, rfl, ho2, hc5⟩
        have hl5 : ((s.S.drop (q * 64)).take 64).length = 64 := by rw [List.length_take, List.length_drop, HS.out]; omega
        have HNX := Lib.hid (show logB s (k + 1) = logB s k ++ (s.S.drop (q * 64)).take 64 by rw [logB_next, HQ.out])
        obtain ⟨A2, c2', rfl, _, _, hs2, _⟩ := own_slice ho2
        have HS5 := Lib.hid hs2
        have hx1 := Lib.hid (show (bts ((s.S.drop (q * 64)).take 64)).length = 64 by rw [bts_len, hl5])
        have how := own_keep hown hc5
        have hn4 : n ≤ 4096 := by rw [Hn.out]; omega
        have hx2 := Lib.hid (show n + 64 ≤ maxLen by unfold maxLen; omega)
        have hx3 := Lib.hid (show (n + 64) * 1 ≤ 140737488355328 by omega)
        have hx4 := Lib.hid (show W.heap.size ≤ w5.heap.size from Nat.le_trans HCr.out.size hc5.size)
        have HC5 := Lib.hid (HCr.out.new hc5)
        have h1 := bts_one ((s.S.drop (q * 64)).take 64)
        generalize (s.S.drop (q * 64)).take 64 = Z at HNX HS5 hx1 h1
        clear hl5 hc5 hown hs2 ho2 c0 c1 c2
        go_wp2_with (at_builtin
                     refine wpList_append_src rfl (.tmp 27) (.tmp 28) 30 rfl W.heap.size 5 iu _ 1 Tryz.underlying30 hui huz hus hub cells_u8 (.slice Av n cv) n (bts (logB s k)) rfl how A2 64 c2' (bts Z) rfl hx1.out HS5.out h1 hx2.out hx3.out hx4.out ?_
                     intro v6 w6 ho6 hg6 _)
        have hc6 := HC5.out.own how (Nat.le_refl _) hg6
        go_roundw
        case rel => exact ⟨k + 1, by omega, ⟨q + 1, by go_num, Lib.hid (by have := HQ.out; omega)⟩, ⟨n + 64, Lib.hid (by rw [Hn.out]; omega), by rw [HNX.out, bts_app]; exact ho6⟩, Lib.hid hc6⟩
        case measure => have := HQ.out; simp [intOf]; omega
      · have hkI : ¬ (q : Int) < 2 + (l : Int) := by have := HQ.out; omega
        have HK := Lib.hid (show k = l by omega)
        have HLen := Lib.hid (show (logB s l).length = n by rw [logB_len (by rw [HS.out]; omega), Hn.out, HK.out])
        clear hlt hk
        go_wp2_with fail
        go_ret
        rw [HF.out]
        refine ⟨_, rfl, ?_, HCa.out⟩
        rw [HLen.out, ← HK.out]
        exact own_more hown HCW.out.size
theorem rlog_any (h : Rfx w p gL gN gW rL rN lf m s) (L P E : Int) :
    Calls Tryz.prog 103 #[.pointer (some ⟨p, 0, none⟩), rootV L P E] w (BytesPost w (logL s L P E)) := (rlog_nil h L P E).mono fun _ _ h => h.1
end
end Go.Proofs.YtddjgncdjdjgeaaGreat
namespace Go.Proofs.YtddjgncdjdjgeaaGreat
open Go.RowKit
/-- The pages' bytes behind the first i records. -/
def stA (H : SV) (ms : List (List ChV)) (i : Nat) : List UInt8 := ((ms.take i).foldl turnV H).pages.flatten
def stsL (H : SV) (ms : List (List ChV)) : List (List UInt8) := (List.range (ms.length + 1)).map (stA H ms)
/-- Texts as cells hold them. -/
def sts (l : List (List UInt8)) : List Value := l.map fun x => .string (strOf x)
/-- A row of our own: its block is told. -/
theorem own_blk_lt {w : World} {B n : Nat} {e : TypeId} {v : Value} {xs : List Value} (h : w.ownsRow B e 1 v n xs) : ∀ g, v.ownBlock = some g → B ≤ g ∧ g < w.heap.size := by
  intro g hg
  rcases h.2 with ⟨rfl, _⟩ | ⟨q, cap, cur, rfl, hb, hh, _⟩
  · simp [Value.ownBlock] at hg
  · simp [Value.ownBlock] at hg
    subst hg
    refine ⟨hb, ?_⟩
    rcases Nat.lt_or_ge q w.heap.size with hlt | hge
    · exact hlt
    · rw [Array.getElem?_eq_none hge] at hh; cases hh
end Go.Proofs.YtddjgncdjdjgeaaGreat
namespace Go.Proofs.YtddjgncdjdjgeaaGreat
open Go.RowKit
/-- The log's sector i, behind b was copied in. -/
theorem log_sect {s : St} {L a i k' : Nat} {b : List UInt8} (hS : 128 + L * 64 ≤ s.S.length) (hab : a + b.length ≤ L * 64) (hi : i < L) (hk : k' = min b.length ((i + 1) * 64 - a)) :
    ((splice (logB s L) a b).drop (i * 64)).take 64 = ((splice s.S (128 + a) (b.take k')).drop ((2 + i) * 64)).take 64 := by
  have hl := logB_len (s := s) hS
  have lk : (b.take k').length = k' := by rw [List.length_take]; omega
  apply List.ext_getElem?
  intro j
  rcases Nat.lt_or_ge j 64 with hj | hj
  · rw [List.getElem?_take, List.getElem?_take, if_pos hj, if_pos hj, List.getElem?_drop, List.getElem?_drop, splice_get _ _ _ _ (by rw [hl]; exact hab), splice_get _ _ _ _ (by rw [lk]; omega), lk]
    by_cases h1 : a ≤ i * 64 + j ∧ i * 64 + j < a + b.length
    · rw [if_pos h1, if_pos (by omega), List.getElem?_take, if_pos (by omega)]
      congr 1; omega
    · rw [if_neg h1, if_neg (by omega)]
      unfold logB
      rw [List.getElem?_take, if_pos (by omega), List.getElem?_drop]
      congr 1; omega
  · rw [List.getElem?_take, List.getElem?_take, if_neg (by omega), if_neg (by omega)]
/-- What the reference's Append does. -/
def RAppPost (w : World) (p gL gN gW : Nat) (rL rN : List Value) (s : St) (L P E at_ : Int) (l : List UInt8) (e : Ending) (w' : World) : Prop :=
  (canA s L P E at_ l.length ∧ e = .returned (.bool true) ∧ (∃ m', Rfd w' p gL gN gW rL rN m' (apS s (128 + at_.toNat) l)) ∧ Chg [p, gN, gW] w w') ∨
  (¬ canA s L P E at_ l.length ∧ e = .returned (.bool false) ∧ Chg [] w w')
section
variable {w : World} {p gL gN gW : Nat} {rL rN : List Value} {m : Int} {s : St}
set_option maxHeartbeats 4000000 in
set_option maxRecDepth 100000 in
theorem rappend_any (h : Rfd w p gL gN gW rL rN m s) (L P E at_ : Int) (hL0 : -9223372036854775808 ≤ at_) (hL1 : at_ ≤ 9223372036854775807) {A : Option Addr} {n c : Nat} {l : List UInt8} (hx : Bs w A n c l) :
    Calls Tryz.prog 77 #[.pointer (some ⟨p, 0, none⟩), rootV L P E, .int .i64 at_, .slice A n c] w (RAppPost w p gL gN gW rL rN s L P E at_ l) := by
  have hr0 : rootV L P E = .agg #[.int .i64 L, .int .i64 P, .int .u32 E] := rfl
  have H := Lib.hid h
  have HX := Lib.hid hx
  have hln := hx.len
  have hnm := hx.le
  clear h hx
  rw [hr0]
  have hnl := fun W a n c => Lib.run_eql_slice_nil (P := Tryz.prog) W 30 5 a n c 0 0 Tryz.underlying30
  go_enter Tryz.func77, Tryz.ntmps77
  go_wp2_with fail
  have hR := Whole.new w 58 [.int .i64 L, .int .i64 P, .int .u32 E]
  have hc1 : Chg [] w (w.alloc (.cells #[.int .i64 L, .int .i64 P, .int .u32 E] 58)) := (Chg.refl [] w).alloc _
  obtain ⟨g, hg⟩ : ∃ g, g = w.heap.size := ⟨_, rfl⟩
  rw [← hg] at hR ⊢
  generalize w.alloc (.cells #[.int .i64 L, .int .i64 P, .int .u32 E] 58) = w1 at hc1 hR ⊢
  have HGg := Lib.hid (show g ≠ p ∧ g ≠ gN ∧ g ≠ gW ∧ w.heap.size ≤ g by have h1 := H.out.rec_.lt; have h2 := H.out.now.lt; have h3 := H.out.wait.lt; omega)
  clear hg
  obtain ⟨c0, c1, c2, _, _, _⟩ := root_cells hR
  go_wp2_with fail
  refine (rlog_nil (H.out.keep hc1) L P E).mono ?_
  rintro e w2 ⟨⟨v2, rfl, ho2, hc2⟩, hnil⟩
  have HC2 := Lib.hid (hc1.new hc2)
  have HR2 := Lib.hid (hR.keep hc2)
  have HLN := Lib.hid hln
  have HS1 := Lib.hid hc1.size
  clear hc1 hc2 hR c0 c1 c2 hln
  cases hrr : rightR L P E s.V.length with
  | false =>
    have HF := Lib.hid (show ¬ canA s L P E at_ l.length from fun h => by have := h.1; rw [hrr] at this; cases this)
    obtain ⟨rfl⟩ : v2 = .slice none 0 0 := by have := hnil hrr; injection this
    clear hnil ho2
    go_wp2_with fail
    go_ret
    exact .inr ⟨HF.out, rfl, HC2.out⟩
  | true =>
    have hrt := rightR_true.1 hrr
    obtain ⟨k, rfl⟩ := Int.eq_ofNat_of_zero_le (show 0 ≤ L by omega)
    have hl1 : 1 ≤ k := by omega
    have hl64 : k ≤ 64 := by omega
    have hlV := Lib.hid (show 2 + (k : Int) + P ≤ s.V.length ∧ 1 ≤ P from ⟨hrt.2.2.2.2.1, hrt.2.2.1⟩)
    have HS := Lib.hid (show 128 + k * 64 ≤ s.S.length ∧ s.S.length = 64 * s.V.length by have := H.out.lenS; have := hlV.out; omega)
    have hlog : logL s k P E = logB s k := by unfold logL; rw [if_pos hrr, Int.toNat_natCast]
    obtain ⟨N, hN, hN4, hN0⟩ : ∃ N, N = k * 64 ∧ N ≤ 4096 ∧ 0 < N := ⟨_, rfl, by omega, by omega⟩
    have hlen : (logB s k).length = N := by rw [logB_len HS.out.1, hN]
    rw [hlog, hlen] at ho2
    obtain ⟨gl, r, rfl, hgl, hW2, hcap⟩ := own_whole ho2 hN0
    obtain ⟨cN, hcN⟩ : ∃ c, c = N + r.length := ⟨_, rfl⟩
    rw [← hcN] at hcap ⊢
    have hcN1 : N ≤ cN := by omega
    have HCA := Lib.hid (show canA s k P E at_ l.length ↔ (0 ≤ at_ ∧ at_ ≤ (N : Int) ∧ (n : Int) ≤ (N : Int) - at_) by unfold canA; rw [hrr, HLN.out, show (k : Int) * 64 = (N : Int) by omega]; simp)
    have HNk := Lib.hid hN
    have HLB := Lib.hid hlen
    have HGL := Lib.hid (show w.heap.size ≤ gl by have := HS1.out; omega)
    have HW2 := Lib.hid hW2
    clear hnil hrt hlog hN hlen ho2 hcN hW2 hgl
    unfold maxLen at hcap
    by_cases ha0 : at_ < 0
    · have HF := Lib.hid (show ¬ canA s k P E at_ l.length from fun h => by have := (HCA.out.1 h).1; omega)
      go_wp2_with fail
      go_ret
      exact .inr ⟨HF.out, rfl, HC2.out⟩
    obtain ⟨a, rfl⟩ := Int.eq_ofNat_of_zero_le (show 0 ≤ at_ by omega)
    have ha0' : ¬ ((a : Int) < 0) := ha0
    clear ha0 hL0
    by_cases ha1 : (N : Int) < (a : Int)
    · have HF := Lib.hid (show ¬ canA s k P E a l.length from fun h => by have := (HCA.out.1 h).2.1; omega)
      go_wp2_with fail
      go_ret
      exact .inr ⟨HF.out, rfl, HC2.out⟩
    have haN : a ≤ N := by omega
    by_cases hn1 : (N : Int) - (a : Int) < (n : Int)
    · have HF := Lib.hid (show ¬ canA s k P E a l.length from fun h => by have := (HCA.out.1 h).2.2; omega)
      go_wp2_with fail
      go_ret
      exact .inr ⟨HF.out, rfl, HC2.out⟩
    have hnN : a + n ≤ N := by omega
    have HY := Lib.hid (HCA.out.2 ⟨by omega, by omega, by omega⟩)
    clear HCA
    go_upto_region 4 with fail
    have HNL := Lib.hid hnl
    clear hnl
    have hcsl := Lib.hid (show (bts l).length = Nat.min n (N - a) by rw [bts_len, HLN.out]; show n = min _ _; omega)
    have hfit : a + (bts l).length ≤ (bts (logB s k) ++ r).length := by rw [List.length_append, bts_len, bts_len, HLN.out, HLB.out]; omega
    have hb1 := bts_one l
    have hsr := (HX.out.keep HC2.out).src
    have hspl := Lib.hid (show splice (bts (logB s k) ++ r) a (bts l) = bts (splice (logB s k) a l) ++ r by rw [splice_app _ _ _ _ (by rw [bts_len, bts_len, HLN.out, HLB.out]; omega), bts_splice])
    have hW2 := HW2.out
    have hcNa : ¬ cN < a := by omega
    have hNa : ¬ N < a := by omega
    go_cut [9] (fun s9 wx => s9 = .slice (some ⟨gl, 0, none⟩) N cN ∧ Hid (Whole wx gl 5 (bts (splice (logB s k) a l) ++ r)) ∧ Hid (Chg [gl] w2 wx))
    case first =>
      by_cases hac : cN = a
      · have hz : ¬ 0 < (bts l).length := by rw [bts_len, HLN.out]; omega
        go_wp2_with (with_reducible refine wpList_copy_chg rfl (.tmp 37) (.tmp 38) _ _ rfl 5 Tryz.underlying30 size_u8 _ A (N - a) _ n c rfl rfl gl a 5 (bts (logB s k) ++ r) (bts l) hW2 hcsl.out (fun h => absurd h hz) hsr hfit hb1 ?_
                     intro w6 HG6 HC6)
        rw [hspl.out] at HG6
        go_meet
        exact ⟨rfl, Lib.hid HG6, Lib.hid HC6⟩
      · go_wp2_with (with_reducible refine wpList_copy_chg rfl (.tmp 37) (.tmp 38) _ _ rfl 5 Tryz.underlying30 size_u8 (some ⟨gl, a, none⟩) A (N - a) (cN - a) n c rfl rfl gl a 5 (bts (logB s k) ++ r) (bts l) hW2 hcsl.out (fun _ => rfl) hsr hfit hb1 ?_
                     intro w6 HG6 HC6)
        rw [hspl.out] at HG6
        go_meet
        exact ⟨rfl, Lib.hid HG6, Lib.hid HC6⟩
    case rest =>
      obtain ⟨rfl, HG6, HC6⟩ := hcut
      obtain ⟨w6, rfl⟩ : ∃ w6 : World, w6 = wc := ⟨_, rfl⟩
      have HC6' := Lib.hid (show Chg [] w w6 from HC2.out.then_ HC6.out (fun i hi hlt => by
        simp only [List.mem_cons, List.not_mem_nil, or_false] at hi
        have := HGL.out
        omega))
      have HNg := Lib.hid (show g ≠ gl from HR2.out.ne_ HW2.out (by decide))
      have HR6 := Lib.hid (HR2.out.chg HC6.out (by simp; exact HNg.out))
      have HP := Lib.hid (show p < w.heap.size ∧ gN < w.heap.size ∧ gW < w.heap.size from ⟨H.out.rec_.lt, H.out.now.lt, H.out.wait.lt⟩)
      have h0 : apS s (128 + a) (l.take (min n (0 * 64 - a))) = s := by rw [show min n (0 * 64 - a) = 0 by omega, List.take_zero]; exact apS_nil s _ (by have := HS.out; have := HNk.out; omega)
      have HT0 : Hid (Rfd w6 p gL gN gW rL rN m (apS s (128 + a) (l.take (min n (0 * 64 - a))))) := Lib.hid (by rw [h0]; exact H.out.keep HC6'.out)
      have HV6 := Lib.hid (show 2 + k ≤ s.V.length by have := hlV.out; omega)
      clear h0 hcsl hfit hb1 hsr hspl hW2 hcNa ha1 hn1
      go_wp2_with fail
      go_loopw [10] (fun v wr => ∃ i : Nat, i ≤ k ∧ v = .int .i64 (i : Int) ∧ (∃ m', Hid (Rfd wr p gL gN gW rL rN m' (apS s (128 + a) (l.take (min n (i * 64 - a)))))) ∧ Hid (Chg [p, gN, gW] w6 wr)) (fun v _ => k - (intOf v).toNat)
      case atStart => exact ⟨0, Nat.zero_le _, rfl, ⟨m, HT0⟩, Lib.hid (Chg.refl _ _)⟩
      case round =>
        obtain ⟨i, hi, rfl, ⟨m', HT⟩, HCr⟩ := hrel
        obtain ⟨d0, d1, d2, _, _, _⟩ := root_cells (HR6.out.chg HCr.out (by have := HGg.out; simp; omega))
        have hend : (i = k ∨ n = 0) → min n (i * 64 - a) = n := fun h => by have := HNk.out; rcases h with h | h <;> subst h <;> omega
        by_cases hlt : i < k ∧ 0 < n
        · obtain ⟨hlt, hn0⟩ := hlt
          have hltI : (i : Int) < (k : Int) := by omega
          have hn0I : (0 : Int) < (n : Int) := by omega
          obtain ⟨o, ho⟩ : ∃ o, o = i * 64 := ⟨_, rfl⟩
          obtain ⟨o2, ho2⟩ : ∃ o2, o2 = (i + 1) * 64 := ⟨_, rfl⟩
          have hI1 : (i : Int) * 64 = (o : Int) := by omega
          have hI2 : ((i : Int) + 1) * 64 = (o2 : Int) := by omega
          have HO := Lib.hid (show o = i * 64 ∧ o2 = (i + 1) * 64 from ⟨ho, ho2⟩)
          have ho3 : o2 ≤ N := by have := HNk.out; omega
          have ho64 : o2 - o = 64 := by omega
          have ho5 : ¬ o2 < o := by omega
          have ho6 : ¬ cN < o2 := by omega
          have ho7 : ¬ cN = o := by omega
          clear ho ho2 hend
          by_cases hc1 : o < a + n
          · by_cases hc2 : a < o2
            · have hc1I : (o : Int) < (a : Int) + (n : Int) := by omega
              have hc2I : (a : Int) < (o2 : Int) := by omega
              obtain ⟨q, hq⟩ : ∃ q : Nat, (2 : Int) + (i : Int) = (q : Int) := ⟨2 + i, by omega⟩
              have HQ := Lib.hid (show q = 2 + i by omega)
              have HHl := Lib.hid (show 128 + a + l.length ≤ s.S.length by have := HS.out; have := HLN.out; have := HNk.out; omega)
              obtain ⟨x, hx⟩ : ∃ x, x = ((splice (logB s k) a l).drop (i * 64)).take 64 := ⟨_, rfl⟩
              have hx2 := hx
              rw [log_sect (k' := min n ((i + 1) * 64 - a)) HS.out.1 (by rw [HLN.out]; have := HNk.out; omega) hlt (by rw [HLN.out])] at hx2
              have HST := Lib.hid (apS_step (s := s) (a := 128 + a) (b := l) (k := min n (i * 64 - a)) (k' := min n ((i + 1) * 64 - a)) (q := q) (x := x) HS.out.2 HHl.out (by have := HO.out; omega) (by rw [HLN.out]; omega) (by have := HQ.out; have := HO.out; omega) (by have := HQ.out; have := HO.out; omega) (by have := HQ.out; have := HO.out; omega) (by rw [hx2, HQ.out]))
              have HXL := Lib.hid (show x.length = 64 by rw [hx, List.length_take, List.length_drop, splice_len _ _ _ (by rw [HLN.out, HLB.out]; exact hnN), HLB.out]; have := HO.out; omega)
              have hGr := HG6.out.chg HCr.out (by have := HGL.out; have := HP.out; simp; omega)
              have HSX := Lib.hid (show Src wr (some ⟨gl, o, none⟩) (bts x) by
                have h := Src.of_whole hGr o 64
                have e : ((bts (splice (logB s k) a l) ++ r).drop o).take 64 = bts x := by
                  rw [List.drop_append_of_le_length (by rw [bts_len, splice_len _ _ _ (by rw [HLN.out, HLB.out]; exact hnN), HLB.out]; omega), List.take_append_of_le_length (by rw [List.length_drop, bts_len, splice_len _ _ _ (by rw [HLN.out, HLB.out]; exact hnN), HLB.out]; omega)]
                  rw [hx, HO.out.1]
                  simp only [bts, List.map_take, List.map_drop]
                rwa [e] at h)
              have hqV : q < (apS s (128 + a) (l.take (min n (i * 64 - a)))).V.length := by rw [apS_V]; have := HQ.out; have := HV6.out; omega
              have HPb := Lib.hid (show gl ≠ p by have := HGL.out; have := HP.out; omega)
              clear hx hx2 hGr
              go_wp2_with fail
              refine (rwrite_yes HT.out q hqV (x := x) HXL.out HSX.out (fun ad e => by injection e with e; subst e; exact HPb.out)).mono ?_
              rintro e w7 ⟨m7, rfl, hT7, hc7⟩
              rw [HST.out] at hT7
              have HT7 := Lib.hid hT7
              have HC7 := Lib.hid (HCr.out.trans hc7)
              clear hT7 hc7 hqV
              go_wp2_with fail
              go_roundw
              case rel => exact ⟨i + 1, by omega, by go_num, ⟨m7, HT7⟩, HC7⟩
              case measure => simp [intOf]; omega
            · have hc1I : (o : Int) < (a : Int) + (n : Int) := by omega
              have hc2I : ¬ (a : Int) < (o2 : Int) := by omega
              have he : Hid (min n ((i + 1) * 64 - a) = min n (i * 64 - a)) := Lib.hid (by have := HO.out; omega)
              go_wp2_with fail
              go_roundw
              case rel => exact ⟨i + 1, by omega, by go_num, ⟨m', by rw [he.out]; exact HT⟩, HCr⟩
              case measure => simp [intOf]; omega
          · have hc1I : ¬ (o : Int) < (a : Int) + (n : Int) := by omega
            have he : Hid (min n ((i + 1) * 64 - a) = min n (i * 64 - a)) := Lib.hid (by have := HO.out; omega)
            go_wp2_with fail
            go_roundw
            case rel => exact ⟨i + 1, by omega, by go_num, ⟨m', by rw [he.out]; exact HT⟩, HCr⟩
            case measure => simp [intOf]; omega
        · have HE := Lib.hid (hend (by omega))
          have HFin : Hid (∃ m', Rfd wr p gL gN gW rL rN m' (apS s (128 + a) l)) := Lib.hid ⟨m', by have h := HT.out; rwa [HE.out, List.take_of_length_le (by rw [HLN.out]; exact Nat.le_refl _)] at h⟩
          have HCe := Lib.hid ((HC6'.out.sub (T' := [p, gN, gW]) (by simp)).trans HCr.out)
          clear hend
          by_cases hik : i < k
          · have hn00 : n = 0 := by omega
            have hikI : (i : Int) < (k : Int) := by omega
            have hn0I : ¬ (0 : Int) < (n : Int) := by omega
            have HYY := HY
            clear hlt
            go_wp2_with fail
            go_ret
            exact .inl ⟨HYY.out, rfl, by rw [Int.toNat_natCast]; exact HFin.out, HCe.out⟩
          · have hikI : ¬ (i : Int) < (k : Int) := by omega
            go_wp2_with fail
            go_ret
            exact .inl ⟨HY.out, rfl, by rw [Int.toNat_natCast]; exact HFin.out, HCe.out⟩
end
end Go.Proofs.YtddjgncdjdjgeaaGreat
namespace Go.Proofs.YtddjgncdjdjgeaaGreat
open Go.RowKit
def UB (E k j u : Nat) (ms : List (List ChV)) : Prop := k < j → (frsL E 0 (ms.take k)).length = u
theorem Rows.chg {B : Nat} {w w' : World} {vs : List Value} {rs : List (List UInt8)} {T : List Nat} (h : Rows B w vs rs) (hc : Chg T w w') (hT : ∀ i ∈ T, i < B ∨ w.heap.size ≤ i) : Rows B w' vs rs := ⟨h.1, fun i v l hv hl => rown_chg (h.2 i v l hv hl) hc hT⟩
theorem Rows.lists {B : Nat} {w : World} {vs : List Value} {rs : List (List UInt8)} (h : Rows B w vs rs) : Lists w vs rs := ⟨h.1, fun i v X hv hX => by
  obtain ⟨A, c, e, hB, _⟩ := Bs.of_own (h.2 i v X hv hX)
  exact ⟨A, _, c, e, hB⟩⟩
theorem grown_T {w w' : World} {b : Option Nat} {B : Nat} (hg : w.grownBy w' b) (hb : ∀ q, b = some q → B ≤ q) : ∃ T, Chg T w w' ∧ ∀ i ∈ T, B ≤ i := by
  cases b with
  | none => exact ⟨[], Chg.of_grown hg (fun q h _ => by cases h), fun i h => by cases h⟩
  | some q => exact ⟨[q], Chg.of_grown hg (fun q' h _ => by injection h with h; subst h; exact List.mem_cons_self), fun i h => by simp only [List.mem_singleton] at h; subst h; exact hb i rfl⟩
theorem Tp.chg {T : List Nat} {w w' : World} {p n c a : Nat} {A : Option Addr} {l : List Int} (h : Tp w p A n c l a) (hc : Chg T w w') (hp : p ∉ T) (hA : 0 < n → ∀ ad, A = some ad → ad.block ∉ T) : Tp w' p A n c l a :=
  { h with rec_ := h.rec_.chg hc hp, src := h.src.chg hc (fun h0 ad e => hA (by rw [nms_len, h.len] at h0; exact h0) ad e) }
/-- A tape, a row of texts, a row of rows of bytes. -/
structure Mt (w wr : World) (B pt : Nat) (A : Option Addr) (n c : Nat) (xs : List Int) (a : Nat) (vs : Value) (ns : Nat) (ts : List (List UInt8)) (vw : Value) (nw : Nat) (us : List Value) (rs : List (List UInt8)) : Prop where
  tp : Tp wr pt A n c xs a
  rs_ : wr.ownsRow B 9 1 vs ns (sts ts)
  rw_ : wr.ownsRow B 30 1 vw nw us
  rows : Rows B wr us rs
  chg : Chg [] w wr
  low : w.heap.size ≤ B
  siz : B ≤ wr.heap.size
  pl : pt < B
  al : 0 < n → ∀ ad, A = some ad → ad.block < w.heap.size
section
variable {w wr wx : World} {B pt n c a ns nw : Nat} {A : Option Addr} {xs : List Int} {vs vw : Value} {ts rs : List (List UInt8)} {us : List Value}
theorem Mt.on {T : List Nat} (h : Mt w wr B pt A n c xs a vs ns ts vw nw us rs) (hc : Chg T wr wx) (hT : ∀ i ∈ T, i < B ∧ i ≠ pt ∧ w.heap.size ≤ i) : Mt w wx B pt A n c xs a vs ns ts vw nw us rs := by
  have h1 : ∀ i ∈ T, i < B ∨ wr.heap.size ≤ i := fun i hi => .inl (hT i hi).1
  exact { tp := h.tp.chg hc (fun hm => (hT _ hm).2.1 rfl) (fun h0 ad e hm => by have := h.al h0 ad e; have := (hT _ hm).2.2; omega), rs_ := rown_chg h.rs_ hc h1, rw_ := rown_chg h.rw_ hc h1, rows := h.rows.chg hc h1, chg := h.chg.then_ hc (fun i hi hw => by have := (hT i hi).2.2; omega), low := h.low, siz := Nat.le_trans h.siz hc.size, pl := h.pl, al := h.al }
theorem Mt.keep (h : Mt w wr B pt A n c xs a vs ns ts vw nw us rs) (hc : Chg [] wr wx) : Mt w wx B pt A n c xs a vs ns ts vw nw us rs := h.on hc (fun i hi => by cases hi)
/-- The tape goes on. -/
theorem Mt.tape {a' : Nat} (h : Mt w wr B pt A n c xs a vs ns ts vw nw us rs) (hc : Chg [pt] wr wx) (ht : Tp wx pt A n c xs a') (hpt : w.heap.size ≤ pt) : Mt w wx B pt A n c xs a' vs ns ts vw nw us rs := by
  have h1 : ∀ i ∈ [pt], i < B ∨ wr.heap.size ≤ i := fun i hi => by simp only [List.mem_singleton] at hi; subst hi; exact .inl h.pl
  exact { tp := ht, rs_ := rown_chg h.rs_ hc h1, rw_ := rown_chg h.rw_ hc h1, rows := h.rows.chg hc h1, chg := h.chg.then_ hc (fun i hi hw => by simp only [List.mem_singleton] at hi; omega), low := h.low, siz := Nat.le_trans h.siz hc.size, pl := h.pl, al := h.al }
/-- A row of bytes more. -/
theorem Mt.more {v' u : Value} {l : List UInt8} (h : Mt w wr B pt A n c xs a vs ns ts vw nw us rs) (hu : wr.ownsRow B 5 1 u l.length (bts l)) (ho : wx.ownsRow B 30 1 v' (nw + 1) (us ++ [u])) (hg : wr.grownBy wx vw.ownBlock) : Mt w wx B pt A n c xs a vs ns ts v' (nw + 1) (us ++ [u]) (rs ++ [l]) := by
  obtain ⟨T, hc, hT⟩ := grown_T (B := B) hg (fun q hq => (own_blk_lt h.rw_ q hq).1)
  have hp := h.pl
  have hl := h.low
  exact { tp := h.tp.chg hc (fun hm => by have := hT _ hm; omega) (fun h0 ad e hm => by have := h.al h0 ad e; have := hT _ hm; omega), rs_ := own_grown h.rs_ h.rw_ (by decide) hg, rw_ := ho, rows := (h.rows.grown h.rw_ hg).snoc (own_grown hu h.rw_ (by decide) hg), chg := Chg.own h.chg h.rw_ h.low hg, low := h.low, siz := Nat.le_trans h.siz hc.size, pl := h.pl, al := h.al }
end
/-- Blocks that a store lets be written. -/
structure ExB (p bL bS bW g gN pt : Nat) (ex : List Nat) (vs vw : Value) : Prop where
  tp : pt ∈ ex ∧ ∀ i ∈ [p, bL, bS, bW, g, gN], i ≠ pt
  s : ∀ q, vs.ownBlock = some q → q ∈ ex ∧ ∀ i ∈ [p, bL, bS, bW, g, gN], i ≠ q
  w : ∀ q, vw.ownBlock = some q → q ∈ ex ∧ ∀ i ∈ [p, bL, bS, bW, g, gN], i ≠ q
/-- What StoreKeeps' first loop keeps. -/
structure SKI (w wr : World) (B p bL bS bW g gN pt : Nat) (A : Option Addr) (n c : Nat) (xs : List Int) (H : SV) (K j jj : Nat) (vs vw : Value) (s : St) (x : SV) (v : Value) (a u : Nat) (ms : List (List ChV)) (us : List Value) (ex : List Nat) : Prop where
  sto : Sto wr ⟨p, bL, bS, bW, g, gN, ex⟩ s x v
  ex : ExB p bL bS bW g gN pt ex vs vw
  k : KeptS s x ms u
  home : homeV s ⟨x.L, x.P, x.E⟩ = H
  L : x.L = 24
  P : x.P = 6
  E : x.E = 2
  V : s.V.length = 40
  len : ms.length = j
  ub : UB 2 K jj u ms
  mt : Mt w wr B pt A n c xs a vs (j + 1) (stsL H ms) vw j us (ms.map bytesD)
end Go.Proofs.YtddjgncdjdjgeaaGreat
