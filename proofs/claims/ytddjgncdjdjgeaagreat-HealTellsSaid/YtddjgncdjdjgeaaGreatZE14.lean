/-
  E: Write, Space, Redo, SpaceR.
-/
import Derived.Test.YtddjgncdjdjgeaaGreatZE3
import Derived.Test.YtddjgncdjdjgeaaGreatZE4
import Derived.Test.YtddjgncdjdjgeaaGreatZE5
import Derived.Test.YtddjgncdjdjgeaaGreatZE6
import Derived.Test.YtddjgncdjdjgeaaGreatZE8
import Derived.Test.YtddjgncdjdjgeaaGreatZE13
import Derived.Test.YtddjgncdjdjgeaaGreatChecked
namespace Go.Proofs.YtddjgncdjdjgeaaGreat
open Go.RowKit
section
variable {w : World} {p bL bS bW : Nat} {L S : List UInt8} {V : List Bool}

set_option maxHeartbeats 400000 in
set_option maxRecDepth 100000 in
theorem write_no (h : Dsk w p bL bS bW L S V) (i : Int) (A : Option Addr) (n c : Nat) (hi : i < 0 ∨ (V.length : Int) ≤ i ∨ n ≠ 64) :
    Calls Tryz.prog 91 #[.pointer (some ⟨p, 0, none⟩), .int .i64 i, .slice A n c] w fun e w' => e = .returned (.bool false) ∧ w = w' := by
  by_cases hok : 0 ≤ i ∧ i < V.length
  · obtain ⟨h0, h1⟩ := hok
    have hd : ((n : Int) != 64) = true := by simp; omega
    clear hi
    go_enter Tryz.func91, Tryz.ntmps91
    go_wp2_with (go_at_call 118; refine (has_yes h i h0 h1).mono ?_; rintro e w' ⟨rfl, rfl⟩)
    go_ret
    exact ⟨rfl, rfl⟩
  · have h2 : i < 0 ∨ (V.length : Int) ≤ i := by omega
    clear hi hok
    go_enter Tryz.func91, Tryz.ntmps91
    go_wp2_with (go_at_call 118; refine (has_no h i h2).mono ?_; rintro e w' ⟨rfl, rfl⟩)
    go_ret
    exact ⟨rfl, rfl⟩

theorem write_end {w2 : World} {k : Nat} {x : List UInt8} (h : Dsk w p bL bS bW L S V) (hk : k < V.length) (hx : x.length = 64) (HC : Chg [bS] w w2) (HG : Whole w2 bS 5 (splice (bts S) (k * 64) (bts x))) :
    Dsk (w2.setCell ⟨bW, k, none⟩ (.bool true)) p bL bS bW L (splice S (k * 64) x) (V.set k true) ∧ Chg [bS, bW] w (w2.setCell ⟨bW, k, none⟩ (.bool true)) := by
  have s1 : 64 * (k + 1) ≤ S.length := by have := h.lenS; omega
  have eS : (splice S (k * 64) x).length = S.length := length_splice _ _ _ (by omega)
  rw [bts_splice] at HG
  have d0 := h.rec_.ne_ h.seen (by decide)
  have d1 := h.rec_.ne_ h.wait (by decide)
  have d2 := h.last.ne_ h.wait (by decide)
  have d3 := h.seen.ne_ h.wait (by decide)
  have V2 := h.wait.chg HC (by simpa using fun e => d3 e.symm)
  have hw : Whole (w2.setCell ⟨bW, k, none⟩ (.bool true)) bW 4 (bls (V.set k true)) := by
    have := V2.set_ k (.bool true)
    rwa [bls_set] at this
  refine ⟨⟨?_, (h.last.chg HC (by simpa using h.ne)).far d2 _, HG.far d3 _, hw, by rw [List.length_set]; exact h.lenL, by rw [eS, List.length_set]; exact h.lenS, by rw [List.length_set]; exact h.pos, by rw [List.length_set]; exact h.le, h.ne⟩, ?_⟩
  · rw [eS, List.length_set]
    exact (h.rec_.chg HC (by simpa using d0)).far d1 _
  · exact (HC.sub (T' := [bS, bW]) (by simp)).setCell (by simp) _

set_option maxHeartbeats 1000000 in
set_option maxRecDepth 100000 in
theorem write_yes (h : Dsk w p bL bS bW L S V) (k : Nat) (hk : k < V.length) {A : Option Addr} {c : Nat} {x : List UInt8} (hx : x.length = 64) (hs : Src w A (bts x)) :
    Calls Tryz.prog 91 #[.pointer (some ⟨p, 0, none⟩), .int .i64 (k : Int), .slice A 64 c] w fun e w' => e = .returned (.bool true) ∧
      Dsk w' p bL bS bW L (splice S (k * 64) x) (V.set k true) ∧ Chg [bS, bW] w w' := by
  have c1 := h.rec_.cell 1
  have hS := h.lenS
  have hv := h.le
  have s1 : 64 * (k + 1) ≤ S.length := by omega
  have s2 : S.length ≤ 1000000 := by omega
  clear hS
  have hfit : k * 64 + (bts x).length ≤ (bts S).length := by rw [bts_len, bts_len]; omega
  have Hn := Lib.hid (show (bts x).length = Nat.min 64 64 by rw [bts_len, hx]; rfl)
  have Hx := Lib.hid hx
  have b1 := bts_one x
  have n2 := Lib.hid (show p ∉ [bS] by simpa using h.rec_.ne_ h.seen (by decide))
  have n3 := Lib.hid (show bW ∉ [bS] by simpa using h.wait.ne_ h.seen (by decide))
  obtain ⟨Y, hY⟩ : ∃ Y, Y = bts x := ⟨_, rfl⟩
  have HY := Lib.hid hY
  rw [← hY] at hfit Hn b1 hs
  clear hx hY
  go_enter Tryz.func91, Tryz.ntmps91
  go_wp2_with (first
    | (go_at_call 118; refine (has_yes h _ (by omega) (by omega)).mono ?_; rintro e w' ⟨rfl, rfl⟩)
    | (go_at_call 88; refine (dsector_any k s1 (Nat.le_refl _) s2).mono ?_; rintro e w' ⟨rfl, rfl⟩)
    | (with_reducible refine wpList_copy_chg rfl (.tmp 21) (.tmp 22) _ _ rfl 5 Tryz.underlying30 size_u8 (some ⟨bS, k * 64, none⟩) A 64 (S.length - k * 64) 64 c rfl rfl bS (k * 64) 5 (bts S) Y h.seen Hn.out (fun _ => rfl) hs hfit b1 ?_
       intro w2 HG HC
       have R2 := h.rec_.chg HC n2.out
       have V2 := h.wait.chg HC n3.out
       have c2 := R2.cell 2
       have c4 := (V2.cell k).trans (bls_get V k hk)
       have c5 := V2.frozen k))
  go_ret
  rw [HY.out] at HG
  exact ⟨rfl, write_end h hk Hx.out HC HG⟩

set_option maxHeartbeats 400000 in
set_option maxRecDepth 100000 in
theorem read_no (h : Dsk w p bL bS bW L S V) (i : Int) (hi : i < 0 ∨ (V.length : Int) ≤ i) :
    Calls Tryz.prog 93 #[.pointer (some ⟨p, 0, none⟩), .int .i64 i] w fun e w' => e = .returned (.tuple #[.slice none 0 0, .bool false]) ∧ w = w' := by
  go_enter Tryz.func93, Tryz.ntmps93
  go_wp2_with (go_at_call 118; refine (has_no h i hi).mono ?_; rintro e w' ⟨rfl, rfl⟩)
  go_ret2
  exact ⟨rfl, rfl⟩

set_option maxHeartbeats 1000000 in
set_option maxRecDepth 100000 in
theorem read_yes (h : Dsk w p bL bS bW L S V) (k : Nat) (hk : k < V.length) :
    Calls Tryz.prog 93 #[.pointer (some ⟨p, 0, none⟩), .int .i64 (k : Int)] w fun e w' => e = .returned (.tuple #[.slice (some ⟨w.heap.size, 0, none⟩) 64 64, .bool true]) ∧
      Whole w' w.heap.size 5 (bts ((S.drop (k * 64)).take 64)) ∧ Chg [] w w' := by
  have c1 := h.rec_.cell 1
  have hS := h.lenS
  have hv := h.le
  have s1 : 64 * (k + 1) ≤ S.length := by omega
  have s2 : S.length ≤ 1000000 := by omega
  clear hS
  have hl : (bts ((S.drop (k * 64)).take 64)).length = 64 := by rw [bts_len, List.length_take, List.length_drop]; omega
  have Hl := Lib.hid hl
  have hsr : Src w (some ⟨bS, k * 64, none⟩) (bts ((S.drop (k * 64)).take 64)) := by rw [← bts_cut]; exact Src.of_whole h.seen _ _
  have b1 := bts_one ((S.drop (k * 64)).take 64)
  obtain ⟨Y, hY⟩ : ∃ Y, Y = bts ((S.drop (k * 64)).take 64) := ⟨_, rfl⟩
  rw [← hY] at Hl hsr b1
  rw [← hY]
  clear hl hY
  go_enter Tryz.func93, Tryz.ntmps93
  go_wp2_with (first
    | (go_at_call 118; refine (has_yes h _ (by omega) (by omega)).mono ?_; rintro e w' ⟨rfl, rfl⟩)
    | (go_at_call 88; refine (dsector_any k s1 (Nat.le_refl _) s2).mono ?_; rintro e w' ⟨rfl, rfl⟩)
    | (go_at_call 87; refine (fresh_any Hl.out hsr b1 (by omega)).mono ?_; rintro e w2 ⟨rfl, HB, HC⟩))
  go_ret2
  exact ⟨rfl, HB, HC⟩
end
end Go.Proofs.YtddjgncdjdjgeaaGreat
namespace Go.Proofs.YtddjgncdjdjgeaaGreat
open Go.RowKit

def sizeI (L : Int) : Int := if L < 1 ∨ 64 < L then 0 else L * 64
def leftI (L u : Int) : Int := max (sizeI L - max u 0) 0
def fitsB (L u n : Int) : Bool := decide (0 < needI n) && decide (needI n ≤ leftI L u)
theorem sizeI_bd (L : Int) : 0 ≤ sizeI L ∧ sizeI L ≤ 4096 := by unfold sizeI; split <;> omega
section
variable {w : World}
set_option maxHeartbeats 400000 in
set_option maxRecDepth 100000 in
theorem srneed_any (n : Int) (hn : n ≤ 9223372036854775807) : Calls Tryz.prog 112 #[.int .i64 n] w fun e w' => e = .returned (.int .i64 (needI n)) ∧ w = w' := by
  by_cases h0 : n < 0
  · go_enter Tryz.func112, Tryz.ntmps112
    go_wp2_with fail
    go_ret
    exact ⟨ret_int' (by unfold needI; rw [if_pos (.inl h0)]), rfl⟩
  · have hd : decide (n < 0) = false := by simpa using h0
    by_cases h1 : 64 < n
    · go_enter Tryz.func112, Tryz.ntmps112
      go_wp2_with fail
      go_ret
      exact ⟨ret_int' (by unfold needI; rw [if_pos (.inr h1)]), rfl⟩
    · have h2 : 0 ≤ n := by omega
      have h3 : n ≤ 64 := by omega
      go_enter Tryz.func112, Tryz.ntmps112
      go_wp2_with fail
      go_ret
      exact ⟨ret_int' (by unfold needI; rw [if_neg (by omega)]), rfl⟩
set_option maxHeartbeats 400000 in
set_option maxRecDepth 100000 in
theorem size_any (L P E : Int) (hL : L ≤ 9223372036854775807) : Calls Tryz.prog 111 #[rootV L P E] w fun e w' => e = .returned (.int .i64 (sizeI L)) ∧ Chg [] w w' := by
  unfold rootV
  by_cases h0 : L < 1
  · go_enter Tryz.func111, Tryz.ntmps111
    go_wp2_with fail
    go_ret
    exact ⟨ret_int' (by unfold sizeI; rw [if_pos (.inl h0)]), (Chg.refl _ _).alloc _⟩
  · have hd : decide (L < 1) = false := by simpa using h0
    by_cases h1 : 64 < L
    · go_enter Tryz.func111, Tryz.ntmps111
      go_wp2_with fail
      go_ret
      exact ⟨ret_int' (by unfold sizeI; rw [if_pos (.inr h1)]), (Chg.refl _ _).alloc _⟩
    · have h2 : 1 ≤ L := by omega
      have h3 : L ≤ 64 := by omega
      go_enter Tryz.func111, Tryz.ntmps111
      go_wp2_with fail
      go_ret
      exact ⟨ret_int' (by unfold sizeI; rw [if_neg (by omega)]), (Chg.refl _ _).alloc _⟩
theorem root_load {W : World} {g : Nat} {L P E : Int} (h : Whole W g 58 [.int .i64 L, .int .i64 P, .int .u32 E]) :
    W.cell? ⟨g, 0, none⟩ = some (.int .i64 L) ∧ W.cell? ⟨g, 1, none⟩ = some (.int .i64 P) ∧ W.cell? ⟨g, 2, none⟩ = some (.int .u32 E) := ⟨h.cell 0, h.cell 1, h.cell 2⟩

end
end Go.Proofs.YtddjgncdjdjgeaaGreat
namespace Go.Proofs.YtddjgncdjdjgeaaGreat
open Go.RowKit
/-- The log's bytes, or none. -/
def logL (s : St) (L P E : Int) : List UInt8 := if rightR L P E s.V.length = true then logB s L.toNat else []
section
variable {w : World} {p bL bS bW : Nat} {s : St}
set_option maxHeartbeats 1000000 in
set_option maxRecDepth 100000 in
theorem parts_any (h : DskS w p bL bS bW s) (L P E : Int) :
    Calls Tryz.prog 110 #[.pointer (some ⟨p, 0, none⟩), rootV L P E] w (BoolPost (rightR L P E s.V.length) w) := by
  have hr0 : rootV L P E = .agg #[.int .i64 L, .int .i64 P, .int .u32 E] := rfl
  rw [hr0]
  go_enter Tryz.func110, Tryz.ntmps110
  go_wp2_with fail
  have hR := Whole.new w 58 [.int .i64 L, .int .i64 P, .int .u32 E]
  have hc1 : Chg [] w (w.alloc (.cells #[.int .i64 L, .int .i64 P, .int .u32 E] 58)) := (Chg.refl [] w).alloc _
  obtain ⟨g, hg⟩ : ∃ g, g = w.heap.size := ⟨_, rfl⟩
  rw [← hg] at hR ⊢
  generalize w.alloc (.cells #[.int .i64 L, .int .i64 P, .int .u32 E] 58) = w1 at hc1 hR ⊢
  clear hg
  have hld := fun (W : World) (hW : Chg [] w1.drew W) => root_cells (hR.drew.keep hW)
  have kd : ∀ W, Chg [] w1.drew W → DskS W p bL bS bW s := fun W hW => (Dsk.keep h hc1.drew).keep hW
  refine wp_flow (by kernel_rfl) plainT plainT_ok (by kernel_rfl) ?_
  refine flow_move_out plainT_ok rfl rfl rfl ?_
  refine flow2 (r := .bool true) plainT_ok rfl (.inn rfl) (.const _) rfl (fun ev W he e1 e2 => by go_simp) ?_
  refine flow_move plainT_ok rfl (keeps_isV _) (.inr (keeps_isV _)) rfl ?_
  refine flow1h (r := rootV L P E) plainT_ok rfl (.out rfl rfl) rfl (fun ev W he hW e1 => by obtain ⟨c0, c1, c2, _, _, _⟩ := hld W hW; go_simp) ?_
  refine flow_move_out plainT_ok rfl rfl rfl ?_
  refine flow_callv (.int .i64 (s.V.length : Int)) (by kernel_rfl) rfl (.cons (.inn rfl) .nil) (fun W hW => (len_any (kd W hW)).mono ?_) ?_
  · rintro e w' ⟨rfl, rfl⟩; exact ⟨rfl, Chg.refl _ _⟩
  refine flow_callv (.bool (rightR L P E s.V.length)) (by kernel_rfl) rfl (.cons (.inn rfl) (.cons (.inn rfl) .nil)) (fun W hW => (rright_any _ _ _ _).mono ?_) ?_
  · rintro e w' ⟨rfl, hc⟩; exact ⟨rfl, hc⟩
  refine flow_and plainT_ok rfl rfl rfl ?_
  refine flow_assign plainT_ok rfl (keeps_isV _) (.inr (keeps_isV _)) rfl ?_
  intro vs W hW hF
  have e4 : vs 4 = .bool (rightR L P E s.V.length) := hF 4 _ rfl rfl
  simp only [putAll, Act.put, List.setIfInBounds_toArray, List.set_cons_zero, List.set_cons_succ, e4]
  have HCW := Lib.hid (hc1.new (wdrew hW))
  clear hW hF hld hR hc1 kd e4
  go_wp2_with fail
  go_ret
  exact ⟨rfl, HCW.out⟩
set_option maxHeartbeats 1000000 in
set_option maxRecDepth 100000 in
theorem rbytes_any (h : DskS w p bL bS bW s) (L P E : Int) :
    Calls Tryz.prog 97 #[.pointer (some ⟨p, 0, none⟩), rootV L P E] w (BytesPost w (logL s L P E)) := by
  obtain ⟨iu, hui, huz, hus, hub⟩ := info_parts info_byte
  have hr0 : rootV L P E = .agg #[.int .i64 L, .int .i64 P, .int .u32 E] := rfl
  have H := Lib.hid h
  clear h
  rw [hr0]
  go_enter Tryz.func97, Tryz.ntmps97
  go_wp2_with fail
  have hR := Whole.new w 58 [.int .i64 L, .int .i64 P, .int .u32 E]
  have hc1 : Chg [] w (w.alloc (.cells #[.int .i64 L, .int .i64 P, .int .u32 E] 58)) := (Chg.refl [] w).alloc _
  obtain ⟨g, hg⟩ : ∃ g, g = w.heap.size := ⟨_, rfl⟩
  rw [← hg] at hR ⊢
  generalize w.alloc (.cells #[.int .i64 L, .int .i64 P, .int .u32 E] 58) = w1 at hc1 hR ⊢
  clear hg
  obtain ⟨c0, c1, c2, _, _, _⟩ := root_cells hR
  go_wp2_with fail
  refine (parts_any (Dsk.keep H.out hc1) L P E).mono ?_
  rintro e w2 ⟨rfl, hc2⟩
  have HC2 := Lib.hid (hc1.new hc2)
  have HR2 := Lib.hid (hR.keep hc2)
  clear hc1 hc2 hR c0 c1 c2
  cases hrr : rightR L P E s.V.length with
  | false =>
    have HF := Lib.hid (show logL s L P E = [] by unfold logL; rw [if_neg (by rw [hrr]; simp)])
    go_wp2_with fail
    go_ret
    rw [HF.out]
    exact ⟨_, rfl, own_nil _ _ _, HC2.out⟩
  | true =>
    have hrt := rightR_true.1 hrr
    obtain ⟨l, rfl⟩ := Int.eq_ofNat_of_zero_le (show 0 ≤ L by omega)
    have hl1 : 1 ≤ l := by omega
    have hl64 : l ≤ 64 := by omega
    have hlV : 2 + l ≤ s.V.length := by omega
    have HF := Lib.hid (show logL s l P E = logB s l by unfold logL; rw [if_pos hrr, Int.toNat_natCast])
    have HS := Lib.hid H.out.lenS
    obtain ⟨N, hN⟩ : ∃ N, N = l * 64 := ⟨_, rfl⟩
    have hNm := Lib.hid hN
    have hN4 : N ≤ 4096 := by omega
    have hmk : ∀ W : World, (Instr.makeSlice 30 (.int .i64 0) (.int .i64 (N : Int))).run Tryz.prog W = .ok (.slice (some ⟨W.heap.size, 0, none⟩) 0 N) (W.alloc (.cells (bts (zeros N)).toArray 5)) := by
      intro W
      rw [bts_zeros]
      exact run_make0 (P := Tryz.prog) 30 5 iu _ rfl Tryz.underlying30 hui huz hus N (by rw [hub]; omega) (by omega) W
    have hsz : sizeI (l : Int) = (N : Int) := by unfold sizeI; rw [if_neg (by omega), hN]; omega
    obtain ⟨c0, c1, c2, _, _, _⟩ := root_cells HR2.out
    clear hN hrt
    go_wp2_with fail
    refine (size_any (l : Int) P E (by omega)).mono ?_
    rintro e w3 ⟨rfl, hc3⟩
    rw [hsz]
    have HC3 := Lib.hid (HC2.out.new hc3)
    have HR3 := Lib.hid (HR2.out.keep hc3)
    clear hc3 c0 c1 c2 hsz
    obtain ⟨c0, c1, c2, _, _, _⟩ := root_cells HR3.out
    have d0 := cell_keep c0 ((Chg.refl [] w3).alloc (.cells (bts (zeros N)).toArray 5))
    go_wp2_with fail
    have hW := Whole.new w3 5 (bts (zeros N))
    have hal : Chg [] w3 (w3.alloc (.cells (bts (zeros N)).toArray 5)) := (Chg.refl [] w3).alloc _
    have ho0 : (w3.alloc (.cells (bts (zeros N)).toArray 5)).ownsRow w3.heap.size 5 1 (.slice (some ⟨w3.heap.size, 0, none⟩) 0 N) 0 [] := by
      have := own_of_whole (B := w3.heap.size) (n := 0) (c := N) hW (Nat.le_refl _) (by rw [bts_len, zeros_len]) (by omega) (by unfold maxLen; omega)
      simpa using this
    have HAL := Lib.hid hal
    have HR4 := Lib.hid (HR3.out.keep hal)
    have HC4 := Lib.hid (HC3.out.new hal)
    generalize w3.alloc (.cells (bts (zeros N)).toArray 5) = w4 at ho0 HR4 HC4 HAL ⊢
    obtain ⟨B3, hB3⟩ : ∃ B, B = w3.heap.size := ⟨_, rfl⟩
    rw [← hB3] at ho0 ⊢
    have HB3 := Lib.hid (show B3 ≤ w4.heap.size ∧ w.heap.size ≤ B3 by rw [hB3]; exact ⟨HAL.out.size, HC3.out.size⟩)
    clear hW hal hB3 c0 c1 c2 d0 HAL hmk

    go_loopw [5, 18] (fun v i wr => ∃ k : Nat, k ≤ l ∧ i = .int .i64 (k : Int) ∧ (∃ n, Hid (n = k * 64) ∧ wr.ownsRow B3 5 1 v n (bts (logB s k))) ∧ Hid (B3 ≤ wr.heap.size) ∧ Hid (Chg [] w wr)) (fun _ i _ => l - (intOf i).toNat)
    case atStart => exact ⟨0, by omega, rfl, ⟨0, Lib.hid rfl, by unfold logB; simpa [bts] using ho0⟩, Lib.hid HB3.out.1, HC4⟩
    case round =>
      obtain ⟨k, hk, rfl, ⟨n, Hn, hown⟩, HBr, HCr⟩ := hrel
      obtain ⟨Av, cv, rfl, hvl, hvc, _⟩ := own_slice hown
      by_cases hlt : k < l
      · have hkI : (k : Int) < (l : Int) := by omega
        obtain ⟨q, hq⟩ : ∃ q : Nat, (2 : Int) + (k : Int) = (q : Int) := ⟨2 + k, by omega⟩
        have HQ := Lib.hid (show q = 2 + k by omega)
        have hqV : q < s.V.length := by omega
        go_wp2_with fail
        refine (read_yes (Dsk.keep H.out HCr.out) q hqV).mono ?_
        rintro e w5 ⟨rfl, hW5, hc5⟩
        have hl5 : ((s.S.drop (q * 64)).take 64).length = 64 := by rw [List.length_take, List.length_drop, HS.out]; omega
        have HNX := Lib.hid (show logB s (k + 1) = logB s k ++ (s.S.drop (q * 64)).take 64 by rw [logB_next, HQ.out])
        have HS5 := Lib.hid (Src.of_all hW5)
        have hx1 := Lib.hid (show (bts ((s.S.drop (q * 64)).take 64)).length = 64 by rw [bts_len, hl5])
        have how := own_keep hown hc5
        have hn4 : n ≤ 4096 := by rw [Hn.out]; omega
        have hx2 := Lib.hid (show n + 64 ≤ maxLen by unfold maxLen; omega)
        have hx3 := Lib.hid (show (n + 64) * 1 ≤ 140737488355328 by omega)
        have hx4 := Lib.hid (show B3 ≤ w5.heap.size by have := HBr.out; have := hc5.size; omega)
        have HC5 := Lib.hid (HCr.out.new hc5)
        have h1 := bts_one ((s.S.drop (q * 64)).take 64)
        generalize (s.S.drop (q * 64)).take 64 = Z at hW5 HNX HS5 hx1 h1
        obtain ⟨g5, hg5⟩ : ∃ g, g = wr.heap.size := ⟨_, rfl⟩
        rw [← hg5] at HS5 ⊢
        clear hg5 hW5 hl5 hc5 hown
        go_wp2_with (at_builtin
                     refine wpList_append_src rfl (.tmp 28) (.tmp 29) 30 rfl B3 5 iu _ 1 Tryz.underlying30 hui huz hus hub cells_u8 (.slice Av n cv) n (bts (logB s k)) rfl how (some ⟨g5, 0, none⟩) 64 64 (bts Z) rfl hx1.out HS5.out h1 hx2.out hx3.out hx4.out ?_
                     intro v6 w6 ho6 hg6 _)
        have hc6 := HC5.out.own how HB3.out.2 hg6
        go_roundw
        case rel => exact ⟨k + 1, by omega, by go_num, ⟨n + 64, Lib.hid (by rw [Hn.out]; omega), by rw [HNX.out, bts_app]; exact ho6⟩, Lib.hid (Nat.le_trans hx4.out hg6.size), Lib.hid hc6⟩
        case measure => simp [intOf]; omega
      · have hkI : ¬ (k : Int) < (l : Int) := by omega
        have HK := Lib.hid (show k = l by omega)
        have HLen := Lib.hid (show (logB s l).length = n by rw [logB_len (by rw [HS.out]; omega), Hn.out, HK.out])
        clear hlt hk
        go_wp2_with fail
        go_ret
        rw [HF.out]
        refine ⟨_, rfl, ?_, HCr.out⟩
        rw [HLen.out, ← HK.out]
        exact own_more hown HB3.out.2
/-- May so many bytes go in? -/
def canA (s : St) (L P E at_ : Int) (n : Nat) : Prop := rightR L P E s.V.length = true ∧ 0 ≤ at_ ∧ at_ ≤ L * 64 ∧ (n : Int) ≤ L * 64 - at_
end
end Go.Proofs.YtddjgncdjdjgeaaGreat
namespace Go.Proofs.YtddjgncdjdjgeaaGreat
open Go.RowKit
section
variable {w : World}
set_option maxHeartbeats 400000 in
set_option maxRecDepth 100000 in
theorem rsize_any (L P E : Int) (hL : L ≤ 9223372036854775807) : Calls Tryz.prog 127 #[rootV L P E] w fun e w' => e = .returned (.int .i64 (sizeI L)) ∧ Chg [] w w' := by
  unfold rootV
  by_cases h0 : L < 1
  · go_enter Tryz.func127, Tryz.ntmps127
    go_wp2_with fail
    go_ret
    exact ⟨ret_int' (by unfold sizeI; rw [if_pos (.inl h0)]), (Chg.refl _ _).alloc _⟩
  · have hd : decide (L < 1) = false := by simpa using h0
    by_cases h1 : 64 < L
    · go_enter Tryz.func127, Tryz.ntmps127
      go_wp2_with fail
      go_ret
      exact ⟨ret_int' (by unfold sizeI; rw [if_pos (.inr h1)]), (Chg.refl _ _).alloc _⟩
    · have h2 : 1 ≤ L := by omega
      have h3 : L ≤ 64 := by omega
      go_enter Tryz.func127, Tryz.ntmps127
      go_wp2_with fail
      go_ret
      exact ⟨ret_int' (by unfold sizeI; rw [if_neg (by omega)]), (Chg.refl _ _).alloc _⟩
set_option maxHeartbeats 400000 in
set_option maxRecDepth 100000 in
theorem rleft_any (L P E u : Int) (hL : L ≤ 9223372036854775807) (hu : u ≤ 9223372036854775807) : Calls Tryz.prog 113 #[rootV L P E, .int .i64 u] w fun e w' => e = .returned (.int .i64 (leftI L u)) ∧ Chg [] w w' := by
  have hs := sizeI_bd L
  obtain ⟨b1, b2⟩ := hs
  have b3 : 0 ≤ max u 0 := by omega
  have b4 : max u 0 ≤ 9223372036854775807 := by omega
  unfold rootV
  go_enter Tryz.func113, Tryz.ntmps113
  go_wp2_with (go_at_call 127; refine (rsize_any L P E hL).mono ?_; rintro e w1 ⟨rfl, hc1⟩)
  go_ret
  exact ⟨ret_int' (by unfold leftI; rfl), ((Chg.refl _ _).alloc _).new hc1⟩
set_option maxHeartbeats 1000000 in
set_option maxRecDepth 100000 in
theorem rfits_any (L P E u n : Int) (hL : L ≤ 9223372036854775807) (hu : u ≤ 9223372036854775807) (hn : n ≤ 9223372036854775807) :
    Calls Tryz.prog 74 #[rootV L P E, .int .i64 u, .int .i64 n] w fun e w' => e = .returned (.bool (fitsB L u n)) ∧ Chg [] w w' := by
  have HF : Hid (fitsB L u n = (decide (0 < needI n) && decide (needI n ≤ leftI L u))) := rfl
  have HW := Whole.new w 58 [.int .i64 L, .int .i64 P, .int .u32 E]
  have hc0 : Chg [] w (w.alloc (.cells #[.int .i64 L, .int .i64 P, .int .u32 E] 58)) := (Chg.refl [] w).alloc _
  unfold rootV
  by_cases h0 : 0 < needI n
  · go_enter Tryz.func74, Tryz.ntmps74
    go_wp2_with fail
    generalize w.alloc (.cells #[.int .i64 L, .int .i64 P, .int .u32 E] 58) = w1 at HW hc0 ⊢
    refine wp_flow (by kernel_rfl) plainT plainT_ok (by kernel_rfl) ?_
    refine flow_move_out plainT_ok rfl rfl rfl ?_
    refine flow_callv (.int .i64 (needI n)) (by kernel_rfl) rfl (.cons (.inn rfl) .nil) (fun W hW => (srneed_any n hn).mono ?_) ?_
    · rintro e w' ⟨rfl, rfl⟩; exact ⟨rfl, Chg.refl _ _⟩
    refine flow2 (r := .bool true) plainT_ok rfl (.inn rfl) (.const _) rfl (fun ev W he e1 e2 => by go_simp) ?_
    refine flow_move plainT_ok rfl (keeps_isV _) (.inr (keeps_isV _)) rfl ?_
    refine flow_move_out plainT_ok rfl rfl rfl ?_
    refine flow_callv (.int .i64 (needI n)) (by kernel_rfl) rfl (.cons (.inn rfl) .nil) (fun W hW => (srneed_any n hn).mono ?_) ?_
    · rintro e w' ⟨rfl, rfl⟩; exact ⟨rfl, Chg.refl _ _⟩
    refine flow1h (r := rootV L P E) plainT_ok rfl (.out rfl rfl) rfl (fun ev W he hW e1 => by obtain ⟨c0, c1, c2⟩ := root_load (HW.drew.keep hW); go_simp; rfl) ?_
    refine flow_move_out plainT_ok rfl rfl rfl ?_
    refine flow_callv (.int .i64 (leftI L u)) (by kernel_rfl) rfl (.cons (.inn rfl) (.cons (.inn rfl) .nil)) (fun W hW => (rleft_any L P E u hL hu).mono ?_) ?_
    · rintro e w' ⟨rfl, hc⟩; exact ⟨rfl, hc⟩
    refine flow2 (r := .bool (decide (needI n ≤ leftI L u))) plainT_ok rfl (.inn rfl) (.inn rfl) rfl (fun ev W he e1 e2 => by go_simp) ?_
    refine flow_and plainT_ok rfl rfl rfl ?_
    refine flow_assign plainT_ok rfl (keeps_isV _) (.inr (keeps_isV _)) rfl ?_
    intro vs W hW hF
    have e6 : vs 6 = .bool (decide (needI n ≤ leftI L u)) := hF 6 _ rfl rfl
    simp only [putAll, Act.put, List.setIfInBounds_toArray, List.set_cons_zero, List.set_cons_succ, e6]
    go_wp2_with fail
    go_ret
    exact ⟨ret_bool (by rw [HF.out]; simp [h0]), hc0.drew.new hW⟩
  · have hd : decide (0 < needI n) = false := by simpa using h0
    go_enter Tryz.func74, Tryz.ntmps74
    go_wp2_with fail
    generalize w.alloc (.cells #[.int .i64 L, .int .i64 P, .int .u32 E] 58) = w1 at HW hc0 ⊢
    refine wp_flow (by kernel_rfl) plainT plainT_ok (by kernel_rfl) ?_
    refine flow_move_out plainT_ok rfl rfl rfl ?_
    refine flow_callv (.int .i64 (needI n)) (by kernel_rfl) rfl (.cons (.inn rfl) .nil) (fun W hW => (srneed_any n hn).mono ?_) ?_
    · rintro e w' ⟨rfl, rfl⟩; exact ⟨rfl, Chg.refl _ _⟩
    refine flow2 (r := .bool false) plainT_ok rfl (.inn rfl) (.const _) rfl (fun ev W he e1 e2 => by go_simp) ?_
    refine flow_move plainT_ok rfl (keeps_isV _) (.inr (keeps_isV _)) rfl ?_
    refine flow_skip rfl ?_
    refine flow_skip rfl ?_
    refine flow_skip rfl ?_
    refine flow_skip rfl ?_
    refine flow_skip rfl ?_
    refine flow_skip rfl ?_
    refine flow_and_false plainT_ok rfl rfl rfl ?_
    refine flow_assign plainT_ok rfl (keeps_isV _) (.inr (keeps_isV _)) rfl ?_
    intro vs W hW hF
    have e6 : vs 6 = .bool false := hF 6 _ rfl rfl
    simp only [putAll, Act.put, List.setIfInBounds_toArray, List.set_cons_zero, List.set_cons_succ, e6]
    go_wp2_with fail
    go_ret
    exact ⟨ret_bool (by rw [HF.out, hd]; rfl), hc0.drew.new hW⟩

end
end Go.Proofs.YtddjgncdjdjgeaaGreat
