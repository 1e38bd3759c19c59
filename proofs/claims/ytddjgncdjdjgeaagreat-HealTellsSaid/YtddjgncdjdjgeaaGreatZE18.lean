/-
  E: Home, HomeAll.
-/
import Derived.Test.YtddjgncdjdjgeaaGreatZE4
import Derived.Test.YtddjgncdjdjgeaaGreatZE5
import Derived.Test.YtddjgncdjdjgeaaGreatZE6
import Derived.Test.YtddjgncdjdjgeaaGreatZE13
import Derived.Test.YtddjgncdjdjgeaaGreatZE14
namespace Go.Proofs.YtddjgncdjdjgeaaGreat
open Go.RowKit
/-- Is i a page of a root that parts n sectors? -/
def hasR (L P E i : Int) (n : Nat) : Bool := rightR L P E n && decide (0 ≤ homeI L P i)
theorem homeI_in {L P i : Int} (h1 : 1 ≤ L) (h2 : L ≤ 64) (h3 : P ≤ 64) (h4 : 0 ≤ i) (h5 : i < P) : homeI L P i = 2 + L + i := by
  unfold homeI
  rw [if_neg (by omega)]; unfold wrap64; omega
theorem homeI_out {L P i : Int} (h : i < 0 ∨ P ≤ i) : homeI L P i = -1 := by unfold homeI; rw [if_pos h]
theorem hasR_yes {L P E i : Int} {n : Nat} (h : hasR L P E i n = true) : rightR L P E n = true ∧ ∃ k : Nat, homeI L P i = (k : Int) ∧ k < n ∧ (k : Int) = 2 + L + i ∧ 0 ≤ i ∧ i < P := by
  unfold hasR at h
  rw [Bool.and_eq_true, decide_eq_true_iff] at h
  obtain ⟨h1, h2⟩ := h
  refine ⟨h1, ?_⟩
  obtain ⟨a, b, c, d, e, f⟩ := rightR_true.1 h1
  by_cases hi : i < 0 ∨ P ≤ i
  · rw [homeI_out hi] at h2; omega
  · have := homeI_in (L := L) (P := P) (i := i) a b d (by omega) (by omega)
    exact ⟨(2 + L + i).toNat, by rw [this]; omega, by omega, by omega, by omega, by omega⟩
theorem hasR_in {L P E i : Int} {n : Nat} (h : rightR L P E n = true) (h4 : 0 ≤ i) (h5 : i < P) : hasR L P E i n = true := by
  obtain ⟨a, b, c, d, e, f⟩ := rightR_true.1 h
  unfold hasR
  rw [h, homeI_in a b d h4 h5]
  simp; omega
theorem hasR_wrong {L P E i : Int} {n : Nat} (h : rightR L P E n = false) : hasR L P E i n = false := by
  unfold hasR
  rw [h]; rfl
section
variable {w : World} {p bL bS bW : Nat} {s : St}
set_option maxHeartbeats 400000 in
set_option maxRecDepth 100000 in
theorem hhas_any (h : DskS w p bL bS bW s) (L P E i : Int) :
    Calls Tryz.prog 117 #[.pointer (some ⟨p, 0, none⟩), rootV L P E, .int .i64 i] w (BoolPost (hasR L P E i s.V.length) w) := by
  have hr0 : rootV L P E = .agg #[.int .i64 L, .int .i64 P, .int .u32 E] := rfl
  rw [hr0]
  go_enter Tryz.func117, Tryz.ntmps117
  go_wp2_with fail
  have hR := Whole.new w 58 [.int .i64 L, .int .i64 P, .int .u32 E]
  have hc1 : Chg [] w (w.alloc (.cells #[.int .i64 L, .int .i64 P, .int .u32 E] 58)) := (Chg.refl [] w).alloc _
  obtain ⟨g, hg⟩ : ∃ g, g = w.heap.size := ⟨_, rfl⟩
  rw [← hg] at hR ⊢
  generalize w.alloc (.cells #[.int .i64 L, .int .i64 P, .int .u32 E] 58) = w1 at hc1 hR ⊢
  clear hg
  have hld := fun (W : World) (hW : Chg [] w1.drew W) => root_cells (hR.drew.keep hW)
  have kd : ∀ W, Chg [] w1.drew W → DskS W p bL bS bW s := fun W hW => (Dsk.keep h hc1.drew).keep hW
  cases hrr : rightR L P E s.V.length with
  | false =>
    have HF := Lib.hid (hasR_wrong (i := i) hrr)
    refine wp_flow (by kernel_rfl) plainT plainT_ok (by kernel_rfl) ?_
    refine flow_move_out plainT_ok rfl rfl rfl ?_
    refine flow2 (r := .bool true) plainT_ok rfl (.inn rfl) (.const _) rfl (fun ev W he e1 e2 => by go_simp) ?_
    refine flow_move plainT_ok rfl (keeps_isV _) (.inr (keeps_isV _)) rfl ?_
    refine flow1h (r := rootV L P E) plainT_ok rfl (.out rfl rfl) rfl (fun ev W he hW e1 => by obtain ⟨c0, c1, c2, _, _, _⟩ := hld W hW; go_simp) ?_
    refine flow_move_out plainT_ok rfl rfl rfl ?_
    refine flow_callv (.int .i64 (s.V.length : Int)) (by kernel_rfl) rfl (.cons (.inn rfl) .nil) (fun W hW => (len_any (kd W hW)).mono ?_) ?_
    · rintro e w' ⟨rfl, rfl⟩; exact ⟨rfl, Chg.refl _ _⟩
    refine flow_callv (.bool false) (by kernel_rfl) rfl (.cons (.inn rfl) (.cons (.inn rfl) .nil)) (fun W hW => (rright_any _ _ _ _).mono ?_) ?_
    · rintro e w' ⟨rfl, hc⟩; exact ⟨by rw [hrr], hc⟩
    refine flow_and plainT_ok rfl rfl rfl ?_
    refine flow_move plainT_ok rfl (keeps_isV _) (.inr (keeps_isV _)) rfl ?_
    refine flow_skip rfl ?_
    refine flow_skip rfl ?_
    refine flow_skip rfl ?_
    refine flow_skip rfl ?_
    refine flow_and_false plainT_ok rfl rfl rfl ?_
    refine flow_assign plainT_ok rfl (keeps_isV _) (.inr (keeps_isV _)) rfl ?_
    intro vs W hW hF
    have e40 : vs 6 = .bool false := hF 6 _ rfl rfl
    simp only [putAll, Act.put, List.setIfInBounds_toArray, List.set_cons_zero, List.set_cons_succ, e40]
    have HCW := Lib.hid (hc1.drew.new hW)
    clear hW hF hld hR hc1 kd
    go_wp2_with fail
    go_ret
    exact ⟨by rw [HF.out]; rfl, HCW.out⟩
  | true =>
    have HF := Lib.hid (show decide (0 ≤ homeI L P i) = hasR L P E i s.V.length by unfold hasR; rw [hrr]; rfl)
    refine wp_flow (by kernel_rfl) plainT plainT_ok (by kernel_rfl) ?_
    refine flow_move_out plainT_ok rfl rfl rfl ?_
    refine flow2 (r := .bool true) plainT_ok rfl (.inn rfl) (.const _) rfl (fun ev W he e1 e2 => by go_simp) ?_
    refine flow_move plainT_ok rfl (keeps_isV _) (.inr (keeps_isV _)) rfl ?_
    refine flow1h (r := rootV L P E) plainT_ok rfl (.out rfl rfl) rfl (fun ev W he hW e1 => by obtain ⟨c0, c1, c2, _, _, _⟩ := hld W hW; go_simp) ?_
    refine flow_move_out plainT_ok rfl rfl rfl ?_
    refine flow_callv (.int .i64 (s.V.length : Int)) (by kernel_rfl) rfl (.cons (.inn rfl) .nil) (fun W hW => (len_any (kd W hW)).mono ?_) ?_
    · rintro e w' ⟨rfl, rfl⟩; exact ⟨rfl, Chg.refl _ _⟩
    refine flow_callv (.bool true) (by kernel_rfl) rfl (.cons (.inn rfl) (.cons (.inn rfl) .nil)) (fun W hW => (rright_any _ _ _ _).mono ?_) ?_
    · rintro e w' ⟨rfl, hc⟩; exact ⟨by rw [hrr], hc⟩
    refine flow_and plainT_ok rfl rfl rfl ?_
    refine flow_move plainT_ok rfl (keeps_isV _) (.inr (keeps_isV _)) rfl ?_
    refine flow1h (r := rootV L P E) plainT_ok rfl (.out rfl rfl) rfl (fun ev W he hW e1 => by obtain ⟨c0, c1, c2, _, _, _⟩ := hld W hW; go_simp) ?_
    refine flow_move_out plainT_ok rfl rfl rfl ?_
    refine flow_callv (.int .i64 (homeI L P i)) (by kernel_rfl) rfl (.cons (.inn rfl) (.cons (.inn rfl) .nil)) (fun W hW => (home_any _ _ _ _).mono ?_) ?_
    · rintro e w' ⟨rfl, hc⟩; exact ⟨rfl, hc⟩
    refine flow2 (r := .bool (decide (0 ≤ homeI L P i))) plainT_ok rfl (.inn rfl) (.const _) rfl (fun ev W he e1 e2 => by go_simp) ?_
    refine flow_and plainT_ok rfl rfl rfl ?_
    refine flow_assign plainT_ok rfl (keeps_isV _) (.inr (keeps_isV _)) rfl ?_
    intro vs W hW hF
    have e40 : vs 6 = .bool (decide (0 ≤ homeI L P i)) := hF 6 _ rfl rfl
    simp only [putAll, Act.put, List.setIfInBounds_toArray, List.set_cons_zero, List.set_cons_succ, e40]
    have HCW := Lib.hid (hc1.drew.new hW)
    clear hW hF hld hR hc1 kd
    go_wp2_with fail
    go_ret
    exact ⟨by rw [HF.out]; rfl, HCW.out⟩
/-- What Page answers. -/
def PagePost (w : World) (s : St) (L P E i : Int) (e : Ending) (w' : World) : Prop :=
  (hasR L P E i s.V.length = true ∧ ∃ v, e = .returned (.tuple #[v, .bool true]) ∧ w'.ownsRow w.heap.size 5 1 v 64 (bts (sectL s.S s.V.length (homeI L P i).toNat)) ∧ Chg [] w w') ∨
  (hasR L P E i s.V.length = false ∧ e = .returned (.tuple #[.slice none 0 0, .bool false]) ∧ Chg [] w w')
theorem sectL_len {S : List UInt8} {n k : Nat} (h : S.length = 64 * n) (hk : k < n) : (sectL S n k).length = 64 := by
  unfold sectL
  rw [if_pos hk, List.length_take, List.length_drop]; omega
set_option maxHeartbeats 400000 in
set_option maxRecDepth 100000 in
theorem hpage_any (h : DskS w p bL bS bW s) (L P E i : Int) :
    Calls Tryz.prog 95 #[.pointer (some ⟨p, 0, none⟩), rootV L P E, .int .i64 i] w (PagePost w s L P E i) := by
  have hr0 : rootV L P E = .agg #[.int .i64 L, .int .i64 P, .int .u32 E] := rfl
  have H := Lib.hid h
  have hlS := h.lenS
  clear h
  rw [hr0]
  go_enter Tryz.func95, Tryz.ntmps95
  go_wp2_with fail
  have hR := Whole.new w 58 [.int .i64 L, .int .i64 P, .int .u32 E]
  have hc1 : Chg [] w (w.alloc (.cells #[.int .i64 L, .int .i64 P, .int .u32 E] 58)) := (Chg.refl [] w).alloc _
  obtain ⟨g, hg⟩ : ∃ g, g = w.heap.size := ⟨_, rfl⟩
  rw [← hg] at hR ⊢
  have hgw : w.heap.size ≤ g := by omega
  generalize w.alloc (.cells #[.int .i64 L, .int .i64 P, .int .u32 E] 58) = w1 at hc1 hR ⊢
  clear hg
  obtain ⟨c0, c1, c2, _, _, _⟩ := root_cells hR
  go_wp2_with fail
  refine (hhas_any (Dsk.keep H.out hc1) L P E i).mono ?_
  rintro e w2 ⟨rfl, hc2⟩
  have HC2 := Lib.hid (hc1.new hc2)
  have HR2 := Lib.hid (hR.keep hc2)
  clear hc1 hc2 hR c0 c1 c2
  cases hh : hasR L P E i s.V.length with
  | false =>
    go_wp2_with fail
    go_ret2
    exact .inr ⟨hh, rfl, HC2.out⟩
  | true =>
    obtain ⟨-, k, hk, hkn, -⟩ := hasR_yes hh
    obtain ⟨c0, c1, c2, _, _, _⟩ := root_cells HR2.out
    go_wp2_with fail
    refine (home_any L P E i).mono ?_
    rintro e w3 ⟨rfl, hc3⟩
    rw [hk]
    have HC3 := Lib.hid (HC2.out.new hc3)
    have HH := Lib.hid hk
    clear hc3 hk c0 c1 c2
    go_wp2_with fail
    refine (read_yes (Dsk.keep H.out HC3.out) k hkn).mono ?_
    rintro e w4 ⟨rfl, hW4, hc4⟩
    have hs : sectL s.S s.V.length k = (s.S.drop (k * 64)).take 64 := by unfold sectL; rw [if_pos hkn]
    rw [← hs] at hW4
    have hl := sectL_len (k := k) hlS hkn
    have ho := own_of_whole (B := w3.heap.size) (n := 64) (c := 64) hW4 (Nat.le_refl _) (by rw [bts_len]; exact hl) (by omega) (by unfold maxLen; omega)
    rw [List.take_of_length_le (by rw [bts_len]; omega)] at ho
    have HO := Lib.hid (own_more ho HC3.out.size)
    have HC4 := Lib.hid (HC3.out.new hc4)
    clear hW4 hc4 ho hs hl
    go_wp2_with fail
    go_ret2
    refine .inl ⟨hh, _, rfl, ?_, HC4.out⟩
    rw [HH.out, Int.toNat_natCast]
    exact HO.out
/-- What Put does. -/
def PutPost (w : World) (p bL bS bW : Nat) (s : St) (L P E i : Int) (x : List UInt8) (e : Ending) (w' : World) : Prop :=
  (hasR L P E i s.V.length = true ∧ x.length = 64 ∧ e = .returned (.bool true) ∧ DskS w' p bL bS bW (s.write (homeI L P i).toNat x) ∧ Chg [bS, bW] w w') ∨
  (¬ (hasR L P E i s.V.length = true ∧ x.length = 64) ∧ e = .returned (.bool false) ∧ Chg [] w w')
set_option maxHeartbeats 400000 in
set_option maxRecDepth 100000 in
theorem hput_any (h : DskS w p bL bS bW s) (L P E i : Int) {A : Option Addr} {n c : Nat} {x : List UInt8} (hx : Bs w A n c x) :
    Calls Tryz.prog 89 #[.pointer (some ⟨p, 0, none⟩), rootV L P E, .int .i64 i, .slice A n c] w (PutPost w p bL bS bW s L P E i x) := by
  have hr0 : rootV L P E = .agg #[.int .i64 L, .int .i64 P, .int .u32 E] := rfl
  have H := Lib.hid h
  have HX := Lib.hid hx
  clear h hx
  rw [hr0]
  go_enter Tryz.func89, Tryz.ntmps89
  go_wp2_with fail
  have hR := Whole.new w 58 [.int .i64 L, .int .i64 P, .int .u32 E]
  have hc1 : Chg [] w (w.alloc (.cells #[.int .i64 L, .int .i64 P, .int .u32 E] 58)) := (Chg.refl [] w).alloc _
  obtain ⟨g, hg⟩ : ∃ g, g = w.heap.size := ⟨_, rfl⟩
  rw [← hg] at hR ⊢
  generalize w.alloc (.cells #[.int .i64 L, .int .i64 P, .int .u32 E] 58) = w1 at hc1 hR ⊢
  clear hg
  obtain ⟨c0, c1, c2, _, _, _⟩ := root_cells hR
  go_wp2_with fail
  refine (hhas_any (Dsk.keep H.out hc1) L P E i).mono ?_
  rintro e w2 ⟨rfl, hc2⟩
  have HC2 := Lib.hid (hc1.new hc2)
  have HR2 := Lib.hid (hR.keep hc2)
  clear hc1 hc2 hR c0 c1 c2
  cases hh : hasR L P E i s.V.length with
  | false =>
    go_wp2_with fail
    go_ret
    exact .inr ⟨by rw [hh]; simp, rfl, HC2.out⟩
  | true =>
    obtain ⟨-, k, hk, hkn, -⟩ := hasR_yes hh
    obtain ⟨c0, c1, c2, _, _, _⟩ := root_cells HR2.out
    go_wp2_with fail
    refine (home_any L P E i).mono ?_
    rintro e w3 ⟨rfl, hc3⟩
    rw [hk]
    have HC3 := Lib.hid (HC2.out.new hc3)
    have HH := Lib.hid hk
    clear hc3 hk c0 c1 c2
    have hxl := HX.out.len
    by_cases hn : n = 64
    · subst hn
      go_wp2_with fail
      refine (write_yes (Dsk.keep H.out HC3.out) k hkn hxl (HX.out.src.keep HC3.out)).mono ?_
      rintro e w4 ⟨rfl, hD4, hc4⟩
      have HC4 := Lib.hid ((HC3.out.sub (T' := [bS, bW]) (by simp)).trans hc4)
      have HD := Lib.hid hD4
      clear hD4 hc4
      go_wp2_with fail
      go_ret
      refine .inl ⟨hh, hxl, rfl, ?_, ?_⟩
      · rw [HH.out, Int.toNat_natCast]; exact HD.out
      · exact HC4.out
    · go_wp2_with fail
      refine (write_no (Dsk.keep H.out HC3.out) k A n c (.inr (.inr hn))).mono ?_
      rintro e w4 ⟨rfl, rfl⟩
      go_wp2_with fail
      go_ret
      exact .inr ⟨by rw [hh]; simp; omega, rfl, HC3.out⟩
end
end Go.Proofs.YtddjgncdjdjgeaaGreat
namespace Go.Proofs.YtddjgncdjdjgeaaGreat
open Go.RowKit
/-- The first n pages. -/
def pagesL (s : St) (L : Int) (n : Nat) : List (List UInt8) := (List.range n).map fun i => sectL s.S s.V.length (2 + L.toNat + i)
/-- All pages, or none. -/
def allL (s : St) (L P E : Int) : List (List UInt8) := if rightR L P E s.V.length = true then pagesL s L P.toNat else []
theorem pagesL_next (s : St) (L : Int) (n : Nat) : pagesL s L (n + 1) = pagesL s L n ++ [sectL s.S s.V.length (2 + L.toNat + n)] := by
  unfold pagesL; rw [List.range_succ, List.map_append]; rfl
theorem pagesL_len (s : St) (L : Int) (n : Nat) : (pagesL s L n).length = n := by simp [pagesL]
theorem hasR_at {L P E : Int} {n k : Nat} (h : rightR L P E n = true) (hk : (k : Int) < P) : hasR L P E k n = true ∧ (homeI L P k).toNat = 2 + L.toNat + k ∧ 2 + L.toNat + k < n ∧ homeI L P k = ((2 + L.toNat + k : Nat) : Int) := by
  have h1 := hasR_in (i := k) h (by omega) hk
  obtain ⟨a, b, c, d, e, f⟩ := rightR_true.1 h
  have e1 := homeI_in (L := L) (P := P) (i := k) a b d (by omega) hk
  exact ⟨h1, by rw [e1]; omega, by omega, by rw [e1]; omega⟩
/-- Rows of the call's own. -/
def RowsPost (w : World) (ls : List (List UInt8)) (e : Ending) (w' : World) : Prop :=
  ∃ v vs, e = .returned v ∧ w'.ownsRow w.heap.size 30 1 v ls.length vs ∧ Rows w.heap.size w' vs ls ∧ Chg [] w w'
section
variable {w : World} {p bL bS bW : Nat} {s : St}
set_option maxHeartbeats 1000000 in
set_option maxRecDepth 100000 in
theorem hall_any (h : DskS w p bL bS bW s) (L P E : Int) :
    Calls Tryz.prog 56 #[.pointer (some ⟨p, 0, none⟩), rootV L P E] w (RowsPost w (allL s L P E)) := by
  obtain ⟨i0, hi, hz, hs1, hb⟩ := info_parts info_bytes
  have hr0 : rootV L P E = .agg #[.int .i64 L, .int .i64 P, .int .u32 E] := rfl
  have H := Lib.hid h
  clear h
  rw [hr0]
  go_enter Tryz.func56, Tryz.ntmps56
  go_wp2_with fail
  have hR := Whole.new w 58 [.int .i64 L, .int .i64 P, .int .u32 E]
  have hc1 : Chg [] w (w.alloc (.cells #[.int .i64 L, .int .i64 P, .int .u32 E] 58)) := (Chg.refl [] w).alloc _
  obtain ⟨g, hg⟩ : ∃ g, g = w.heap.size := ⟨_, rfl⟩
  rw [← hg] at hR ⊢
  generalize w.alloc (.cells #[.int .i64 L, .int .i64 P, .int .u32 E] 58) = w1 at hc1 hR ⊢
  clear hg
  obtain ⟨c0, c1, c2, _, _, _⟩ := root_cells hR
  go_wp2_with fail
  clear c0 c1 c2
  cases hrr : rightR L P E s.V.length with
  | false =>
    have HF := Lib.hid (show allL s L P E = [] by unfold allL; rw [if_neg (by rw [hrr]; simp)])
    go_loopw [5, 11] (fun v i wr => v = .slice none 0 0 ∧ i = .int .i64 0 ∧ Chg [] w1 wr) (fun _ _ _ => 0)
    case atStart => exact ⟨rfl, rfl, Chg.refl _ _⟩
    case round =>
      obtain ⟨rfl, rfl, hcr⟩ := hrel
      by_cases hP : 0 < P
      · obtain ⟨c0, c1, c2, _, _, _⟩ := root_cells (hR.keep hcr)
        go_wp2_with fail
        refine (hpage_any (Dsk.keep H.out (hc1.new hcr)) L P E 0).mono ?_
        rintro e w2 (⟨hyes, _⟩ | ⟨_, rfl, hc2⟩)
        · rw [hasR_wrong hrr] at hyes; cases hyes
        clear c0 c1 c2
        go_wp2_with fail
        go_ret
        rw [HF.out]
        exact ⟨_, [], rfl, own_nil _ _ _, Rows.nil _ _, (hc1.new hcr).new hc2⟩
      · go_wp2_with fail
        go_ret
        rw [HF.out]
        exact ⟨_, [], rfl, own_nil _ _ _, Rows.nil _ _, hc1.new hcr⟩
  | true =>
    have hP1 : 1 ≤ P := (rightR_true.1 hrr).2.2.1
    have hP64 : P ≤ 64 := (rightR_true.1 hrr).2.2.2.1
    have HF := Lib.hid (show allL s L P E = pagesL s L P.toNat by unfold allL; rw [if_pos hrr])
    go_loopw [5, 11] (fun v i wr => ∃ k : Nat, ∃ vs, (k : Int) ≤ P ∧ i = .int .i64 (k : Int) ∧ wr.ownsRow w1.heap.size 30 1 v k vs ∧ Rows w.heap.size wr vs (pagesL s L k) ∧ Chg [] w1 wr) (fun _ i _ => P.toNat - (intOf i).toNat)
    case atStart => exact ⟨0, [], by omega, rfl, own_nil _ _ _, Rows.nil _ _, Chg.refl _ _⟩
    case round =>
      obtain ⟨k, vs, hk, rfl, hown, hrows, hcr⟩ := hrel
      obtain ⟨Av, cv, rfl, hvl, hvc, _⟩ := own_slice hown
      have hcw := Lib.hid (hc1.new hcr)
      by_cases hlt : (k : Int) < P
      · obtain ⟨hh, hx, -, -⟩ := hasR_at hrr hlt
        have HX := Lib.hid hx
        clear hx
        obtain ⟨c0, c1, c2, _, _, _⟩ := root_cells (hR.keep hcr)
        go_wp2_with fail
        refine (hpage_any (Dsk.keep H.out hcw.out) L P E k).mono ?_
        rintro e w2 (⟨_, v2, rfl, ho2, hc2⟩ | ⟨hno, _⟩)
        rotate_left
        · rw [hh] at hno; cases hno
        rw [HX.out] at ho2
        obtain ⟨A2, c2', rfl, _⟩ := own_slice ho2
        have how := own_keep hown hc2
        have hrw := hrows.keep hc2
        have hb2 := Nat.le_trans hcr.size hc2.size
        have hx1 := Lib.hid (show k + 1 ≤ maxLen by unfold maxLen; omega)
        have hx2 := Lib.hid (show (k + 1) * 24 ≤ 140737488355328 by omega)
        have hx3 := Lib.hid hb2
        clear c0 c1 c2 hb2
        go_wp2_with (at_builtin
                     refine wpList_append_src rfl (.tmp 23) (.tmp 25) 66 rfl w1.heap.size 30 i0 _ 24 Tryz.underlying66 hi hz hs1 hb cells_slice (.slice Av k cv) k vs rfl (own_keep how ((Chg.refl _ _).alloc _)) (some ⟨w2.heap.size, 0, none⟩) 1 1 [.slice A2 64 c2'] rfl rfl (Src.of_all (Whole.new w2 30 [.slice A2 64 c2'])) (fun u hu => by simp at hu; rw [hu]; rfl) hx1.out hx2.out (by simp; have := hx3.out; omega) ?_
                     intro v4 w4 ho4 hg4 _)
        have hlen := sectL_len (k := 2 + L.toNat + k) H.out.lenS (hasR_at hrr hlt).2.2.1
        have hch1 : Chg [] w1 w4 := ((hcr.new hc2).alloc _).own (own_keep how ((Chg.refl _ _).alloc _)) (Nat.le_refl _) hg4
        go_roundw
        case rel =>
          refine ⟨k + 1, _, by omega, by go_num, ho4, ?_, hch1⟩
          rw [pagesL_next]
          exact ((hrw.keep ((Chg.refl _ _).alloc _)).snoc (by rw [hlen]; exact own_more (own_keep ho2 ((Chg.refl _ _).alloc _)) hcw.out.size)).grown (own_keep how ((Chg.refl _ _).alloc _)) hg4
        case measure => simp [intOf]; omega
      · go_wp2_with fail
        go_ret
        rw [HF.out]
        have hkP : P.toNat = k := by omega
        rw [hkP]
        exact ⟨_, vs, rfl, by rw [pagesL_len]; exact own_more hown hc1.size, hrows, hcw.out⟩
end
section
variable {w : World} {p gL gN gW : Nat} {rL rN : List Value} {lf m : Int} {s : St}
set_option maxHeartbeats 1000000 in
set_option maxRecDepth 100000 in
theorem rall_any (h : Rfx w p gL gN gW rL rN lf m s) (L P E : Int) :
    Calls Tryz.prog 60 #[.pointer (some ⟨p, 0, none⟩), rootV L P E] w (RowsPost w (allL s L P E)) := by
  obtain ⟨i0, hi, hz, hs1, hb⟩ := info_parts info_bytes
  have hr0 : rootV L P E = .agg #[.int .i64 L, .int .i64 P, .int .u32 E] := rfl
  have H := Lib.hid h
  clear h
  rw [hr0]
  go_enter Tryz.func60, Tryz.ntmps60
  go_wp2_with fail
  have hR := Whole.new w 58 [.int .i64 L, .int .i64 P, .int .u32 E]
  have hc1 : Chg [] w (w.alloc (.cells #[.int .i64 L, .int .i64 P, .int .u32 E] 58)) := (Chg.refl [] w).alloc _
  obtain ⟨g, hg⟩ : ∃ g, g = w.heap.size := ⟨_, rfl⟩
  rw [← hg] at hR ⊢
  generalize w.alloc (.cells #[.int .i64 L, .int .i64 P, .int .u32 E] 58) = w1 at hc1 hR ⊢
  clear hg
  have hld := fun (W : World) (hW : Chg [] w1.drew W) => root_cells (hR.drew.keep hW)
  cases hrr : rightR L P E s.V.length with
  | false =>
    have HF := Lib.hid (show allL s L P E = [] by unfold allL; rw [if_neg (by rw [hrr]; simp)])
    refine wp_flow (by kernel_rfl) plainT plainT_ok (by kernel_rfl) ?_
    refine flow1h (r := rootV L P E) plainT_ok rfl (.out rfl rfl) rfl (fun ev W he hW e1 => by obtain ⟨c0, c1, c2, _, _, _⟩ := hld W hW; go_simp) ?_
    refine flow_move_out plainT_ok rfl rfl rfl ?_
    refine flow_callv (.int .i64 (s.V.length : Int)) (by kernel_rfl) rfl (.cons (.inn rfl) .nil) (fun W hW => (rlen_any ((H.out.keep hc1.drew).keep hW)).mono ?_) ?_
    · rintro e w' ⟨rfl, rfl⟩; exact ⟨rfl, Chg.refl _ _⟩
    refine flow_callv (.bool false) (by kernel_rfl) rfl (.cons (.inn rfl) (.cons (.inn rfl) .nil)) (fun W hW => (rrright_any _ _ _ _).mono ?_) ?_
    · rintro e w' ⟨rfl, hc⟩; exact ⟨by rw [hrr], hc⟩
    refine flow1 (r := .bool true) plainT_ok rfl (.inn rfl) rfl (fun ev W he e1 => by go_simp) ?_
    intro vs W hW hF
    have e13 : vs 13 = .bool true := hF 13 _ rfl rfl
    simp only [putAll, Act.put, List.setIfInBounds_toArray, List.set_cons_zero, List.set_cons_succ, e13]
    have hRW := hR.drew.keep hW
    have hcW := hc1.drew.new hW
    clear hF hld hW
    go_wp2_with fail
    go_ret
    rw [HF.out]
    exact ⟨_, [], rfl, own_nil _ _ _, Rows.nil _ _, hcW⟩
  | true =>
    have hP1 : 1 ≤ P := (rightR_true.1 hrr).2.2.1
    have hP64 : P ≤ 64 := (rightR_true.1 hrr).2.2.2.1
    have HF := Lib.hid (show allL s L P E = pagesL s L P.toNat by unfold allL; rw [if_pos hrr])
    refine wp_flow (by kernel_rfl) plainT plainT_ok (by kernel_rfl) ?_
    refine flow1h (r := rootV L P E) plainT_ok rfl (.out rfl rfl) rfl (fun ev W he hW e1 => by obtain ⟨c0, c1, c2, _, _, _⟩ := hld W hW; go_simp) ?_
    refine flow_move_out plainT_ok rfl rfl rfl ?_
    refine flow_callv (.int .i64 (s.V.length : Int)) (by kernel_rfl) rfl (.cons (.inn rfl) .nil) (fun W hW => (rlen_any ((H.out.keep hc1.drew).keep hW)).mono ?_) ?_
    · rintro e w' ⟨rfl, rfl⟩; exact ⟨rfl, Chg.refl _ _⟩
    refine flow_callv (.bool true) (by kernel_rfl) rfl (.cons (.inn rfl) (.cons (.inn rfl) .nil)) (fun W hW => (rrright_any _ _ _ _).mono ?_) ?_
    · rintro e w' ⟨rfl, hc⟩; exact ⟨by rw [hrr], hc⟩
    refine flow1 (r := .bool false) plainT_ok rfl (.inn rfl) rfl (fun ev W he e1 => by go_simp) ?_
    intro vs W hW hF
    have e13 : vs 13 = .bool false := hF 13 _ rfl rfl
    simp only [putAll, Act.put, List.setIfInBounds_toArray, List.set_cons_zero, List.set_cons_succ, e13]
    have hRW := hR.drew.keep hW
    have hcW := hc1.drew.new hW
    clear hF hld hW
    go_wp2_with fail
    go_loopw [5, 6] (fun v i wr => ∃ k : Nat, ∃ vs, (k : Int) ≤ P ∧ i = .int .i64 (k : Int) ∧ wr.ownsRow W.heap.size 30 1 v k vs ∧ Rows w.heap.size wr vs (pagesL s L k) ∧ Chg [] W wr) (fun _ i _ => P.toNat - (intOf i).toNat)
    case atStart => exact ⟨0, [], by omega, rfl, own_nil _ _ _, Rows.nil _ _, Chg.refl _ _⟩
    case round =>
      obtain ⟨k, vs, hk, rfl, hown, hrows, hcr⟩ := hrel
      obtain ⟨Av, cv, rfl, hvl, hvc, _⟩ := own_slice hown
      have hcw := Lib.hid (hcW.new hcr)
      by_cases hlt : (k : Int) < P
      · obtain ⟨q, hq, hkn, hx⟩ : ∃ q, q = 2 + L.toNat + k ∧ q < s.V.length ∧ homeI L P k = (q : Int) := ⟨_, rfl, (hasR_at hrr hlt).2.2.1, (hasR_at hrr hlt).2.2.2⟩
        have HQ := Lib.hid hq
        have HS := Lib.hid (show sectL s.S s.V.length q = (s.S.drop (q * 64)).take 64 by unfold sectL; rw [if_pos hkn])
        clear hq
        have HX := Lib.hid hx
        clear hx
        obtain ⟨c0, c1, c2, _, _, _⟩ := root_cells (hRW.keep hcr)
        go_wp2_with fail
        refine (rhome_any L P E k).mono ?_
        rintro e wa ⟨rfl, hca⟩
        rw [HX.out]
        have HCA := Lib.hid hca
        clear hca
        go_wp2_with fail
        refine (rread_own ((H.out.keep hcw.out).keep HCA.out) q hkn).mono ?_
        rintro e w2 ⟨v2, rfl, ho2, hc2'⟩
        have hc2 : Chg [] wr w2 := HCA.out.new hc2'
        have ho2 := own_more ho2 HCA.out.size
        rw [← HS.out] at ho2
        clear hc2'
        obtain ⟨A2, c2', rfl, _⟩ := own_slice ho2
        have how := own_keep hown hc2
        have hrw := hrows.keep hc2
        have hb2 := Nat.le_trans hcr.size hc2.size
        have hx1 := Lib.hid (show k + 1 ≤ maxLen by unfold maxLen; omega)
        have hx2 := Lib.hid (show (k + 1) * 24 ≤ 140737488355328 by omega)
        have hx3 := Lib.hid hb2
        clear c0 c1 c2 hb2
        go_wp2_with (at_builtin
                     refine wpList_append_src rfl (.tmp 29) (.tmp 31) 66 rfl W.heap.size 30 i0 _ 24 Tryz.underlying66 hi hz hs1 hb cells_slice (.slice Av k cv) k vs rfl (own_keep how ((Chg.refl _ _).alloc _)) (some ⟨w2.heap.size, 0, none⟩) 1 1 [.slice A2 64 c2'] rfl rfl (Src.of_all (Whole.new w2 30 [.slice A2 64 c2'])) (fun u hu => by simp at hu; rw [hu]; rfl) hx1.out hx2.out (by simp; have := hx3.out; omega) ?_
                     intro v4 w4 ho4 hg4 _)
        have hlen := sectL_len (k := q) H.out.lenS hkn
        have hch1 : Chg [] W w4 := ((hcr.new hc2).alloc _).own (own_keep how ((Chg.refl _ _).alloc _)) (Nat.le_refl _) hg4
        go_roundw
        case rel =>
          refine ⟨k + 1, _, by omega, by go_num, ho4, ?_, hch1⟩
          rw [pagesL_next, ← HQ.out]
          exact ((hrw.keep ((Chg.refl _ _).alloc _)).snoc (by rw [hlen]; exact own_more (own_keep ho2 ((Chg.refl _ _).alloc _)) hcw.out.size)).grown (own_keep how ((Chg.refl _ _).alloc _)) hg4
        case measure => simp [intOf]; omega
      · obtain ⟨c0, c1, c2, _, _, _⟩ := root_cells (hRW.keep hcr)
        go_wp2_with fail
        go_ret
        rw [HF.out]
        have hkP : P.toNat = k := by omega
        rw [hkP]
        exact ⟨_, vs, rfl, by rw [pagesL_len]; exact own_more hown hcW.size, hrows, hcw.out⟩
end
end Go.Proofs.YtddjgncdjdjgeaaGreat
