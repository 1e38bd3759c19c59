/-
  S: AlikeS, Share, Space, RefOwn, SpaceR.
-/
import Derived.Test.YtddjgncdjdjgeaaGreatZS2
import Derived.Test.YtddjgncdjdjgeaaGreatZS3
import Derived.Test.YtddjgncdjdjgeaaGreatZS5
import Derived.Test.YtddjgncdjdjgeaaGreatZS6
import Derived.Test.YtddjgncdjdjgeaaGreatChecked
namespace Go.Proofs.YtddjgncdjdjgeaaGreat
open Go.RowKit
section
variable {w : World} {p bL bS bW q gL gN gW : Nat} {rL rN : List Value} {m : Int} {s : St}
set_option maxHeartbeats 2000000 in
set_option maxRecDepth 100000 in
theorem alikeS_yes (h : DskS w p bL bS bW s) (r : Rfd w q gL gN gW rL rN m s) :
    Calls Tryz.prog 45 #[.pointer (some ⟨p, 0, none⟩), .pointer (some ⟨q, 0, none⟩)] w (LawPost w) := by
  have hwl : (wl s.V s.V.length).length ≤ 1000000 := by have := wl_le s.V s.V.length; have := r.le; omega
  have kd : ∀ W, Chg [] w.drew W → DskS W p bL bS bW s := fun W hW => Dsk.keep h ((Chg.refl [] w).drew.new hW)
  have kr : ∀ W, Chg [] w.drew W → Rfd W q gL gN gW rL rN m s := fun W hW => r.keep ((Chg.refl [] w).drew.new hW)
  have uq : Tryz.prog.underlying 30 = some (.slice 5) := Tryz.underlying30
  go_enter Tryz.func45, Tryz.ntmps45
  go_wp2_with fail
  refine wp_flow (by kernel_rfl) plainT plainT_ok (by kernel_rfl) ?_
  -- Image
  refine flow_move_out plainT_ok rfl rfl rfl ?_
  refine flow_calld (ownF w.drew.heap.size 5 (bts s.L)) (keeps_own _ _ _) (.inr (keeps_own _ _ _)) (by kernel_rfl) rfl (.cons (.inn rfl) .nil) (fun W hW => (image_any (kd W hW)).mono ?_) ?_
  · rintro e w' ⟨rfl, hI, hc⟩
    have hl : s.L.length ≤ maxLen := by have := h.lenL; have := h.le; unfold maxLen; omega
    have := own_of_whole (B := w.drew.heap.size) (n := s.L.length) (c := s.L.length) hI (Chg.size hW) (bts_len _) (Nat.le_refl _) hl
    rw [List.take_of_length_le (by rw [bts_len]; exact Nat.le_refl _)] at this
    exact ⟨_, rfl, hc, by rw [ownF, bts_len]; exact this⟩
  refine flow_str plainT_ok rfl uq Tryz.underlying5 Tryz.underlying9 rfl ?_
  refine flow_move_out plainT_ok rfl rfl rfl ?_
  refine flow1 (r := .pointer (some ⟨q, 0, none⟩)) plainT_ok rfl (.inn rfl) rfl (fun ev W he e1 => by go_simp) ?_
  refine flow1 (r := .pointer (some ⟨q, 0, none⟩)) plainT_ok rfl (.inn rfl) rfl (fun ev W he e1 => by go_simp) ?_
  refine flow1h (r := .slice (some ⟨gL, 0, none⟩) s.L.length (s.L.length + rL.length)) plainT_ok rfl (.inn rfl) rfl (fun ev W he hW e1 => by have c0 := (kr W hW).rec_.cell 0; go_simp) ?_
  refine flow1h (r := .string (strOf s.L)) plainT_ok rfl (.inn rfl) rfl (fun ev W he hW e1 => by have v0 := str_front (kr W hW).last s.L.length rfl (s.L.length + rL.length); go_simp) ?_
  refine flow_eql plainT_ok (.inn rfl) (.inn rfl) (fun ev W he e1 e2 => by go_simp) rfl ?_
  refine flow_move plainT_ok rfl (keeps_isV _) (.inr (keeps_isV _)) rfl ?_
  -- Seen
  refine flow_move_out plainT_ok rfl rfl rfl ?_
  refine flow_calld (ownF w.drew.heap.size 5 (bts s.S)) (keeps_own _ _ _) (.inr (keeps_own _ _ _)) (by kernel_rfl) rfl (.cons (.inn rfl) .nil) (fun W hW => (seen_any (kd W hW)).mono ?_) ?_
  · rintro e w' ⟨rfl, hI, hc⟩
    have hl : s.S.length ≤ maxLen := by have := h.lenS; have := h.le; unfold maxLen; omega
    have := own_of_whole (B := w.drew.heap.size) (n := s.S.length) (c := s.S.length) hI (Chg.size hW) (bts_len _) (Nat.le_refl _) hl
    rw [List.take_of_length_le (by rw [bts_len]; exact Nat.le_refl _)] at this
    exact ⟨_, rfl, hc, by rw [ownF, bts_len]; exact this⟩
  refine flow_str plainT_ok rfl uq Tryz.underlying5 Tryz.underlying9 rfl ?_
  refine flow_move_out plainT_ok rfl rfl rfl ?_
  refine flow1 (r := .pointer (some ⟨q, 0, none⟩)) plainT_ok rfl (.inn rfl) rfl (fun ev W he e1 => by go_simp) ?_
  refine flow1 (r := .pointer (some ⟨q, 1, none⟩)) plainT_ok rfl (.inn rfl) rfl (fun ev W he e1 => by go_simp) ?_
  refine flow1h (r := .slice (some ⟨gN, 0, none⟩) s.S.length (s.S.length + rN.length)) plainT_ok rfl (.inn rfl) rfl (fun ev W he hW e1 => by have c0 := (kr W hW).rec_.cell 1; go_simp) ?_
  refine flow1h (r := .string (strOf s.S)) plainT_ok rfl (.inn rfl) rfl (fun ev W he hW e1 => by have v0 := str_front (kr W hW).now s.S.length rfl (s.S.length + rN.length); go_simp) ?_
  refine flow_eql plainT_ok (.inn rfl) (.inn rfl) (fun ev W he e1 e2 => by go_simp) rfl ?_
  refine flow_and plainT_ok rfl rfl rfl ?_
  refine flow_move plainT_ok rfl (keeps_isV _) (.inr (keeps_isV _)) rfl ?_
  -- Waits
  refine flow_move_out plainT_ok rfl rfl rfl ?_
  refine flow_calld (srcF (wl s.V s.V.length).length (nmsN (wl s.V s.V.length))) (keeps_src _ _) (.inr (keeps_src _ _)) (by kernel_rfl) rfl (.cons (.inn rfl) .nil) (fun W hW => (waits_any (kd W hW)).mono ?_) ?_
  · rintro e w' ⟨v, rfl, hown, hc⟩
    obtain ⟨A4, c4, rfl, hs4, _, hA4⟩ := own_form hown
    exact ⟨_, rfl, hc, A4, c4, rfl, hs4, fun ad e => (hA4 ad e).1⟩
  refine flow_move_out plainT_ok rfl rfl rfl ?_
  refine flow_calld (srcF (wl s.V s.V.length).length (nmsN (wl s.V s.V.length))) (keeps_src _ _) (.inr (keeps_src _ _)) (by kernel_rfl) rfl (.cons (.inn rfl) .nil) (fun W hW => (rwaits_any (kr W hW)).mono ?_) ?_
  · rintro e w' ⟨A5, c5, rfl, hs5, hA5, hc⟩
    exact ⟨_, rfl, hc, A5, c5, rfl, hs5, fun ad e => (hA5 ad e).1⟩
  refine flow_call (isV (.bool true)) (keeps_isV _) (.inr (keeps_isV _)) (by kernel_rfl) rfl (fun ev W he hW hf => ?_) ?_
  · have f1 : srcF (wl s.V s.V.length).length (nmsN (wl s.V s.V.length)) (ev (.tmp 27)) W := hf.1
    have f2 : srcF (wl s.V s.V.length).length (nmsN (wl s.V s.V.length)) (ev (.tmp 29)) W := hf.2.1
    obtain ⟨A1, c1, e1, s1, p1⟩ := f1
    obtain ⟨A2, c2, e2, s2, p2⟩ := f2
    refine (?_ : Calls _ _ #[ev (.tmp 27), ev (.tmp 29)] _ _)
    rw [e1, e2]
    refine (same_yes rfl hwl s1 s2 p1 p2).mono ?_
    rintro e w' ⟨rfl, hc⟩
    exact ⟨_, rfl, hc, rfl⟩
  refine flow_and plainT_ok rfl rfl rfl ?_
  refine flow_assign plainT_ok rfl (keeps_isV _) (.inr (keeps_isV _)) rfl ?_
  intro vs W hW hF
  have e4 : vs 4 = .bool true := hF 4 _ rfl rfl
  simp only [putAll, Act.put, List.setIfInBounds_toArray, List.set_cons_zero, List.set_cons_succ, e4]
  go_wp2_with fail
  go_ret
  exact ⟨rfl, (Chg.refl [] w).drew.new hW⟩
end
end Go.Proofs.YtddjgncdjdjgeaaGreat
namespace Go.Proofs.YtddjgncdjdjgeaaGreat
open Go.RowKit
/-- A truth, and only new memory. -/
def BoolPost (b : Bool) (w : World) (e : Ending) (w' : World) : Prop := e = .returned (.bool b) ∧ Chg [] w w'
theorem ret_bool {a b : Bool} (h : a = b) : Ending.returned (.bool a) = .returned (.bool b) := by rw [h]
theorem ret_int' {k : IntKind} {a b : Int} (h : a = b) : Ending.returned (.int k a) = .returned (.int k b) := by rw [h]
/-- A root by value. -/
def rootV (L P E : Int) : Value := .agg #[.int .i64 L, .int .i64 P, .int .u32 E]
def needI (n : Int) : Int := if n < 0 ∨ 64 < n then 0 else 18 + n * 66
theorem whole_grown {w w' : World} {B2 e2 k2 m : Nat} {v2 : Value} {ys : List Value} {g t : Nat} {cs : List Value} (h : Whole w g t cs) (h2 : w.ownsRow B2 e2 k2 v2 m ys) (hne : t ≠ e2) (hg : w.grownBy w' v2.ownBlock) : Whole w' g t cs := by
  unfold Whole at h ⊢
  rw [hg.block g ?_ ?_]
  · exact h
  · rcases Nat.lt_or_ge g w.heap.size with hlt | hge
    · exact hlt
    · rw [Array.getElem?_eq_none hge] at h; cases h
  · intro hc
    rcases h2.2 with ⟨rfl, _⟩ | ⟨g2, cap2, cur2, rfl, hb2, hh2, _⟩
    · simp [Value.ownBlock] at hc
    · simp [Value.ownBlock] at hc
      subst hc
      rw [h] at hh2
      simp at hh2
      exact hne hh2.2
/-- append as a step of a region that draws, for elements of any size. -/
theorem step_append_n {P : Program} {w : World} {ops : Array Oper} {o : Oper} {a : Act} {K : Act → World → Prop} {Q : Exit → Act → World → Prop} {E : Prop} (hgd : o.guard = none) (s x : Operand) (t : TypeId)
    (ho : o.op = .call { callee := .builtin .append, args := #[s, x], argTypes := #[t, t] })
    (base : Nat) (e : TypeId) (i : TypeInfo) (z : Value) (size bytes : Nat) (ht : P.underlying t = some (.slice e)) (hi : P.info? e = some i) (hz : i.zero = some z)
    (hsize : i.size = size) (hby : i.bytes = bytes) (hzs : z.cells.size = size) (hsz : 0 < size)
    (v : Value) (n : Nat) (xs : List Value) (hse : a.eval s = v) (hown : w.ownsRow base e size v n xs)
    (ad : Addr) (m c : Nat) (news : List Value) (hxe : a.eval x = .slice (some ad) m c) (hl : news.length = m * size) (hnews : ∀ j u, news[j]? = some u → w.cell? (ad.add j) = some u) (h1 : ∀ u ∈ news, u.oneCell' = true)
    (h63 : n + m ≤ maxLen) (hbytes : (n + m) * bytes ≤ 140737488355328) (hbase : base ≤ w.heap.size)
    (h : ∀ v' w', w'.ownsRow base e size v' (n + m) (xs ++ news) → w.grownBy w' v.ownBlock → K (a.put o.dst v') w') :
    if Region.wanted o (yielded ops a.tmps) = true then Oper.wp P o a w K Q else E := by
  have hw : Region.wanted o (yielded ops a.tmps) = true := by simp [Region.wanted, hgd]
  rw [if_pos hw]
  obtain ⟨v', w', hrun, h2, h3, _, _⟩ := run_append_own_at (P := P) w base t o.type e i z size bytes ht hi hz hsize hby hzs hsz v n xs hown ad m c news hl hnews h1 h63 hbytes hbase
  unfold Oper.wp execOp
  simp only [ho, resolve, invoke, builtin, Sem.run_bind, Sem.run_pure, Result.andThen_ok, List.map_toArray, List.map_cons, List.map_nil, hse, hxe, hrun]
  exact h v' w' h2 h3
theorem cells_u8 : (Value.int .u8 0).cells.size = 1 := rfl
theorem nms_len (l : List Int) : (nms l).length = l.length := by simp [nms]
theorem cell_keep {w w' : World} {p : Addr} {v : Value} (h : w.cell? p = some v) (hc : Chg [] w w') : w'.cell? p = some v := by
  have hs : Src w (some p) [v] := fun _ => ⟨p, rfl, by
    rcases Nat.lt_or_ge p.block w.heap.size with hlt | hge
    · exact hlt
    · simp [World.cell?, Array.getElem?_eq_none hge] at h, fun j u hj => by
    cases j with
    | zero =>
      simp at hj
      subst hj
      have e : p.add 0 = p := by simp [Addr.add]
      rw [e]; exact h
    | succ j => simp at hj⟩
  obtain ⟨ad, e, _, hx⟩ := hs.keep hc (by simp)
  injection e with e
  subst e
  have := hx 0 v rfl
  have e : p.add 0 = p := by simp [Addr.add]
  rwa [e] at this
theorem wdrew {w W : World} (h : Chg [] w.drew W) : Chg [] w W := (Chg.refl [] w).drew.new h
theorem not2' {a b x : Nat} (h1 : x ≠ a) (h2 : x ≠ b) : x ∉ [a, b] := by simp; exact ⟨h1, h2⟩
end Go.Proofs.YtddjgncdjdjgeaaGreat
namespace Go.Proofs.YtddjgncdjdjgeaaGreat
open Go.RowKit

def sizeI (L : Int) : Int := if L < 1 ∨ 64 < L then 0 else L * 64
def leftI (L u : Int) : Int := max (sizeI L - max u 0) 0
def fitsB (L u n : Int) : Bool := decide (0 < needI n) && decide (needI n ≤ leftI L u)
theorem sizeI_bd (L : Int) : 0 ≤ sizeI L ∧ sizeI L ≤ 4096 := by unfold sizeI; split <;> omega
section
variable {w : World}
set_option maxHeartbeats 400000 in
set_option maxRecDepth 100000 in
theorem sneed_any (n : Int) (hn : n ≤ 9223372036854775807) : Calls Tryz.prog 105 #[.int .i64 n] w fun e w' => e = .returned (.int .i64 (needI n)) ∧ w = w' := by
  by_cases h0 : n < 0
  · go_enter Tryz.func105, Tryz.ntmps105
    go_wp2_with fail
    go_ret
    exact ⟨ret_int' (by unfold needI; rw [if_pos (.inl h0)]), rfl⟩
  · have hd : decide (n < 0) = false := by simpa using h0
    by_cases h1 : 64 < n
    · go_enter Tryz.func105, Tryz.ntmps105
      go_wp2_with fail
      go_ret
      exact ⟨ret_int' (by unfold needI; rw [if_pos (.inr h1)]), rfl⟩
    · have h2 : 0 ≤ n := by omega
      have h3 : n ≤ 64 := by omega
      go_enter Tryz.func105, Tryz.ntmps105
      go_wp2_with fail
      go_ret
      exact ⟨ret_int' (by unfold needI; rw [if_neg (by omega)]), rfl⟩
set_option maxHeartbeats 400000 in
set_option maxRecDepth 100000 in
theorem srneed_any (n : Int) (hn : n ≤ 9223372036854775807) : Calls Tryz.prog 112 #[.int .i64 n] w fun e w' => e = .returned (.int .i64 (needI n)) ∧ w = w' := by
  by_cases h0 : n < 0
  · go_enter Tryz.func112, Tryz.ntmps112
    go_wp2_with fail
    go_ret
    exact ⟨ret_int' (by unfold needI; rw [if_pos (.inl h0)]), rfl⟩
  · have hd : decide (n < 0) = false := by simpa using h0
    by_cases h1 : 64 < n
    · go_enter Tryz.func112, Tryz.ntmps112
      go_wp2_with fail
      go_ret
      exact ⟨ret_int' (by unfold needI; rw [if_pos (.inr h1)]), rfl⟩
    · have h2 : 0 ≤ n := by omega
      have h3 : n ≤ 64 := by omega
      go_enter Tryz.func112, Tryz.ntmps112
      go_wp2_with fail
      go_ret
      exact ⟨ret_int' (by unfold needI; rw [if_neg (by omega)]), rfl⟩
set_option maxHeartbeats 400000 in
set_option maxRecDepth 100000 in
theorem size_any (L P E : Int) (hL : L ≤ 9223372036854775807) : Calls Tryz.prog 111 #[rootV L P E] w fun e w' => e = .returned (.int .i64 (sizeI L)) ∧ Chg [] w w' := by
  unfold rootV
  by_cases h0 : L < 1
  · go_enter Tryz.func111, Tryz.ntmps111
    go_wp2_with fail
    go_ret
    exact ⟨ret_int' (by unfold sizeI; rw [if_pos (.inl h0)]), (Chg.refl _ _).alloc _⟩
  · have hd : decide (L < 1) = false := by simpa using h0
    by_cases h1 : 64 < L
    · go_enter Tryz.func111, Tryz.ntmps111
      go_wp2_with fail
      go_ret
      exact ⟨ret_int' (by unfold sizeI; rw [if_pos (.inr h1)]), (Chg.refl _ _).alloc _⟩
    · have h2 : 1 ≤ L := by omega
      have h3 : L ≤ 64 := by omega
      go_enter Tryz.func111, Tryz.ntmps111
      go_wp2_with fail
      go_ret
      exact ⟨ret_int' (by unfold sizeI; rw [if_neg (by omega)]), (Chg.refl _ _).alloc _⟩
set_option maxHeartbeats 400000 in
set_option maxRecDepth 100000 in
theorem left_any (L P E u : Int) (hL : L ≤ 9223372036854775807) (hu : u ≤ 9223372036854775807) : Calls Tryz.prog 106 #[rootV L P E, .int .i64 u] w fun e w' => e = .returned (.int .i64 (leftI L u)) ∧ Chg [] w w' := by
  have hs := sizeI_bd L
  obtain ⟨b1, b2⟩ := hs
  have b3 : 0 ≤ max u 0 := by omega
  have b4 : max u 0 ≤ 9223372036854775807 := by omega
  unfold rootV
  go_enter Tryz.func106, Tryz.ntmps106
  go_wp2_with (go_at_call 111; refine (size_any L P E hL).mono ?_; rintro e w1 ⟨rfl, hc1⟩)
  go_ret
  exact ⟨ret_int' (by unfold leftI; rfl), ((Chg.refl _ _).alloc _).new hc1⟩
set_option maxHeartbeats 400000 in
set_option maxRecDepth 100000 in
theorem fits_any (L P E u n : Int) (hL : L ≤ 9223372036854775807) (hu : u ≤ 9223372036854775807) (hn : n ≤ 9223372036854775807) :
    Calls Tryz.prog 69 #[rootV L P E, .int .i64 u, .int .i64 n] w fun e w' => e = .returned (.bool (fitsB L u n)) ∧ Chg [] w w' := by
  have HF : Hid (fitsB L u n = (decide (0 < needI n) && decide (needI n ≤ leftI L u))) := rfl
  unfold rootV
  by_cases h0 : 0 < needI n
  · go_enter Tryz.func69, Tryz.ntmps69
    go_wp2_with (first
      | (go_at_call 105; refine (sneed_any n hn).mono ?_; rintro e w1 ⟨rfl, rfl⟩)
      | (go_at_call 106; refine (left_any L P E u hL hu).mono ?_; rintro e w1 ⟨rfl, hc1⟩))
    go_ret
    exact ⟨ret_bool (by rw [HF.out]; simp [h0]), ((Chg.refl _ _).alloc _).new hc1⟩
  · have hd : decide (0 < needI n) = false := by simpa using h0
    go_enter Tryz.func69, Tryz.ntmps69
    go_wp2_with (first
      | (go_at_call 105; refine (sneed_any n hn).mono ?_; rintro e w1 ⟨rfl, rfl⟩))
    go_ret
    exact ⟨ret_bool (by rw [HF.out, hd]; rfl), (Chg.refl _ _).alloc _⟩

theorem root_load {W : World} {g : Nat} {L P E : Int} (h : Whole W g 58 [.int .i64 L, .int .i64 P, .int .u32 E]) :
    W.cell? ⟨g, 0, none⟩ = some (.int .i64 L) ∧ W.cell? ⟨g, 1, none⟩ = some (.int .i64 P) ∧ W.cell? ⟨g, 2, none⟩ = some (.int .u32 E) := ⟨h.cell 0, h.cell 1, h.cell 2⟩

end
end Go.Proofs.YtddjgncdjdjgeaaGreat
namespace Go.Proofs.YtddjgncdjdjgeaaGreat
open Go.RowKit
section
variable {w : World} {p gL gN gW : Nat} {rL rN : List Value} {lf m : Int} {s : St}
set_option maxHeartbeats 1000000 in
set_option maxRecDepth 100000 in
theorem rread_own (h : Rfx w p gL gN gW rL rN lf m s) (k : Nat) (hk : k < s.V.length) :
    Calls Tryz.prog 100 #[.pointer (some ⟨p, 0, none⟩), .int .i64 (k : Int)] w fun e w' => ∃ v, e = .returned (.tuple #[v, .bool true]) ∧
      w'.ownsRow w.heap.size 5 1 v 64 (bts ((s.S.drop (k * 64)).take 64)) ∧ Chg [] w w' := by
  obtain ⟨i0, hi, hz0, hz1, hz2⟩ := info_parts info_u8
  have hd : decide ((k : Int) < 0) = false := by simp
  have hd1 : decide ((s.V.length : Int) ≤ (k : Int)) = false := by simp; omega
  have c1 := fun o => (h.keep ((Chg.refl [] w).alloc o)).rec_.cell 1
  have hS := h.lenS
  have hv := h.le
  have s1 : 64 * (k + 1) ≤ s.S.length := by omega
  have s2 : s.S.length ≤ 1000000 := by omega
  have hne : ¬ (s.S.length + rN.length = k * 64) := by omega
  have hu : (k + 1) * 64 ≤ s.S.length + rN.length := by omega
  clear hS
  have Hl := Lib.hid (show (bts ((s.S.drop (k * 64)).take 64)).length = 64 by rw [bts_len, List.length_take, List.length_drop]; omega)
  have hsr : Src w (some ⟨gN, k * 64, none⟩) (bts ((s.S.drop (k * 64)).take 64)) := by
    have := Src.of_whole h.now (k * 64) 64
    rwa [List.drop_append_of_le_length (by rw [bts_len]; omega), List.take_append_of_le_length (by rw [List.length_drop, bts_len]; omega), bts_cut] at this
  have h1 := bts_one ((s.S.drop (k * 64)).take 64)
  obtain ⟨Y, hY⟩ : ∃ Y, Y = bts ((s.S.drop (k * 64)).take 64) := ⟨_, rfl⟩
  rw [← hY] at Hl hsr h1
  rw [← hY]
  clear hY
  go_enter Tryz.func100, Tryz.ntmps100
  have Hm := Lib.hid (show Y.length = (k + 1) * 64 - k * 64 by rw [Hl.out]; omega)
  have Hb : (0 + ((k + 1) * 64 - k * 64)) * 1 ≤ 140737488355328 := by omega
  have Hb2 : 0 + ((k + 1) * 64 - k * 64) ≤ maxLen := by unfold maxLen; omega
  have H64 := Lib.hid (show 0 + ((k + 1) * 64 - k * 64) = 64 by omega)
  have ho0 : (w.alloc (.cells #[] 5)).ownsRow w.heap.size 5 1 (.slice (some ⟨w.heap.size, 0, none⟩) 0 0) 0 [] :=
    own_of_whole (B := w.heap.size) (n := 0) (c := 0) (Whole.new w 5 []) (Nat.le_refl _) rfl (by omega) (by unfold maxLen; omega)
  go_wp2_with (first
    | (go_at_call 53; refine (rlen_any h).mono ?_; rintro e w' ⟨rfl, rfl⟩)
    | (at_builtin
       refine wpList_append_src rfl (.tmp 14) (.tmp 24) 30 rfl w.heap.size 5 i0 (.int .u8 0) 1 Tryz.underlying30 hi hz0 hz1 hz2 rfl (.slice (some ⟨w.heap.size, 0, none⟩) 0 0) 0 [] rfl ho0 (some ⟨gN, k * 64, none⟩) ((k + 1) * 64 - k * 64) (s.S.length + rN.length - k * 64) Y rfl Hm.out (hsr.keep ((Chg.refl _ _).alloc _)) h1 Hb2 Hb (by simp) ?_
       intro v4 w4 ho4 hg4 _))
  go_ret2
  rw [H64.out] at ho4
  rw [List.nil_append] at ho4
  exact ⟨_, rfl, ho4, ((Chg.refl [] w).alloc _).own ho0 (Nat.le_refl _) hg4⟩
end
end Go.Proofs.YtddjgncdjdjgeaaGreat
namespace Go.Proofs.YtddjgncdjdjgeaaGreat
open Go.RowKit
section
variable {w : World}
set_option maxHeartbeats 400000 in
set_option maxRecDepth 100000 in
theorem rsize_any (L P E : Int) (hL : L ≤ 9223372036854775807) : Calls Tryz.prog 127 #[rootV L P E] w fun e w' => e = .returned (.int .i64 (sizeI L)) ∧ Chg [] w w' := by
  unfold rootV
  by_cases h0 : L < 1
  · go_enter Tryz.func127, Tryz.ntmps127
    go_wp2_with fail
    go_ret
    exact ⟨ret_int' (by unfold sizeI; rw [if_pos (.inl h0)]), (Chg.refl _ _).alloc _⟩
  · have hd : decide (L < 1) = false := by simpa using h0
    by_cases h1 : 64 < L
    · go_enter Tryz.func127, Tryz.ntmps127
      go_wp2_with fail
      go_ret
      exact ⟨ret_int' (by unfold sizeI; rw [if_pos (.inr h1)]), (Chg.refl _ _).alloc _⟩
    · have h2 : 1 ≤ L := by omega
      have h3 : L ≤ 64 := by omega
      go_enter Tryz.func127, Tryz.ntmps127
      go_wp2_with fail
      go_ret
      exact ⟨ret_int' (by unfold sizeI; rw [if_neg (by omega)]), (Chg.refl _ _).alloc _⟩
set_option maxHeartbeats 400000 in
set_option maxRecDepth 100000 in
theorem rleft_any (L P E u : Int) (hL : L ≤ 9223372036854775807) (hu : u ≤ 9223372036854775807) : Calls Tryz.prog 113 #[rootV L P E, .int .i64 u] w fun e w' => e = .returned (.int .i64 (leftI L u)) ∧ Chg [] w w' := by
  have hs := sizeI_bd L
  obtain ⟨b1, b2⟩ := hs
  have b3 : 0 ≤ max u 0 := by omega
  have b4 : max u 0 ≤ 9223372036854775807 := by omega
  unfold rootV
  go_enter Tryz.func113, Tryz.ntmps113
  go_wp2_with (go_at_call 127; refine (rsize_any L P E hL).mono ?_; rintro e w1 ⟨rfl, hc1⟩)
  go_ret
  exact ⟨ret_int' (by unfold leftI; rfl), ((Chg.refl _ _).alloc _).new hc1⟩
set_option maxHeartbeats 1000000 in
set_option maxRecDepth 100000 in
theorem rfits_any (L P E u n : Int) (hL : L ≤ 9223372036854775807) (hu : u ≤ 9223372036854775807) (hn : n ≤ 9223372036854775807) :
    Calls Tryz.prog 74 #[rootV L P E, .int .i64 u, .int .i64 n] w fun e w' => e = .returned (.bool (fitsB L u n)) ∧ Chg [] w w' := by
  have HF : Hid (fitsB L u n = (decide (0 < needI n) && decide (needI n ≤ leftI L u))) := rfl
  have HW := Whole.new w 58 [.int .i64 L, .int .i64 P, .int .u32 E]
  have hc0 : Chg [] w (w.alloc (.cells #[.int .i64 L, .int .i64 P, .int .u32 E] 58)) := (Chg.refl [] w).alloc _
  unfold rootV
  by_cases h0 : 0 < needI n
  · go_enter Tryz.func74, Tryz.ntmps74
    go_wp2_with fail
    generalize w.alloc (.cells #[.int .i64 L, .int .i64 P, .int .u32 E] 58) = w1 at HW hc0 ⊢
    refine wp_flow (by kernel_rfl) plainT plainT_ok (by kernel_rfl) ?_
    refine flow_move_out plainT_ok rfl rfl rfl ?_
    refine flow_callv (.int .i64 (needI n)) (by kernel_rfl) rfl (.cons (.inn rfl) .nil) (fun W hW => (srneed_any n hn).mono ?_) ?_
    · rintro e w' ⟨rfl, rfl⟩; exact ⟨rfl, Chg.refl _ _⟩
    refine flow2 (r := .bool true) plainT_ok rfl (.inn rfl) (.const _) rfl (fun ev W he e1 e2 => by go_simp) ?_
    refine flow_move plainT_ok rfl (keeps_isV _) (.inr (keeps_isV _)) rfl ?_
    refine flow_move_out plainT_ok rfl rfl rfl ?_
    refine flow_callv (.int .i64 (needI n)) (by kernel_rfl) rfl (.cons (.inn rfl) .nil) (fun W hW => (srneed_any n hn).mono ?_) ?_
    · rintro e w' ⟨rfl, rfl⟩; exact ⟨rfl, Chg.refl _ _⟩
    refine flow1h (r := rootV L P E) plainT_ok rfl (.out rfl rfl) rfl (fun ev W he hW e1 => by obtain ⟨c0, c1, c2⟩ := root_load (HW.drew.keep hW); go_simp; rfl) ?_
    refine flow_move_out plainT_ok rfl rfl rfl ?_
    refine flow_callv (.int .i64 (leftI L u)) (by kernel_rfl) rfl (.cons (.inn rfl) (.cons (.inn rfl) .nil)) (fun W hW => (rleft_any L P E u hL hu).mono ?_) ?_
    · rintro e w' ⟨rfl, hc⟩; exact ⟨rfl, hc⟩
    refine flow2 (r := .bool (decide (needI n ≤ leftI L u))) plainT_ok rfl (.inn rfl) (.inn rfl) rfl (fun ev W he e1 e2 => by go_simp) ?_
    refine flow_and plainT_ok rfl rfl rfl ?_
    refine flow_assign plainT_ok rfl (keeps_isV _) (.inr (keeps_isV _)) rfl ?_
    intro vs W hW hF
    have e6 : vs 6 = .bool (decide (needI n ≤ leftI L u)) := hF 6 _ rfl rfl
    simp only [putAll, Act.put, List.setIfInBounds_toArray, List.set_cons_zero, List.set_cons_succ, e6]
    go_wp2_with fail
    go_ret
    exact ⟨ret_bool (by rw [HF.out]; simp [h0]), hc0.drew.new hW⟩
  · have hd : decide (0 < needI n) = false := by simpa using h0
    go_enter Tryz.func74, Tryz.ntmps74
    go_wp2_with fail
    generalize w.alloc (.cells #[.int .i64 L, .int .i64 P, .int .u32 E] 58) = w1 at HW hc0 ⊢
    refine wp_flow (by kernel_rfl) plainT plainT_ok (by kernel_rfl) ?_
    refine flow_move_out plainT_ok rfl rfl rfl ?_
    refine flow_callv (.int .i64 (needI n)) (by kernel_rfl) rfl (.cons (.inn rfl) .nil) (fun W hW => (srneed_any n hn).mono ?_) ?_
    · rintro e w' ⟨rfl, rfl⟩; exact ⟨rfl, Chg.refl _ _⟩
    refine flow2 (r := .bool false) plainT_ok rfl (.inn rfl) (.const _) rfl (fun ev W he e1 e2 => by go_simp) ?_
    refine flow_move plainT_ok rfl (keeps_isV _) (.inr (keeps_isV _)) rfl ?_
    refine flow_skip rfl ?_
    refine flow_skip rfl ?_
    refine flow_skip rfl ?_
    refine flow_skip rfl ?_
    refine flow_skip rfl ?_
    refine flow_skip rfl ?_
    refine flow_and_false plainT_ok rfl rfl rfl ?_
    refine flow_assign plainT_ok rfl (keeps_isV _) (.inr (keeps_isV _)) rfl ?_
    intro vs W hW hF
    have e6 : vs 6 = .bool false := hF 6 _ rfl rfl
    simp only [putAll, Act.put, List.setIfInBounds_toArray, List.set_cons_zero, List.set_cons_succ, e6]
    go_wp2_with fail
    go_ret
    exact ⟨ret_bool (by rw [HF.out, hd]; rfl), hc0.drew.new hW⟩

end
end Go.Proofs.YtddjgncdjdjgeaaGreat
