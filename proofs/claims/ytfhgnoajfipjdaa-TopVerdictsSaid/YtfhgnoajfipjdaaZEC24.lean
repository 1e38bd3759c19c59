/-
  EC: MmNew, MmMore, MmGrow.
-/
import Derived.Test.YtfhgnoajfipjdaaZEC2
import Derived.Test.YtfhgnoajfipjdaaZEC3
import Derived.Test.YtfhgnoajfipjdaaZEC5
import Derived.Test.YtfhgnoajfipjdaaZEC11
namespace Go.Proofs.Ytfhgnoajfipjdaa
open Go.RowKit

/-- A new memory. -/
def NewPost (w : World) (l : List UInt8) (k most : Nat) (e : Ending) (w' : World) : Prop :=
  ∃ p gC gD, e = .returned (.pointer (some ⟨p, 0, none⟩)) ∧ Mm w' p gC gD l [] (falses k) [] most ∧ w.heap.size ≤ p ∧ w.heap.size ≤ gC ∧ w.heap.size ≤ gD ∧ Chg [] w w'

section
variable {w : World}
theorem NewPost.drew {l : List UInt8} {k most : Nat} {e : Ending} {w' : World} (h : NewPost w l k most e w') : NewPost w l k most e w'.drew := by
  obtain ⟨p, gC, gD, he, hM, h1, h2, h3, hc⟩ := h
  exact ⟨p, gC, gD, he, hM.keep (Chg.refl [] w').drew, h1, h2, h3, hc.drew⟩
theorem new_end {W : World} {q gC gD k most n : Nat} {l : List UInt8} (hq : q = W.heap.size) (hC : Whole W gC 5 (bts l)) (hD : Whole W gD 4 (bls (falses k))) (hn : l.length = n) (hl : n = 64 * k) (h1 : k ≤ most) (h2 : most ≤ 64)
    (hc : Chg [] w W) (b1 : w.heap.size ≤ gC) (b2 : w.heap.size ≤ gD) :
    NewPost w l k most (.returned (.pointer (some ⟨q, 0, none⟩))) (W.alloc (.cells #[.slice (some ⟨gC, 0, none⟩) n n, .int .i64 (most : Int), .slice (some ⟨gD, 0, none⟩) k k] 109)) := by
  subst hq hn
  have hk : ∀ o, Chg [] W (W.alloc o) := fun o => (Chg.refl [] W).alloc o
  refine ⟨W.heap.size, gC, gD, rfl, ⟨?_, by simpa using hC.keep (hk _), by simpa using hD.keep (hk _), by rw [falses_len]; exact hl, by rw [falses_len]; exact h1, h2, by unfold maxLen; simp; omega, by unfold maxLen; simp [falses_len]; omega⟩, hc.size, b1, b2, hc.alloc _⟩
  have := Whole.new W 109 [.slice (some ⟨gC, 0, none⟩) l.length l.length, .int .i64 (most : Int), .slice (some ⟨gD, 0, none⟩) k k]
  simpa [falses_len] using this

set_option maxHeartbeats 1000000 in
set_option maxRecDepth 100000 in
theorem cnew_yes (k most : Nat) (h1 : k ≤ most) (h2 : most ≤ 64) :
    Calls Try.prog 14 #[.int .i64 (k : Int), .int .i64 (most : Int)] w (NewPost w (zeros (k * 64)) k most) := by
  have hd2 : decide ((most : Int) < (k : Int)) = false := by simp; omega
  have hd3 : decide (64 < (most : Int)) = false := by simp; omega
  have hmk : ∀ W : World, (Instr.makeSlice 46 (.int .i64 ((k : Int) * 64)) (.int .i64 ((k : Int) * 64))).run Try.prog W = .ok (.slice (some ⟨W.heap.size, 0, none⟩) (k * 64) (k * 64)) (W.alloc (.cells (bts (zeros (k * 64))).toArray 5)) :=
    fun W => by
      have := make_u8 (k * 64) (by omega) W
      simpa using this
  have hmb : ∀ W : World, (Instr.makeSlice 107 (.int .i64 (k : Int)) (.int .i64 (k : Int))).run Try.prog W = .ok (.slice (some ⟨W.heap.size, 0, none⟩) k k) (W.alloc (.cells (bls (falses k)).toArray 4)) :=
    fun W => make_bool k (by omega) W
  have hz : (zeros (k * 64)).length = k * 64 := zeros_len _
  have HZ := Lib.hid hz
  clear hz
  have hw : IntKind.i64.wrap ((k : Int) * 64) = (k : Int) * 64 := IntWalk.i64_in _ (by omega)
  go_enter Try.func14, Try.ntmps14
  go_wp2_with fail
  go_region_with fail
  all_goals
    go_wp2_with fail
    go_ret
  · have hA := Whole.new w 5 (bts (zeros (k * 64)))
    have hB := Whole.new (w.alloc (.cells (bts (zeros (k * 64))).toArray 5)) 4 (bls (falses k))
    rw [show (w.alloc (.cells (bts (zeros (k * 64))).toArray 5)).heap.size = w.heap.size + 1 by simp] at hB
    exact (new_end (W := (w.alloc (.cells (bts (zeros (k * 64))).toArray 5)).alloc (.cells (bls (falses k)).toArray 4)) (by simp) (hA.keep ((Chg.refl [] _).alloc _)) hB HZ.out (by omega) h1 h2 (((Chg.refl [] w).alloc _).alloc _) (Nat.le_refl _) (by omega)).drew
  · have hA := Whole.new w 4 (bls (falses k))
    have hB := Whole.new (w.alloc (.cells (bls (falses k)).toArray 4)) 5 (bts (zeros (k * 64)))
    rw [show (w.alloc (.cells (bls (falses k)).toArray 4)).heap.size = w.heap.size + 1 by simp] at hB
    exact (new_end (W := (w.alloc (.cells (bls (falses k)).toArray 4)).alloc (.cells (bts (zeros (k * 64))).toArray 5)) (by simp) hB (hA.keep ((Chg.refl [] _).alloc _)) HZ.out (by omega) h1 h2 (((Chg.refl [] w).alloc _).alloc _) (by omega) (Nat.le_refl _)).drew

variable {A : Option Addr} {n c : Nat} {l : List UInt8}
end
end Go.Proofs.Ytfhgnoajfipjdaa
namespace Go.Proofs.Ytfhgnoajfipjdaa
open Go.RowKit

/-- Bytes of the call's own. -/
def OwnB (w : World) (l : List UInt8) (e : Ending) (w' : World) : Prop := ∃ v, e = .returned v ∧ w'.ownsRow w.heap.size 5 1 v l.length (bts l) ∧ Chg [] w w'
/-- The places that are true, below k. -/
def trues (V : List Bool) (k : Nat) : List Int := ((List.range k).filter fun i => V.getD i false).map Int.ofNat
theorem trues_yes (V : List Bool) (k : Nat) (h : V.getD k false = true) : trues V (k + 1) = trues V k ++ [(k : Int)] := by
  unfold trues; rw [List.range_succ, List.filter_append, List.map_append, List.filter_cons, if_pos h]; rfl
theorem trues_no (V : List Bool) (k : Nat) (h : V.getD k false = false) : trues V (k + 1) = trues V k := by
  unfold trues; rw [List.range_succ, List.filter_append, List.filter_cons, if_neg (by rw [h]; decide)]; simp
theorem trues_le (V : List Bool) (k : Nat) : (trues V k).length ≤ k := by
  unfold trues; rw [List.length_map]; exact Nat.le_trans (List.length_filter_le _ _) (by simp)
/-- Numbers of the call's own. -/
def OwnI (w : World) (l : List Int) (e : Ending) (w' : World) : Prop := ∃ v, e = .returned v ∧ w'.ownsRow w.heap.size 3 1 v l.length (nms l) ∧ Chg [] w w'
theorem cells_i64 : (Value.int .i64 0).cells.size = 1 := rfl
section
variable {w : World} {p gC gD : Nat} {L : List UInt8} {X : List Value} {V : List Bool} {Y : List Value} {most : Nat}
set_option maxHeartbeats 1000000 in
theorem mbytes_any (h : Mm w p gC gD L X V Y most) : Calls Try.prog 18 #[.pointer (some ⟨p, 0, none⟩)] w (OwnB w L) := by
  obtain ⟨i, hi, hz, hs1, hb⟩ := info_parts info_u8
  have c0 := h.rec_.cell 0
  have hsr := h.src
  have hl := Lib.hid (bts_len L)
  have h1 := bts_one L
  have b1 := h.small
  have x1 := Lib.hid (show 0 + L.length ≤ maxLen by unfold maxLen; omega)
  have x2 := Lib.hid (show (0 + L.length) * 1 ≤ 140737488355328 by omega)
  go_enter Try.func18, Try.ntmps18
  go_wp2_with (at_builtin
               refine wpList_append_src rfl (.const (.slice none 0 0)) (.tmp 6) 46 rfl w.heap.size 5 i _ 1 Try.underlying46 hi hz hs1 hb cells_u8 (.slice none 0 0) 0 [] rfl (own_nil _ _ _) (some ⟨gC, 0, none⟩) L.length (L.length + X.length) (bts L) rfl hl.out hsr h1 x1.out x2.out (Nat.le_refl _) ?_
               intro v4 w4 ho4 hg4 _)
  go_ret
  rw [Nat.zero_add, List.nil_append] at ho4
  exact ⟨v4, rfl, ho4, Chg.of_grown hg4 (fun g hg => by simp [Value.ownBlock] at hg)⟩

set_option maxHeartbeats 1000000 in
set_option maxRecDepth 100000 in
theorem mdirty_any (h : Mm w p gC gD L X V Y most) : Calls Try.prog 19 #[.pointer (some ⟨p, 0, none⟩)] w (OwnI w (trues V V.length)) := by
  obtain ⟨i, hi, hz, hs1, hb⟩ := info_parts info_int
  have c2 := h.rec_.cell 2
  have b1 := h.smallV
  have HH := Lib.hid h
  clear h
  go_enter Try.func19, Try.ntmps19
  go_wp2_with fail
  go_loopw [3, 11] (fun v i wr => ∃ k : Nat, k ≤ V.length ∧ i = .int .i64 (k : Int) ∧ (∃ m, m = (trues V k).length ∧ wr.ownsRow w.heap.size 3 1 v m (nms (trues V k))) ∧ Chg [] w wr) (fun _ i _ => V.length - (intOf i).toNat)
  case atStart => exact ⟨0, by omega, rfl, ⟨0, rfl, own_nil w w.heap.size 3⟩, Chg.refl _ _⟩
  case round =>
    obtain ⟨k, hk, rfl, ⟨m, hm0, hown⟩, hcr⟩ := hrel
    have hm1 := trues_le V k
    have hm2 : m ≤ k := by omega
    have HM := Lib.hid hm0
    have HO := Lib.hid hown
    have HC := Lib.hid hcr
    have hz1 := hcr.size
    clear hm0 hm1 hcr
    by_cases hlt : k < V.length
    · have hx := (HH.out.keep HC.out).bit k hlt
      cases hvk : V[k]
      · have hgd : V.getD k false = false := by rw [List.getD_eq_getElem?_getD, List.getElem?_eq_getElem hlt, hvk]; rfl
        have HT := Lib.hid (trues_no V k hgd)
        rw [hvk] at hx
        clear hvk hgd hown
        go_wp2_with fail
        go_roundw
        case rel => exact ⟨k + 1, by omega, by go_num, ⟨m, by rw [HT.out]; exact HM.out, by rw [HT.out]; exact HO.out⟩, HC.out⟩
        case measure => simp [intOf] <;> omega
      · have hgd : V.getD k false = true := by rw [List.getD_eq_getElem?_getD, List.getElem?_eq_getElem hlt, hvk]; rfl
        have HT := Lib.hid (trues_yes V k hgd)
        rw [hvk] at hx
        clear hvk hgd
        have x1 := Lib.hid (show m + 1 ≤ maxLen by unfold maxLen; omega)
        have x2 := Lib.hid (show (m + 1) * 8 ≤ 140737488355328 by omega)
        have ho2 := own_keep hown ((Chg.refl [] wr).alloc (.cells #[.int .i64 (k : Int)] 3))
        have hs2 : Src (wr.alloc (.cells #[.int .i64 (k : Int)] 3)) (some ⟨wr.heap.size, 0, none⟩) [.int .i64 (k : Int)] := Src.of_all (Whole.new wr 3 [.int .i64 (k : Int)])
        have hs3 : w.heap.size ≤ (wr.alloc (.cells #[.int .i64 (k : Int)] 3)).heap.size := by simp; omega
        have h1 : ∀ u ∈ [Value.int .i64 (k : Int)], u.oneCell' = true := by simp [Value.oneCell']
        clear hown
        go_wp2_with (at_builtin
                     refine wpList_append_src rfl (.tmp 17) (.tmp 19) 22 rfl w.heap.size 3 i _ 8 Try.underlying22 hi hz hs1 hb cells_i64 _ m (nms (trues V k)) rfl ho2 (some ⟨wr.heap.size, 0, none⟩) 1 1 [.int .i64 (k : Int)] rfl rfl hs2 h1 x1.out x2.out hs3 ?_
                     intro v4 w4 ho4 hg4 _)
        go_roundw
        case rel =>
          refine ⟨k + 1, by omega, by go_num, ⟨m + 1, ?_, ?_⟩, ?_⟩
          · rw [HT.out, List.length_append, ← HM.out]; rfl
          · rw [HT.out, nms_app]; exact ho4
          · exact (HC.out.alloc _).own ho2 (Nat.le_refl _) hg4
        case measure => simp [intOf] <;> omega
    · obtain rfl : k = V.length := by omega
      go_wp2_with fail
      go_ret
      exact ⟨_, rfl, by rw [← HM.out]; exact HO.out, HC.out⟩
end
end Go.Proofs.Ytfhgnoajfipjdaa
namespace Go.Proofs.Ytfhgnoajfipjdaa
open Go.RowKit
theorem whole_of_own {w : World} {B g n cap : Nat} {e : TypeId} {xs : List Value} (h : w.ownsRow B e 1 (.slice (some ⟨g, 0, none⟩) n cap) n xs) : ∃ X : List Value, cap = n + X.length ∧ Whole w g e (xs ++ X) ∧ cap ≤ maxLen ∧ xs.length = n := by
  have hx := h.1
  rcases h.2 with ⟨h', _⟩ | ⟨g', cap', cur, h', hb, hg, hnc, hcm, hcs, htake⟩
  · simp at h'
  · simp only [Value.slice.injEq, Option.some.injEq, Addr.mk.injEq, and_true, true_and] at h'
    obtain ⟨rfl, rfl⟩ := h'
    rw [Nat.mul_one] at hcs htake hx
    have hl : cur.toList.length = cap := by rw [Array.length_toList]; exact hcs
    refine ⟨cur.toList.drop n, by rw [List.length_drop, hl]; omega, ?_, hcm, hx⟩
    unfold Whole
    rw [← htake, List.take_append_drop]
    exact hg
theorem own_mm {w : World} {g n : Nat} {e : TypeId} {xs X : List Value} (h : Whole w g e (xs ++ X)) (hx : xs.length = n) (hm : n + X.length ≤ maxLen) : w.ownsRow 0 e 1 (.slice (some ⟨g, 0, none⟩) n (n + X.length)) n xs := by
  have := own_of_whole (B := 0) (n := n) h (Nat.zero_le _) (c := n + X.length) (by rw [List.length_append, hx]) (by omega) hm
  rwa [List.take_left' hx] at this
/-- What is known of a memory while it grows. -/
structure Gm (w : World) (p gC gD : Nat) (nC cC nD cD most : Nat) (xs : List Value) (ys : List Value) : Prop where
  rec_ : Whole w p 109 [.slice (some ⟨gC, 0, none⟩) nC cC, .int .i64 (most : Int), .slice (some ⟨gD, 0, none⟩) nD cD]
  cel : w.ownsRow 0 5 1 (.slice (some ⟨gC, 0, none⟩) nC cC) nC xs
  dir : w.ownsRow 0 4 1 (.slice (some ⟨gD, 0, none⟩) nD cD) nD ys
theorem own_keepT {w w' : World} {T : List Nat} {B e g n cap : Nat} {xs : List Value} (h : w.ownsRow B e 1 (.slice (some ⟨g, 0, none⟩) n cap) n xs) (hc : Chg T w w') (hg : g ∉ T) : w'.ownsRow B e 1 (.slice (some ⟨g, 0, none⟩) n cap) n xs := by
  refine ⟨h.1, ?_⟩
  rcases h.2 with h' | ⟨g', cap', cur, h', hb, hgg, rest⟩
  · exact .inl h'
  · simp only [Value.slice.injEq, Option.some.injEq, Addr.mk.injEq, and_true, true_and] at h'
    obtain ⟨rfl, rfl⟩ := h'
    have hlt : g < w.heap.size := by
      rcases Nat.lt_or_ge g w.heap.size with hlt | hge
      · exact hlt
      · rw [Array.getElem?_eq_none hge] at hgg; cases hgg
    exact .inr ⟨g, cap, cur, rfl, hb, (hc.block g hlt hg).trans hgg, rest⟩
theorem mown_ne {w : World} {B B' e e' g g' n n' c c' : Nat} {xs ys : List Value} (h : w.ownsRow B e 1 (.slice (some ⟨g, 0, none⟩) n c) n xs) (h' : w.ownsRow B' e' 1 (.slice (some ⟨g', 0, none⟩) n' c') n' ys) (hne : e ≠ e') : g ≠ g' := by
  obtain ⟨X, _, hX, _⟩ := whole_of_own h
  obtain ⟨Y, _, hY, _⟩ := whole_of_own h'
  exact hX.ne_ hY hne
theorem own_rec_ne {w : World} {B e e' g p n c : Nat} {xs cs : List Value} (h : w.ownsRow B e 1 (.slice (some ⟨g, 0, none⟩) n c) n xs) (h' : Whole w p e' cs) (hne : e' ≠ e) : p ≠ g := by
  obtain ⟨X, _, hX, _⟩ := whole_of_own h
  exact h'.ne_ hX hne
section
variable {w w' : World} {p gC gD nC cC nD cD most : Nat} {xs ys : List Value}
theorem Gm.keep (h : Gm w p gC gD nC cC nD cD most xs ys) (hc : Chg [] w w') : Gm w' p gC gD nC cC nD cD most xs ys := ⟨h.rec_.keep hc, own_keep h.cel hc, own_keep h.dir hc⟩
/-- The bytes have grown, and the struct tells it. -/
theorem Gm.cells_set (h : Gm w p gC gD nC cC nD cD most xs ys) {g' n' c' : Nat} {zs : List Value} {w2 : World} (ho : w2.ownsRow 0 5 1 (.slice (some ⟨g', 0, none⟩) n' c') n' zs) (hg : w.grownBy w2 (some gC)) :
    Gm (w2.setCell ⟨p, 0, none⟩ (.slice (some ⟨g', 0, none⟩) n' c')) p g' gD n' c' nD cD most zs ys ∧ Whole w2 p 109 [.slice (some ⟨gC, 0, none⟩) nC cC, .int .i64 (most : Int), .slice (some ⟨gD, 0, none⟩) nD cD] ∧
      Chg [p, gC] w (w2.setCell ⟨p, 0, none⟩ (.slice (some ⟨g', 0, none⟩) n' c')) := by
  have d1 := own_rec_ne h.cel h.rec_ (by decide)
  have d2 := mown_ne h.cel h.dir (by decide)
  have hc : Chg [gC] w w2 := Chg.of_grown hg (fun g e _ => by simp only [Option.some.injEq] at e; simp [e])
  have hr := h.rec_.chg hc (by simpa using d1)
  have hd := own_keepT h.dir hc (by simpa using Ne.symm d2)
  have d3 := own_rec_ne ho hr (by decide)
  have d4 := own_rec_ne hd hr (by decide)
  have hs : Chg [p] w2 (w2.setCell ⟨p, 0, none⟩ (.slice (some ⟨g', 0, none⟩) n' c')) := (Chg.refl [p] w2).setCell (by simp) _
  refine ⟨⟨hr.set_ 0 _, own_keepT ho hs (by simpa using Ne.symm d3), own_keepT hd hs (by simpa using Ne.symm d4)⟩, hr, ?_⟩
  exact (hc.sub (T' := [p, gC]) (by simp)).setCell (by simp) _
theorem Gm.dirty_set (h : Gm w p gC gD nC cC nD cD most xs ys) {g' n' c' : Nat} {zs : List Value} {w2 : World} (ho : w2.ownsRow 0 4 1 (.slice (some ⟨g', 0, none⟩) n' c') n' zs) (hg : w.grownBy w2 (some gD)) :
    Gm (w2.setCell ⟨p, 2, none⟩ (.slice (some ⟨g', 0, none⟩) n' c')) p gC g' nC cC n' c' most xs zs ∧ Whole w2 p 109 [.slice (some ⟨gC, 0, none⟩) nC cC, .int .i64 (most : Int), .slice (some ⟨gD, 0, none⟩) nD cD] ∧
      Chg [p, gD] w (w2.setCell ⟨p, 2, none⟩ (.slice (some ⟨g', 0, none⟩) n' c')) := by
  have d1 := own_rec_ne h.dir h.rec_ (by decide)
  have d2 := mown_ne h.cel h.dir (by decide)
  have hc : Chg [gD] w w2 := Chg.of_grown hg (fun g e _ => by simp only [Option.some.injEq] at e; simp [e])
  have hr := h.rec_.chg hc (by simpa using d1)
  have hd := own_keepT h.cel hc (by simpa using d2)
  have d3 := own_rec_ne ho hr (by decide)
  have d4 := own_rec_ne hd hr (by decide)
  have hs : Chg [p] w2 (w2.setCell ⟨p, 2, none⟩ (.slice (some ⟨g', 0, none⟩) n' c')) := (Chg.refl [p] w2).setCell (by simp) _
  refine ⟨⟨hr.set_ 2 _, own_keepT hd hs (by simpa using Ne.symm d4), own_keepT ho hs (by simpa using Ne.symm d3)⟩, hr, ?_⟩
  exact (hc.sub (T' := [p, gD]) (by simp)).setCell (by simp) _
end
section
variable {w : World} {p gC gD : Nat} {L : List UInt8} {X : List Value} {V : List Bool} {Y : List Value} {most : Nat}
theorem Mm.gm (h : Mm w p gC gD L X V Y most) : Gm w p gC gD L.length (L.length + X.length) V.length (V.length + Y.length) most (bts L) (bls V) :=
  ⟨h.rec_, own_mm h.cel (bts_len L) h.capX, own_mm h.dir (bls_len V) h.capY⟩
theorem Gm.mm {nC cC nD cD : Nat} {xs ys : List Value} (h : Gm w p gC gD nC cC nD cD most xs ys) (hx : xs = bts L) (hy : ys = bls V) (h1 : L.length = 64 * V.length) (h2 : V.length ≤ most) (h3 : most ≤ 64) : ∃ X Y, Mm w p gC gD L X V Y most := by
  subst hx hy
  obtain ⟨X, eX, hX, mX, lX⟩ := whole_of_own h.cel
  obtain ⟨Y, eY, hY, mY, lY⟩ := whole_of_own h.dir
  rw [bts_len] at lX
  rw [bls_len] at lY
  subst lX lY eX eY
  exact ⟨X, Y, h.rec_, hX, hY, h1, h2, h3, mX, mY⟩
set_option maxHeartbeats 400000 in
theorem grow_no (h : Mm w p gC gD L X V Y most) (n : Int) (hn : n < 0 ∨ (most : Int) - V.length < n) :
    Calls Try.prog 169 #[.pointer (some ⟨p, 0, none⟩), .int .i64 n] w fun e w' => e = .returned (.int .i64 (-1)) ∧ w = w' := by
  have c1 := h.rec_.cell 1
  have b1 := h.le
  have b2 := h.top
  by_cases h0 : n < 0
  · have hd : decide (n < 0) = true := by simpa using h0
    clear hn
    go_enter Try.func169, Try.ntmps169
    go_wp2_with (go_at_call 168; refine (pages_any h).mono ?_; rintro e w' ⟨rfl, rfl⟩)
    go_ret
    exact ⟨rfl, rfl⟩
  · have hd : decide (n < 0) = false := by simpa using h0
    have hd2 : decide ((most : Int) - (V.length : Int) < n) = true := by simp; omega
    clear hn
    go_enter Try.func169, Try.ntmps169
    go_wp2_with (go_at_call 168; refine (pages_any h).mono ?_; rintro e w' ⟨rfl, rfl⟩)
    go_ret
    exact ⟨rfl, rfl⟩
def trs (k : Nat) : List Bool := List.replicate k true
/-- What Grow has done. -/
def GrowPost (w : World) (p gC gD : Nat) (L : List UInt8) (V : List Bool) (most k : Nat) (e : Ending) (w' : World) : Prop :=
  ∃ gC' gD' X' Y', e = .returned (.int .i64 (V.length : Int)) ∧ Mm w' p gC' gD' (L ++ zeros (64 * k)) X' (V ++ trs k) Y' most ∧ Chg [p, gC, gD] w w' ∧ (gC' = gC ∨ w.heap.size ≤ gC') ∧ (gD' = gD ∨ w.heap.size ≤ gD')
theorem trs_len (k : Nat) : (trs k).length = k := by simp [trs]
theorem trs_next (j : Nat) : bls (trs j) ++ [Value.bool true] = bls (trs (j + 1)) := by
  unfold trs bls; rw [List.map_replicate, List.map_replicate, List.replicate_succ', ]
theorem own_some {w : World} {B e n : Nat} {v : Value} {xs : List Value} (h : w.ownsRow B e 1 v (n + 1) xs) : ∃ g c, v = .slice (some ⟨g, 0, none⟩) (n + 1) c := by
  rcases h.2 with ⟨_, h'⟩ | ⟨g, c, _, h', _⟩
  · omega
  · exact ⟨g, c, h'⟩
theorem tn_int64 : Try.prog.underlying 2 = some (.int .i64) := by kernel_rfl
set_option maxHeartbeats 2000000 in
set_option maxRecDepth 100000 in
theorem grow_yes (h : Mm w p gC gD L X V Y most) (k : Nat) (hk : V.length + k ≤ most) :
    Calls Try.prog 169 #[.pointer (some ⟨p, 0, none⟩), .int .i64 (k : Int)] w (GrowPost w p gC gD L V most k) := by
  obtain ⟨i, hi, hz, hs1, hb⟩ := info_parts info_u8
  obtain ⟨i2, hi2, hz2, hs2, hb2⟩ := info_parts info_bool
  have c0 := h.rec_.cell 0
  have c1 := h.rec_.cell 1
  have b1 := h.small
  have b2 := h.smallV
  have b3 := h.top
  have hlen := h.len
  have hd2 : decide ((most : Int) - (V.length : Int) < (k : Int)) = false := by simp; omega
  obtain ⟨g', cap', w2, hr, ho2, hg2, hor⟩ := run_append_zeros (P := Try.prog) w 0 46 2 46 5 i _ 1 .i64 Try.underlying46 tn_int64 hi hz hs1 hb rfl rfl gC L.length (L.length + X.length) (bts L) h.gm.cel (k * 64) (by unfold maxLen; omega) (by omega) (Nat.zero_le _)
  obtain ⟨hG, hR2, hC2⟩ := h.gm.cells_set ho2 hg2
  have c2 := hR2.cell 0
  have f2 := hR2.frozen 0
  have ek : ((k * 64 : Nat) : Int) = (k : Int) * 64 := by omega
  rw [ek] at hr
  have HG := Lib.hid hG
  have HC := Lib.hid hC2
  have HR := Lib.hid hr
  have HL := Lib.hid hlen
  have HH := Lib.hid h
  have HO := Lib.hid hor
  clear hG hC2 hr ho2 hg2 hR2 hlen ek hor
  go_enter Try.func169, Try.ntmps169
  go_wp2_with (first
    | (go_at_call 168; refine (pages_any HH.out).mono ?_; rintro e w' ⟨rfl, rfl⟩)
    | (at_builtin; refine Lib.wpList_append_run w rfl (.tmp 24) (.tmp 26) 46 2 rfl _ _ rfl rfl _ _ HR.out ?_))
  go_loopw [31] (fun i wr => ∃ j : Nat, j ≤ k ∧ i = .int .i64 (j : Int) ∧ (∃ gD' n' c', n' = V.length + j ∧ Gm wr p g' gD' (L.length + k * 64) cap' n' c' most (bts L ++ List.replicate (k * 64) (.int .u8 0)) (bls V ++ bls (trs j)) ∧ (gD' = gD ∨ w.heap.size ≤ gD')) ∧ Chg [p, gC, gD] w wr) (fun i _ => k - (intOf i).toNat)
  case atStart => exact ⟨0, by omega, rfl, ⟨gD, _, _, rfl, by simpa [trs, bls] using HG.out, .inl rfl⟩, HC.out.sub (by simp)⟩
  case round =>
    obtain ⟨j, hj, rfl, ⟨gE, n', c', hn', hGm, hgE⟩, hCr⟩ := hrel
    have hn1 : n' ≤ V.length + j := by omega
    have HN := Lib.hid hn'
    have HGm := Lib.hid hGm
    have HCr := Lib.hid hCr
    have HE := Lib.hid hgE
    clear c0 c1 c2 f2 hn' hgE
    by_cases hlt : j < k
    · have c2 := hGm.rec_.cell 2
      have hGa := hGm.keep ((Chg.refl [] wr).alloc (.cells #[.bool true] 4))
      have HA := Lib.hid hGa
      have hs2' : Src (wr.alloc (.cells #[.bool true] 4)) (some ⟨wr.heap.size, 0, none⟩) [.bool true] := Src.of_all (Whole.new wr 4 [.bool true])
      have h1 : ∀ u ∈ [Value.bool true], u.oneCell' = true := by simp [Value.oneCell']
      have x1 := Lib.hid (show n' + 1 ≤ maxLen by unfold maxLen; omega)
      have x2 := Lib.hid (show (n' + 1) * 1 ≤ 140737488355328 by omega)
      have HX := Lib.hid hs2'
      clear hCr hGm hGa hs2'
      go_wp2_with (at_builtin
                   refine wpList_append_src rfl (.tmp 37) (.tmp 38) 107 rfl 0 4 i2 _ 1 Try.underlying107 hi2 hz2 hs2 hb2 rfl (.slice (some ⟨gE, 0, none⟩) n' c') n' (bls V ++ bls (trs j)) rfl HA.out.dir (some ⟨wr.heap.size, 0, none⟩) 1 1 [.bool true] rfl rfl HX.out h1 x1.out x2.out (Nat.zero_le _) ?_
                   intro v4 w4 ho4 hg4 hv4
                   obtain ⟨g4, c4, rfl⟩ := own_some ho4
                   obtain ⟨hG4, hR4, hC4⟩ := HA.out.dirty_set ho4 hg4
                   have HG4 := Lib.hid hG4
                   have HC4 := Lib.hid hC4
                   have HV4 := Lib.hid hv4
                   have c24 := hR4.cell 2
                   have f24 := hR4.frozen 2
                   clear hG4 hR4 hC4 ho4 hg4 hv4)
      go_roundw
      case rel =>
        have hsz := HCr.out.size
        refine ⟨j + 1, by omega, by go_num, ⟨g4, n' + 1, c4, by rw [HN.out]; omega, ?_, ?_⟩, ?_⟩
        · have := HG4.out
          rwa [List.append_assoc, trs_next] at this
        · have hv := HV4.out
          simp only [Value.ownBlock, Option.some.injEq, World.size_alloc] at hv
          rcases hv with hv | hv
          · rw [hv]; exact HE.out
          · right; omega
        · refine (HCr.out.alloc _).then_ HC4.out fun q hq hlt => ?_
          simp only [List.mem_cons, List.not_mem_nil, or_false] at hq ⊢
          rcases hq with rfl | rfl
          · exact .inl rfl
          · rcases HE.out with rfl | hE
            · exact .inr (.inr rfl)
            · omega
      case measure => simp [intOf] <;> omega
    · obtain rfl : j = k := by omega
      go_wp2_with fail
      go_ret
      have hn := HN.out
      have hO := HO.out
      have hL := HL.out
      obtain ⟨X', Y', hM⟩ := HGm.out.mm (L := L ++ zeros (64 * j)) (V := V ++ trs j) (by simp [bts, zeros, B8, Nat.mul_comm]) (by simp [bls]) (by rw [List.length_append, List.length_append, zeros_len, trs_len]; omega) (by rw [List.length_append, trs_len]; omega) b3
      exact ⟨g', gE, X', Y', rfl, hM, HCr.out, by omega, HE.out⟩
end
end Go.Proofs.Ytfhgnoajfipjdaa
