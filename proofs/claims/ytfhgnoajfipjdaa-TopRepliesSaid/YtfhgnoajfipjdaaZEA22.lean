/-
  EA: MmGrow, MmStore, EgMem.
-/
import Derived.Test.YtfhgnoajfipjdaaZEA2
import Derived.Test.YtfhgnoajfipjdaaZEA3
import Derived.Test.YtfhgnoajfipjdaaZEA4
import Derived.Test.YtfhgnoajfipjdaaZEA9
import Derived.Test.YtfhgnoajfipjdaaZEA10
import Derived.Test.YtfhgnoajfipjdaaZEA11
import Derived.Test.YtfhgnoajfipjdaaZEA21
import Derived.StillTailTactics
import Derived.Deep.AppendLies
namespace Go.Proofs.Ytfhgnoajfipjdaa
open Go.RowKit
theorem whole_of_own {w : World} {B g n cap : Nat} {e : TypeId} {xs : List Value} (h : w.ownsRow B e 1 (.slice (some ⟨g, 0, none⟩) n cap) n xs) : ∃ X : List Value, cap = n + X.length ∧ Whole w g e (xs ++ X) ∧ cap ≤ maxLen ∧ xs.length = n := by
  have hx := h.1
  rcases h.2 with ⟨h', _⟩ | ⟨g', cap', cur, h', hb, hg, hnc, hcm, hcs, htake⟩
  · simp at h'
  · simp only [Value.slice.injEq, Option.some.injEq, Addr.mk.injEq, and_true, true_and] at h'
    obtain ⟨rfl, rfl⟩ := h'
    rw [Nat.mul_one] at hcs htake hx
    have hl : cur.toList.length = cap := by rw [Array.length_toList]; exact hcs
    refine ⟨cur.toList.drop n, by rw [List.length_drop, hl]; omega, ?_, hcm, hx⟩
    unfold Whole
    rw [← htake, List.take_append_drop]
    exact hg
theorem own_mm {w : World} {g n : Nat} {e : TypeId} {xs X : List Value} (h : Whole w g e (xs ++ X)) (hx : xs.length = n) (hm : n + X.length ≤ maxLen) : w.ownsRow 0 e 1 (.slice (some ⟨g, 0, none⟩) n (n + X.length)) n xs := by
  have := own_of_whole (B := 0) (n := n) h (Nat.zero_le _) (c := n + X.length) (by rw [List.length_append, hx]) (by omega) hm
  rwa [List.take_left' hx] at this
/-- What is known of a memory while it grows. -/
structure Gm (w : World) (p gC gD : Nat) (nC cC nD cD most : Nat) (xs : List Value) (ys : List Value) : Prop where
  rec_ : Whole w p 109 [.slice (some ⟨gC, 0, none⟩) nC cC, .int .i64 (most : Int), .slice (some ⟨gD, 0, none⟩) nD cD]
  cel : w.ownsRow 0 5 1 (.slice (some ⟨gC, 0, none⟩) nC cC) nC xs
  dir : w.ownsRow 0 4 1 (.slice (some ⟨gD, 0, none⟩) nD cD) nD ys
theorem own_keepT {w w' : World} {T : List Nat} {B e g n cap : Nat} {xs : List Value} (h : w.ownsRow B e 1 (.slice (some ⟨g, 0, none⟩) n cap) n xs) (hc : Chg T w w') (hg : g ∉ T) : w'.ownsRow B e 1 (.slice (some ⟨g, 0, none⟩) n cap) n xs := by
  refine ⟨h.1, ?_⟩
  rcases h.2 with h' | ⟨g', cap', cur, h', hb, hgg, rest⟩
  · exact .inl h'
  · simp only [Value.slice.injEq, Option.some.injEq, Addr.mk.injEq, and_true, true_and] at h'
    obtain ⟨rfl, rfl⟩ := h'
    have hlt : g < w.heap.size := by
      rcases Nat.lt_or_ge g w.heap.size with hlt | hge
      · exact hlt
      · rw [Array.getElem?_eq_none hge] at hgg; cases hgg
    exact .inr ⟨g, cap, cur, rfl, hb, (hc.block g hlt hg).trans hgg, rest⟩
theorem mown_ne {w : World} {B B' e e' g g' n n' c c' : Nat} {xs ys : List Value} (h : w.ownsRow B e 1 (.slice (some ⟨g, 0, none⟩) n c) n xs) (h' : w.ownsRow B' e' 1 (.slice (some ⟨g', 0, none⟩) n' c') n' ys) (hne : e ≠ e') : g ≠ g' := by
  obtain ⟨X, _, hX, _⟩ := whole_of_own h
  obtain ⟨Y, _, hY, _⟩ := whole_of_own h'
  exact hX.ne_ hY hne
theorem own_rec_ne {w : World} {B e e' g p n c : Nat} {xs cs : List Value} (h : w.ownsRow B e 1 (.slice (some ⟨g, 0, none⟩) n c) n xs) (h' : Whole w p e' cs) (hne : e' ≠ e) : p ≠ g := by
  obtain ⟨X, _, hX, _⟩ := whole_of_own h
  exact h'.ne_ hX hne
section
variable {w w' : World} {p gC gD nC cC nD cD most : Nat} {xs ys : List Value}
theorem Gm.keep (h : Gm w p gC gD nC cC nD cD most xs ys) (hc : Chg [] w w') : Gm w' p gC gD nC cC nD cD most xs ys := ⟨h.rec_.keep hc, own_keep h.cel hc, own_keep h.dir hc⟩
/-- The bytes have grown, and the struct tells it. -/
theorem Gm.cells_set (h : Gm w p gC gD nC cC nD cD most xs ys) {g' n' c' : Nat} {zs : List Value} {w2 : World} (ho : w2.ownsRow 0 5 1 (.slice (some ⟨g', 0, none⟩) n' c') n' zs) (hg : w.grownBy w2 (some gC)) :
    Gm (w2.setCell ⟨p, 0, none⟩ (.slice (some ⟨g', 0, none⟩) n' c')) p g' gD n' c' nD cD most zs ys ∧ Whole w2 p 109 [.slice (some ⟨gC, 0, none⟩) nC cC, .int .i64 (most : Int), .slice (some ⟨gD, 0, none⟩) nD cD] ∧
      Chg [p, gC] w (w2.setCell ⟨p, 0, none⟩ (.slice (some ⟨g', 0, none⟩) n' c')) := by
  have d1 := own_rec_ne h.cel h.rec_ (by decide)
  have d2 := mown_ne h.cel h.dir (by decide)
  have hc : Chg [gC] w w2 := Chg.of_grown hg (fun g e _ => by simp only [Option.some.injEq] at e; simp [e])
  have hr := h.rec_.chg hc (by simpa using d1)
  have hd := own_keepT h.dir hc (by simpa using Ne.symm d2)
  have d3 := own_rec_ne ho hr (by decide)
  have d4 := own_rec_ne hd hr (by decide)
  have hs : Chg [p] w2 (w2.setCell ⟨p, 0, none⟩ (.slice (some ⟨g', 0, none⟩) n' c')) := (Chg.refl [p] w2).setCell (by simp) _
  refine ⟨⟨hr.set_ 0 _, own_keepT ho hs (by simpa using Ne.symm d3), own_keepT hd hs (by simpa using Ne.symm d4)⟩, hr, ?_⟩
  exact (hc.sub (T' := [p, gC]) (by simp)).setCell (by simp) _
theorem Gm.dirty_set (h : Gm w p gC gD nC cC nD cD most xs ys) {g' n' c' : Nat} {zs : List Value} {w2 : World} (ho : w2.ownsRow 0 4 1 (.slice (some ⟨g', 0, none⟩) n' c') n' zs) (hg : w.grownBy w2 (some gD)) :
    Gm (w2.setCell ⟨p, 2, none⟩ (.slice (some ⟨g', 0, none⟩) n' c')) p gC g' nC cC n' c' most xs zs ∧ Whole w2 p 109 [.slice (some ⟨gC, 0, none⟩) nC cC, .int .i64 (most : Int), .slice (some ⟨gD, 0, none⟩) nD cD] ∧
      Chg [p, gD] w (w2.setCell ⟨p, 2, none⟩ (.slice (some ⟨g', 0, none⟩) n' c')) := by
  have d1 := own_rec_ne h.dir h.rec_ (by decide)
  have d2 := mown_ne h.cel h.dir (by decide)
  have hc : Chg [gD] w w2 := Chg.of_grown hg (fun g e _ => by simp only [Option.some.injEq] at e; simp [e])
  have hr := h.rec_.chg hc (by simpa using d1)
  have hd := own_keepT h.cel hc (by simpa using d2)
  have d3 := own_rec_ne ho hr (by decide)
  have d4 := own_rec_ne hd hr (by decide)
  have hs : Chg [p] w2 (w2.setCell ⟨p, 2, none⟩ (.slice (some ⟨g', 0, none⟩) n' c')) := (Chg.refl [p] w2).setCell (by simp) _
  refine ⟨⟨hr.set_ 2 _, own_keepT hd hs (by simpa using Ne.symm d4), own_keepT ho hs (by simpa using Ne.symm d3)⟩, hr, ?_⟩
  exact (hc.sub (T' := [p, gD]) (by simp)).setCell (by simp) _
end
section
variable {w : World} {p gC gD : Nat} {L : List UInt8} {X : List Value} {V : List Bool} {Y : List Value} {most : Nat}
theorem Mm.gm (h : Mm w p gC gD L X V Y most) : Gm w p gC gD L.length (L.length + X.length) V.length (V.length + Y.length) most (bts L) (bls V) :=
  ⟨h.rec_, own_mm h.cel (bts_len L) h.capX, own_mm h.dir (bls_len V) h.capY⟩
theorem Gm.mm {nC cC nD cD : Nat} {xs ys : List Value} (h : Gm w p gC gD nC cC nD cD most xs ys) (hx : xs = bts L) (hy : ys = bls V) (h1 : L.length = 64 * V.length) (h2 : V.length ≤ most) (h3 : most ≤ 64) : ∃ X Y, Mm w p gC gD L X V Y most := by
  subst hx hy
  obtain ⟨X, eX, hX, mX, lX⟩ := whole_of_own h.cel
  obtain ⟨Y, eY, hY, mY, lY⟩ := whole_of_own h.dir
  rw [bts_len] at lX
  rw [bls_len] at lY
  subst lX lY eX eY
  exact ⟨X, Y, h.rec_, hX, hY, h1, h2, h3, mX, mY⟩
set_option maxHeartbeats 400000 in
theorem grow_no (h : Mm w p gC gD L X V Y most) (n : Int) (hn : n < 0 ∨ (most : Int) - V.length < n) :
    Calls Try.prog 169 #[.pointer (some ⟨p, 0, none⟩), .int .i64 n] w fun e w' => e = .returned (.int .i64 (-1)) ∧ w = w' := by
  have c1 := h.rec_.cell 1
  have b1 := h.le
  have b2 := h.top
  by_cases h0 : n < 0
  · have hd : decide (n < 0) = true := by simpa using h0
    clear hn
    go_enter Try.func169, Try.ntmps169
    go_wp2_with (go_at_call 168; refine (pages_any h).mono ?_; rintro e w' ⟨rfl, rfl⟩)
    go_ret
    exact ⟨rfl, rfl⟩
  · have hd : decide (n < 0) = false := by simpa using h0
    have hd2 : decide ((most : Int) - (V.length : Int) < n) = true := by simp; omega
    clear hn
    go_enter Try.func169, Try.ntmps169
    go_wp2_with (go_at_call 168; refine (pages_any h).mono ?_; rintro e w' ⟨rfl, rfl⟩)
    go_ret
    exact ⟨rfl, rfl⟩
def trs (k : Nat) : List Bool := List.replicate k true
/-- What Grow has done. -/
def GrowPost (w : World) (p gC gD : Nat) (L : List UInt8) (V : List Bool) (most k : Nat) (e : Ending) (w' : World) : Prop :=
  ∃ gC' gD' X' Y', e = .returned (.int .i64 (V.length : Int)) ∧ Mm w' p gC' gD' (L ++ zeros (64 * k)) X' (V ++ trs k) Y' most ∧ Chg [p, gC, gD] w w' ∧ (gC' = gC ∨ w.heap.size ≤ gC') ∧ (gD' = gD ∨ w.heap.size ≤ gD')
theorem trs_len (k : Nat) : (trs k).length = k := by simp [trs]
theorem trs_next (j : Nat) : bls (trs j) ++ [Value.bool true] = bls (trs (j + 1)) := by
  unfold trs bls; rw [List.map_replicate, List.map_replicate, List.replicate_succ', ]
theorem own_some {w : World} {B e n : Nat} {v : Value} {xs : List Value} (h : w.ownsRow B e 1 v (n + 1) xs) : ∃ g c, v = .slice (some ⟨g, 0, none⟩) (n + 1) c := by
  rcases h.2 with ⟨_, h'⟩ | ⟨g, c, _, h', _⟩
  · omega
  · exact ⟨g, c, h'⟩
theorem tn_int64 : Try.prog.underlying 2 = some (.int .i64) := by kernel_rfl
set_option maxHeartbeats 2000000 in
set_option maxRecDepth 100000 in
theorem grow_yes (h : Mm w p gC gD L X V Y most) (k : Nat) (hk : V.length + k ≤ most) :
    Calls Try.prog 169 #[.pointer (some ⟨p, 0, none⟩), .int .i64 (k : Int)] w (GrowPost w p gC gD L V most k) := by
  obtain ⟨i, hi, hz, hs1, hb⟩ := info_parts info_u8
  obtain ⟨i2, hi2, hz2, hs2, hb2⟩ := info_parts info_bool
  have c0 := h.rec_.cell 0
  have c1 := h.rec_.cell 1
  have b1 := h.small
  have b2 := h.smallV
  have b3 := h.top
  have hlen := h.len
  have hd2 : decide ((most : Int) - (V.length : Int) < (k : Int)) = false := by simp; omega
  obtain ⟨g', cap', w2, hr, ho2, hg2, hor⟩ := run_append_zeros (P := Try.prog) w 0 46 2 46 5 i _ 1 .i64 Try.underlying46 tn_int64 hi hz hs1 hb rfl rfl gC L.length (L.length + X.length) (bts L) h.gm.cel (k * 64) (by unfold maxLen; omega) (by omega) (Nat.zero_le _)
  obtain ⟨hG, hR2, hC2⟩ := h.gm.cells_set ho2 hg2
  have c2 := hR2.cell 0
  have f2 := hR2.frozen 0
  have ek : ((k * 64 : Nat) : Int) = (k : Int) * 64 := by omega
  rw [ek] at hr
  have HG := Lib.hid hG
  have HC := Lib.hid hC2
  have HR := Lib.hid hr
  have HL := Lib.hid hlen
  have HH := Lib.hid h
  have HO := Lib.hid hor
  clear hG hC2 hr ho2 hg2 hR2 hlen ek hor
  go_enter Try.func169, Try.ntmps169
  go_wp2_with (first
    | (go_at_call 168; refine (pages_any HH.out).mono ?_; rintro e w' ⟨rfl, rfl⟩)
    | (at_builtin; refine Lib.wpList_append_run w rfl (.tmp 24) (.tmp 26) 46 2 rfl _ _ rfl rfl _ _ HR.out ?_))
  go_loopw [31] (fun i wr => ∃ j : Nat, j ≤ k ∧ i = .int .i64 (j : Int) ∧ (∃ gD' n' c', n' = V.length + j ∧ Gm wr p g' gD' (L.length + k * 64) cap' n' c' most (bts L ++ List.replicate (k * 64) (.int .u8 0)) (bls V ++ bls (trs j)) ∧ (gD' = gD ∨ w.heap.size ≤ gD')) ∧ Chg [p, gC, gD] w wr) (fun i _ => k - (intOf i).toNat)
  case atStart => exact ⟨0, by omega, rfl, ⟨gD, _, _, rfl, by simpa [trs, bls] using HG.out, .inl rfl⟩, HC.out.sub (by simp)⟩
  case round =>
    obtain ⟨j, hj, rfl, ⟨gE, n', c', hn', hGm, hgE⟩, hCr⟩ := hrel
    have hn1 : n' ≤ V.length + j := by omega
    have HN := Lib.hid hn'
    have HGm := Lib.hid hGm
    have HCr := Lib.hid hCr
    have HE := Lib.hid hgE
    clear c0 c1 c2 f2 hn' hgE
    by_cases hlt : j < k
    · have c2 := hGm.rec_.cell 2
      have hGa := hGm.keep ((Chg.refl [] wr).alloc (.cells #[.bool true] 4))
      have HA := Lib.hid hGa
      have hs2' : Src (wr.alloc (.cells #[.bool true] 4)) (some ⟨wr.heap.size, 0, none⟩) [.bool true] := Src.of_all (Whole.new wr 4 [.bool true])
      have h1 : ∀ u ∈ [Value.bool true], u.oneCell' = true := by simp [Value.oneCell']
      have x1 := Lib.hid (show n' + 1 ≤ maxLen by unfold maxLen; omega)
      have x2 := Lib.hid (show (n' + 1) * 1 ≤ 140737488355328 by omega)
      have HX := Lib.hid hs2'
      clear hCr hGm hGa hs2'
      go_wp2_with (at_builtin
                   refine wpList_append_src rfl (.tmp 37) (.tmp 38) 107 rfl 0 4 i2 _ 1 Try.underlying107 hi2 hz2 hs2 hb2 rfl (.slice (some ⟨gE, 0, none⟩) n' c') n' (bls V ++ bls (trs j)) rfl HA.out.dir (some ⟨wr.heap.size, 0, none⟩) 1 1 [.bool true] rfl rfl HX.out h1 x1.out x2.out (Nat.zero_le _) ?_
                   intro v4 w4 ho4 hg4 hv4
                   obtain ⟨g4, c4, rfl⟩ := own_some ho4
                   obtain ⟨hG4, hR4, hC4⟩ := HA.out.dirty_set ho4 hg4
                   have HG4 := Lib.hid hG4
                   have HC4 := Lib.hid hC4
                   have HV4 := Lib.hid hv4
                   have c24 := hR4.cell 2
                   have f24 := hR4.frozen 2
                   clear hG4 hR4 hC4 ho4 hg4 hv4)
      go_roundw
      case rel =>
        have hsz := HCr.out.size
        refine ⟨j + 1, by omega, by go_num, ⟨g4, n' + 1, c4, by rw [HN.out]; omega, ?_, ?_⟩, ?_⟩
        · have := HG4.out
          rwa [List.append_assoc, trs_next] at this
        · have hv := HV4.out
          simp only [Value.ownBlock, Option.some.injEq, World.size_alloc] at hv
          rcases hv with hv | hv
          · rw [hv]; exact HE.out
          · right; omega
        · refine (HCr.out.alloc _).then_ HC4.out fun q hq hlt => ?_
          simp only [List.mem_cons, List.not_mem_nil, or_false] at hq ⊢
          rcases hq with rfl | rfl
          · exact .inl rfl
          · rcases HE.out with rfl | hE
            · exact .inr (.inr rfl)
            · omega
      case measure => simp [intOf] <;> omega
    · obtain rfl : j = k := by omega
      go_wp2_with fail
      go_ret
      have hn := HN.out
      have hO := HO.out
      have hL := HL.out
      obtain ⟨X', Y', hM⟩ := HGm.out.mm (L := L ++ zeros (64 * j)) (V := V ++ trs j) (by simp [bts, zeros, B8, Nat.mul_comm]) (by simp [bls]) (by rw [List.length_append, List.length_append, zeros_len, trs_len]; omega) (by rw [List.length_append, trs_len]; omega) b3
      exact ⟨g', gE, X', Y', rfl, hM, HCr.out, by omega, HE.out⟩
end
end Go.Proofs.Ytfhgnoajfipjdaa
namespace Go.Proofs.Ytfhgnoajfipjdaa
open Go.RowKit
section
variable {w w' : World} {p gC gD : Nat} {L : List UInt8} {X : List Value} {V : List Bool} {Y : List Value} {most : Nat}
theorem store_step (h : Mm w p gC gD L X V Y most) (k i : Nat) (n : Int) (b : UInt8) (hb : b = byteN n i) (hk : k + i < L.length) :
    Mm ((w.setCell ⟨gC, k + i, none⟩ (B8 b)).setCell ⟨gD, (k + i) / 64, none⟩ (.bool true)) p gC gD (L.set (k + i) (byteN n i)) X (V.set ((k + i) / 64) true) Y most ∧
      Chg [gC, gD] w ((w.setCell ⟨gC, k + i, none⟩ (B8 b)).setCell ⟨gD, (k + i) / 64, none⟩ (.bool true)) := by
  subst hb
  have d0 := h.rec_.ne_ h.cel (by decide)
  have d1 := h.rec_.ne_ h.dir (by decide)
  have d2 := h.cel.ne_ h.dir (by decide)
  have hl := h.len
  have hc := h.cel.set_ (k + i) (B8 (byteN n i))
  rw [List.set_append_left _ _ (by rw [bts_len]; exact hk), bts_set] at hc
  have hd := (h.dir.far (p := ⟨gC, k + i, none⟩) (Ne.symm d2) (B8 (byteN n i))).set_ ((k + i) / 64) (.bool true)
  rw [List.set_append_left _ _ (by rw [bls_len]; omega), bls_set] at hd
  refine ⟨⟨?_, hc.far d2 _, hd, by rw [List.length_set, List.length_set]; exact h.len, by rw [List.length_set]; exact h.le, h.top, by rw [List.length_set]; exact h.capX, by rw [List.length_set]; exact h.capY⟩, ?_⟩
  · rw [List.length_set, List.length_set]
    exact (h.rec_.far d0 _).far d1 _
  · exact ((Chg.refl [gC, gD] w).setCell (by simp) _).setCell (by simp) _
set_option maxHeartbeats 400000 in
theorem store_no (h : Mm w p gC gD L X V Y most) (k n : Int) (wide : Bool) (s : Nat) (hw : s = if wide then 8 else 1) (hk : k < 0 ∨ (L.length : Int) - s < k) :
    Calls Try.prog 171 #[.pointer (some ⟨p, 0, none⟩), .int .i64 k, .int .i64 n, .bool wide] w fun e w' => e = .returned (.bool false) ∧ w = w' := by
  have s1 : s ≤ 8 := by subst hw; split <;> omega
  have HW := Lib.hid (show (if wide then (8 : Int) else 1) = (s : Int) by subst hw; cases wide <;> rfl)
  have HK := Lib.hid hk
  clear hw hk
  go_enter Try.func171, Try.ntmps171
  go_wp2_with (first
    | (go_at_call 185; refine (width_any wide).mono ?_; rintro e w' ⟨rfl, rfl⟩; rw [HW.out])
    | (go_at_call 186; refine (within_no h k s s1 HK.out).mono ?_; rintro e w' ⟨rfl, rfl⟩))
  go_ret
  exact ⟨rfl, rfl⟩
/-- Store's post. -/
def StorePost (w : World) (p gC gD : Nat) (L : List UInt8) (X : List Value) (V : List Bool) (Y : List Value) (most k : Nat) (n : Int) (s : Nat) (e : Ending) (w' : World) : Prop :=
  e = .returned (.bool true) ∧ Mm w' p gC gD (stL L k n s) X (stV V k s) Y most ∧ Chg [gC, gD] w w'
set_option maxHeartbeats 2000000 in
set_option maxRecDepth 100000 in
theorem store_yes (h : Mm w p gC gD L X V Y most) (k : Nat) (n : Int) (wide : Bool) (s : Nat) (hw : s = if wide then 8 else 1) (hk : k + s ≤ L.length) :
    Calls Try.prog 171 #[.pointer (some ⟨p, 0, none⟩), .int .i64 (k : Int), .int .i64 n, .bool wide] w (StorePost w p gC gD L X V Y most k n s) := by
  have b1 := h.small
  have hlen := h.len
  have s1 : s ≤ 8 := by subst hw; split <;> omega
  have HW := Lib.hid (show (if wide then (8 : Int) else 1) = (s : Int) by subst hw; cases wide <;> rfl)
  have HL := Lib.hid hlen
  clear hw hlen
  go_enter Try.func171, Try.ntmps171
  go_wp2_with (first
    | (go_at_call 185; refine (width_any wide).mono ?_; rintro e w' ⟨rfl, rfl⟩; rw [HW.out])
    | (go_at_call 186; refine (within_yes h k s s1 hk).mono ?_; rintro e w' ⟨rfl, rfl⟩))
  go_loopw [19] (fun i wr => ∃ m : Nat, m ≤ s ∧ i = .int .i64 (m : Int) ∧ Mm wr p gC gD (stL L k n m) X (stV V k m) Y most ∧ Chg [gC, gD] w wr) (fun i _ => s - (intOf i).toNat)
  case atStart => exact ⟨0, by omega, rfl, h, Chg.refl _ _⟩
  case round =>
    obtain ⟨m, hm, rfl, hM, hC⟩ := hrel
    by_cases hlt : m < s
    · have hki : k + m < (stL L k n m).length := by rw [stL_len]; omega
      have hst := store_step hM k m n (byteN n m) rfl hki
      have hl1 : (stL L k n m).length = L.length := stL_len _ _ _ _
      have hl2 : (stV V k m).length = V.length := stV_len _ _ _
      have c0 := hM.rec_.cell 0
      have c2 := hM.rec_.cell 2
      have cb := hM.byte (k + m) hki
      have hx64 : (k + m) / 64 < (stV V k m).length := by rw [hl2]; have := HL.out; omega
      have cd := hM.bit ((k + m) / 64) hx64
      have fc := hM.cel.frozen (k + m)
      have fd := hM.dir.frozen ((k + m) / 64)
      have dcd := hM.cel.ne_ hM.dir (by decide)
      have dpc := hM.rec_.ne_ hM.cel (by decide)
      have hby := Lib.hid (byteN_int n m)
      rw [hl1] at c0 c2
      rw [hl2] at c0 c2
      have HC := Lib.hid hC
      have HST := Lib.hid hst
      have HM := Lib.hid hM
      have e1 : IntKind.i64.wrap ((k : Int) + (m : Int)) = (k : Int) + (m : Int) := IntWalk.i64_in _ (by omega)
      have e2 : ((k : Int) + (m : Int)).toNat = k + m := by omega
      have e3 : (0 : Int) ≤ (k : Int) + (m : Int) := by omega
      have e4 : IntKind.i64.wrap (8 * (m : Int)) = 8 * (m : Int) := IntWalk.i64_in _ (by omega)
      have e5 : (8 * (m : Int)).toNat = 8 * m := by omega
      have e6 : (0 : Int) ≤ 8 * (m : Int) := by omega
      have e7 : min (8 * m) 64 = 8 * m := by omega
      have e8 : k + m < L.length := by omega
      have e9 : (k + m) / 64 < V.length := by have := HL.out; omega
      clear hl1 hl2 hC hst hM
      go_wp2_with fail
      go_still_tail 12, (by kernel_rfl)
      change wpList _ _ _ _ _ wr.drew
      go_wp2_with fail
      · go_roundw
        case rel =>
          have hq := HST.out
          unfold B8 at hq
          rw [hby.out] at hq
          exact ⟨m + 1, by omega, by go_num, hq.1.keep (Chg.refl [] _).drew, (HC.out.trans hq.2).drew⟩
        case measure => simp [intOf] <;> omega
    · obtain rfl : m = s := by omega
      go_wp2_with fail
      go_ret
      exact ⟨rfl, hM, hC⟩
end
end Go.Proofs.Ytfhgnoajfipjdaa
namespace Go.Proofs.Ytfhgnoajfipjdaa
open Go.RowKit
def clC (c : CallV) : List Value := [.int .i64 (c.fn : Int), .int .i64 (c.next : Int)] ++ nms c.loc
def clCs : List CallV → List Value
  | [] => []
  | x :: l => clC x ++ clCs l
def Loc26 (cs : List CallV) : Prop := ∀ c ∈ cs, c.loc.length = 26
theorem clC_len {c : CallV} (h : c.loc.length = 26) : (clC c).length = 28 := by simp [clC, nms_len, h]
theorem Loc26.head {c : CallV} {cs : List CallV} (h : Loc26 (c :: cs)) : c.loc.length = 26 := h c (by simp)
theorem Loc26.tail {c : CallV} {cs : List CallV} (h : Loc26 (c :: cs)) : Loc26 cs := fun x hx => h x (by simp [hx])
theorem Loc26.app {cs : List CallV} {c : CallV} : Loc26 (cs ++ [c]) ↔ Loc26 cs ∧ c.loc.length = 26 :=
  ⟨fun h => ⟨fun x hx => h x (by simp [hx]), h c (by simp)⟩, fun h x hx => by
    rcases List.mem_append.1 hx with hx | hx
    · exact h.1 x hx
    · rw [List.mem_singleton] at hx; subst hx; exact h.2⟩
theorem clCs_len : ∀ {l : List CallV}, Loc26 l → (clCs l).length = l.length * 28
  | [], _ => rfl
  | x :: l, h => by rw [clCs, List.length_append, clCs_len h.tail, clC_len h.head, List.length_cons]; omega
theorem clCs_app : ∀ l m, clCs (l ++ m) = clCs l ++ clCs m
  | [], _ => rfl
  | x :: l, m => by rw [List.cons_append, clCs, clCs, clCs_app l m, List.append_assoc]
theorem clCs_one (x : CallV) : clCs [x] = clC x := by simp [clCs]
theorem clCs_last {ys : List CallV} {x : CallV} (h : Loc26 (ys ++ [x])) (j : Nat) : (clCs (ys ++ [x]))[ys.length * 28 + j]? = (clC x)[j]? := by
  rw [clCs_app, clCs_one, List.getElem?_append_right (by rw [clCs_len (Loc26.app.1 h).1]; omega), clCs_len (Loc26.app.1 h).1]
  congr 1; omega
theorem clCs_set {ys : List CallV} {x y : CallV} (h : Loc26 (ys ++ [x])) (j : Nat) (u : Value) (hu : (clC x).set j u = clC y) : (clCs (ys ++ [x])).set (ys.length * 28 + j) u = clCs (ys ++ [y]) := by
  rw [clCs_app, clCs_one, List.set_append_right _ _ (by rw [clCs_len (Loc26.app.1 h).1]; omega), clCs_len (Loc26.app.1 h).1, show ys.length * 28 + j - ys.length * 28 = j by omega, hu, clCs_app, clCs_one]
/-- A code in memory: how many args, where its tokens lie, where one goes. -/
structure CdV where
  c : CodeV
  tv : Value
  gv : Value
def cdC (x : CdV) : List Value := [.int .i64 (x.c.args : Int), x.tv, x.gv]
def cdCs : List CdV → List Value
  | [] => []
  | x :: l => cdC x ++ cdCs l
theorem cdCs_app : ∀ l m, cdCs (l ++ m) = cdCs l ++ cdCs m
  | [], _ => rfl
  | x :: l, m => by rw [List.cons_append, cdCs, cdCs, cdCs_app l m, List.append_assoc]
theorem cdCs_one (x : CdV) : cdCs [x] = cdC x := by simp [cdCs]
theorem cdCs_get : ∀ (l : List CdV) (k : Nat) (x : CdV) (j : Nat), l[k]? = some x → j < 3 → (cdCs l)[k * 3 + j]? = (cdC x)[j]?
  | [], k, x, j, h, hj => by simp at h
  | y :: l, 0, x, j, h, hj => by
    simp at h; subst h
    rw [cdCs, List.getElem?_append_left (by simp [cdC]; omega)]
    congr 1; omega
  | y :: l, k + 1, x, j, h, hj => by
    simp at h
    rw [cdCs, List.getElem?_append_right (by simp [cdC]; omega)]
    rw [← cdCs_get l k x j h hj]
    congr 1; simp [cdC]; omega
structure Cods (W : World) (v : Value) (xs : List CdV) : Prop where
  own : W.ownsRow 0 170 3 v xs.length (cdCs xs)
  toks : ∀ x ∈ xs, W.ownsRow 0 167 3 x.tv x.c.ts.length (tkCs x.c.ts)
  gos : ∀ x ∈ xs, W.ownsRow 0 3 1 x.gv x.c.go.length (nms x.c.go)
  few : ∀ x ∈ xs, x.c.ts.length ≤ 512 ∧ x.c.go.length = x.c.ts.length
  lenb : xs.length ≤ 32
theorem Cods.keep {W W' : World} {v : Value} {xs : List CdV} (h : Cods W v xs) (hc : Chg [] W W') : Cods W' v xs :=
  ⟨rown_keep h.own hc, fun x hx => rown_keep (h.toks x hx) hc, fun x hx => rown_keep (h.gos x hx) hc, h.few, h.lenb⟩
theorem Cods.fe {W W' : World} {v : Value} {xs : List CdV} {K : Nat → Prop} {TS : List TypeId} (h : Cods W v xs) (hf : Fe K TS W W') (h1 : 170 ∉ TS) (h2 : 167 ∉ TS) (h3 : 3 ∉ TS) : Cods W' v xs :=
  ⟨hf.own h.own h1, fun x hx => hf.own (h.toks x hx) h2, fun x hx => hf.own (h.gos x hx) h3, h.few, h.lenb⟩
/-- What stays through a run. -/
structure EP where
  g : Nat
  us : List FnV
  pages : Int
  mst : Int
  A : Option Addr
  n : Nat
  c : Nat
  cv : Value
  xs : List CdV
  p : Nat
  most : Nat
  rp : Nat
  rs : List (Option Int)
  B : Nat
  T : List Nat
def EP.K (P : EP) : Nat → Prop := fun k => P.B ≤ k ∨ k ∈ P.T
abbrev egT : List TypeId := [104, 2, 174, 109, 5, 4, 112, 53]
/-- The work struct. -/
def wkC (P : EP) (fuel : Nat) (vs vc : Value) : List Value := [.int .i64 P.pages, .int .i64 P.mst, .slice P.A P.n P.c, P.cv, .pointer (some ⟨P.p, 0, none⟩), .pointer (some ⟨P.rp, 0, none⟩), .int .i64 (fuel : Int), vs, vc]
structure Eg (P : EP) (W : World) (vs vc : Value) (s : EgV) : Prop where
  rec_ : Whole W P.g 104 (wkC P s.fuel vs vc)
  stk : W.ownsRow P.B 2 1 vs s.st.length (nms s.st)
  cal : W.ownsRow P.B 174 28 vc s.cs.length (clCs s.cs)
  mem : ∃ gC gD X Y, Mm W P.p gC gD s.L X s.V Y P.most ∧ P.K gC ∧ P.K gD
  row : ∃ a q, Rq W P.rp P.rs s.qs a q ∧ ∀ i, q.ownBlock = some i → P.K i
  cod : Cods W P.cv P.xs
  fns : Fnr W P.A P.n P.c P.us
  foff : ∀ ad, P.A = some ad → ¬ P.K ad.block
  gB : P.B ≤ P.g
  room : P.B ≤ W.heap.size
  pK : P.K P.p
  rK : P.K P.rp
  loc : Loc26 s.cs
  fuelb : s.fuel ≤ 1048576
  stkb : s.st.length + s.fuel ≤ 3000000
  calb : s.cs.length ≤ 32
  qsb : s.qs.length + s.fuel ≤ 900000000
theorem EP.new (P : EP) {k : Nat} (h : P.B ≤ k) : P.K k := .inl h
theorem Src.fe {K : Nat → Prop} {TS : List TypeId} {W W' : World} {A : Option Addr} {xs : List Value} (h : Src W A xs) (hf : Fe K TS W W') (hA : ∀ ad, A = some ad → ¬ K ad.block) : Src W' A xs := by
  intro h0
  obtain ⟨ad, rfl, hlt, hx⟩ := h h0
  have hb := hf.block ad.block hlt (.inl (hA ad rfl))
  refine ⟨ad, rfl, Nat.lt_of_lt_of_le hlt hf.size, fun j u hj => ?_⟩
  have := hx j u hj
  rw [← this]
  have e2 : (ad.add j).block = ad.block := by unfold Addr.add; split <;> rfl
  refine World.cell?_of_block (w := W) ?_
  rw [e2]
  exact hb
section
variable {P : EP} {W W' : World} {vs vc : Value} {s : EgV}
theorem Eg.keep (h : Eg P W vs vc s) (hc : Chg [] W W') : Eg P W' vs vc s := by
  obtain ⟨gC, gD, X, Y, hM, h1, h2⟩ := h.mem
  obtain ⟨a, q, hR, h3⟩ := h.row
  exact { h with rec_ := h.rec_.keep hc, stk := rown_keep h.stk hc, cal := rown_keep h.cal hc, mem := ⟨gC, gD, X, Y, hM.keep hc, h1, h2⟩, row := ⟨a, q, hR.keep hc, h3⟩, cod := h.cod.keep hc, fns := h.fns.keep hc, room := Nat.le_trans h.room hc.size }
theorem Eg.kg (h : Eg P W vs vc s) : P.K P.g := .inl h.gB
theorem Fnr.fe {K : Nat → Prop} {TS : List TypeId} {A : Option Addr} {n c : Nat} {l : List FnV} (h : Fnr W A n c l) (hf : Fe K TS W W') (hA : ∀ ad, A = some ad → ¬ K ad.block) : Fnr W' A n c l := { h with src := h.src.fe hf hA }
theorem Eg.sslice (h : Eg P W vs vc s) : ∃ A n c, vs = .slice A n c ∧ n = s.st.length ∧ n ≤ c := by
  obtain ⟨A, c, e, hc, _⟩ := rown_slice h.stk
  exact ⟨A, _, c, e, rfl, hc⟩
theorem Eg.cslice (h : Eg P W vs vc s) : ∃ A n c, vc = .slice A n c ∧ n = s.cs.length ∧ n ≤ c := by
  obtain ⟨A, c, e, hc, _⟩ := rown_slice h.cal
  exact ⟨A, _, c, e, rfl, hc⟩
/-- The struct, the stack or the calls are written: all else stays. -/
theorem Eg.upd {vs' vc' : Value} {fuel : Nat} {st : List Int} {cs : List CallV} {TS : List TypeId} (h : Eg P W vs vc s) (hf : Fe P.K TS W W') (hT : ∀ t ∈ TS, t = 104 ∨ t = 2 ∨ t = 174)
    (h1 : Whole W' P.g 104 (wkC P fuel vs' vc')) (h2 : W'.ownsRow P.B 2 1 vs' st.length (nms st)) (h3 : W'.ownsRow P.B 174 28 vc' cs.length (clCs cs)) (h4 : Loc26 cs) (h5 : fuel ≤ s.fuel) (h6 : st.length + fuel ≤ 3000000) (h7 : cs.length ≤ 32) :
    Eg P W' vs' vc' ⟨fuel, st, cs, s.L, s.V, s.qs⟩ := by
  obtain ⟨gC, gD, X, Y, hM, k1, k2⟩ := h.mem
  obtain ⟨a, q, hR, k3⟩ := h.row
  have no : ∀ t : TypeId, t ≠ 104 → t ≠ 2 → t ≠ 174 → t ∉ TS := fun t a b c hm => by
    rcases hT t hm with h | h | h
    · exact a h
    · exact b h
    · exact c h
  exact { rec_ := h1, stk := h2, cal := h3, mem := ⟨gC, gD, X, Y, hf.mm hM (no _ (by decide) (by decide) (by decide)) (no _ (by decide) (by decide) (by decide)) (no _ (by decide) (by decide) (by decide)), k1, k2⟩,
          row := ⟨a, q, hR.fe hf (no _ (by decide) (by decide) (by decide)) (no _ (by decide) (by decide) (by decide)) (no _ (by decide) (by decide) (by decide)), k3⟩,
          cod := h.cod.fe hf (no _ (by decide) (by decide) (by decide)) (no _ (by decide) (by decide) (by decide)) (no _ (by decide) (by decide) (by decide)),
          fns := h.fns.fe hf h.foff, foff := h.foff, gB := h.gB, room := Nat.le_trans h.room hf.size, pK := h.pK, rK := h.rK, loc := h4, fuelb := by have := h.fuelb; show fuel ≤ _; omega, stkb := h6, calb := h7, qsb := by have := h.qsb; show s.qs.length + fuel ≤ _; omega }
end
end Go.Proofs.Ytfhgnoajfipjdaa
