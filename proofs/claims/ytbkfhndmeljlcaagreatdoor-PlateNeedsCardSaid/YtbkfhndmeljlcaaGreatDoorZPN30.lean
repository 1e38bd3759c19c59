/-
  PN: NestLeave.
-/
import Derived.Test.YtbkfhndmeljlcaaGreatDoorZPN5
import Derived.Test.YtbkfhndmeljlcaaGreatDoorZPN29
import Derived.Deep.RegionLaw
namespace Go.Proofs.YtbkfhndmeljlcaaGreatDoor
open Go.RowKit
theorem leaveP_rev (i : Nat) (ys : List NPart) (x : NPart) (hx : x.loop = true) : ∀ zs : List NPart, (∀ z ∈ zs, z.loop = false) → leaveP i (zs ++ x :: ys) = some (zs ++ ⟨x.loop, x.at_, x.waits, x.left ++ [i]⟩ :: ys)
  | [], _ => by simp [leaveP, hx]
  | z :: zs, h => by
    have hz := h z (List.mem_cons_self ..)
    rw [List.cons_append, leaveP, if_neg (by simp [hz]), leaveP_rev i ys x hx zs fun y hy => h y (List.mem_cons_of_mem _ hy)]
    rfl
theorem leaveP_no (i : Nat) : ∀ zs : List NPart, (∀ z ∈ zs, z.loop = false) → leaveP i zs = none
  | [], _ => rfl
  | z :: zs, h => by
    have hz := h z (List.mem_cons_self ..)
    rw [leaveP, if_neg (by simp [hz]), leaveP_no i zs fun y hy => h y (List.mem_cons_of_mem _ hy)]
    rfl
/-- append as a step: where the row lies then is told. -/
theorem step_append_where {P : Program} {w : World} {ops : Array Oper} {o : Oper} {a : Act} {K : Act → World → Prop} {Q : Exit → Act → World → Prop} {E : Prop} (hgd : o.guard = none) (s x : Operand) (t : TypeId)
    (ho : o.op = .call { callee := .builtin .append, args := #[s, x], argTypes := #[t, t] })
    (base : Nat) (e : TypeId) (i : TypeInfo) (z : Value) (bytes : Nat) (ht : P.underlying t = some (.slice e)) (hi : P.info? e = some i) (hz : i.zero = some z)
    (hsize : i.size = 1) (hby : i.bytes = bytes) (hzs : z.cells.size = 1)
    (v : Value) (n : Nat) (xs : List Value) (hse : a.eval s = v) (hown : w.ownsRow base e 1 v n xs)
    (A : Option Addr) (m c : Nat) (news : List Value) (hxe : a.eval x = .slice A m c) (hl : news.length = m) (hs : Src w A news) (h1 : ∀ u ∈ news, u.oneCell' = true)
    (h63 : n + m ≤ maxLen) (hbytes : (n + m) * bytes ≤ 140737488355328) (hbase : base ≤ w.heap.size)
    (h : ∀ v' w', w'.ownsRow base e 1 v' (n + m) (xs ++ news) → w.grownBy w' v.ownBlock → (v'.ownBlock = v.ownBlock ∨ v'.ownBlock = some w.heap.size) → K (a.put o.dst v') w') :
    if Region.wanted o (yielded ops a.tmps) = true then Oper.wp P o a w K Q else E := by
  have hw : Region.wanted o (yielded ops a.tmps) = true := by simp [Region.wanted, hgd]
  rw [if_pos hw]
  obtain ⟨v', w', hrun, h2, h3, h4⟩ := run_append_src (P := P) w base t o.type e i z bytes ht hi hz hsize hby hzs v n xs hown A m c news hl hs h1 h63 hbytes hbase
  unfold Oper.wp execOp
  simp only [ho, resolve, invoke, builtin, Sem.run_bind, Sem.run_pure, Result.andThen_ok, List.map_toArray, List.map_cons, List.map_nil, hse, hxe, hrun]
  exact h v' w' h2 h3 h4
section
variable {W : World} {gm gt B n : Nat} {m : NSt} {vo : Value}
/-- A ~ waits in a part. -/
theorem Mt.leave {ys zs : List PV} {x : PV} {g c q i : Nat} {W1 w' : World} {v' : Value} (h : Mt W gm gt B n m vo (ys ++ x :: zs)) (hv : vo = .slice (some ⟨g, 0, none⟩) q c) (hi : i < n) (hfl : x.p.left.length < n) (hc : Chg [] W W1)
    (ho : w'.ownsRow B 3 1 v' (x.p.left.length + 1) (nts x.p.left ++ [.int .i64 (i : Int)])) (hg : W1.grownBy w' x.v.ownBlock) (hb : v'.ownBlock = x.v.ownBlock ∨ v'.ownBlock = some W1.heap.size) :
    Mt (w'.setCell ⟨g, ys.length * 4 + 3, none⟩ v') gm gt B n ⟨m.tO, m.deep, (zs.map (·.p)).reverse ++ ⟨x.p.loop, x.p.at_, x.p.waits, x.p.left ++ [i]⟩ :: (ys.map (·.p)).reverse⟩ vo (ys ++ ⟨⟨x.p.loop, x.p.at_, x.p.waits, x.p.left ++ [i]⟩, v'⟩ :: zs) := by
  have h1 := h.keep hc
  subst hv
  have hxm := h1.left x (by simp)
  have hq : q = (ys ++ x :: zs).length := by
    rcases h.own.2 with ⟨e, _⟩ | ⟨_, _, _, e, _⟩
    · cases e
    · injection e
  subst hq
  have hB := (h.own.lt g rfl).1
  have hlo := h.lo
  have hopen := rown_grown h1.own hxm (by decide) hg
  have hfar : ∀ {k q2 : Nat} {u : Value} {cs : List Value}, w'.ownsRow B 3 k u q2 cs → (w'.setCell ⟨g, ys.length * 4 + 3, none⟩ v').ownsRow B 3 k u q2 cs := fun hu => rown_far hu (own_ne hopen hu (by decide) rfl)
  have hoth : ∀ y ∈ ys ++ zs, (y.v.ownBlock = none ∨ y.v.ownBlock ≠ x.v.ownBlock) := by
    have hp := h.apart
    rw [List.pairwise_append, List.pairwise_cons] at hp
    intro y hy
    rcases List.mem_append.1 hy with hy | hy
    · exact hp.2.2 y hy x (by simp)
    · rcases hp.2.1.1 y hy with h | h
      · cases hyb : y.v.ownBlock with
        | none => exact .inl rfl
        | some b => exact .inr (by rw [h]; simp)
      · exact .inr (Ne.symm h)
  have hnew : ∀ y ∈ ys ++ zs, (y.v.ownBlock = none ∨ y.v.ownBlock ≠ v'.ownBlock) := fun y hy => by
    rcases hb with e | e
    · rw [e]; exact hoth y hy
    · cases hyb : y.v.ownBlock with
      | none => exact .inl rfl
      | some b =>
        refine .inr (fun hh => ?_)
        rw [e] at hh
        injection hh with hh
        have hm : y ∈ ys ++ x :: zs := by
          rcases List.mem_append.1 hy with hy | hy
          · exact List.mem_append_left _ hy
          · exact List.mem_append_right _ (List.mem_cons_of_mem _ hy)
        have := ((h1.left y hm).lt b hyb).2
        omega
  have hleft : ∀ y ∈ ys ++ zs, (w'.setCell ⟨g, ys.length * 4 + 3, none⟩ v').ownsRow B 3 1 y.v y.p.left.length (nts y.p.left) := fun y hy => by
    have hm : y ∈ ys ++ x :: zs := by
      rcases List.mem_append.1 hy with hy | hy
      · exact List.mem_append_left _ hy
      · exact List.mem_append_right _ (List.mem_cons_of_mem _ hy)
    exact hfar ((h1.left y hm).kept hg (hoth y hy))
  refine ⟨(whole_grown h1.rec_ hxm (by decide) hg).far (by simp only; omega) _, ?_, h.len, by simp, ?_, fun y hy => ?_, ?_, h.lo, by have := h.few; simpa using this, h.deep, fun y hy => ?_, h.big, by rw [size_set]; exact Nat.le_trans h1.room hg.size⟩
  · refine Whole.far ?_ (by simp only; omega) _
    unfold Whole
    rw [hg.block gt h1.to_.lt (fun hc => by have := (hxm.lt gt hc.symm).1; omega)]
    exact h1.to_
  · have ho2 := rown_set (j := ys.length * 4 + 3) (u := v') hopen
    have e1 : (ys ++ (⟨⟨x.p.loop, x.p.at_, x.p.waits, x.p.left ++ [i]⟩, v'⟩ : PV) :: zs).length = (ys ++ x :: zs).length := by simp
    have e2 : (pvCs (ys ++ x :: zs)).set (ys.length * 4 + 3) v' = pvCs (ys ++ ⟨⟨x.p.loop, x.p.at_, x.p.waits, x.p.left ++ [i]⟩, v'⟩ :: zs) := by
      rw [pvCs_app, pvCs_app, pvCs, pvCs, List.set_append_right _ _ (by rw [pvCs_len]; omega), pvCs_len]
      rw [show ys.length * 4 + 3 - ys.length * 4 = 3 by omega]
      rfl
    rw [e1, ← e2]
    exact ho2
  · rcases List.mem_append.1 hy with hy | hy
    · exact hleft y (List.mem_append_left _ hy)
    · rcases List.mem_cons.1 hy with rfl | hy
      · have := hfar ho
        simp only [nts_app, List.length_append, List.length_cons, List.length_nil]
        exact this
      · exact hleft y (List.mem_append_right _ hy)
  · have hp := h.apart
    rw [List.pairwise_append, List.pairwise_cons] at hp ⊢
    refine ⟨hp.1, ⟨fun z hz => ?_, hp.2.1.2⟩, fun y hy z hz => ?_⟩
    · rcases hnew z (List.mem_append_right _ hz) with h | h
      · cases hvb : v'.ownBlock with
        | none => exact .inl (by simp)
        | some b => exact .inr (by simp [h])
      · exact .inr (Ne.symm h)
    · rcases List.mem_cons.1 hz with rfl | hz
      · exact hnew y (List.mem_append_left _ hy)
      · exact hp.2.2 y hy z (List.mem_cons_of_mem _ hz)
  · rcases List.mem_append.1 hy with hy | hy
    · exact h.wf y (List.mem_append_left _ hy)
    · rcases List.mem_cons.1 hy with rfl | hy
      · have := h.wf x (by simp)
        refine ⟨this.1, this.2.1, by simp only [List.length_append, List.length_cons, List.length_nil]; omega, fun j hj => ?_⟩
        rcases List.mem_append.1 hj with hj | hj
        · exact this.2.2.2 j hj
        · simp only [List.mem_cons, List.not_mem_nil, or_false] at hj
          rw [hj]; exact hi
      · exact h.wf y (by simp [hy])
set_option maxHeartbeats 2000000 in
set_option maxRecDepth 100000 in
theorem leave_no {xs : List PV} (h : Mt W gm gt B n m vo xs) (hn : ∀ x ∈ xs, x.p.loop = false) (i : Nat) : Calls Tryz.prog 143 #[.pointer (some ⟨gm, 0, none⟩), .int .i64 (i : Int)] W (BoolPost false W) := by
  have c2 := h.rec_.cell 2
  obtain ⟨A, c, rfl, hc1, hc2, _⟩ := rown_slice h.own
  have H := Lib.hid h
  have HN := Lib.hid hn
  have hfew := h.few
  obtain ⟨q, hq⟩ : ∃ q, q = xs.length := ⟨_, rfl⟩
  rw [← hq] at c2 hfew hc1
  have HQ := Lib.hid hq
  clear h hn hq
  have hsub : ∀ k : Nat, k ≤ 17 → IntKind.i64.wrap ((k : Int) - 1) = (k : Int) - 1 := fun k hk => IntWalk.i64_in _ (by omega)
  have hsq := hsub q (by omega)
  have HSUB := Lib.hid hsub
  clear hsub
  go_enter Tryz.func143, Tryz.ntmps143
  go_wp2_with fail
  go_loop [5] (fun s => ∃ k : Nat, k ≤ q ∧ s = .int .i64 ((k : Int) - 1)) (fun s => (intOf s + 1).toNat)
  case atStart => exact ⟨q, Nat.le_refl _, rfl⟩
  case round =>
    obtain ⟨k, hk, rfl⟩ := hrel
    by_cases hlt : 0 < k
    · obtain ⟨j, rfl⟩ : ∃ j, k = j + 1 := ⟨k - 1, by omega⟩
      have he : ((j + 1 : Nat) : Int) - 1 = (j : Int) := by omega
      rw [he]
      have hj0 : (0 : Int) ≤ (j : Int) := by omega
      have hj1 : (j : Int) < (q : Int) := by omega
      have hjx : j < xs.length := by rw [← HQ.out]; omega
      have hlp := HN.out xs[j] (List.getElem_mem hjx)
      obtain ⟨g, rfl, j0⟩ := rown_cell H.out.own (by rw [← HQ.out]) ((pvCs_get xs j xs[j] 0 (List.getElem?_eq_getElem hjx) (by omega)).trans (show (pvC xs[j])[0]? = some (.bool xs[j].p.loop) from rfl))
      rw [Nat.add_zero, hlp] at j0
      have hsj := HSUB.out j (by omega)
      clear hlp hsq
      go_wp2_with fail
      go_round
      case rel => exact ⟨j, by omega, rfl⟩
      case measure => simp [intOf]
    · obtain rfl : k = 0 := by omega
      have hz : ¬ (0 : Int) ≤ ((0 : Nat) : Int) - 1 := by omega
      go_wp2_with fail
      go_ret
      exact ⟨rfl, Chg.refl _ _⟩
set_option maxHeartbeats 4000000 in
set_option maxRecDepth 100000 in
theorem leave_yes {ys zs : List PV} {x : PV} (h : Mt W gm gt B n m vo (ys ++ x :: zs)) (hl : x.p.loop = true) (hn : ∀ z ∈ zs, z.p.loop = false) (i : Nat) (hi : i < n) (hfl : x.p.left.length < n) : Calls Tryz.prog 143 #[.pointer (some ⟨gm, 0, none⟩), .int .i64 (i : Int)] W
    (NextPost8 gm gt B n ⟨m.tO, m.deep, (zs.map (·.p)).reverse ++ ⟨x.p.loop, x.p.at_, x.p.waits, x.p.left ++ [i]⟩ :: (ys.map (·.p)).reverse⟩ W) := by
  have HHL := Lib.hid hl
  clear hl
  have c2 := h.rec_.cell 2
  obtain ⟨A, c, rfl, hc1, hc2, _⟩ := rown_slice h.own
  have H := Lib.hid h
  have HN := Lib.hid hn
  obtain ⟨i0, hi0, hz0, hz1, hz2⟩ := info_parts info_int
  have hfew := h.few
  obtain ⟨q, hq⟩ : ∃ q, q = (ys ++ x :: zs).length := ⟨_, rfl⟩
  obtain ⟨b, hb⟩ : ∃ b, b = ys.length := ⟨_, rfl⟩
  have hbq : b < q := by rw [hb, hq]; simp
  have hxb : (ys ++ x :: zs)[b]? = some x := by rw [hb]; simp
  have hzs : ∀ (j : Nat) (hj : j < (ys ++ x :: zs).length), b < j → ((ys ++ x :: zs)[j]).p.loop = false := fun j hj hbj => by
    have : (ys ++ x :: zs)[j] ∈ zs := by
      rw [List.getElem_append_right (by omega)]
      obtain ⟨d, hd⟩ : ∃ d, j - ys.length = d + 1 := ⟨j - ys.length - 1, by omega⟩
      simp only [hd, List.getElem_cons_succ]
      exact List.getElem_mem _
    exact hn _ this
  rw [← hq] at c2 hfew hc1
  have HQ := Lib.hid hq
  have HBB := Lib.hid hb
  have HXB := Lib.hid hxb
  have HZS := Lib.hid hzs
  clear h hn hq hb hxb hzs
  have hsub : ∀ k : Nat, k ≤ 17 → IntKind.i64.wrap ((k : Int) - 1) = (k : Int) - 1 := fun k hk => IntWalk.i64_in _ (by omega)
  have hsq := hsub q (by omega)
  have HSUB := Lib.hid hsub
  clear hsub
  go_enter Tryz.func143, Tryz.ntmps143
  go_wp2_with fail
  go_loop [5] (fun s => ∃ k : Nat, k ≤ q ∧ b < k ∧ s = .int .i64 ((k : Int) - 1)) (fun s => (intOf s + 1).toNat)
  case atStart => exact ⟨q, Nat.le_refl _, hbq, rfl⟩
  case round =>
    obtain ⟨k, hk, hbk, rfl⟩ := hrel
    obtain ⟨j, rfl⟩ : ∃ j, k = j + 1 := ⟨k - 1, by omega⟩
    have he : ((j + 1 : Nat) : Int) - 1 = (j : Int) := by omega
    rw [he]
    have hj0 : (0 : Int) ≤ (j : Int) := by omega
    have hj1 : (j : Int) < (q : Int) := by omega
    by_cases hlt : b < j
    · have hjx : j < (ys ++ x :: zs).length := by rw [← HQ.out]; omega
      have hlp := HZS.out j hjx hlt
      obtain ⟨g, rfl, j0⟩ := rown_cell H.out.own (by rw [← HQ.out]) ((pvCs_get _ j (ys ++ x :: zs)[j] 0 (List.getElem?_eq_getElem hjx) (by omega)).trans (show (pvC (ys ++ x :: zs)[j])[0]? = some (.bool (ys ++ x :: zs)[j].p.loop) from rfl))
      rw [Nat.add_zero, hlp] at j0
      have hsj := HSUB.out j (by omega)
      clear hlp hsq
      go_wp2_with fail
      go_round
      case rel => exact ⟨j, by omega, by omega, rfl⟩
      case measure => simp [intOf]
    · obtain rfl : b = j := by omega
      obtain ⟨g, rfl, j0⟩ := rown_cell H.out.own (by rw [← HQ.out]) ((pvCs_get _ b x 0 HXB.out (by omega)).trans (show (pvC x)[0]? = some (.bool x.p.loop) from rfl))
      obtain ⟨g', e, j3⟩ := rown_cell H.out.own (by rw [← HQ.out]) ((pvCs_get _ b x 3 HXB.out (by omega)).trans (show (pvC x)[3]? = some x.v from rfl))
      injection e with e; injection e with e; subst e
      rw [Nat.add_zero, HHL.out] at j0
      have hxm := H.out.left x (by simp)
      obtain ⟨Av, cv, e, _⟩ := own_slice hxm
      rw [e] at j3 hxm
      have HE := Lib.hid e
      have HXM := Lib.hid hxm
      have hLL := (H.out.wf x (by simp)).2.2.1
      have hbig := H.out.big
      have hBW : B ≤ W.heap.size := Nat.le_trans (H.out.own.lt g rfl).1 (Nat.le_of_lt (H.out.own.lt g rfl).2)
      clear e hxm hsq
      have q3 : (W.alloc (.cells #[.int .i64 (i : Int)] 3)).cell? ⟨g, b * 4 + 3, none⟩ = some (.slice Av x.p.left.length cv) := cell_keep j3 ((Chg.refl [] W).alloc _)
      have q2 : (W.alloc (.cells #[.int .i64 (i : Int)] 3)).cell? ⟨gm, 2, none⟩ = some (.slice (some ⟨g, 0, none⟩) q c) := cell_keep (by simpa using c2) ((Chg.refl [] W).alloc _)
      go_wp2_with fail
      go_region_law (
        (refine step_append_where rfl (.tmp 36) (.tmp 38) 26 rfl B 3 i0 _ 8 Tryz.underlying26 hi0 hz0 hz1 hz2 rfl (.slice Av x.p.left.length cv) x.p.left.length (nts x.p.left) rfl (own_keep HXM.out (((Chg.refl [] W).alloc _).drew)) (some ⟨W.heap.size, 0, none⟩) 1 1 [.int .i64 (i : Int)] rfl rfl ((Src.of_all (Whole.new W 3 [.int .i64 (i : Int)])).drew) (by simp [Value.oneCell']) (by unfold maxLen; omega) (by omega) (by simp; omega) ?_
         intro v' w' ho hg hwb
         obtain ⟨A', c', rfl, _⟩ := own_slice ho
         have HO := Lib.hid ho
         have HGR := Lib.hid hg
         have HAL := Lib.hid (show Chg [] W (W.alloc (.cells #[.int .i64 (i : Int)] 3)).drew from ((Chg.refl [] W).alloc _).drew)
         have HO2 := Lib.hid (rown_grown (rown_keep H.out.own HAL.out) (own_keep HXM.out HAL.out) (by decide) hg)
         obtain ⟨g', e, k3⟩ := rown_cell HO2.out (by rw [← HQ.out]) ((pvCs_get _ b x 3 HXB.out (by omega)).trans (show (pvC x)[3]? = some x.v from rfl))
         injection e with e; injection e with e; subst e
         have kf : w'.frozen? ⟨g, b * 4 + 3, none⟩ = false := by
           have h := HO2.out
           rw [← HQ.out] at h
           exact rown_frozen h
         have k2 : w'.cell? ⟨gm, 2, none⟩ = some (.slice (some ⟨g, 0, none⟩) q c) := by
           have h := (whole_grown (H.out.rec_.keep HAL.out) (own_keep HXM.out HAL.out) (by decide) hg).cell 2
           rw [← HQ.out] at h
           simpa using h
         have HWB := Lib.hid hwb
         have hsv : (∀ j, w'.heap.size = j → True) := fun _ _ => trivial
         clear ho hg hwb hsv))
      all_goals
        have HM := Lib.hid (H.out.leave rfl hi hfl HAL.out HO.out (by rw [HE.out]; exact HGR.out) (by rw [HE.out]; exact HWB.out))
        rw [← HBB.out] at HM
        have HL := Lib.hid (show Lo B [gm, gt] W (w'.setCell ⟨g, b * 4 + 3, none⟩ (.slice A' (x.p.left.length + 1) c')) from ((Lo.of_chg HAL.out (by simp)).trans (Lo.of_grown (own_keep HXM.out HAL.out) (Nat.le_refl _) HGR.out)).trans (Lo.of_chg ((Chg.refl [g] w').setCell (p := ⟨g, b * 4 + 3, none⟩) (by simp) _) (by have := (H.out.own.lt g rfl).1; simp; omega)))
        generalize w'.setCell ⟨g, b * 4 + 3, none⟩ (.slice A' (x.p.left.length + 1) c') = w9 at HM HL ⊢
        clear k2 k3 kf
        go_wp2_with fail
        go_ret
        exact ⟨rfl, ⟨_, _, HM.out⟩, HL.out⟩
end
end Go.Proofs.YtbkfhndmeljlcaaGreatDoor
