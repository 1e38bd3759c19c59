/-
  EA: RowE.
-/
import Derived.Test.YtfhgnoajfipjdaaZEA5
import Derived.Test.YtfhgnoajfipjdaaZEA7
import Derived.Test.YtfhgnoajfipjdaaZEA9
namespace Go.Proofs.Ytfhgnoajfipjdaa
open Go.RowKit
theorem cells_new (w : World) (xs : List Value) (t : Nat) : ∀ (j : Nat) (u : Value), xs[j]? = some u → (w.alloc (.cells xs.toArray t)).cell? ((⟨w.heap.size, 0, none⟩ : Addr).add j) = some u := fun j u hj => by
  rw [add_plain, Nat.zero_add, (Whole.new w t xs).cell]; exact hj
/-- append, elements of any size: where the row lies then is told. -/
theorem wpList_append_n {P : Program} {w : World} {ops : Array Oper} {rest : List Oper} {o : Oper} {a : Act} {Q : Exit → Act → World → Prop} (hgd : o.guard = none) (s x : Operand) (t : TypeId)
    (ho : o.op = .call { callee := .builtin .append, args := #[s, x], argTypes := #[t, t] })
    (base : Nat) (e : TypeId) (i : TypeInfo) (z : Value) (size bytes : Nat) (ht : P.underlying t = some (.slice e)) (hi : P.info? e = some i) (hz : i.zero = some z)
    (hsize : i.size = size) (hby : i.bytes = bytes) (hzs : z.cells.size = size) (hsz : 0 < size)
    (v : Value) (n : Nat) (xs : List Value) (hse : a.eval s = v) (hown : w.ownsRow base e size v n xs)
    (ad : Addr) (m c : Nat) (news : List Value) (hxe : a.eval x = .slice (some ad) m c) (hl : news.length = m * size) (hnews : ∀ j u, news[j]? = some u → w.cell? (ad.add j) = some u) (h1 : ∀ u ∈ news, u.oneCell' = true)
    (h63 : n + m ≤ maxLen) (hbytes : (n + m) * bytes ≤ 140737488355328) (hbase : base ≤ w.heap.size)
    (h : ∀ v' w', w'.ownsRow base e size v' (n + m) (xs ++ news) → w.grownBy w' v.ownBlock → (v'.ownBlock = v.ownBlock ∨ v'.ownBlock = some w.heap.size) → wpList P ops Q rest (a.put o.dst v') w') : wpList P ops Q (o :: rest) a w := by
  refine wpList_plain hgd fun K hK => ?_
  obtain ⟨v', w', hrun, h2, h3, _, h5⟩ := run_append_own_at (P := P) w base t o.type e i z size bytes ht hi hz hsize hby hzs hsz v n xs hown ad m c news hl hnews h1 h63 hbytes hbase
  unfold Oper.wp execOp
  simp only [ho, resolve, invoke, builtin, Sem.run_bind, Sem.run_pure, Result.andThen_ok, List.map_toArray, List.map_cons, List.map_nil, hse, hxe, hrun]
  exact hK _ _ (h v' w' h2 h3 h5)
/-- Answers, asks, as cells hold them. -/
def ansC (rs : List (Option Int)) : List Value := rs.flatMap fun r => [.int .i64 (r.getD 0), .bool r.isSome]
def qsC (qs : List (Int × Int)) : List Value := qs.flatMap fun q => [.int .i32 q.1, .int .i64 q.2]
theorem pair_get {α : Type} (f g : α → Value) : ∀ (l : List α) (k : Nat) (a : α), l[k]? = some a → (l.flatMap fun a => [f a, g a])[k * 2]? = some (f a) ∧ (l.flatMap fun a => [f a, g a])[k * 2 + 1]? = some (g a)
  | [], k, a, h => by simp at h
  | b :: l, 0, a, h => by simp at h; subst h; exact ⟨rfl, rfl⟩
  | b :: l, k + 1, a, h => by
    simp at h
    have := pair_get f g l k a h
    rw [List.flatMap_cons, show (k + 1) * 2 = k * 2 + 2 by omega, show k * 2 + 2 + 1 = k * 2 + 1 + 2 by omega]
    exact this
theorem ans_get {rs : List (Option Int)} {k : Nat} {r : Option Int} (h : rs[k]? = some r) : (ansC rs)[k * 2]? = some (.int .i64 (r.getD 0)) ∧ (ansC rs)[k * 2 + 1]? = some (.bool r.isSome) := pair_get _ _ rs k r h
theorem qs_get {qs : List (Int × Int)} {k : Nat} {q : Int × Int} (h : qs[k]? = some q) : (qsC qs)[k * 2]? = some (.int .i32 q.1) ∧ (qsC qs)[k * 2 + 1]? = some (.int .i64 q.2) := pair_get _ _ qs k q h
theorem info_ans : (Try.prog.info? 116).map (fun i => (i.zero, i.size, i.bytes)) = some (some (.agg #[.int .i64 0, .bool false]), 2, 16) := by kernel_rfl
theorem info_rask : (Try.prog.info? 53).map (fun i => (i.zero, i.size, i.bytes)) = some (some (.agg #[.int .i32 0, .int .i64 0]), 2, 16) := by kernel_rfl
/-- What the next ask is answered. -/
def nextR (rs : List (Option Int)) (k : Nat) : Option Int := if k < rs.length then rs.getD k none else some 0
/-- A row of answers rs that was asked qs. -/
structure Rq (w : World) (p : Nat) (rs : List (Option Int)) (qs : List (Int × Int)) (a q : Value) : Prop where
  rec_ : Whole w p 112 [a, q]
  ans : w.ownsRow 0 116 2 a rs.length (ansC rs)
  asks : w.ownsRow 0 53 2 q qs.length (qsC qs)
abbrev rqT : List TypeId := [112, 53]
section
variable {w w' : World} {p : Nat} {rs : List (Option Int)} {qs : List (Int × Int)} {a q : Value} {K : Nat → Prop}
theorem Rq.keep (h : Rq w p rs qs a q) (hc : Chg [] w w') : Rq w' p rs qs a q := ⟨h.rec_.keep hc, rown_keep h.ans hc, rown_keep h.asks hc⟩
theorem Rq.fe {TS : List TypeId} (h : Rq w p rs qs a q) (hf : Fe K TS w w') (h1 : 112 ∉ TS) (h2 : 116 ∉ TS) (h3 : 53 ∉ TS) : Rq w' p rs qs a q := ⟨hf.whole h.rec_ h1, hf.own h.ans h2, hf.own h.asks h3⟩
/-- The row's struct is written. -/
theorem rown_lay {B n k : Nat} {e t : TypeId} {v u : Value} {xs cs : List Value} {j : Nat} (h : w.ownsRow B e k v n xs) (hp : Whole w p t cs) (hne : e ≠ t) : (w.setCell ⟨p, j, none⟩ u).ownsRow B e k v n xs := by
  refine ⟨h.1, h.2.imp id ?_⟩
  rintro ⟨g, cap, cur, rfl, hb, hh, r⟩
  refine ⟨g, cap, cur, rfl, hb, ?_, r⟩
  rw [Below.heap_setCell w ⟨p, j, none⟩ u g ?_]
  · exact hh
  · rintro rfl
    unfold Whole at hp
    rw [hh] at hp
    simp at hp
    exact hne hp.2
/-- An ask more. -/
theorem Rq.more (h : Rq w p rs qs a q) (hp : K p) (hq : ∀ i, q.ownBlock = some i → K i) (hnew : ∀ i, w.heap.size ≤ i → K i) {W2 w3 : World} (hc : Chg [] w W2) {x y : Int} {q' : Value} {n1 : Nat} (hn1 : n1 = qs.length + 1)
    (ho : w3.ownsRow 0 53 2 q' n1 (qsC qs ++ [.int .i32 x, .int .i64 y])) (hg : W2.grownBy w3 q.ownBlock) (hb : q'.ownBlock = q.ownBlock ∨ q'.ownBlock = some W2.heap.size) :
    Rq (w3.setCell ⟨p, 1, none⟩ q') p rs (qs ++ [(x, y)]) a q' ∧ Fe K rqT w (w3.setCell ⟨p, 1, none⟩ q') ∧ (∀ i, q'.ownBlock = some i → K i) ∧ Whole w3 p 112 [a, q] := by
  subst hn1
  have h2 := h.keep hc
  have hr3 := whole_grown h2.rec_ h2.asks (by decide) hg
  have ha3 := rown_grown h2.ans h2.asks (by decide) hg
  refine ⟨⟨hr3.set_ 1 _, rown_lay ha3 hr3 (by decide), ?_⟩, ((Fe.of_chg hc).grown h2.asks hq (by simp [rqT]) hg).setw hr3 hp (by simp [rqT]) _, fun i hi => ?_, hr3⟩
  · have := rown_lay (j := 1) (u := q') ho hr3 (by decide)
    rw [List.length_append, List.length_singleton, show qsC (qs ++ [(x, y)]) = qsC qs ++ [.int .i32 x, .int .i64 y] by simp [qsC]]
    exact this
  · rcases hb with hb | hb
    · exact hq i (hb.symm.trans hi)
    · rw [hb] at hi
      injection hi with hi
      exact hnew i (by have := hc.size; omega)
/-- New's answer. -/
def NewRq (w : World) (rs : List (Option Int)) (e : Ending) (w' : World) : Prop := ∃ p a, e = .returned (.pointer (some ⟨p, 0, none⟩)) ∧ Rq w' p rs [] a (.slice none 0 0) ∧ w.heap.size ≤ p ∧ Chg [] w w'
theorem qsC_cells (qs : List (Int × Int)) : ∀ v ∈ qsC qs, v.oneCell' = true := by
  intro v hv
  simp only [qsC, List.mem_flatMap, List.mem_cons, List.not_mem_nil, or_false] at hv
  obtain ⟨q, _, rfl | rfl⟩ := hv <;> rfl
theorem qsC_len (qs : List (Int × Int)) : (qsC qs).length = qs.length * 2 := by
  induction qs with
  | nil => rfl
  | cons q qs ih => simp only [qsC, List.flatMap_cons, List.length_append, List.length_cons, List.length_nil] at ih ⊢; omega
theorem Low.of_rown {B n k : Nat} {e : TypeId} {v : Value} {xs : List Value} (ho : w.ownsRow B e k v n xs) (hg : w.grownBy w' v.ownBlock) : Low B w w' :=
  ⟨hg.os, hg.tape, hg.output, hg.size, fun i hi hB => hg.block i hB fun hc => by
    rcases ho.2 with ⟨rfl, _⟩ | ⟨g, cap, cur, rfl, hb, _⟩
    · simp [Value.ownBlock] at hc
    · simp [Value.ownBlock] at hc; omega⟩
/-- A row, from block B on. -/
structure RwB (w : World) (B p : Nat) (rs : List (Option Int)) (a : Value) : Prop where
  rec_ : Whole w p 112 [a, .slice none 0 0]
  ans : w.ownsRow B 116 2 a rs.length (ansC rs)
  low : B ≤ p
theorem RwB.keep {w w' : World} {B p : Nat} {rs : List (Option Int)} {a : Value} (h : RwB w B p rs a) (hc : Chg [] w w') : RwB w' B p rs a := ⟨h.rec_.keep hc, rown_keep h.ans hc, h.low⟩
def AskPost (w : World) (K : Nat → Prop) (p : Nat) (rs : List (Option Int)) (qs : List (Int × Int)) (x y : Int) (e : Ending) (w' : World) : Prop :=
  ∃ a q, e = .returned (.tuple #[.int .i64 ((nextR rs qs.length).getD 0), .bool (nextR rs qs.length).isSome]) ∧ Rq w' p rs (qs ++ [(x, y)]) a q ∧ Fe K rqT w w' ∧ (∀ i, q.ownBlock = some i → K i)
set_option maxHeartbeats 2000000 in
set_option maxRecDepth 100000 in
theorem ask_any (h : Rq w p rs qs a q) (hp : K p) (hqK : ∀ i, q.ownBlock = some i → K i) (hnew : ∀ i, w.heap.size ≤ i → K i) (hq : qs.length ≤ 1000000000) (x y : Int) :
    Calls Try.prog 172 #[.pointer (some ⟨p, 0, none⟩), .int .i32 x, .int .i64 y] w (AskPost w K p rs qs x y) := by
  obtain ⟨i0, hi, hz0, hz1, hz2⟩ := info_parts info_rask
  obtain ⟨A1, c1, rfl, _, hcm1, hA1⟩ := rown_slice h.ans
  obtain ⟨A2, c2, rfl, _, hcm2, _⟩ := rown_slice h.asks
  have e0 := h.rec_.cell 0
  have e1 := h.rec_.cell 1
  have f1 := h.rec_.frozen 1
  have hal : Chg [] w (w.alloc (.cells #[.int .i32 x, .int .i64 y] 53)) := (Chg.refl [] w).alloc _
  have hown := rown_keep h.asks hal
  have fin : ∀ (v' : Value) (w3 : World), w3.ownsRow 0 53 2 v' (qs.length + 1) (qsC qs ++ [.int .i32 x, .int .i64 y]) → (w.alloc (.cells #[.int .i32 x, .int .i64 y] 53)).grownBy w3 (Value.slice A2 qs.length c2).ownBlock → (v'.ownBlock = (Value.slice A2 qs.length c2).ownBlock ∨ v'.ownBlock = some (w.alloc (.cells #[.int .i32 x, .int .i64 y] 53)).heap.size) →
      Hid (Rq (w3.setCell ⟨p, 1, none⟩ v') p rs (qs ++ [(x, y)]) (.slice A1 rs.length c1) v') ∧ Hid (Fe K rqT w (w3.setCell ⟨p, 1, none⟩ v')) ∧ Hid (∀ i, v'.ownBlock = some i → K i) ∧ Hid (Whole w3 p 112 [.slice A1 rs.length c1, .slice A2 qs.length c2]) := by
    intro v' w3 h1 h2 h3
    obtain ⟨r1, r2, r3, r4⟩ := h.more (K := K) hp hqK hnew hal rfl h1 h2 h3
    exact ⟨Lib.hid r1, Lib.hid r2, Lib.hid r3, Lib.hid r4⟩
  obtain ⟨N, hN⟩ : ∃ N, N = qs.length := ⟨_, rfl⟩
  obtain ⟨M, hM⟩ : ∃ M, M = rs.length := ⟨_, rfl⟩
  have HN := Lib.hid hN
  have HM := Lib.hid hM
  rw [← hN] at e1 hq hown fin
  rw [← hM] at e0 fin
  have FIN := Lib.hid fin
  have HOW := Lib.hid hown
  clear h hp hqK hnew hal hown fin hN hM
  by_cases hlt : N < M
  · have hltI : (N : Int) < (M : Int) := by omega
    go_enter Try.func172, Try.ntmps172
    go_wp2_with (at_builtin
                 refine wpList_append_n rfl (.tmp 18) (.tmp 22) _ rfl 0 53 i0 _ 2 16 Try.underlying32 hi hz0 hz1 hz2 rfl (by decide) (.slice A2 N c2) N (qsC qs) rfl HOW.out ⟨w.heap.size, 0, none⟩ 1 1 [.int .i32 x, .int .i64 y] rfl rfl (cells_new _ _ _) (by simp [Value.oneCell']) (by simp only [maxLen]; omega) (by omega) (Nat.zero_le _) ?_
                 intro v' w3 hown' hg' hb'
                 obtain ⟨HR3, HF3, HK3, HW3⟩ := FIN.out v' w3 hown' hg' hb'
                 obtain ⟨A3, c3, rfl, _, _, _⟩ := rown_slice hown'
                 have d0 := HW3.out.cell 0
                 have d1 := HW3.out.cell 1
                 have g1 := HW3.out.frozen 1
                 clear hown' hg' hb')
    generalize w3.setCell ⟨p, 1, none⟩ (.slice A3 (N + 1) c3) = w4 at HR3 HF3 ⊢
    clear d0 d1 g1
    have d0 := HR3.out.rec_.cell 0
    obtain ⟨r, hr⟩ : ∃ r, rs[N]? = some r := ⟨_, List.getElem?_eq_getElem (by have := HM.out; omega)⟩
    have ha3 := HR3.out.ans
    rw [← HM.out] at ha3
    obtain ⟨g, rfl, k1⟩ := rown_cell ha3 rfl (ans_get hr).1
    obtain ⟨g', hg', k2⟩ := rown_cell ha3 rfl (ans_get hr).2
    injection hg' with hg'
    injection hg' with hg'
    subst hg'
    clear ha3
    have HNX := Lib.hid (show nextR rs qs.length = r by unfold nextR; rw [← HN.out, if_pos (by rw [← HM.out]; exact hlt)]; simp [List.getD, hr])
    clear hr
    have HP := Lib.hid (show ∀ k, AskPost w K p rs qs x y (.returned (.tuple #[.int .i64 (r.getD 0), .bool r.isSome])) (w4.drewN k) from fun k =>
      ⟨_, _, by rw [HNX.out], HR3.out.keep ((Chg.refl [] w4).drewN k), HF3.out.new ((Chg.refl [] w4).drewN k), HK3.out⟩)
    go_quiet (fail)
    go_wp2_with fail
    go_ret2
    exact HP.out _
  · have hltI : (M : Int) ≤ (N : Int) := by omega
    go_enter Try.func172, Try.ntmps172
    go_wp2_with (at_builtin
                 refine wpList_append_n rfl (.tmp 18) (.tmp 22) _ rfl 0 53 i0 _ 2 16 Try.underlying32 hi hz0 hz1 hz2 rfl (by decide) (.slice A2 N c2) N (qsC qs) rfl HOW.out ⟨w.heap.size, 0, none⟩ 1 1 [.int .i32 x, .int .i64 y] rfl rfl (cells_new _ _ _) (by simp [Value.oneCell']) (by simp only [maxLen]; omega) (by omega) (Nat.zero_le _) ?_
                 intro v' w3 hown' hg' hb'
                 obtain ⟨HR3, HF3, HK3, HW3⟩ := FIN.out v' w3 hown' hg' hb'
                 obtain ⟨A3, c3, rfl, _, _, _⟩ := rown_slice hown'
                 have d0 := HW3.out.cell 0
                 have d1 := HW3.out.cell 1
                 have g1 := HW3.out.frozen 1
                 clear hown' hg' hb')
    go_ret2
    have HNX : nextR rs qs.length = some 0 := by unfold nextR; rw [← HN.out, if_neg (by rw [← HM.out]; exact hlt)]
    have HP : AskPost w K p rs qs x y (.returned (.tuple #[.int .i64 0, .bool true])) (w3.setCell ⟨p, 1, none⟩ (.slice A3 (N + 1) c3)) :=
      ⟨_, _, by rw [HNX]; rfl, HR3.out, HF3.out, HK3.out⟩
    exact HP
set_option maxHeartbeats 2000000 in
set_option maxRecDepth 100000 in
theorem rnew_any {vs : List Value} {A : Option Addr} {n c : Nat} (hN : Nums vs rs) (hs : Src w A vs) (hA : ∀ ad, A = some ad → ad.spot = none) (hn : vs.length = n) (hc : n ≤ c) (m : Nat) (hm : (m : Int) = min (n : Int) 64) :
    Calls Try.prog 15 #[.slice A n c] w (NewRq w (rs.take m)) := by
  have hmn : m ≤ n ∧ m ≤ 64 := by omega
  obtain ⟨i0, hi, hz0, hz1, hz2⟩ := info_parts info_ans
  have HVS := Lib.hid hn
  have HA := Lib.hid hA
  have HN := Lib.hid hN
  have HM := Lib.hid hm
  clear hn hA hN hm
  go_enter Try.func15, Try.ntmps15
  go_wp2_with fail
  rw [show min (n : Int) 64 = (m : Int) from HM.out.symm, Int.toNat_natCast, show max (m : Int) 0 = (m : Int) by omega]
  obtain ⟨p, hp⟩ : ∃ p, p = w.heap.size := ⟨_, rfl⟩
  have hR0 : RwB (w.alloc (.cells #[.slice none 0 0, .slice none 0 0] 112)) w.heap.size p (rs.take 0) (.slice none 0 0) :=
    ⟨by rw [hp]; exact Whole.new w 112 [.slice none 0 0, .slice none 0 0], World.ownsRow_nil _ _ _ _, Nat.le_of_eq hp.symm⟩
  have hc0 : Chg [] w (w.alloc (.cells #[.slice none 0 0, .slice none 0 0] 112)) := (Chg.refl _ _).alloc _
  rw [← hp]
  go_loopw [14] (fun i wr => ∃ k : Nat, k ≤ m ∧ i = .int .i64 (k : Int) ∧ (∃ a, RwB wr w.heap.size p (rs.take k) a) ∧ Chg [] w wr) (fun i _ => m - (intOf i).toNat)
  case atStart => exact ⟨0, Nat.zero_le _, rfl, ⟨_, hR0⟩, hc0⟩
  case round =>
    obtain ⟨k, hk, rfl, ⟨a, hR⟩, hcg⟩ := hrel
    have hwr := hcg.size
    have hpl : w.heap.size ≤ p := by omega
    have HC := Lib.hid hcg
    clear hR0 hc0 hp hcg
    by_cases hlt : k < m
    · have hlv : k < vs.length := by rw [HVS.out]; omega
      have hlr : k < rs.length := by have := HN.out.1; omega
      obtain ⟨ad, rfl, _, hx⟩ := (hs.keep HC.out) (by omega)
      have hx1 := hx k _ (List.getElem?_eq_getElem hlv)
      obtain ⟨b1, o1, s1⟩ := ad
      obtain rfl : s1 = none := HA.out _ rfl
      rw [add_plain] at hx1
      have hnum : Num vs[k] rs[k] := HN.out.2 k _ _ (List.getElem?_eq_getElem hlv) (List.getElem?_eq_getElem hlr)
      have HT := Lib.hid (show ansC (rs.take (k + 1)) = ansC (rs.take k) ++ [.int .i64 (rs[k].getD 0), .bool rs[k].isSome] by rw [List.take_succ_eq_append_getElem hlr]; unfold ansC; rw [List.flatMap_append]; rfl)
      have HTL := Lib.hid (show (rs.take (k + 1)).length = k + 1 by rw [List.length_take]; omega)
      have hTK : (rs.take k).length = k := by rw [List.length_take]; omega
      generalize vs[k] = u at hx1 hnum
      generalize rs[k] = r at hnum HT
      clear hx
      have HR := Lib.hid hR
      have hTK2 := Lib.hid hTK
      clear hR hTK
      have hkm : (k : Int) < (m : Int) := by omega
      go_wp2_with fail
      refine (vof_any hnum).mono ?_
      rintro e w1 ⟨rfl, hc1⟩
      have hR1 := HR.out.keep hc1
      have hwn : w.heap.size ≤ w1.heap.size := Nat.le_trans hwr hc1.size
      obtain ⟨A1, c1, rfl, _, _, _⟩ := rown_slice hR1.ans
      have hO1 := hR1.ans
      have e0 := hR1.rec_.cell 0
      rw [hTK2.out] at hO1 e0
      obtain ⟨X, hX⟩ : ∃ X, X = ansC (rs.take k) := ⟨_, rfl⟩
      rw [← hX] at hO1
      have HX := Lib.hid hX
      have HR1 := Lib.hid hR1
      have HC1 := Lib.hid hc1
      clear hX hR1 hc1
      go_wp2_with (first
        | (at_builtin
           refine wpList_append_own _ rfl (.tmp 24) (.tmp 28) _ rfl w.heap.size 116 i0 _ 2 16 Try.underlying110 hi hz0 hz1 hz2 rfl (by decide) _ k X rfl (rown_keep hO1 ((Chg.refl _ _).alloc _)) ⟨w1.heap.size, 0, none⟩ 1 1 [.int .i64 (r.getD 0), .bool r.isSome] rfl rfl ?c1 ?c2 ?c3 ?c4 ?c5 ?_
           case c1 => exact cells_new _ _ _
           case c2 => simp [Value.oneCell']
           case c3 => simp only [maxLen]; omega
           case c4 => omega
           case c5 => simp; omega
           intro v' w2 hown' hg' _
           have hal := rown_keep hO1 ((Chg.refl [] w1).alloc (.cells #[.int .i64 (r.getD 0), .bool r.isSome] 116))
           have hR2 := whole_grown (HR1.out.rec_.keep ((Chg.refl [] w1).alloc (.cells #[.int .i64 (r.getD 0), .bool r.isSome] 116))) hal (by decide) hg'
           have hL2 := (Low.of_chg (B := w.heap.size) ((Chg.refl [] w1).alloc (.cells #[.int .i64 (r.getD 0), .bool r.isSome] 116))).trans (Low.of_rown hal hg')
           obtain ⟨A3, c3, rfl, _, _, _⟩ := rown_slice hown'
           have d0 := hR2.cell 0
           have g0 := hR2.frozen 0
           have hR3 := hR2.set_ 0 (.slice A3 (k + 1) c3)
           have hO3 := rown_lay (j := 0) (u := .slice A3 (k + 1) c3) hown' hR2 (by decide)
           have hL3 : Low w.heap.size w1 (w2.setCell ⟨p, 0, none⟩ (.slice A3 (k + 1) c3)) := hL2.trans ⟨rfl, rfl, rfl, by simp [World.setCell], fun k hk hl => Below.heap_setCell w2 _ _ k (by simp only; omega)⟩
           clear hal hR2 hL2 hown' hg'))
      go_roundw
      case rel =>
        refine ⟨k + 1, by omega, by go_num, ⟨.slice A3 (k + 1) c3, hR3, ?_, hpl⟩, ((Low.of_chg (HC.out.new HC1.out)).trans hL3).chg (Nat.le_refl _)⟩
        rw [HTL.out, HT.out, ← HX.out]
        exact hO3
      case measure => simp [intOf]; omega
    · obtain rfl : k = m := by omega
      go_wp2_with fail
      go_ret
      exact ⟨p, _, rfl, ⟨hR.rec_, own_more_n hR.ans (Nat.zero_le _), World.ownsRow_nil _ _ _ _⟩, hR.low, HC.out⟩
/-- Asks' answer. -/
def AsksPost (w : World) (qs : List (Int × Int)) (e : Ending) (w' : World) : Prop := ∃ v, e = .returned v ∧ w'.ownsRow w.heap.size 53 2 v qs.length (qsC qs) ∧ Chg [] w w'
set_option maxHeartbeats 2000000 in
set_option maxRecDepth 100000 in
theorem asks_any (h : Rq w p rs qs a q) (hq : qs.length ≤ 1000000000) (h0 : 0 < qs.length) :
    Calls Try.prog 20 #[.pointer (some ⟨p, 0, none⟩)] w (AsksPost w qs) := by
  obtain ⟨i0, hi, hz0, hz1, hz2⟩ := info_parts info_rask
  obtain ⟨A2, c2, rfl, _, hcm2, _⟩ := rown_slice h.asks
  have e1 := h.rec_.cell 1
  obtain ⟨g, rfl, _⟩ := rown_cell h.asks rfl (qs_get (List.getElem?_eq_getElem h0)).1
  have hcells : ∀ (j : Nat) (u : Value), (qsC qs)[j]? = some u → w.cell? ((⟨g, 0, none⟩ : Addr).add j) = some u := h.asks.cells rfl
  have HL := Lib.hid (qsC_len qs)
  have HO := Lib.hid hcells
  clear hcells h
  obtain ⟨N, hN⟩ : ∃ N, N = qs.length := ⟨_, rfl⟩
  have HN := Lib.hid hN
  rw [← hN] at e1 hq h0 HL
  clear hN
  go_enter Try.func20, Try.ntmps20
  go_wp2_with (first
    | (at_builtin
       refine wpList_append_own _ rfl (.const (.slice none 0 0)) (.tmp 6) _ rfl w.heap.size 53 i0 _ 2 16 Try.underlying32 hi hz0 hz1 hz2 rfl (by decide) _ 0 [] rfl (World.ownsRow_nil w w.heap.size 53 2) ⟨g, 0, none⟩ N c2 (qsC qs) rfl HL.out HO.out (qsC_cells qs) ?c3 ?c4 ?c5 ?_
       case c3 => simp only [maxLen]; omega
       case c4 => omega
       case c5 => exact Nat.le_refl _
       intro v' w2 hown' hg' _))
  go_ret
  rw [HN.out, Nat.zero_add, List.nil_append] at hown'
  have hg2 : w.grownBy w2 none := hg'
  exact ⟨_, rfl, hown', Chg.of_grown hg2 fun g hr _ => by cases hr⟩
end
end Go.Proofs.Ytfhgnoajfipjdaa
