/-
  Layer 4: changes that are left out, that are there twice.
-/
import Derived.Test.YteodadngnlekfaaDeltaKnown
import Derived.Deep.DeepCutAuto
namespace Go.Proofs.Yteodadngnlekfaa
open Go.RowKit
theorem MadeCh.page {w : World} {B0 : Nat} {a : ChV} (h : MadeCh w B0 a) : Page a := ⟨h.small, h.bl⟩
theorem MadeCh.new {w w' : World} {B0 : Nat} {a : ChV} (h : MadeCh w B0 a) (hc : Chg [] w w') : MadeCh w' B0 a := h.chg hc (by simp)
theorem rightS_cons {last P : Int} {a : ChV} {l : List ChV} : rightS last P (a :: l) = true ↔ last < a.page ∧ a.page < P ∧ a.bn = 64 ∧ rightS a.page P l = true := by
  constructor
  · intro h
    simp only [rightS, Bool.and_eq_true, Bool.not_eq_true', Bool.or_eq_false_iff, decide_eq_false_iff_not] at h
    obtain ⟨⟨⟨h1, h2⟩, h3⟩, h4⟩ := h
    exact ⟨by omega, by omega, by omega, h4⟩
  · rintro ⟨h1, h2, h3, h4⟩
    simp only [rightS, Bool.and_eq_true, Bool.not_eq_true', Bool.or_eq_false_iff, decide_eq_false_iff_not]
    exact ⟨⟨⟨by omega, by omega⟩, by omega⟩, h4⟩
theorem rightS_mono : ∀ {l : List ChV} {last last' P : Int}, last' ≤ last → rightS last P l = true → rightS last' P l = true
  | [], _, _, _, _, _ => rfl
  | a :: l, last, last', P, h, hr => by
    rw [rightS_cons] at hr ⊢
    exact ⟨by omega, hr.2⟩
theorem rightS_less : ∀ {l1 : List ChV} {a : ChV} {l2 : List ChV} {last P : Int}, rightS last P (l1 ++ a :: l2) = true → rightS last P (l1 ++ l2) = true
  | [], a, l2, last, P, h => by
    rw [List.nil_append, rightS_cons] at h
    exact rightS_mono (by omega) h.2.2.2
  | b :: l1, a, l2, last, P, h => by
    rw [List.cons_append, rightS_cons] at h ⊢
    exact ⟨h.1, h.2.1, h.2.2.1, rightS_less h.2.2.2⟩
theorem rightS_more : ∀ {l1 : List ChV} {a : ChV} {l2 : List ChV} {last P : Int}, rightS last P (l1 ++ a :: a :: l2) = false
  | [], a, l2, last, P => by
    cases h : rightS last P ([] ++ a :: a :: l2) with
    | false => rfl
    | true =>
      rw [List.nil_append, rightS_cons, rightS_cons] at h
      omega
  | b :: l1, a, l2, last, P => by
    cases h : rightS last P (b :: l1 ++ a :: a :: l2) with
    | false => rfl
    | true =>
      rw [List.cons_append, rightS_cons] at h
      have := @rightS_more l1 a l2 b.page P
      rw [this] at h
      simp at h
theorem rightS_last : ∀ {l : List ChV} {a : ChV} {last : Int}, rightS last a.page (l ++ [a]) = false
  | [], a, last => by
    cases h : rightS last a.page ([] ++ [a]) with
    | false => rfl
    | true => rw [List.nil_append, rightS_cons] at h; omega
  | b :: l, a, last => by
    cases h : rightS last a.page (b :: l ++ [a]) with
    | false => rfl
    | true =>
      rw [List.cons_append, rightS_cons] at h
      have := @rightS_last l a b.page
      rw [this] at h
      simp at h
theorem rightB_true {P : Int} {l : List ChV} : rightB P l = true ↔ P ≤ 64 ∧ rightS (-1) P l = true := by
  unfold rightB
  rw [Bool.and_eq_true, decide_eq_true_iff]
theorem rightB_of {P : Int} {l : List ChV} (h : rightS (-1) P l = false) : rightB P l = false := by unfold rightB; rw [h, Bool.and_false]
theorem num2_app {l m : List UInt8} (h : 2 ≤ l.length) : num2 (l ++ m) = num2 l := by
  match l, h with
  | x :: y :: t, _ => rfl
theorem chCs_take (l : List ChV) (k : Nat) (h : k ≤ l.length) : (chCs l).take (k * 2) = chCs (l.take k) := by
  induction l generalizing k with
  | nil => simp [chCs]
  | cons a l ih =>
    cases k with
    | zero => simp [chCs]
    | succ k => rw [chCs, show (k + 1) * 2 = (chC a).length + k * 2 by simp [chC]; omega, List.take_append, List.take_of_length_le (by omega), List.take_succ_cons, chCs]; congr 1; rw [show (chC a).length + k * 2 - (chC a).length = k * 2 by omega]; exact ih k (by simpa using h)
theorem chCs_drop (l : List ChV) (k : Nat) (h : k ≤ l.length) : (chCs l).drop (k * 2) = chCs (l.drop k) := by
  induction l generalizing k with
  | nil => simp [chCs]
  | cons a l ih =>
    cases k with
    | zero => simp [chCs]
    | succ k => rw [chCs, show (k + 1) * 2 = (chC a).length + k * 2 by simp [chC]; omega, ← List.drop_drop, List.drop_left, List.drop_succ_cons]; exact ih k (by simpa using h)
/-- append as a step of a region that draws, for elements of any size. -/
theorem step_append_n {P : Program} {w : World} {ops : Array Oper} {o : Oper} {a : Act} {K : Act → World → Prop} {Q : Exit → Act → World → Prop} {E : Prop} (hgd : o.guard = none) (s x : Operand) (t : TypeId)
    (ho : o.op = .call { callee := .builtin .append, args := #[s, x], argTypes := #[t, t] })
    (base : Nat) (e : TypeId) (i : TypeInfo) (z : Value) (size bytes : Nat) (ht : P.underlying t = some (.slice e)) (hi : P.info? e = some i) (hz : i.zero = some z)
    (hsize : i.size = size) (hby : i.bytes = bytes) (hzs : z.cells.size = size) (hsz : 0 < size)
    (v : Value) (n : Nat) (xs : List Value) (hse : a.eval s = v) (hown : w.ownsRow base e size v n xs)
    (ad : Addr) (m c : Nat) (news : List Value) (hxe : a.eval x = .slice (some ad) m c) (hl : news.length = m * size) (hnews : ∀ j u, news[j]? = some u → w.cell? (ad.add j) = some u) (h1 : ∀ u ∈ news, u.oneCell' = true)
    (h63 : n + m ≤ maxLen) (hbytes : (n + m) * bytes ≤ 140737488355328) (hbase : base ≤ w.heap.size)
    (h : ∀ v' w', w'.ownsRow base e size v' (n + m) (xs ++ news) → w.grownBy w' v.ownBlock → K (a.put o.dst v') w') :
    if Region.wanted o (yielded ops a.tmps) = true then Oper.wp P o a w K Q else E := by
  have hw : Region.wanted o (yielded ops a.tmps) = true := by simp [Region.wanted, hgd]
  rw [if_pos hw]
  obtain ⟨v', w', hrun, h2, h3, _, _⟩ := run_append_own_at (P := P) w base t o.type e i z size bytes ht hi hz hsize hby hzs hsz v n xs hown ad m c news hl hnews h1 h63 hbytes hbase
  unfold Oper.wp execOp
  simp only [ho, resolve, invoke, builtin, Sem.run_bind, Sem.run_pure, Result.andThen_ok, List.map_toArray, List.map_cons, List.map_nil, hse, hxe, hrun]
  exact h v' w' h2 h3
theorem chC_one (l : List ChV) : ∀ v ∈ chCs l, v.oneCell' = true := by
  induction l with
  | nil => intro v hv; simp [chCs] at hv
  | cons a l ih =>
    intro v hv
    rw [chCs, List.mem_append] at hv
    rcases hv with hv | hv
    · simp only [chC, List.mem_cons, List.not_mem_nil, or_false] at hv
      rcases hv with rfl | rfl <;> rfl
    · exact ih v hv
theorem Low.of_rown2 {w w' : World} {B n k : Nat} {e : TypeId} {v : Value} {xs : List Value} (ho : w.ownsRow B e k v n xs) (hg : w.grownBy w' v.ownBlock) : Low B w w' :=
  ⟨hg.os, hg.tape, hg.output, hg.size, fun i hi hB => hg.block i hB fun hc => by
    rcases ho.2 with ⟨rfl, _⟩ | ⟨g, cap, cur, rfl, hb, _⟩
    · simp [Value.ownBlock] at hc
    · simp [Value.ownBlock] at hc; omega⟩
theorem own_base {w : World} {B B' n k : Nat} {e : TypeId} {v : Value} {xs : List Value} (h : w.ownsRow B e k v n xs) (hB : B' ≤ B) : w.ownsRow B' e k v n xs := by
  refine ⟨h.1, h.2.imp id ?_⟩
  rintro ⟨g, cap, cur, rfl, hb, r⟩
  exact ⟨g, cap, cur, rfl, Nat.le_trans hB hb, r⟩
theorem whole_step {w : World} {g g' t : Nat} {cs : List Value} (h : Whole w g t cs) (e : g = g') : Whole w g' t cs := e ▸ h
theorem cells_stay {w w' : World} {X : Nat} {t : Nat} {xs : List Value} {row : Option Nat} (h : Whole w X t xs) (hg : w.grownBy w' row) (hne : row ≠ some X) : ∀ (j : Nat) (u : Value), xs[j]? = some u → w'.cell? ((⟨X, 0, none⟩ : Addr).add j) = some u := fun j u hj => by
  have h2 : Whole w' X t xs := (hg.block X h.lt (fun e => hne e.symm)).trans h
  rw [add_plain, Nat.zero_add, h2.cell]; exact hj
theorem own_empty2 (w : World) (e : TypeId) : (w.alloc (.cells #[] e)).ownsRow w.heap.size e 2 (.slice (some ⟨w.heap.size, 0, none⟩) 0 0) 0 [] :=
  ⟨rfl, .inr ⟨w.heap.size, 0, #[], rfl, Nat.le_refl _, heap_alloc_new w _, Nat.le_refl _, by unfold maxLen; omega, rfl, rfl⟩⟩
/-- What the second drawn region leaves: the row with one change twice. -/
def MoreSo (ls : List ChV) (k N : Nat) (a : ChV) (w4 : World) (s : Value) (wx : World) : Prop :=
  ∃ A7 c7 more, s = .slice A7 (k + 1 + (N - k)) c7 ∧ more = ls.take k ++ a :: ls.drop k ∧ more.length = k + 1 + (N - k) ∧ Chs wx A7 more ∧ Chg [] w4 wx
section
variable {w : World} {A : Option Addr} {n c : Nat}
set_option maxHeartbeats 16000000 in
set_option maxRecDepth 100000 in
theorem deltaParts_any {l : List Int} (hl : l.length = n) (hs : Src w A (nms l)) (hsp : 0 < n → ∀ ad, A = some ad → ad.spot = none ∧ ad.block < w.heap.size) (hr : ∀ x ∈ l, -9223372036854775808 ≤ x ∧ x ≤ 9223372036854775807) (hn : n ≤ 9223372036854775807) (q : Int) (hq0 : -9223372036854775808 ≤ q) (hq1 : q ≤ 9223372036854775807) (u : Int) :
    Calls Try.prog 5 #[.slice A n c, .int .i64 q, .int .i64 u] w (LawPost w) := by
  obtain ⟨P, hP, hP1, hP20⟩ : ∃ P : Nat, withinI q 1 16 = (P : Int) ∧ 1 ≤ P ∧ P ≤ 16 := by
    have hin := into_within q 1 16 (by omega)
    exact ⟨(withinI q 1 16).toNat, by have := hin.1; omega, by have := hin.1; omega, by have := hin.1; have := hin.2.1; omega⟩
  have HP := Lib.hid hP
  have HS := Lib.hid hs
  have HL := Lib.hid hl
  have HSP := Lib.hid hsp
  have HR := Lib.hid hr
  clear hP hs hl hsp hr
  go_enter Try.func5, Try.ntmps5
  go_wp2_with fail
  with_reducible refine (within_is q 1 16 (by omega) (by omega) (by omega) hq0 hq1).mono ?_
  rintro e w' ⟨rfl, rfl⟩
  rw [HP.out]
  go_wp2_with fail
  have hT0 : Tp (w.alloc (.cells #[.slice A n c, .int .i64 0] 34)) w.heap.size A n c l 0 :=
    ⟨Whole.new w 34 [.slice A n c, .int .i64 0], HL.out, HS.out.keep ((Chg.refl _ _).alloc _), HSP.out, HR.out, Nat.zero_le _, hn⟩
  refine (changes_any hT0 P (by omega)).mono ?_
  rintro e w1 ⟨v1, rfl, ls, a', hown, hmade, _, hlen, hrise, _, hc1⟩
  have hcw : Chg [] w w1 := ((Chg.refl [] w).alloc _).then_ hc1 (fun i hi hlt => by simp only [List.mem_cons, List.not_mem_nil, or_false] at hi; omega)
  have hRB : rightB P ls = true := by unfold rightB; rw [decide_eq_true (by omega), hrise P (by omega)]; rfl
  have hsz : w.heap.size + 1 ≤ w1.heap.size := by have := hc1.size; simpa using this
  obtain ⟨A1, c1, rfl, _, hch, _, hnc, hA1⟩ := chs_own hown hmade
  have HPG := Lib.hid (show ∀ a ∈ ls, Page a from fun a ha => (hmade a ha).page)
  have HMD := Lib.hid hmade
  have HCH := Lib.hid hch
  have HC1 := Lib.hid hcw
  have HRB := Lib.hid hRB
  obtain ⟨N, hN⟩ : ∃ N, N = ls.length := ⟨_, rfl⟩
  have HN := Lib.hid hN.symm
  rw [← hN] at hlen hown hnc ⊢
  have HO := Lib.hid hown
  clear hT0 hown hmade hrise hc1 hch hcw hRB hN
  go_wp2_with fail
  refine (right_any HCH.out HN.out (by omega) P).mono ?_
  rintro e w2 ⟨rfl, hc2⟩
  rw [HRB.out]
  have HCH2 := Lib.hid (HCH.out.keep hc2)
  have HC2 := Lib.hid (HC1.out.new hc2)
  have HO2 := Lib.hid (rown_chg HO.out hc2 (by simp))
  have HMD2 := Lib.hid (show ∀ a ∈ ls, MadeCh w2 (w.alloc (.cells #[.slice A n c, .int .i64 0] 34)).heap.size a from fun a ha => (HMD.out a ha).new hc2)
  have hsz2 : w.heap.size + 1 ≤ w2.heap.size := by have := hc2.size; omega
  clear hc2
  rcases Nat.eq_zero_or_pos N with hN0 | hN0
  · have h0 : ((N : Int) == 0) = true := by simp; omega
    go_wp2_with fail
    refine dknown_any.mono ?_
    rintro e w6 ⟨rfl, hc6⟩
    go_wp2_with fail
    go_ret
    exact ⟨rfl, HC2.out.new hc6⟩
  · have h0 : ((N : Int) == 0) = false := by simp; omega
    have b1 := Int.tmod_lt_of_pos u (show 0 < (N : Int) by omega)
    have b2 := Int.lt_tmod_of_pos u (show 0 < (N : Int) by omega)
    have hne : ((N : Int) == 0) = false := h0
    obtain ⟨k, hk, hkN⟩ : ∃ k : Nat, (u.tmod (N : Int) + (N : Int)) % (N : Int) = (k : Int) ∧ k < N := by
      have e1 := Int.emod_nonneg (u.tmod (N : Int) + (N : Int)) (show (N : Int) ≠ 0 by omega)
      have e2 := Int.emod_lt_of_pos (u.tmod (N : Int) + (N : Int)) (show 0 < (N : Int) by omega)
      exact ⟨((u.tmod (N : Int) + (N : Int)) % (N : Int)).toNat, by omega, by omega⟩
    have HK := Lib.hid hk
    clear hk
    go_wp2_with fail
    rw [HK.out]
    clear b1 b2
    obtain ⟨g, hA⟩ : ∃ g, A1 = some ⟨g, 0, none⟩ := by
      rcases HO2.out.2 with ⟨_, h⟩ | ⟨g, cap, cur, h, _⟩
      · omega
      · injection h with h _; exact ⟨g, h⟩
    subst hA
    have hcells := HO2.out.cells (g := g) rfl
    have HCE := Lib.hid hcells
    obtain ⟨i0, hi, hz0, hz1, hz2⟩ := info_parts info_change
    have hl1 := Lib.hid (show ((chCs ls).take (k * 2)).length = k * 2 by rw [List.length_take, chCs_len, HN.out]; omega)
    have hl2 := Lib.hid (show ((chCs ls).drop ((k + 1) * 2)).length = (N - (k + 1)) * 2 by rw [List.length_drop, chCs_len, HN.out]; omega)
    have ho1 := Lib.hid (show ∀ v ∈ (chCs ls).take (k * 2), v.oneCell' = true from fun v hv => chC_one ls v (List.mem_of_mem_take hv))
    have ho2 := Lib.hid (show ∀ v ∈ (chCs ls).drop ((k + 1) * 2), v.oneCell' = true from fun v hv => chC_one ls v (List.mem_of_mem_drop hv))
    have hkc : ¬ c1 < k := by omega
    have hkcI : (k : Int) ≤ (c1 : Int) := by omega
    have hkcJ : ¬ (c1 : Int) < (k : Int) := by omega
    have hkn : (k : Int).toNat = k := Int.toNat_natCast k
    have hk0 : (0 : Int) ≤ (k : Int) := by omega
    have hk1 : ¬ (k : Int) < 0 := by omega
    have hkmax : IntKind.i64.wrap (k : Int) = (k : Int) := IntWalk.i64_in _ (by omega)
    have hk2 : ¬ N < k + 1 := by omega
    have hkI : (k : Int) ≤ (N : Int) := by omega
    have hkJ : (k : Int) + 1 ≤ (N : Int) := by omega
    have htn : ((k : Int) + 1).toNat = k + 1 := by omega
    have hwr : IntKind.i64.wrap ((k : Int) + 1) = (k : Int) + 1 := IntWalk.i64_in _ (by omega)
    have hkp : (0 : Int) ≤ (k : Int) + 1 := by omega
    clear hcells hA1
    obtain ⟨xo, hxo, hxoff⟩ : ∃ xo : Nat, (if c1 = k + 1 then some (⟨g, 0, none⟩ : Addr) else some ⟨g, (k + 1) * 2, none⟩) = some ⟨g, xo, none⟩ ∧ (¬ c1 = k + 1 → xo = (k + 1) * 2) := by
      by_cases h : c1 = k + 1
      · exact ⟨0, by rw [if_pos h], fun hn => absurd h hn⟩
      · exact ⟨(k + 1) * 2, by rw [if_neg h], fun _ => rfl⟩
    have hdr : ∀ j : Nat, ∀ u : Value, ((chCs ls).drop ((k + 1) * 2))[j]? = some u → xo = (k + 1) * 2 := fun j u hj => by
      apply hxoff
      intro hcc
      have h1 := (List.getElem?_eq_some_iff.1 hj).1
      have h2 := hl2.out
      omega
    have HDR := Lib.hid hdr
    clear hdr hxoff
    have step1 : ∀ W : World, Chg [] w2 W → ∀ (j : Nat) (u : Value), ((chCs ls).take (k * 2))[j]? = some u → W.cell? ((⟨g, 0, none⟩ : Addr).add j) = some u := fun W hW j u hj => by
      have h1 : (chCs ls)[j]? = some u := by
        rw [List.getElem?_take] at hj
        split at hj
        · exact hj
        · cases hj
      have h2 := HCE.out j u h1
      rw [add_plain] at h2 ⊢
      rw [← h2]
      exact World.cell?_of_block (w := w2) (hW.block g (block_lt_of_cell h2) (by simp))
    have step2 : ∀ W : World, Chg [] w2 W → ∀ (j : Nat) (u : Value), ((chCs ls).drop ((k + 1) * 2))[j]? = some u → W.cell? ((⟨g, xo, none⟩ : Addr).add j) = some u := fun W hW j u hj => by
      rw [HDR.out j u hj]
      rw [List.getElem?_drop] at hj
      have h2 := HCE.out _ u hj
      rw [add_plain] at h2 ⊢
      rw [Nat.zero_add] at h2
      rw [← h2]
      exact World.cell?_of_block (w := w2) (hW.block g (block_lt_of_cell h2) (by simp))
    have S1 := Lib.hid step1
    have S2 := Lib.hid step2
    clear step1 step2
    go_region_law (first
      | (refine step_append_n rfl (.tmp 39) (.tmp 42) 26 rfl w2.drew.heap.size 25 i0 _ 2 32 Try.underlying26 hi hz0 hz1 hz2 rfl (by decide) (.slice (some ⟨w2.drew.heap.size, 0, none⟩) 0 0) 0 [] rfl (own_empty2 w2.drew 25) ⟨g, 0, none⟩ k c1 ((chCs ls).take (k * 2)) rfl hl1.out (S1.out _ ((Chg.refl [] w2).drew.alloc _)) ho1.out (by unfold maxLen; omega) (by omega) (by simp) ?_
         intro v3 w3 hv3 hg3
         have hc3 : Chg [] w2 w3 := chg_grown2 ((Chg.refl [] w2).drew.alloc _) hg3 (fun g hgg => by simp [Value.ownBlock] at hgg; omega))
      | (refine step_append_n rfl (.tmp 43) (.tmp 47) 26 rfl w2.drew.heap.size 25 i0 _ 2 32 Try.underlying26 hi hz0 hz1 hz2 rfl (by decide) v3 (0 + k) ([] ++ (chCs ls).take (k * 2)) rfl hv3 ⟨g, xo, none⟩ (N - (k + 1)) (c1 - (k + 1)) ((chCs ls).drop ((k + 1) * 2)) rfl hl2.out (S2.out _ hc3) ho2.out (by unfold maxLen; omega) (by omega) hc3.size ?_
         intro v4 w4 hv4 hg4))
    have hc4 : Chg [] w2 w4 := ((Low.of_chg (B := w2.heap.size) hc3).trans (Low.of_rown2 hv3 hg4)).chg (Nat.le_refl _)
    have hv4' : w4.ownsRow w2.drew.heap.size 25 2 v4 (k + (N - (k + 1))) (chCs (ls.take k ++ ls.drop (k + 1))) := by
      rw [chCs_app, ← chCs_take ls k (by rw [HN.out]; omega), ← chCs_drop ls (k + 1) (by rw [HN.out]; omega)]
      simpa using hv4
    have HLS := Lib.hid (show ls = ls.take k ++ ls[k]'(by rw [HN.out]; exact hkN) :: ls.drop (k + 1) by
      rw [← List.drop_eq_getElem_cons, List.take_append_drop])
    obtain ⟨less, hless⟩ : ∃ less, less = ls.take k ++ ls.drop (k + 1) := ⟨_, rfl⟩
    rw [← hless] at hv4'
    have HLE := Lib.hid hless
    have HM4 := Lib.hid (show ∀ a ∈ ls, MadeCh w4 (w.alloc (.cells #[.slice A n c, .int .i64 0] 34)).heap.size a from fun a ha => (HMD2.out a ha).new hc4)
    have hmem : ∀ a ∈ less, a ∈ ls := fun a ha => by
      rw [hless, List.mem_append] at ha
      rcases ha with h | h
      · exact List.mem_of_mem_take h
      · exact List.mem_of_mem_drop h
    obtain ⟨A4, c4, rfl, hll4, hch4, _, _, _⟩ := chs_own hv4' (fun a ha => HM4.out a (hmem a ha))
    have HL4 := Lib.hid hll4
    have HCH4 := Lib.hid hch4
    have HC4 := Lib.hid (HC2.out.new hc4)
    have HCW := Lib.hid hc4
    clear hless hmem hll4 hch4 hv4 hv4' hg4 hv3 hg3 hc3 hc4
    go_upto_region 9 with fail
    simp only [List.getElem_toArray, List.getElem_cons_succ, List.getElem_cons_zero, Act.put, List.setIfInBounds_toArray, List.set_cons_zero, List.set_cons_succ]
    obtain ⟨page, bA, bn, bc, Bb, ha⟩ : ∃ page bA bn bc Bb, ls[k]? = some ⟨page, bA, bn, bc, Bb⟩ := ⟨_, _, _, _, _, List.getElem?_eq_getElem (by rw [HN.out]; exact hkN)⟩
    have hq0 := HCE.out _ _ ((chCs_get ls k _ 0 ha (by omega)).trans rfl)
    have hq1 := HCE.out _ _ ((chCs_get ls k _ 1 ha (by omega)).trans rfl)
    rw [add_plain, Nat.zero_add] at hq0 hq1
    have hkeep : ∀ jj, w4.cell? ⟨g, jj, none⟩ = w2.cell? ⟨g, jj, none⟩ := fun jj => World.cell?_of_block (w := w2) (HCW.out.block g (block_lt_of_cell hq0) (by simp))
    have c0 := (hkeep _).trans hq0
    have c1' := (hkeep _).trans hq1
    rw [Nat.add_zero] at c0
    have HA := Lib.hid ha
    clear hq0 hq1 hkeep ha
    have hl3 := Lib.hid (show ((chCs ls).drop (k * 2)).length = (N - k) * 2 by rw [List.length_drop, chCs_len, HN.out]; omega)
    have ho3 := Lib.hid (show ∀ v ∈ (chCs ls).drop (k * 2), v.oneCell' = true from fun v hv => chC_one ls v (List.mem_of_mem_drop hv))
    have S3 := Lib.hid (show ∀ W : World, Chg [] w2 W → ∀ (j : Nat) (u : Value), ((chCs ls).drop (k * 2))[j]? = some u → W.cell? ((⟨g, k * 2, none⟩ : Addr).add j) = some u from fun W hW j u hj => by
      rw [List.getElem?_drop] at hj
      have h2 := HCE.out _ u hj
      rw [add_plain] at h2 ⊢
      rw [Nat.zero_add] at h2
      rw [← h2]
      exact World.cell?_of_block (w := w2) (hW.block g (block_lt_of_cell h2) (by simp)))
    have hkne : ¬ c1 = k := by omega
    have hgl : g < w4.heap.size := block_lt_of_cell c0
    have hgne : ¬ g = w4.heap.size := by omega
    have hgne2 : ¬ w4.heap.size = g := by omega
    have z0 : (w4.alloc (.cells #[] 25)).drew.cell? ⟨g, k * 2, none⟩ = some (.int .i64 page) := (World.cell?_of_block (w := w4) (((Chg.refl [] w4).alloc _).drew.block g hgl (by simp))).trans c0
    have z1 : (w4.alloc (.cells #[] 25)).drew.cell? ⟨g, k * 2 + 1, none⟩ = some (.slice bA bn bc) := (World.cell?_of_block (w := w4) (((Chg.refl [] w4).alloc _).drew.block g hgl (by simp))).trans c1'
    have hkl : (k : Int) < (N : Int) := by omega
    have hzz : w4.drew.heap.size = w4.heap.size := rfl
    have hrow3 : ((w4.drew.alloc (.cells #[.int .i64 page, .slice bA bn bc] 25)).alloc (.cells #[] 25)).ownsRow w4.drew.heap.size 25 2 (.slice (some ⟨w4.heap.size + 1, 0, none⟩) 0 0) 0 [] := by
      have h := own_base (B' := w4.drew.heap.size) (own_empty2 (w4.drew.alloc (.cells #[.int .i64 page, .slice bA bn bc] 25)) 25) (by simp)
      rwa [show (w4.drew.alloc (.cells #[.int .i64 page, .slice bA bn bc] 25)).heap.size = w4.heap.size + 1 by simp] at h
    go_cut [11] (fun s11 wx => MoreSo ls k N ⟨page, bA, bn, bc, Bb⟩ w4 s11 wx)
    case first =>
      go_region_law (first
        | (refine step_append_n rfl (.tmp 49) (.tmp 52) 26 rfl w4.drew.heap.size 25 i0 _ 2 32 Try.underlying26 hi hz0 hz1 hz2 rfl (by decide) (.slice (some ⟨w4.drew.heap.size, 0, none⟩) 0 0) 0 [] rfl (own_empty2 w4.drew 25) ⟨g, 0, none⟩ k c1 ((chCs ls).take (k * 2)) rfl hl1.out (S1.out _ (HCW.out.drew.alloc _)) ho1.out (by unfold maxLen; omega) (by omega) (by simp) ?_
           intro v5 w5 hv5 hg5
           have hc5 : Chg [] w4 w5 := chg_grown2 ((Chg.refl [] w4).drew.alloc _) hg5 (fun g hgg => by simp [Value.ownBlock] at hgg; omega)
           have d0 : w5.cell? ⟨g, k * 2, none⟩ = some (.int .i64 page) := (World.cell?_of_block (w := w4) (hc5.block g (block_lt_of_cell c0) (by simp))).trans c0
           have d1 : w5.cell? ⟨g, k * 2 + 1, none⟩ = some (.slice bA bn bc) := (World.cell?_of_block (w := w4) (hc5.block g (block_lt_of_cell c0) (by simp))).trans c1')
        | (refine step_append_n rfl (.tmp 49) (.tmp 52) 26 rfl w4.drew.heap.size 25 i0 _ 2 32 Try.underlying26 hi hz0 hz1 hz2 rfl (by decide) (.slice (some ⟨w4.drew.heap.size, 0, none⟩) 0 0) 0 [] rfl (rown_chg (own_empty2 w4.drew 25) ((Chg.refl [] _).alloc (.cells #[.int .i64 page, .slice bA bn bc] 25)) (by simp)) ⟨g, 0, none⟩ k c1 ((chCs ls).take (k * 2)) rfl hl1.out (S1.out _ ((HCW.out.drew.alloc _).alloc _)) ho1.out (by unfold maxLen; omega) (by omega) (by simp; omega) ?_
           intro v5 w5 hv5 hg5
           have hc5 : Chg [] w4 w5 := chg_grown2 (((Chg.refl [] w4).drew.alloc _).alloc _) hg5 (fun g hgg => by simp [Value.ownBlock] at hgg; omega)
           have hask := cells_stay (whole_step (Whole.new (w4.drew.alloc (.cells #[] 25)) 25 [.int .i64 page, .slice bA bn bc]) (show _ = w4.heap.size + 1 by simp)) hg5 (by simp [Value.ownBlock]))
        | (refine step_append_n rfl (.tmp 49) (.tmp 52) 26 rfl w4.drew.heap.size 25 i0 _ 2 32 Try.underlying26 hi hz0 hz1 hz2 rfl (by decide) (.slice (some ⟨w4.heap.size + 1, 0, none⟩) 0 0) 0 [] rfl hrow3 ⟨g, 0, none⟩ k c1 ((chCs ls).take (k * 2)) rfl hl1.out (S1.out _ ((HCW.out.drew.alloc _).alloc _)) ho1.out (by unfold maxLen; omega) (by omega) (by simp; omega) ?_
           intro v5 w5 hv5 hg5
           have hc5 : Chg [] w4 w5 := chg_grown2 (((Chg.refl [] w4).drew.alloc _).alloc _) hg5 (fun g hgg => by simp [Value.ownBlock] at hgg; omega)
           have hask := cells_stay ((Whole.new w4.drew 25 [.int .i64 page, .slice bA bn bc]).keep ((Chg.refl [] _).alloc (.cells #[] 25))) hg5 (by simp [Value.ownBlock]))
        | (refine step_append_n rfl (.tmp 53) (.tmp 58) 26 rfl w4.drew.heap.size 25 i0 _ 2 32 Try.underlying26 hi hz0 hz1 hz2 rfl (by decide) v5 (0 + k) ([] ++ (chCs ls).take (k * 2)) rfl (rown_chg hv5 ((Chg.refl [] w5).alloc (.cells #[.int .i64 page, .slice bA bn bc] 25)) (by simp)) ⟨w5.heap.size, 0, none⟩ 1 1 [.int .i64 page, .slice bA bn bc] rfl rfl (cells_page w5 [.int .i64 page, .slice bA bn bc] 25) (by simp [Value.oneCell']) (by unfold maxLen; omega) (by omega) (by have := hc5.size; simp; omega) ?_
           intro v6 w6 hv6 hg6
           have hc6 : Chg [] w4 w6 := chg_grown2 (hc5.alloc _) hg6 (fun g hgg => (hv5.lt g hgg).1))
        | (refine step_append_n rfl (.tmp 53) (.tmp 58) 26 rfl w4.drew.heap.size 25 i0 _ 2 32 Try.underlying26 hi hz0 hz1 hz2 rfl (by decide) v5 (0 + k) ([] ++ (chCs ls).take (k * 2)) rfl hv5 ⟨_, 0, none⟩ 1 1 [.int .i64 page, .slice bA bn bc] rfl rfl hask (by simp [Value.oneCell']) (by unfold maxLen; omega) (by omega) (by have := hc5.size; simp; omega) ?_
           intro v6 w6 hv6 hg6
           have hc6 : Chg [] w4 w6 := chg_grown2 hc5 hg6 (fun g hgg => (hv5.lt g hgg).1))
        | (refine step_append_n rfl (.tmp 59) (.tmp 62) 26 rfl w4.drew.heap.size 25 i0 _ 2 32 Try.underlying26 hi hz0 hz1 hz2 rfl (by decide) v6 (0 + k + 1) (([] ++ (chCs ls).take (k * 2)) ++ [.int .i64 page, .slice bA bn bc]) rfl hv6 ⟨g, k * 2, none⟩ (N - k) (c1 - k) ((chCs ls).drop (k * 2)) rfl hl3.out (S3.out _ (HCW.out.new hc6)) ho3.out (by unfold maxLen; omega) (by omega) hc6.size ?_
           intro v7 w7 hv7 hg7))
      all_goals
        have hc7 : Chg [] w4 w7 := chg_grown2 hc6 hg7 (fun g hgg => (hv6.lt g hgg).1)
        have HM7 := Lib.hid (show ∀ a ∈ ls, MadeCh w7 (w.alloc (.cells #[.slice A n c, .int .i64 0] 34)).heap.size a from fun a ha => (HM4.out a ha).new hc7)
        obtain ⟨more, hmore⟩ : ∃ more, more = ls.take k ++ ⟨page, bA, bn, bc, Bb⟩ :: ls.drop k := ⟨_, rfl⟩
        have hv7' : w7.ownsRow w4.drew.heap.size 25 2 v7 (k + 1 + (N - k)) (chCs more) := by
          rw [hmore, chCs_app, chCs, ← chCs_take ls k (by rw [HN.out]; omega), ← chCs_drop ls k (by rw [HN.out]; omega)]
          simpa [chC] using hv7
        have hmm : ∀ a ∈ more, a ∈ ls := fun a ha => by
          rw [hmore, List.mem_append, List.mem_cons] at ha
          rcases ha with h | rfl | h
          · exact List.mem_of_mem_take h
          · exact List.mem_of_getElem? HA.out
          · exact List.mem_of_mem_drop h
        obtain ⟨A7, c7, rfl, hll7, hch7, _, _, _⟩ := chs_own hv7' (fun a ha => HM7.out a (hmm a ha))
        have HMS := Lib.hid (show MoreSo ls k N ⟨page, bA, bn, bc, Bb⟩ w4 (.slice A7 (k + 1 + (N - k)) c7) w7 from ⟨A7, c7, more, rfl, hmore, hll7, hch7, hc7⟩)
        clear hmore hv7' hmm hll7 hch7 hv7 hg7 hv6 hg6 hv5 hg5 hc5 hc6 hc7 hrow3 z0 z1 c0 c1'
        go_wp2_with fail
        go_meet
        exact HMS.out
    case rest =>
      obtain ⟨A7, c7, more, rfl, hmore, hll7, hch7, hc7⟩ := hcut
      obtain ⟨w7, rfl⟩ : ∃ w7 : World, w7 = wc := ⟨_, rfl⟩
      have HC7 := Lib.hid (HC4.out.new hc7)
      have HCW7 := Lib.hid (HCW.out.new hc7)
      have HCH7 := Lib.hid ((HCH2.out.keep HCW.out).keep hc7)
      have HL7 := Lib.hid (HCH4.out.keep hc7)
      have HMO := Lib.hid hmore
      have HLL7 := Lib.hid hll7
      have HCHM := Lib.hid hch7
      clear hmore hll7 hch7 hc7 hrow3 z0 z1 c0 c1'
      go_wp2_with fail
      refine (dbytes_any HCH7.out (fun a ha => (HPG.out a ha).1) HN.out (by omega)).mono ?_
      rintro e w8 ⟨v8, rfl, ho8, hc8⟩
      have hbl8 : (bytesD ls).length = 2 + N * 66 := by rw [back_len HPG.out, HN.out]
      rw [hbl8] at ho8
      obtain ⟨A8, c8, rfl, _, _, _, _⟩ := own_slice ho8
      have HBL := Lib.hid hbl8
      obtain ⟨iu, hiu, hzu, hsu, hbu⟩ := info_parts info_byte
      have hw78 := hc8.size
      clear hbl8
      go_wp2_with (first
        | (at_builtin
           refine wpList_append_own _ rfl (.tmp 66) (.tmp 67) _ rfl w7.heap.size 5 iu (.int .u8 0) 1 1 Try.underlying22 hiu hzu hsu hbu rfl (by decide) _ (2 + N * 66) (bts (bytesD ls)) rfl (own_keep ho8 ((Chg.refl _ _).alloc _)) ⟨w8.heap.size, 0, none⟩ 1 1 [.int .u8 0] rfl rfl ?c1 ?c2 ?c3 ?c4 ?c5 ?_
           case c1 => exact cell_one_new _ _ _
           case c2 => simp [Value.oneCell']
           case c3 => simp only [maxLen]; omega
           case c4 => omega
           case c5 => simp; omega
           intro v9 w9 hown9 hg9 _))
      have hc9 : Chg [] w7 w9 := chg_grown2 (hc8.alloc _) hg9 (fun g hgg => (ho8.lt g hgg).1)
      have hown9' : w9.ownsRow w7.heap.size 5 1 v9 (2 + N * 66 + 1) (bts (bytesD ls ++ [0])) := by
        have : bts (bytesD ls ++ [0]) = bts (bytesD ls) ++ [.int .u8 0] := by simp [bts, B8]
        rw [this]; exact hown9
      obtain ⟨A9, c9, rfl, hB9, _⟩ := Bs.of_own hown9'
      have HB9 := Lib.hid hB9
      have HC9 := Lib.hid (HC7.out.new hc9)
      have HCH9 := Lib.hid (HCH7.out.keep hc9)
      have HL9 := Lib.hid (HL7.out.keep hc9)
      have HCHM9 := Lib.hid (HCHM.out.keep hc9)
      have HCW9 := Lib.hid (HCW7.out.new hc9)
      clear hc9 hown9 hown9' hg9 ho8 hc8 hB9 hiu hzu hsu hbu
      refine (dread_any HB9.out P).mono ?_
      intro e w10 hp
      obtain ⟨he, hc10⟩ : e = .returned (.tuple #[.slice none 0 0, .bool false]) ∧ Chg [] w9 w10 := by
        rcases hp with ⟨h1, h2, _⟩ | ⟨_, h2, h3⟩
        · exfalso
          rw [List.length_append, HBL.out, num2_app (by rw [HBL.out]; omega), back_num (by rw [HN.out]; omega), HN.out] at h2
          simp at h2
          try omega
        · exact ⟨h2, h3⟩
      subst he
      have HC10 := Lib.hid (HC9.out.new hc10)
      have HCH10 := Lib.hid (HCH9.out.keep hc10)
      have HL10 := Lib.hid (HL9.out.keep hc10)
      have HCHM10 := Lib.hid (HCHM9.out.keep hc10)
      have HCW10 := Lib.hid (HCW9.out.new hc10)
      clear hp hc10
      have HRL := Lib.hid (show rightB P less = true by
        have h := rightB_true.1 HRB.out
        rw [HLS.out] at h
        rw [HLE.out]
        exact rightB_true.2 ⟨h.1, rightS_less h.2⟩)
      have hgk : ls[k]'(by rw [HN.out]; exact hkN) = ⟨page, bA, bn, bc, Bb⟩ := by
        have h := HA.out
        rw [List.getElem?_eq_getElem (by rw [HN.out]; exact hkN)] at h
        injection h
      have HRM := Lib.hid (show rightB P more = false by
        refine rightB_of ?_
        rw [HMO.out, List.drop_eq_getElem_cons (by rw [HN.out]; exact hkN), hgk]
        exact rightS_more)
      clear hgk
      obtain ⟨b, hb⟩ : ∃ b, ls[N - 1]? = some b := ⟨_, List.getElem?_eq_getElem (by rw [HN.out]; omega)⟩
      have hlast : ls = ls.take (N - 1) ++ [b] := by
        have h1 : N - 1 < ls.length := by rw [HN.out]; omega
        have h2 := List.getElem?_eq_getElem h1
        rw [hb] at h2
        injection h2 with h2
        rw [h2, ← List.take_succ_eq_append_getElem h1, show N - 1 + 1 = N by omega, List.take_of_length_le (by rw [HN.out]; exact Nat.le_refl _)]
      have HRX := Lib.hid (show rightB b.page ls = false by
        refine rightB_of ?_
        rw [hlast]
        exact rightS_last)
      have hq0 := HCE.out _ _ ((chCs_get ls (N - 1) _ 0 hb (by omega)).trans rfl)
      rw [add_plain, Nat.zero_add, Nat.add_zero] at hq0
      have HQ := Lib.hid hq0
      have HGW := Lib.hid (block_lt_of_cell hq0)
      have HLEN := Lib.hid (show sameC ls less = false from sameC_len (by rw [HL4.out, HN.out]; omega))
      clear hq0 hlast hb
      generalize b.page = pg at HRX HQ
      go_wp2_with fail
      refine (right_any HL10.out HL4.out (by omega) P).mono ?_
      rintro e w11 ⟨rfl, hc11⟩
      rw [HRL.out]
      have HC11 := Lib.hid (HC10.out.new hc11)
      have HCH11 := Lib.hid (HCH10.out.keep hc11)
      have HL11 := Lib.hid (HL10.out.keep hc11)
      have HCHM11 := Lib.hid (HCHM10.out.keep hc11)
      have HCW11 := Lib.hid (HCW10.out.new hc11)
      clear hc11
      go_wp2_with fail
      refine (right_any HCHM11.out HLL7.out (by omega) P).mono ?_
      rintro e w12 ⟨rfl, hc12⟩
      rw [HRM.out]
      have HC12 := Lib.hid (HC11.out.new hc12)
      have HCH12 := Lib.hid (HCH11.out.keep hc12)
      have HL12 := Lib.hid (HL11.out.keep hc12)
      have y0 : w12.cell? ⟨g, (N - 1) * 2, none⟩ = some (.int .i64 pg) := (World.cell?_of_block (w := w2) ((HCW11.out.new hc12).block g HGW.out (by simp))).trans HQ.out
      have hn1 : ((N : Int) - 1).toNat = N - 1 := by omega
      have hn2 : (0 : Int) ≤ (N : Int) - 1 := by omega
      have hn3 : (N : Int) - 1 < (N : Int) := by omega
      clear hc12
      go_wp2_with fail
      refine (right_any HCH12.out HN.out (by omega) pg).mono ?_
      rintro e w13 ⟨rfl, hc13⟩
      rw [HRX.out]
      have HC13 := Lib.hid (HC12.out.new hc13)
      have HCH13 := Lib.hid (HCH12.out.keep hc13)
      have HL13 := Lib.hid (HL12.out.keep hc13)
      clear hc13 y0
      go_wp2_with fail
      refine (dsame_any HCH13.out HN.out HL13.out HL4.out (by omega) (by omega)).mono ?_
      rintro e w14 ⟨rfl, hc14⟩
      rw [HLEN.out]
      have HC14 := Lib.hid (HC13.out.new hc14)
      clear hc14
      go_wp2_with fail
      refine dknown_any.mono ?_
      rintro e w15 ⟨rfl, hc15⟩
      go_wp2_with fail
      go_ret
      exact ⟨rfl, HC14.out.new hc15⟩
end
end Go.Proofs.Yteodadngnlekfaa
