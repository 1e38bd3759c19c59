/-
  N: Heal2.
-/
import Derived.Test.YtddjgncdjdjgeaaGreatZN1
import Derived.Test.YtddjgncdjdjgeaaGreatZN3
import Derived.Test.YtddjgncdjdjgeaaGreatZN5
import Derived.Test.YtddjgncdjdjgeaaGreatZN12
import Derived.Test.YtddjgncdjdjgeaaGreatZN14
import Derived.Test.YtddjgncdjdjgeaaGreatZN27
namespace Go.Proofs.YtddjgncdjdjgeaaGreat
open Go.RowKit
def keyD : Deed → Nat
  | none => 0
  | some x => x.1
/-- Deeds as cells hold them. -/
def ddL (l : List (Deed × Value)) : List Value := l.flatMap fun z => [.bool z.1.isNone, .int .i64 (keyD z.1 : Int), z.2]
def DdV (w : World) (B : Nat) : Deed → Value → Prop
  | none, u => u = .slice none 0 0
  | some x, u => w.ownsRow B 5 1 u x.2.length (bts x.2)
/-- A row of deeds of our own. -/
def DdRow (w : World) (B : Nat) (v : Value) (ds : List Deed) : Prop := ∃ zs : List (Deed × Value), zs.map Prod.fst = ds ∧ w.ownsRow B 119 3 v ds.length (ddL zs) ∧ ∀ z ∈ zs, DdV w B z.1 z.2
theorem ddL_app (a b : List (Deed × Value)) : ddL (a ++ b) = ddL a ++ ddL b := by simp [ddL]
theorem dd_get : ∀ (l : List (Deed × Value)) (k : Nat) (z : Deed × Value), l[k]? = some z → (ddL l)[k * 3]? = some (.bool z.1.isNone) ∧ (ddL l)[k * 3 + 1]? = some (.int .i64 (keyD z.1 : Int)) ∧ (ddL l)[k * 3 + 2]? = some z.2
  | [], k, z, h => by simp at h
  | b :: l, 0, z, h => by simp at h; subst h; exact ⟨rfl, rfl, rfl⟩
  | b :: l, k + 1, z, h => by
    simp at h
    have := dd_get l k z h
    have e : ddL (b :: l) = [.bool b.1.isNone, .int .i64 (keyD b.1 : Int), b.2] ++ ddL l := rfl
    rw [e, show (k + 1) * 3 = k * 3 + 3 by omega, show k * 3 + 3 + 1 = k * 3 + 1 + 3 by omega, show k * 3 + 3 + 2 = k * 3 + 2 + 3 by omega]
    exact this
theorem DdV.keep {w w' : World} {B : Nat} {d : Deed} {u : Value} (h : DdV w B d u) (hc : Chg [] w w') : DdV w' B d u := by
  cases d with
  | none => exact h
  | some x => exact own_keep h hc
theorem DdV.chg {T : List Nat} {w w' : World} {B : Nat} {d : Deed} {u : Value} (h : DdV w B d u) (hc : Chg T w w') (hT : ∀ i ∈ T, i < B ∨ w.heap.size ≤ i) : DdV w' B d u := by
  cases d with
  | none => exact h
  | some x => exact rown_chg h hc hT
theorem DdV.more {w : World} {B B' : Nat} {d : Deed} {u : Value} (h : DdV w B d u) (hB : B' ≤ B) : DdV w B' d u := by
  cases d with
  | none => exact h
  | some x => exact own_more h hB
theorem DdV.one {w : World} {B : Nat} {d : Deed} {u : Value} (h : DdV w B d u) : u.oneCell' = true := by
  cases d with
  | none => have h' : u = _ := h; subst h'; rfl
  | some x =>
    obtain ⟨A, c, e, _⟩ := own_slice h
    subst e; rfl
theorem DdRow.keep {w w' : World} {B : Nat} {v : Value} {ds : List Deed} (h : DdRow w B v ds) (hc : Chg [] w w') : DdRow w' B v ds := by
  obtain ⟨zs, h1, h2, h3⟩ := h
  exact ⟨zs, h1, rown_chg h2 hc (fun i hi => by cases hi), fun z hz => (h3 z hz).keep hc⟩
theorem DdRow.chg {T : List Nat} {w w' : World} {B : Nat} {v : Value} {ds : List Deed} (h : DdRow w B v ds) (hc : Chg T w w') (hT : ∀ i ∈ T, i < B ∨ w.heap.size ≤ i) : DdRow w' B v ds := by
  obtain ⟨zs, h1, h2, h3⟩ := h
  exact ⟨zs, h1, rown_chg h2 hc hT, fun z hz => (h3 z hz).chg hc hT⟩
/-- A deed more. -/
theorem DdRow.snoc {w w' : World} {B : Nat} {v v' : Value} {zs : List (Deed × Value)} {d : Deed} {u : Value} (h2 : w.ownsRow B 119 3 v zs.length (ddL zs)) (h3 : ∀ z ∈ zs, DdV w B z.1 z.2) (hu : DdV w B d u) (ho : w'.ownsRow B 119 3 v' (zs.length + 1) (ddL zs ++ [.bool d.isNone, .int .i64 (keyD d : Int), u])) (hg : w.grownBy w' v.ownBlock) : DdRow w' B v' (zs.map Prod.fst ++ [d]) := by
  have key : ∀ (d : Deed) (u : Value), DdV w B d u → DdV w' B d u := fun d u h => by
    cases d with
    | none => exact h
    | some x => exact rown_grown h h2 (by decide) hg
  refine ⟨zs ++ [(d, u)], by simp, ?_, fun z hz => ?_⟩
  · rw [List.length_append, List.length_map, List.length_singleton, ddL_app]
    exact ho
  · rcases List.mem_append.1 hz with hz | hz
    · exact key _ _ (h3 z hz)
    · simp only [List.mem_singleton] at hz
      subst hz
      exact key _ _ hu
theorem info_deed : (Tryz.prog.info? 119).map (fun i => (i.zero, i.size, i.bytes)) = some (some (.agg #[.bool false, .int .i64 0, .slice none 0 0]), 3, 40) := by kernel_rfl
theorem own3_lt {w : World} {B n k : Nat} {e : TypeId} {v : Value} {xs : List Value} (h : w.ownsRow B e k v n xs) : ∀ g, v.ownBlock = some g → B ≤ g ∧ g < w.heap.size := by
  intro g hg
  rcases h.2 with ⟨rfl, _⟩ | ⟨q, cap, cur, rfl, hb, hh, _⟩
  · simp [Value.ownBlock] at hg
  · simp [Value.ownBlock] at hg
    subst hg
    refine ⟨hb, ?_⟩
    rcases Nat.lt_or_ge q w.heap.size with hlt | hge
    · exact hlt
    · rw [Array.getElem?_eq_none hge] at hh; cases hh
/-- One element in a block of its own. -/
theorem own3_of_whole {w : World} {B g : Nat} {e : TypeId} {cs : List Value} (h : Whole w g e cs) (hB : B ≤ g) (hl : cs.length = 3) : w.ownsRow B e 3 (.slice (some ⟨g, 0, none⟩) 1 1) 1 cs := by
  refine ⟨by rw [hl], .inr ⟨g, 1, cs.toArray, rfl, hB, h, Nat.le_refl _, by unfold maxLen; omega, by simpa using hl, ?_⟩⟩
  simp [← hl]
theorem homeDs_le (x : SV) : ∀ k, (homeDs x k).length ≤ k
  | 0 => Nat.le_refl _
  | k + 1 => by
    have ih := homeDs_le x k
    rw [homeDs, List.length_append]
    split
    · simp; omega
    · simp; omega
def bdF (B : Nat) (q : Nat) (l : List UInt8) : Fact := fun v W => ∃ g A c, v = .slice (some ⟨g, 0, none⟩) 1 1 ∧ Whole W g 119 [.bool false, .int .i64 (q : Int), .slice A l.length c] ∧ W.ownsRow B 5 1 (.slice A l.length c) l.length (bts l)
theorem keeps_bd (B q : Nat) (l : List UInt8) : Keeps (Chg []) (bdF B q l) := fun _ _ _ ⟨g, A, c, e, h1, h2⟩ hc => ⟨g, A, c, e, h1.keep hc, own_keep h2 hc⟩
def agF (B : Nat) (q : Nat) (l : List UInt8) : Fact := fun v W => ∃ A c, v = .agg #[.bool false, .int .i64 (q : Int), .slice A l.length c] ∧ W.ownsRow B 5 1 (.slice A l.length c) l.length (bts l)
theorem keeps_ag (B q : Nat) (l : List UInt8) : Keeps (Chg []) (agF B q l) := fun _ _ _ ⟨A, c, e, h2⟩ hc => ⟨A, c, e, own_keep h2 hc⟩
def ddF (B : Nat) (ds : List Deed) : Fact := fun v W => DdRow W B v ds
theorem keeps_ddF (B : Nat) (ds : List Deed) : Keeps (Chg []) (ddF B ds) := fun _ _ _ h hc => h.keep hc
def DeedsPost (w : World) (ds : List Deed) (e : Ending) (w' : World) : Prop := ∃ v, e = .returned v ∧ DdRow w' w.heap.size v ds ∧ Chg [] w w'
/-- What Open does, as far as it opens. -/
noncomputable def opDs (s : St) : List Deed :=
  if 0 < (bestK s.V.length s.S 2).epoch ∧ (bestK s.V.length s.S 2).epoch < 4294967295 then ckDs (openV s (bestK s.V.length s.S 2)) else []
section
variable {w : World} {p bL bS bW : Nat} {s : St}
set_option maxHeartbeats 8000000 in
set_option maxRecDepth 100000 in
theorem deeds_any (h : DskS w p bL bS bW s) :
    Calls Tryz.prog 82 #[.pointer (some ⟨p, 0, none⟩)] w (DeedsPost w (opDs s)) := by
  obtain ⟨i0, hi, hz0, hz1, hz2⟩ := info_parts info_deed
  have H := Lib.hid h
  have HLS := Lib.hid (show s.S.length = 64 * s.V.length ∧ s.V.length ≤ 160 ∧ 0 < s.V.length from ⟨Dsk.lenS h, Dsk.le h, Dsk.pos h⟩)
  clear h
  go_enter Tryz.func82, Tryz.ntmps82
  go_wp2_with fail
  refine (seen_any H.out).mono ?_
  rintro e w1 ⟨rfl, hW1, hc1⟩
  have HW1 := Lib.hid (Src.of_all hW1)
  have HC1 := Lib.hid hc1
  have HOF := Lib.hid (of_yes (n := s.S.length) (c := s.S.length) (l := s.S) rfl (Src.of_all hW1) (by have := HLS.out; omega) (by have := HLS.out; omega) (by have := HLS.out; omega))
  obtain ⟨n, hn⟩ : ∃ n, n = s.S.length := ⟨_, rfl⟩
  have HNL := Lib.hid hn
  rw [← hn] at HOF ⊢
  clear hW1 hc1 hn
  go_wp2_with fail
  refine HOF.out.mono ?_
  rintro e w2 ⟨p2, bL2, bS2, bW2, rfl, hd2, hp2, hbL2, hbS2, hbW2, hc2⟩
  have HD2 := Lib.hid (show DskS w2 p2 bL2 bS2 bW2 ⟨s.S, s.S, falses s.V.length⟩ from by
    have e : n / 64 = s.V.length := by have h1 := HNL.out; have h2 := HLS.out; omega
    rw [e] at hd2
    exact hd2)
  have HB2 := Lib.hid (show w.heap.size ≤ bL2 ∧ w.heap.size ≤ bS2 ∧ w.heap.size ≤ bW2 from by have := HC1.out.size; omega)
  have HC2 := Lib.hid (HC1.out.new hc2)
  have HOP := Lib.hid (open_any HD2.out)
  clear hd2 hp2 hbL2 hbS2 hbW2 hc2 HOF HW1
  go_wp2_with fail
  refine HOP.out.mono ?_
  rintro e w3 hO
  have hbe : bestK (⟨s.S, s.S, falses s.V.length⟩ : St).V.length (⟨s.S, s.S, falses s.V.length⟩ : St).S 2 = bestK s.V.length s.S 2 := bestK_eq (s := s) rfl (falses_len _)
  have HBS := Lib.hid (bestK_right s.V.length s.S 2)
  rw [OpenPost, hbe] at hO
  obtain ⟨o, ho⟩ : ∃ o, o = bestK s.V.length s.S 2 := ⟨_, rfl⟩
  have HO := Lib.hid ho
  rw [← ho] at hO HBS
  clear HOP hbe ho
  by_cases hok : 0 < o.epoch ∧ o.epoch < 4294967295
  rotate_left
  · have hno : opDs s = [] := by unfold opDs; rw [← HO.out, if_neg hok]
    obtain ⟨en, rfl, hen, hc3⟩ : ∃ en : Int, e = .returned (.tuple #[.pointer none, .int .i64 en]) ∧ (en = 22 ∨ en = 24) ∧ Chg [] w2 w3 := by
      rcases hO with ⟨_, h1, h2⟩ | ⟨_, h1, h2⟩ | ⟨h0, h1, _⟩
      · exact ⟨22, h1, .inl rfl, h2⟩
      · exact ⟨24, h1, .inr rfl, h2⟩
      · exact absurd ⟨h0, h1⟩ hok
    have HC3 := Lib.hid (HC2.out.new hc3)
    have hq : ((en : Int) != 0) = true := by rcases hen with rfl | rfl <;> rfl
    have HP := Lib.hid (show DeedsPost w (opDs s) (.returned (.slice none 0 0)) w3 from ⟨_, rfl, by rw [hno]; exact ⟨[], rfl, World.ownsRow_nil _ _ _ _, fun z hz => by cases hz⟩, HC3.out⟩)
    clear hO hok hno hc3 hen
    go_wp2_with fail
    go_ret
    exact HP.out
  obtain ⟨g3, gN3, v3, rfl, hg3, hgN3, hs3, hc3⟩ : ∃ g gN v, e = .returned (.tuple #[.pointer (some ⟨g, 0, none⟩), .int .i64 0]) ∧ w2.heap.size ≤ g ∧ w2.heap.size ≤ gN ∧ Sto w3 ⟨p2, bL2, bS2, bW2, g, gN, []⟩ (ckS ⟨s.S, s.S, falses s.V.length⟩ (openV ⟨s.S, s.S, falses s.V.length⟩ o)) (ckV (openV ⟨s.S, s.S, falses s.V.length⟩ o)) v ∧ Chg [bL2, bS2, bW2] w2 w3 := by
    rcases hO with ⟨h0, _⟩ | ⟨h0, _⟩ | ⟨_, _, h⟩
    · omega
    · omega
    · exact h
  rw [openV_eq (s := s) (s' := ⟨s.S, s.S, falses s.V.length⟩) rfl (falses_len _)] at hs3
  have HS3 := Lib.hid hs3
  have HC3 := Lib.hid (show Chg [] w w3 from HC2.out.then_ hc3 (fun i hi hw => by
    have := HB2.out
    simp only [List.mem_cons, List.not_mem_nil, or_false] at hi
    rcases hi with rfl | rfl | rfl <;> omega))
  have hright : rightR (o.log : Int) (o.pages : Int) (o.epoch : Int) s.V.length = true := HBS.out.resolve_left (by omega)
  have HRI := Lib.hid hright
  have hlp := rightR_true.1 hright
  have HLP := Lib.hid (show 1 ≤ o.log ∧ o.log ≤ 64 ∧ 1 ≤ o.pages ∧ o.pages ≤ 64 ∧ 2 + o.log + o.pages ≤ s.V.length by omega)
  have HOK := Lib.hid hok
  have HDS := Lib.hid (show opDs s = ckDs (openV s o) by unfold opDs; rw [← HO.out, if_pos hok])
  obtain ⟨x, hx⟩ : ∃ x, x = openV s o := ⟨_, rfl⟩
  have HX := Lib.hid (show x.L = o.log ∧ x.P = o.pages ∧ x.E = o.epoch from by rw [hx]; exact ⟨(turn_same _ _).1, (turn_same _ _).2.1, (turn_same _ _).2.2.1⟩)
  have HNM := Lib.hid (show x.named = nameR (List.replicate o.pages false) (recT s o) by rw [hx]; exact openV_named s o)
  rw [← hx] at HS3 HDS
  have hbe := best_any H.out
  rw [← HO.out] at hbe
  have HBE := Lib.hid (show ∀ W, Chg [] w W → Calls Tryz.prog 55 #[.pointer (some ⟨p, 0, none⟩)] W (BestPost o W) from fun W hW => by
    have := best_any (Dsk.keep H.out hW)
    rw [← HO.out] at this
    exact this)
  clear hO hok hs3 hc3 hright hlp hx hbe
  go_wp2_with fail
  refine (HBE.out w3 HC3.out).mono ?_
  rintro e w4 ⟨rfl, hc4⟩
  have HC4 := Lib.hid (HC3.out.new hc4)
  have HS4 := Lib.hid (HS3.out.keep hc4)
  unfold rootV
  clear hc4 HS3
  go_upto_region 8 with fail
  have hR := Whole.new w4 58 [.int .i64 (o.log : Int), .int .i64 (o.pages : Int), .int .u32 (o.epoch : Int)]
  have hal := (Chg.refl [] w4).alloc (.cells #[.int .i64 (o.log : Int), .int .i64 (o.pages : Int), .int .u32 (o.epoch : Int)] 58)
  have hgz : (w4.alloc (.cells #[.int .i64 (o.log : Int), .int .i64 (o.pages : Int), .int .u32 (o.epoch : Int)] 58)).heap.size = w4.heap.size + 1 := by simp
  rw [← hgz]
  obtain ⟨gr, hgr⟩ : ∃ g, g = w4.heap.size := ⟨_, rfl⟩
  rw [← hgr] at hR ⊢
  generalize w4.alloc (.cells #[.int .i64 (o.log : Int), .int .i64 (o.pages : Int), .int .u32 (o.epoch : Int)] 58) = w5 at hR hal ⊢
  have HR5 := Lib.hid hR
  have HS5 := Lib.hid (HS4.out.keep hal)
  have HC5 := Lib.hid (HC4.out.new hal)
  have hD := Whole.new w5 119 [.bool true, .int .i64 0, .slice none 0 0]
  have hal2 := (Chg.refl [] w5).alloc (.cells #[.bool true, .int .i64 0, .slice none 0 0] 119)
  obtain ⟨gd, hgd⟩ : ∃ g, g = w5.heap.size := ⟨_, rfl⟩
  obtain ⟨B, hB⟩ : ∃ B, B = w5.heap.size := ⟨_, rfl⟩
  have HBB := Lib.hid hB
  have HDD := Lib.hid (show DdRow (w5.alloc (.cells #[.bool true, .int .i64 0, .slice none 0 0] 119)) B (.slice (some ⟨gd, 0, none⟩) 1 1) (none :: homeDs x 0) from by rw [hgd, hB]; exact ⟨[(none, .slice none 0 0)], rfl, own3_of_whole hD (Nat.le_refl _) rfl, fun z hz => by simp only [List.mem_singleton] at hz; subst hz; rfl⟩)
  rw [← hgd]
  generalize w5.alloc (.cells #[.bool true, .int .i64 0, .slice none 0 0] 119) = w6 at hal2 HDD ⊢
  have hR6 := HR5.out.keep hal2
  have r0 := hR6.cell 0
  have r1 := hR6.cell 1
  have r2 := hR6.cell 2
  have HC6 := Lib.hid hal2
  have HLG := Lib.hid (logged_any (Dsk.keep H.out (HC5.out.new hal2)) o.log o.pages o.epoch HRI.out)
  have hlg := HLG.out
  unfold rootV at hlg
  have HLG := Lib.hid hlg
  clear hR hal hgz hgr hD hal2 hgd hR6 HS4 hlg hB
  go_wp2_with fail
  refine HLG.out.mono ?_
  rintro e w7 ⟨gM, rfl, hN7, hgM, hc7⟩
  have HNL2 := Lib.hid (show (nameR (List.replicate o.pages false) (recT s o)).length = o.pages from by rw [nameR_len, List.length_replicate])
  rw [HNL2.out]
  have HN7 := Lib.hid (show Whole w7 gM 4 (bls x.named) from by rw [HNM.out]; exact hN7)
  have HC7 := Lib.hid (show Chg [] w5 w7 from HC6.out.new hc7)
  have HD7 := Lib.hid (HDD.out.keep hc7)
  have HPN := Lib.hid (show x.named.length = o.pages ∧ x.pages.length = o.pages ∧ (∀ l ∈ x.pages, l.length = 64) from ⟨by have := HS5.out.nl; have h2 := HX.out; simp [ckV] at this; rw [HNM.out]; exact HNL2.out, by have := HS5.out.pl; have h2 := HX.out; show (ckV x).pages.length = _; rw [this]; exact h2.2.1, HS5.out.p64⟩)
  obtain ⟨P, hP⟩ : ∃ P, P = o.pages := ⟨_, rfl⟩
  have HPP := Lib.hid hP
  rw [← hP] at HPN HX ⊢
  have hP64 : P ≤ 64 := by have := HLP.out; omega
  clear r0 r1 r2 hN7 hgM hc7 HLG HDD HC6 HNL2 hP
  go_wp2_with fail
  go_loopw [7, 33] (fun t i wr => ∃ (j : Nat) (v7 : Value), i = .int .i64 (j : Int) ∧ j ≤ P ∧ v7 = t ∧ Hid (DdRow wr B v7 (none :: homeDs x j)) ∧ Hid (Whole wr gM 4 (bls x.named)) ∧ Hid (Chg [] w5 wr)) (fun _ i _ => P - (intOf i).toNat)
  case atStart => exact ⟨0, _, rfl, Nat.zero_le _, rfl, HD7, HN7, HC7⟩
  case round =>
    obtain ⟨j, v7, rfl, hj, rfl, HDr, HNr, HCr⟩ := hrel
    clear HD7 HN7 HC7
    by_cases hlt : j < P
    · have hjI : (j : Int) < (P : Int) := by omega
      have hj0 : (0 : Int) ≤ (j : Int) := by omega
      have hnc := HNr.out.cell j
      rw [bls_get x.named j (by rw [HPN.out.1]; exact hlt)] at hnc
      have hgd : x.named.getD j false = x.named[j]'(by rw [HPN.out.1]; exact hlt) := by rw [List.getD_eq_getElem?_getD, List.getElem?_eq_getElem (by rw [HPN.out.1]; exact hlt)]; rfl
      have HH := Lib.hid (show none :: homeDs x (j + 1) = (none :: homeDs x j) ++ (if x.named.getD j false = true then [some (2 + x.L + j, x.pages.getD j [])] else []) from rfl)
      rw [hgd] at HH
      generalize x.named[j]'(by rw [HPN.out.1]; exact hlt) = b at hnc HH
      clear hgd
      cases b with
      | false =>
        go_wp2_with fail
        go_roundw
        case rel => exact ⟨j + 1, _, by go_num, by omega, rfl, Lib.hid (by rw [HH.out, if_neg (by simp), List.append_nil]; exact HDr.out), HNr, HCr⟩
        case measure => simp [intOf]; omega
      | true =>
        obtain ⟨zs, hz1', hz2', hz3'⟩ := HDr.out
        have HZ := Lib.hid (And.intro hz1' hz3')
        have hzl : (none :: homeDs x j).length = zs.length := by rw [← hz1', List.length_map]
        rw [hzl] at hz2'
        obtain ⟨A7, c7, rfl, _, hcm7, hA7⟩ := rown_slice hz2'
        obtain ⟨nz, hnz⟩ : ∃ nz, nz = zs.length := ⟨_, rfl⟩
        have HNZ := Lib.hid (show nz = zs.length ∧ nz ≤ 1 + j from ⟨hnz, by
          rw [hnz, ← hzl]
          have := homeDs_le x j
          simp; omega⟩)
        rw [← hnz] at hz2' ⊢
        have HO7 := Lib.hid hz2'
        clear hz1' hz3' hzl hnz hz2'
        have hhm := homeI_in (L := (x.L : Int)) (P := (P : Int)) (i := (j : Int)) (by have h1 := HLP.out; have h2 := HX.out; omega) (by have h1 := HLP.out; have h2 := HX.out; omega) (by have h1 := HLP.out; have h2 := HPP.out; omega) (by omega) (by omega)
        have HHM := Lib.hid (show homeI (o.log : Int) (o.pages : Int) (j : Int) = ((2 + x.L + j : Nat) : Int) from by
          have h1 := HX.out.1
          have h2 := HPP.out
          rw [← h1, ← h2, hhm]; omega)
        have hRr := HR5.out.keep HCr.out
        have r0 := hRr.cell 0
        have r1 := hRr.cell 1
        have r2 := hRr.cell 2
        have hho := fun W => home_any (w := W) (o.log : Int) (o.pages : Int) (o.epoch : Int) (j : Int)
        unfold rootV at hho
        clear hhm hRr
        go_wp2_with fail
        refine (hho _).mono ?_
        rintro e w8 ⟨rfl, hc8⟩
        rw [HHM.out]
        have HC8 := Lib.hid (HCr.out.new hc8)
        have HS8 := Lib.hid (HS5.out.keep HC8.out)
        have HN8 := Lib.hid (HNr.out.keep hc8)
        have HO8 := Lib.hid (rown_chg HO7.out hc8 (fun i hi => by cases hi))
        have HZ8 := Lib.hid (show ∀ z ∈ zs, DdV w8 B z.1 z.2 from fun z hz => (HZ.out.2 z hz).keep hc8)
        obtain ⟨kq, hkq⟩ : ∃ kq, kq = 2 + x.L + j := ⟨_, rfl⟩
        have HKQ := Lib.hid hkq
        rw [← hkq]
        clear hc8 r0 r1 r2 hho hnc HO7 hkq
        go_wp2_with fail
        refine (spage_any HS8.out j (by have := HX.out.2.1; show j < x.P; omega)).mono ?_
        rintro e w9 ⟨u9, rfl, ho9, hc9⟩
        have hpgd : ((ckV x).pages.getD j []).length = 64 := by
          show (x.pages.getD j []).length = 64
          rw [List.getD_eq_getElem?_getD, List.getElem?_eq_getElem (by rw [HPN.out.2.1]; exact hlt)]
          exact HPN.out.2.2 _ (List.getElem_mem _)
        have HC9 := Lib.hid (HC8.out.new hc9)
        have HN9 := Lib.hid (HN8.out.keep hc9)
        have HO9 := Lib.hid (rown_chg HO8.out hc9 (fun i hi => by cases hi))
        have HZ9 := Lib.hid (show ∀ z ∈ zs, DdV w9 B z.1 z.2 from fun z hz => (HZ8.out z hz).keep hc9)
        have HU9 := Lib.hid (show DdV w9 B (some (kq, x.pages.getD j [])) u9 from own_more ho9 (by have h1 := HC8.out.size; have h2 := HBB.out; omega))
        obtain ⟨Au, cu, rfl, _⟩ := own_slice ho9
        rw [hpgd]
        rw [hpgd] at HU9
        clear ho9 hc9 hpgd HC8 HS8 HN8 HO8 HZ8
        have hal := (Chg.refl [] w9).alloc (.cells #[.bool false, .int .i64 (kq : Int), .slice Au 64 cu] 119)
        have HN10 := Lib.hid (HN9.out.keep hal)
        have HO10 := Lib.hid (rown_chg HO9.out hal (fun i hi => by cases hi))
        have HZ10 := Lib.hid (show ∀ z ∈ zs, DdV (w9.alloc (.cells #[.bool false, .int .i64 (kq : Int), .slice Au 64 cu] 119)) B z.1 z.2 from fun z hz => (HZ9.out z hz).keep hal)
        have HU10 := Lib.hid (HU9.out.keep hal)
        have HC10 := Lib.hid (HC9.out.new hal)
        have hnz7 : nz ≤ 65 := by have := HNZ.out; omega
        have HBW := Lib.hid (show B ≤ (w9.alloc (.cells #[.bool false, .int .i64 (kq : Int), .slice Au 64 cu] 119)).heap.size from by have h1 := HC10.out.size; have h2 := HBB.out; omega)
        have HZL := Lib.hid HNZ.out.1
        have HKE := Lib.hid HKQ.out
        have FIN := Lib.hid (show ∀ (vA : Value) (wA : World), wA.ownsRow B 119 3 vA (nz + 1) (ddL zs ++ [.bool false, .int .i64 (kq : Int), .slice Au 64 cu]) → (w9.alloc (.cells #[.bool false, .int .i64 (kq : Int), .slice Au 64 cu] 119)).grownBy wA (Value.slice A7 nz c7).ownBlock → DdRow wA B vA (none :: homeDs x (j + 1)) from fun vA wA hoA hgA => by
          rw [HH.out, if_pos trivial, ← HZ.out.1, ← HKE.out]
          have hO := HO10.out
          have hzl := HZL.out
          subst hzl
          exact DdRow.snoc (d := some (kq, x.pages.getD j [])) hO HZ10.out HU10.out hoA hgA)
        clear hal
        go_wp2_with (at_builtin
                     go_loud (refine wpList_appN rfl (.tmp 39) (.tmp 47) 114 rfl B 119 i0 _ 3 40 Tryz.underlying114 hi hz0 hz1 hz2 rfl (by decide) (.slice A7 nz c7) nz (ddL zs) rfl HO10.out ⟨w9.heap.size, 0, none⟩ 1 1 [.bool false, .int .i64 (kq : Int), .slice Au 64 cu] rfl rfl (cellsN _ _ _) (by simp [Value.oneCell']) (by simp only [maxLen]; omega) (by omega) HBW.out ?_)
                     intro vA wA hoA hgA hbA
                     have HNA := Lib.hid (whole_grown HN10.out HO10.out (by decide) hgA)
                     have HCA := Lib.hid (HC10.out.ownN HO10.out (by have := HBB.out; omega) hgA)
                     have HDA := Lib.hid (FIN.out vA wA hoA hgA)
                     clear hoA hgA hbA)
        go_roundw
        case rel => exact ⟨j + 1, _, by go_num, by omega, rfl, HDA, HNA, HCA⟩
        case measure => simp [intOf]; omega
    · obtain rfl : P = j := by omega
      have hjI : ¬ (P : Int) < (P : Int) := by omega
      obtain ⟨zs, hz1', hz2', hz3'⟩ := HDr.out
      have HZ := Lib.hid (And.intro hz1' hz3')
      have hzl : (none :: homeDs x P).length = zs.length := by rw [← hz1', List.length_map]
      rw [hzl] at hz2'
      obtain ⟨A7, c7, rfl, _, hcm7, hA7⟩ := rown_slice hz2'
      obtain ⟨nz, hnz⟩ : ∃ nz, nz = zs.length := ⟨_, rfl⟩
      have HNZ := Lib.hid (show nz = zs.length ∧ nz ≤ 1 + P from ⟨hnz, by
        rw [hnz, ← hzl]
        have := homeDs_le x P
        simp; omega⟩)
      rw [← hnz] at hz2' ⊢
      have HO7 := Lib.hid hz2'
      clear hz1' hz3' hzl hnz hz2'
      have hal := (Chg.refl [] wr).alloc (.cells #[.bool true, .int .i64 0, .slice none 0 0] 119)
      have HO8 := Lib.hid (rown_chg HO7.out hal (fun i hi => by cases hi))
      have HZ8 := Lib.hid (show ∀ z ∈ zs, DdV (wr.alloc (.cells #[.bool true, .int .i64 0, .slice none 0 0] 119)) B z.1 z.2 from fun z hz => (HZ.out.2 z hz).keep hal)
      have HC8 := Lib.hid (HCr.out.new hal)
      have HBW := Lib.hid (show B ≤ (wr.alloc (.cells #[.bool true, .int .i64 0, .slice none 0 0] 119)).heap.size from by have h1 := HC8.out.size; have h2 := HBB.out; omega)
      have hnz7 : nz ≤ 65 := by have := HNZ.out; omega
      clear hal HNr
      go_wp2_with (at_builtin
                   go_loud (refine wpList_appN rfl (.tmp 50) (.tmp 52) 114 rfl B 119 i0 _ 3 40 Tryz.underlying114 hi hz0 hz1 hz2 rfl (by decide) (.slice A7 nz c7) nz (ddL zs) rfl HO8.out ⟨wr.heap.size, 0, none⟩ 1 1 [.bool true, .int .i64 0, .slice none 0 0] rfl rfl (cellsN _ _ _) (by simp [Value.oneCell']) (by simp only [maxLen]; omega) (by omega) HBW.out ?_)
                   intro vA wA hoA hgA hbA
                   have HCA := Lib.hid (HC8.out.ownN HO8.out (by have := HBB.out; omega) hgA)
                   have HDA := Lib.hid (show DdRow wA B vA ((none :: homeDs x P) ++ [none]) from by
                     rw [← HZ.out.1]
                     have hO := HO8.out
                     have hA2 := hoA
                     rw [HNZ.out.1] at hO hA2 hgA
                     exact DdRow.snoc hO HZ8.out rfl hA2 hgA)
                   clear hoA hgA hbA)
      have HSA := Lib.hid (HS5.out.keep HCA.out)
      refine (sroot_any HSA.out).mono ?_
      rintro e wB ⟨rfl, hcB⟩
      have hE1 : (ckV x).E = o.epoch + 1 := by have h1 := HX.out; show x.E + 1 = _; rw [h1.2.2]
      have hL1 : (ckV x).L = o.log := HX.out.1
      have hP1 : (ckV x).P = P := HX.out.2.1
      rw [hL1, hP1, hE1]
      obtain ⟨E1, hE1'⟩ : ∃ E1, E1 = o.epoch + 1 := ⟨_, rfl⟩
      have HE1 := Lib.hid hE1'
      rw [← hE1']
      have HCB := Lib.hid (HCA.out.new hcB)
      have HDB := Lib.hid (HDA.out.keep hcB)
      unfold rootV
      clear hcB hE1 hL1 hP1 hE1' HCA HDA HSA HO7 HO8 HZ8 HC8 HBW HDr HCr HZ HNZ
      go_upto_region 16 with fail
      have hR := Whole.new wB 58 [.int .i64 (o.log : Int), .int .i64 (P : Int), .int .u32 (E1 : Int)]
      have hal := (Chg.refl [] wB).alloc (.cells #[.int .i64 (o.log : Int), .int .i64 (P : Int), .int .u32 (E1 : Int)] 58)
      obtain ⟨zs, hz1', hz2', hz3'⟩ := HDB.out
      have hzl : ((none :: homeDs x P) ++ [none]).length = zs.length := by rw [← hz1', List.length_map]
      have hnb := own3_lt hz2'
      rw [hzl] at hz2'
      obtain ⟨A8, c8, rfl, _, _, _⟩ := rown_slice hz2'
      have HZL := Lib.hid (show zs.length ≤ 66 from by rw [← hzl]; have := homeDs_le x P; simp; omega)
      obtain ⟨nz, hnz⟩ : ∃ nz, nz = zs.length := ⟨_, rfl⟩
      have HNZ := Lib.hid hnz
      rw [← hnz] at hz2' ⊢
      rw [← hnz] at hnb
      obtain ⟨Tq, hTq⟩ : ∃ Tq, Tq = (Value.slice A8 nz c8).ownBlock.toList := ⟨_, rfl⟩
      obtain ⟨gq, hgq⟩ : ∃ g, g = wB.heap.size := ⟨_, rfl⟩
      have HGQ := Lib.hid (show gq ∉ Tq from fun hm => by
        rw [hTq, Option.mem_toList] at hm
        have := (hnb _ hm).2
        omega)
      have HTB := Lib.hid (show ∀ i ∈ Tq, B ≤ i from fun i hi => by
        rw [hTq, Option.mem_toList] at hi
        exact (hnb _ hi).1)
      have HTQ := Lib.hid (show ∀ q, (Value.slice A8 nz c8).ownBlock = some q → q ∈ Tq from fun q hq => by rw [hTq, Option.mem_toList]; exact hq)
      rw [← hgq] at hR ⊢
      generalize wB.alloc (.cells #[.int .i64 (o.log : Int), .int .i64 (P : Int), .int .u32 (E1 : Int)] 58) = wC at hR hal ⊢
      have HR := Lib.hid hR
      have HCC := Lib.hid (HCB.out.new hal)
      have HOC := Lib.hid (rown_chg hz2' hal (fun i hi => by cases hi))
      have HZC := Lib.hid (show ∀ z ∈ zs, DdV wC B z.1 z.2 from fun z hz => (hz3' z hz).keep hal)
      have HZ1 := Lib.hid hz1'
      have HBW := Lib.hid (show B ≤ wC.heap.size from by have h1 := HCC.out.size; have h2 := HBB.out; omega)
      clear hR hal hz1' hz2' hz3' hzl hnb hnz hTq hgq HDB HCB
      have hmod : ((E1 : Int)).tmod 2 = ((E1 % 2 : Nat) : Int) := by rw [Int.tmod_eq_emod_of_nonneg (by omega)]; omega
      have hm2 : E1 % 2 < 2 := Nat.mod_lt _ (by omega)
      generalize hq : E1 % 2 = q2 at hmod hm2
      have HQ := Lib.hid hq
      have hwq : IntKind.i64.wrap (q2 : Int) = (q2 : Int) := by rw [IntKind.wrap_i64]; omega
      have HE2 := Lib.hid (show E1 < 4294967296 from by have h1 := HE1.out; have h2 := HOK.out; omega)
      clear hq
      have hC0 := (Chg.refl [] wC).drew.sub (T' := Tq) (fun _ h => by cases h)
      have TOK := dkT_ok (T := Tq) (hard := [9]) (soft := [6, 7, 8, 9, 10])
      refine wp_flow (by kernel_rfl) (dkT Tq [9] [6, 7, 8, 9, 10]) TOK (by kernel_rfl) ?_
      refine flow_move_out TOK rfl rfl rfl ?_
      refine flow1 (r := .pointer (some ⟨gq, 2, none⟩)) TOK rfl (.out rfl rfl) rfl (fun ev W he e1 => by go_simp) ?_
      refine flow1h (r := .int .u32 (E1 : Int)) TOK rfl (.inn rfl) rfl (fun ev W he hW e1 => by have r2 := (HR.out.chg (hC0.trans hW) HGQ.out).cell 2; clear hW; go_simp) ?_
      refine flow2 (r := .int .u32 (q2 : Int)) TOK rfl (.inn rfl) (.const _) rfl (fun ev W he e1 e2 => by go_simp) ?_
      refine flow1 (r := .int .i64 (q2 : Int)) TOK rfl (.inn rfl) rfl (fun ev W he e1 => by go_simp) ?_
      refine flow1h (r := rootV o.log P E1) TOK rfl (.out rfl rfl) rfl (fun ev W he hW e1 => by have hx := HR.out.chg (hC0.trans hW) HGQ.out; have r0 := hx.cell 0; have r1 := hx.cell 1; have r2 := hx.cell 2; clear hW hx; unfold rootV; go_simp) ?_
      refine flow_calld (ownF B 5 (bts (rootL o.log P E1))) (keeps_own _ _ _) (.inl rfl) (by kernel_rfl) rfl (.cons (.inn rfl) .nil) (fun W hW => (rootbytes_any o.log P E1 (by have := HLP.out; omega) (by omega) HE2.out).mono ?_) ?_
      · rintro e w' ⟨v, rfl, ho, hc⟩
        exact ⟨v, rfl, dk_by _ hc, by unfold ownF; rw [bts_len]; exact own_more ho (by have h1 := HBW.out; have h2 : wC.heap.size ≤ W.heap.size := (hC0.trans hW).size; omega)⟩
      refine flow_op (agF B q2 (rootL o.log P E1)) (keeps_ag _ _ _) (.inl rfl) rfl (fun ev W he hW hfs => ?_) ?_
      · obtain ⟨f1, f2, _⟩ := hfs
        have e1 : ev (.tmp 60) = .int .i64 (q2 : Int) := f1
        have f2' : ownF B 5 (bts (rootL o.log P E1)) (ev (.tmp 62)) W := f2
        unfold ownF at f2'
        rw [bts_len] at f2'
        obtain ⟨Ar, cr, e2, _⟩ := own_slice f2'
        have hr : (execOp ev ⟨some 63, .build 119 #[(1, .tmp 60), (2, .tmp 62)], 119, "heal.go:61", #[{ on := 4, ground := Ground.data }, { on := 6, ground := Ground.data }], none⟩).run Tryz.prog W = .ok (.value (.agg #[.bool false, .int .i64 (q2 : Int), .slice Ar (rootL o.log P E1).length cr])) W := by
          clear f2' f1 f2
          go_simp
        refine Eq.mpr (congrArg _ hr) ?_
        exact ⟨dk_by _ (Chg.refl _ _), Ar, cr, rfl, by rw [← e2]; exact f2'⟩
      refine flow_op (bdF B q2 (rootL o.log P E1)) (keeps_bd _ _ _) (.inl rfl) rfl (fun ev W he hW hfs => ?_) ?_
      · obtain ⟨f1, _⟩ := hfs
        have f1' : agF B q2 (rootL o.log P E1) (ev (.tmp 63)) W := f1
        obtain ⟨Ar, cr, e1, ho⟩ := f1'
        have hr : (execOp ev ⟨some 64, .buildSlice 114 1 #[(0, .tmp 63)], 114, "heal.go:61", #[{ on := 7, ground := Ground.data }], none⟩).run Tryz.prog W = .ok (.value (.slice (some ⟨W.heap.size, 0, none⟩) 1 1)) (W.alloc (.cells #[.bool false, .int .i64 (q2 : Int), .slice Ar (rootL o.log P E1).length cr] 119)) := by
          clear f1
          go_simp
        refine Eq.mpr (congrArg _ hr) ?_
        have hal := (Chg.refl [] W).alloc (.cells #[.bool false, .int .i64 (q2 : Int), .slice Ar (rootL o.log P E1).length cr] 119)
        exact ⟨dk_by _ hal, W.heap.size, Ar, cr, rfl, Whole.new W _ _, own_keep ho hal⟩
      refine flow_early (ddF B (((none :: homeDs x P) ++ [none]) ++ [rootD x])) (keeps_ddF _ _) (.inl rfl) rfl rfl (fun ev W he hW hfs => ?_) ?_
      · have hc0 : Chg [] wC W := (Chg.refl [] wC).drew.new (star_chg hW)
        obtain ⟨f1, f2, _⟩ := hfs
        have e1 : ev (.tmp 56) = .slice A8 nz c8 := f1
        have f2' : bdF B q2 (rootL o.log P E1) (ev (.tmp 64)) W := f2
        obtain ⟨gb, Ar, cr, e2, hWb, hor⟩ := f2'
        have hO := rown_chg HOC.out hc0 (fun i hi => by cases hi)
        obtain ⟨v', w', hrun, ho, hg, _, _⟩ := run_append_own_at (P := Tryz.prog) W B 114 114 119 i0 _ 3 40 Tryz.underlying114 hi hz0 hz1 hz2 rfl (by decide) (.slice A8 nz c8) nz (ddL zs) hO ⟨gb, 0, none⟩ 1 1 [.bool false, .int .i64 (q2 : Int), .slice Ar (rootL o.log P E1).length cr] rfl (fun j u hj => by rw [add_plain, Nat.zero_add, hWb.cell]; exact hj) (by simp [Value.oneCell']) (by simp only [maxLen]; have := HZL.out; have := HNZ.out; omega) (by have := HZL.out; have := HNZ.out; omega) (by have h1 := HBW.out; have h2 := hc0.size; omega)
        have hr : (execOp ev ⟨some 65, .call { callee := .builtin .append, args := #[.tmp 56, .tmp 64], argTypes := #[114, 114] }, 114, "heal.go:61", #[{ on := 0, ground := Ground.data }, { on := 8, ground := Ground.data }, { on := 6, ground := Ground.chain }], none⟩).run Tryz.prog W = .ok (.value v') w' := by
          unfold execOp
          simp only [resolve, invoke, builtin, Sem.run_bind, Sem.run_pure, Result.andThen_ok, List.map_toArray, List.map_cons, List.map_nil, e1, e2, hrun]
        refine Eq.mpr (congrArg _ hr) ?_
        refine ⟨dk_hard rfl (Chg.of_grown hg fun q hq _ => HTQ.out q hq), ?_⟩
        show DdRow w' B v' (((none :: homeDs x P) ++ [none]) ++ [rootD x])
        rw [← HZ1.out]
        have hnz := HNZ.out
        subst hnz
        have hrd : rootD x = some (q2, rootL o.log P E1) := by
          unfold rootD
          have h1 := HX.out
          rw [h1.2.2, ← HE1.out, HQ.out, h1.1, h1.2.1]
        rw [hrd]
        exact DdRow.snoc (d := some (q2, rootL o.log P E1)) hO (fun z hz => (HZC.out z hz).keep hc0) hor ho hg
      refine flow_assign TOK rfl (keeps_ddF _ _) (.inl rfl) rfl ?_
      intro vs W hW hF
      have hd : ddF B (((none :: homeDs x P) ++ [none]) ++ [rootD x]) (vs 7) W := hF 7 _ rfl rfl
      have HCD := Lib.hid (show Chg [] w5 W from HCC.out.then_ (hC0.trans hW) (fun i hi hw => by have h1 := HTB.out i hi; have h2 := HBB.out; omega))
      have HDD := Lib.hid (show DdRow W B (vs 7) (((none :: homeDs x P) ++ [none]) ++ [rootD x]) from hd)
      simp only [putAll, Act.put, List.setIfInBounds_toArray, List.set_cons_zero, List.set_cons_succ]
      generalize vs 7 = v7 at HDD ⊢
      clear hF hW hd TOK hC0 HR HCC HOC HZC HZ1 HBW HGQ HTQ HTB hmod hm2 hwq
      obtain ⟨wD, hwD⟩ : ∃ wD : World, wD = W := ⟨_, rfl⟩
      rw [← hwD] at HCD HDD ⊢
      clear hwD
      obtain ⟨zt, hz1', hz2', hz3'⟩ := HDD.out
      have HZ := Lib.hid (And.intro hz1' hz3')
      have hzl : (((none :: homeDs x P) ++ [none]) ++ [rootD x]).length = zt.length := by rw [← hz1', List.length_map]
      rw [hzl] at hz2'
      obtain ⟨A9, c9, rfl, _, _, _⟩ := rown_slice hz2'
      obtain ⟨nt, hnt⟩ : ∃ nt, nt = zt.length := ⟨_, rfl⟩
      have HNT := Lib.hid (show nt = zt.length ∧ nt ≤ 67 from ⟨hnt, by
        rw [hnt, ← hzl]
        have := homeDs_le x P
        simp; omega⟩)
      rw [← hnt] at hz2' ⊢
      have HO9 := Lib.hid hz2'
      clear hz1' hz2' hz3' hzl hnt
      have hal := (Chg.refl [] wD).alloc (.cells #[.bool true, .int .i64 0, .slice none 0 0] 119)
      have HO8 := Lib.hid (rown_chg HO9.out hal (fun i hi => by cases hi))
      have HZ8 := Lib.hid (show ∀ z ∈ zt, DdV (wD.alloc (.cells #[.bool true, .int .i64 0, .slice none 0 0] 119)) B z.1 z.2 from fun z hz => (HZ.out.2 z hz).keep hal)
      have HC8 := Lib.hid (HCD.out.new hal)
      have HBW := Lib.hid (show B ≤ (wD.alloc (.cells #[.bool true, .int .i64 0, .slice none 0 0] 119)).heap.size from by have h1 := HC8.out.size; have h2 := HBB.out; omega)
      have hnt7 : nt ≤ 67 := HNT.out.2
      have FIN := Lib.hid (show ∀ (vA : Value) (wA : World), wA.ownsRow B 119 3 vA (nt + 1) (ddL zt ++ [.bool true, .int .i64 0, .slice none 0 0]) → (wD.alloc (.cells #[.bool true, .int .i64 0, .slice none 0 0] 119)).grownBy wA (Value.slice A9 nt c9).ownBlock → DeedsPost w (opDs s) (.returned vA) wA from fun vA wA hoA hgA => by
        have hCA := HC8.out.ownN HO8.out (by have := HBB.out; omega) hgA
        refine ⟨vA, rfl, ?_, HC5.out.new hCA⟩
        have hO := HO8.out
        have hzl := HNT.out.1
        subst hzl
        have h1 := DdRow.snoc (d := none) hO HZ8.out rfl hoA hgA
        rw [HZ.out.1] at h1
        rw [HDS.out]
        have h2 : ckDs x = ((none :: homeDs x P) ++ [none] ++ [rootD x]) ++ [none] := by
          unfold ckDs
          rw [HX.out.2.1]
          simp
        rw [h2]
        obtain ⟨zs, a1, a2, a3⟩ := h1
        exact ⟨zs, a1, rown_more' a2 (by have h1 := HBB.out; have h2 := HC5.out.size; omega), fun z hz => (a3 z hz).more (by have h1 := HBB.out; have h2 := HC5.out.size; omega)⟩)
      clear hal
      go_wp2_with (at_builtin
                   go_loud (refine wpList_appN rfl (.tmp 66) (.tmp 68) 114 rfl B 119 i0 _ 3 40 Tryz.underlying114 hi hz0 hz1 hz2 rfl (by decide) (.slice A9 nt c9) nt (ddL zt) rfl HO8.out ⟨wD.heap.size, 0, none⟩ 1 1 [.bool true, .int .i64 0, .slice none 0 0] rfl rfl (cellsN _ _ _) (by simp [Value.oneCell']) (by simp only [maxLen]; omega) (by omega) HBW.out ?_)
                   intro vA wA hoA hgA hbA
                   have HP := Lib.hid (FIN.out vA wA hoA hgA)
                   clear hoA hgA hbA)
      go_ret
      exact HP.out
end
end Go.Proofs.YtddjgncdjdjgeaaGreat
