/-
  N: MadeCh, KeepCh.
-/
import Derived.Test.YtddjgncdjdjgeaaGreatZN2
import Derived.Test.YtddjgncdjdjgeaaGreatZN9
namespace Go.Proofs.YtddjgncdjdjgeaaGreat
open Go.RowKit
/-- The cells of changes. -/
def chCs : List ChV → List Value
  | [] => []
  | a :: l => chC a ++ chCs l
theorem chCs_len : ∀ l, (chCs l).length = l.length * 2
  | [] => rfl
  | a :: l => by rw [chCs, List.length_append, chCs_len l]; simp [chC]; omega
theorem chCs_app : ∀ l m, chCs (l ++ m) = chCs l ++ chCs m
  | [], _ => rfl
  | a :: l, m => by rw [List.cons_append, chCs, chCs, chCs_app l m, List.append_assoc]
theorem chCs_one (a : ChV) : chCs [a] = chC a := by simp [chCs]
theorem chCs_get : ∀ (l : List ChV) (k : Nat) (a : ChV) (j : Nat), l[k]? = some a → j < 2 → (chCs l)[k * 2 + j]? = (chC a)[j]?
  | [], k, a, j, h, hj => by simp at h
  | b :: l, 0, a, j, h, hj => by
    simp at h; subst h
    rw [chCs, List.getElem?_append_left (by simp [chC]; omega)]
    congr 1; omega
  | b :: l, k + 1, a, j, h, hj => by
    simp at h
    rw [chCs, List.getElem?_append_right (by simp [chC]; omega)]
    rw [← chCs_get l k a j h hj]
    congr 1; simp [chC]; omega
/-- A change whose bytes lie in a block of their own, from B0 on. -/
structure MadeCh (w : World) (B0 : Nat) (a : ChV) : Prop where
  b : ∃ g, a.bA = some ⟨g, 0, none⟩ ∧ B0 ≤ g ∧ Whole w g 5 (bts a.B)
  bl : a.B.length = 64
  bn : a.bn = 64
  bc : a.bc = 64
  p : 0 ≤ a.page ∧ a.page < 65536
theorem MadeCh.ok {w : World} {B0 : Nat} {a : ChV} (h : MadeCh w B0 a) : ChOk w a := by
  obtain ⟨g, hg, _, hW⟩ := h.b
  refine ⟨by have := h.p; omega, by have := h.p; omega, ?_⟩
  rw [hg, h.bn, h.bc]
  have := Bs.of_all hW (by rw [h.bl]; omega)
  rwa [h.bl] at this
theorem MadeCh.small {w : World} {B0 : Nat} {a : ChV} (h : MadeCh w B0 a) : Small a := ⟨h.p.1, h.p.2, h.bn⟩
theorem MadeCh.chg {w w' : World} {B0 : Nat} {a : ChV} {T : List Nat} (h : MadeCh w B0 a) (hc : Chg T w w') (hT : ∀ i ∈ T, i < B0 ∨ w.heap.size ≤ i) : MadeCh w' B0 a := by
  obtain ⟨g, hg, hB, hW⟩ := h.b
  exact { h with b := ⟨g, hg, hB, hW.chg hc fun hm => by have := hT g hm; have := hW.lt; omega⟩ }
theorem MadeCh.grown {w w' : World} {B0 B2 m : Nat} {v2 : Value} {ys : List Value} {a : ChV} (h : MadeCh w B0 a) (h2 : w.ownsRow B2 51 2 v2 m ys) (hg : w.grownBy w' v2.ownBlock) : MadeCh w' B0 a := by
  obtain ⟨g, hg1, hB, hW⟩ := h.b
  exact { h with b := ⟨g, hg1, hB, whole_grown hW h2 (by decide) hg⟩ }
theorem rown_chg {w w' : World} {B n k : Nat} {e : TypeId} {v : Value} {xs : List Value} {T : List Nat} (h : w.ownsRow B e k v n xs) (hc : Chg T w w') (hT : ∀ i ∈ T, i < B ∨ w.heap.size ≤ i) : w'.ownsRow B e k v n xs := by
  refine ⟨h.1, h.2.imp id ?_⟩
  rintro ⟨g, cap, cur, rfl, hb, hg, r⟩
  refine ⟨g, cap, cur, rfl, hb, ?_, r⟩
  have hgl : g < w.heap.size := by
    rcases Nat.lt_or_ge g w.heap.size with hlt | hge
    · exact hlt
    · rw [Array.getElem?_eq_none hge] at hg; cases hg
  rw [hc.block g hgl (fun hm => by have := hT g hm; omega)]
  exact hg
/-- An own row of changes, as a list of changes is taken. -/
theorem chs_own {w : World} {B B0 n : Nat} {e : TypeId} {v : Value} {l : List ChV} (h : w.ownsRow B e 2 v n (chCs l)) (hok : ∀ a ∈ l, MadeCh w B0 a) :
    ∃ A c, v = .slice A n c ∧ l.length = n ∧ Chs w A l ∧ n ≤ 9223372036854775807 ∧ n ≤ c ∧ (∀ ad, A = some ad → ad.spot = none) := by
  have hl : l.length = n := by have := h.1; rw [chCs_len] at this; omega
  rcases h.2 with ⟨rfl, rfl⟩ | ⟨g, cap, cur, rfl, hb, hg, hn, hc, hs, ht⟩
  · exact ⟨none, 0, rfl, hl, ⟨fun h => absurd h (by omega), fun a ha => (hok a ha).ok⟩, by omega, Nat.le_refl _, fun ad e => by cases e⟩
  · have hgl : g < w.heap.size := by
      rcases Nat.lt_or_ge g w.heap.size with hlt | hge
      · exact hlt
      · rw [Array.getElem?_eq_none hge] at hg; cases hg
    refine ⟨_, cap, rfl, hl, ⟨fun _ => ⟨g, 0, rfl, hgl, fun k a ha => ?_⟩, fun a ha => (hok a ha).ok⟩, by unfold maxLen at hc; omega, hn, fun ad e => by injection e with e; subst e; rfl⟩
    have hx : ∀ j u, (chCs l)[j]? = some u → w.cell? ((⟨g, 0, none⟩ : Addr).add j) = some u := h.cells rfl
    have q : ∀ j, j < 2 → ∀ u, (chC a)[j]? = some u → w.cell? ⟨g, k * 2 + j, none⟩ = some u := fun j hj u hu => by
      have := hx (k * 2 + j) u ((chCs_get l k a j ha hj).trans hu)
      rwa [add_plain, Nat.zero_add] at this
    simp only [Nat.zero_add]
    exact ⟨q 0 (by omega) _ rfl, q 1 (by omega) _ rfl⟩
theorem info_change : (Tryz.prog.info? 51).map (fun i => (i.zero, i.size, i.bytes)) = some (some (.agg #[.int .i64 0, .slice none 0 0]), 2, 32) := by kernel_rfl
theorem cells_page (w : World) (xs : List Value) (t : Nat) : ∀ (j : Nat) (u : Value), xs[j]? = some u → (w.alloc (.cells xs.toArray t)).cell? ((⟨w.heap.size, 0, none⟩ : Addr).add j) = some u := fun j u hj => by
  rw [add_plain, Nat.zero_add, (Whole.new w t xs).cell]; exact hj
/-- A change whose bytes begin a block of their own, from B0 on. -/
structure RMade (w : World) (B0 : Nat) (a : ChV) : Prop where
  b : ∃ g r, a.bA = some ⟨g, 0, none⟩ ∧ B0 ≤ g ∧ Whole w g 5 (bts a.B ++ r) ∧ a.bc = 64 + r.length ∧ 64 + r.length ≤ 9223372036854775807
  bl : a.B.length = 64
  bn : a.bn = 64
  p : 0 ≤ a.page ∧ a.page < 65536
theorem RMade.ok {w : World} {B0 : Nat} {a : ChV} (h : RMade w B0 a) : ChOk w a := by
  obtain ⟨g, r, hg, _, hW, hc, hm⟩ := h.b
  refine ⟨by have := h.p; omega, by have := h.p; omega, ?_⟩
  rw [hg, h.bn, hc]
  exact Bs.of_whole hW h.bl (by rw [List.take_left' (by rw [bts_len, h.bl])]) (by omega) hm
theorem RMade.chg {w w' : World} {B0 : Nat} {a : ChV} {T : List Nat} (h : RMade w B0 a) (hc : Chg T w w') (hT : ∀ i ∈ T, i < B0 ∨ w.heap.size ≤ i) : RMade w' B0 a := by
  obtain ⟨g, r, hg, hB, hW, hr⟩ := h.b
  exact { h with b := ⟨g, r, hg, hB, hW.chg hc (fun hm => by have := hT g hm; have := hW.lt; omega), hr⟩ }
theorem RMade.grown {w w' : World} {B0 B2 m : Nat} {v2 : Value} {ys : List Value} {a : ChV} (h : RMade w B0 a) (h2 : w.ownsRow B2 51 2 v2 m ys) (hg : w.grownBy w' v2.ownBlock) : RMade w' B0 a := by
  obtain ⟨g, r, hg1, hB, hW, hr⟩ := h.b
  exact { h with b := ⟨g, r, hg1, hB, whole_grown hW h2 (by decide) hg, hr⟩ }
theorem chs_own' {w : World} {B n : Nat} {e : TypeId} {v : Value} {l : List ChV} (h : w.ownsRow B e 2 v n (chCs l)) (hok : ∀ a ∈ l, ChOk w a) :
    ∃ A c, v = .slice A n c ∧ l.length = n ∧ Chs w A l ∧ n ≤ 9223372036854775807 ∧ n ≤ c ∧ (∀ ad, A = some ad → ad.spot = none) := by
  have hl : l.length = n := by have := h.1; rw [chCs_len] at this; omega
  rcases h.2 with ⟨rfl, rfl⟩ | ⟨g, cap, cur, rfl, hb, hg, hn, hc, hs, ht⟩
  · exact ⟨none, 0, rfl, hl, ⟨fun h => absurd h (by omega), hok⟩, by omega, Nat.le_refl _, fun ad e => by cases e⟩
  · have hgl : g < w.heap.size := by
      rcases Nat.lt_or_ge g w.heap.size with hlt | hge
      · exact hlt
      · rw [Array.getElem?_eq_none hge] at hg; cases hg
    refine ⟨_, cap, rfl, hl, ⟨fun _ => ⟨g, 0, rfl, hgl, fun k a ha => ?_⟩, hok⟩, by unfold maxLen at hc; omega, hn, fun ad e => by injection e with e; subst e; rfl⟩
    have hx : ∀ j u, (chCs l)[j]? = some u → w.cell? ((⟨g, 0, none⟩ : Addr).add j) = some u := h.cells rfl
    have q : ∀ j, j < 2 → ∀ u, (chC a)[j]? = some u → w.cell? ⟨g, k * 2 + j, none⟩ = some u := fun j hj u hu => by
      have := hx (k * 2 + j) u ((chCs_get l k a j ha hj).trans hu)
      rwa [add_plain, Nat.zero_add] at this
    simp only [Nat.zero_add]
    exact ⟨q 0 (by omega) _ rfl, q 1 (by omega) _ rfl⟩
theorem MadeCh.rmade {w : World} {B0 : Nat} {a : ChV} (h : MadeCh w B0 a) : RMade w B0 a := by
  obtain ⟨g, hg, hB, hW⟩ := h.b
  exact ⟨⟨g, [], hg, hB, by rw [List.append_nil]; exact hW, by rw [h.bc]; rfl, by simp⟩, h.bl, h.bn, h.p⟩
end Go.Proofs.YtddjgncdjdjgeaaGreat
namespace Go.Proofs.YtddjgncdjdjgeaaGreat
open Go.RowKit
theorem rightS_snoc : ∀ (l : List ChV) (last P : Int) (a : ChV), rightS last P l = true → (∀ b ∈ l, b.page < a.page) → last < a.page → a.page < P → a.bn = 64 → rightS last P (l ++ [a]) = true
  | [], last, P, a, _, _, h1, h2, h3 => by
    simp only [List.nil_append, rightS]
    rw [decide_eq_false (by omega), decide_eq_false (by omega), decide_eq_false (by simpa using h3)]
    rfl
  | b :: l, last, P, a, h, hb, h1, h2, h3 => by
    simp only [rightS, List.cons_append, Bool.and_eq_true] at h ⊢
    exact ⟨h.1, rightS_snoc l b.page P a h.2 (fun c hc => hb c (List.mem_cons_of_mem _ hc)) (hb b (List.mem_cons_self ..)) h2 h3⟩
theorem make_page (W : World) : (Instr.makeSlice 30 (.int .i64 64) (.int .i64 64)).run Tryz.prog W = .ok (.slice (some ⟨W.heap.size, 0, none⟩) 64 64) (W.alloc (.cells (bts (zeros 64)).toArray 5)) := by
  obtain ⟨i, hi, hz, hs1, hb⟩ := info_parts info_byte
  rw [bts_zeros]
  exact run_make1 30 5 i (.int .u8 0) rfl Tryz.underlying30 hi hz hs1 64 (by rw [hb]; omega) (by omega) W
/-- What Changes has made so far. -/
def ChSo (w : World) (p : Nat) (At : Option Addr) (nt ct : Nat) (lt : List Int) (wr : World) (v : Value) (k : Nat) : Prop :=
  ∃ (ls : List ChV) (a' : Nat), wr.ownsRow w.heap.size 51 2 v ls.length (chCs ls) ∧ (∀ a ∈ ls, MadeCh wr w.heap.size a) ∧ (∀ a ∈ ls, a.page < k) ∧ ls.length ≤ k ∧ (∀ P : Int, (k : Int) ≤ P → rightS (-1) P ls = true) ∧ Tp wr p At nt ct lt a' ∧ Chg [p] w wr
section
variable {w : World} {p nt ct at_ : Nat} {At : Option Addr} {lt : List Int}
set_option maxHeartbeats 8000000 in
set_option maxRecDepth 100000 in
theorem changes_any (h : Tp w p At nt ct lt at_) (P : Nat) (hP : P ≤ 64) :
    Calls Tryz.prog 33 #[.pointer (some ⟨p, 0, none⟩), .int .i64 (P : Int)] w fun e w' => ∃ v, e = .returned v ∧ ChSo w p At nt ct lt w' v P := by
  obtain ⟨i0, hi, hz0, hz1, hz2⟩ := info_parts info_change
  have hpw := h.lt
  have H := Lib.hid h
  have hmk := make_page
  clear h
  go_enter Tryz.func33, Tryz.ntmps33
  go_wp2_with fail
  go_loopw [5, 6] (fun v i wr => ∃ k : Nat, k ≤ P ∧ i = .int .i64 (k : Int) ∧ ChSo w p At nt ct lt wr v k) (fun _ i _ => P - (intOf i).toNat)
  case atStart => exact ⟨0, Nat.zero_le _, rfl, [], at_, World.ownsRow_nil _ _ _ _, fun a ha => by simp at ha, fun a ha => by simp at ha, Nat.le_refl _, fun _ _ => rfl, H.out, Chg.refl _ _⟩
  case round =>
    obtain ⟨k, hk, rfl, ls, a', hown, hmade, hpg, hlen, hrise, hT, hcr⟩ := hrel
    have hwr := hcr.size
    have HM := Lib.hid hmade
    have HG := Lib.hid hpg
    have HRI := Lib.hid hrise
    have HC := Lib.hid hcr
    clear hmade hpg hrise hcr
    by_cases hlt : k < P
    · have hkI : (k : Int) < (P : Int) := by omega
      go_wp2_with fail
      refine (next_any hT 3 (by omega) (by omega)).mono ?_
      rintro e w1 ⟨r1, a1, hr1, rfl, hT1, hc1⟩
      have hown1 := rown_chg hown hc1 (fun i hm => by simp only [List.mem_cons, List.not_mem_nil, or_false] at hm; omega)
      have HM1 := Lib.hid (show ∀ a ∈ ls, MadeCh w1 w.heap.size a from fun a ha => (HM.out a ha).chg hc1 (fun i hm => by simp only [List.mem_cons, List.not_mem_nil, or_false] at hm; omega))
      have HC1 := Lib.hid (HC.out.trans hc1)
      have hw1 := hc1.size
      clear hown hc1 hT
      by_cases h0 : r1 = 0
      · subst h0
        go_wp2_with fail
        have hG := Whole.new w1 5 (bts (zeros 64))
        have hal : Chg [] w1 (w1.alloc (.cells (bts (zeros 64)).toArray 5)) := (Chg.refl [] w1).alloc _
        obtain ⟨g, hg⟩ : ∃ g, g = w1.heap.size := ⟨_, rfl⟩
        rw [← hg] at hG
        have hT2 := hT1.keep hal
        have HAL := Lib.hid (hal.sub (T' := [p, g]) (by simp))
        have HGE := Lib.hid hg
        rw [← hg]
        have hgw : w.heap.size ≤ g := by rw [hg]; omega
        clear hal hg hT1
        go_loopw [8] (fun i wx => ∃ q : Nat, q ≤ 4 ∧ i = .int .i64 (q : Int) ∧ (∃ B : List UInt8, B.length = 64 ∧ Whole wx g 5 (bts B)) ∧ (∃ a2, Tp wx p At nt ct lt a2) ∧ Chg [p, g] w1 wx) (fun i _ => 4 - (intOf i).toNat)
        case atStart => exact ⟨0, by omega, rfl, ⟨zeros 64, zeros_len _, hG⟩, ⟨_, hT2⟩, HAL.out⟩
        case round =>
          obtain ⟨q, hq, rfl, ⟨B, hBl, hWB⟩, ⟨a2, hTx⟩, hcx⟩ := hrel
          clear hG hT2
          have HBL := Lib.hid hBl
          have HCX := Lib.hid hcx
          clear hBl hcx
          by_cases hltq : q < 4
          · have hqI : (q : Int) < 4 := by omega
            go_wp2_with fail
            refine (next_any hTx 64 (by omega) (by omega)).mono ?_
            rintro e w3 ⟨r3, a3, hr3, rfl, hT3, hc3⟩
            have hW3 := hWB.chg hc3 (by simp; omega)
            go_wp2_with fail
            refine (next_any hT3 256 (by omega) (by omega)).mono ?_
            rintro e w4 ⟨r4, a4, hr4, rfl, hT4, hc4⟩
            have hW4 := hW3.chg hc4 (by simp; omega)
            have c5 := (hW4.cell r3).trans (bts_get B r3 (by rw [HBL.out]; exact hr3))
            have f5 := hW4.frozen r3
            have hb8 : B8 (UInt8.ofNat r4) = .int .u8 (r4 : Int) := by
              unfold B8; rw [UInt8.toNat_ofNat', Nat.mod_eq_of_lt (by simpa using hr4)]
            have hW5 := hW4.set_ r3 (.int .u8 (r4 : Int))
            rw [← hb8, bts_set, hb8] at hW5
            have hc45 : Chg [p, g] w1 (w4.setCell ⟨g, r3, none⟩ (.int .u8 (r4 : Int))) := ((HCX.out.trans (hc3.sub (by simp))).trans (hc4.sub (by simp))).setCell (by simp) _
            have hT5 : Tp (w4.setCell ⟨g, r3, none⟩ (.int .u8 (r4 : Int))) p At nt ct lt a4 := hT4.other (by show g ≠ p; omega) (fun ad e h0 => by have := hT4.spot h0 ad e; show ad.block ≠ g; omega) _
            have HW5 := Lib.hid hW5
            have HC5 := Lib.hid hc45
            have HT5 := Lib.hid hT5
            have HLB := Lib.hid (show (B.set r3 (UInt8.ofNat r4)).length = 64 by rw [List.length_set]; exact HBL.out)
            clear hW5 hc45 hT5 hc3 hc4 hb8 hW3 hT3 hTx hWB
            go_wp2_with fail
            go_roundw
            case rel => exact ⟨q + 1, by omega, by go_num, ⟨_, HLB.out, HW5.out⟩, ⟨_, HT5.out⟩, HC5.out⟩
            case measure => simp [intOf]; omega
          · have hqI : (4 : Int) ≤ (q : Int) := by omega
            have hex : ∀ i ∈ [p, g], i < w.heap.size ∨ w1.heap.size ≤ i := fun i hm => by
              have := HGE.out
              simp only [List.mem_cons, List.not_mem_nil, or_false] at hm; omega
            have hown2 := rown_chg hown1 HCX.out hex
            have HM2 := Lib.hid (show ∀ a ∈ ls, MadeCh wr w.heap.size a from fun a ha => (HM1.out a ha).chg HCX.out hex)
            have HC2 : Chg [p] w wr := HC1.out.then_ HCX.out (fun i hm hlt => by
              simp only [List.mem_cons, List.not_mem_nil, or_false] at hm ⊢; omega)
            have hnew : MadeCh wr w.heap.size ⟨(k : Int), some ⟨g, 0, none⟩, 64, 64, B⟩ := ⟨⟨g, rfl, hgw, hWB⟩, HBL.out, rfl, rfl, by simp only; omega⟩
            have HNEW := Lib.hid hnew
            have HC3 := Lib.hid HC2
            have HTX := Lib.hid hTx
            obtain ⟨X, hX⟩ : ∃ X, X = chCs ls := ⟨_, rfl⟩
            obtain ⟨N, hN⟩ : ∃ N, N = ls.length := ⟨_, rfl⟩
            rw [← hX, ← hN] at hown2
            rw [← hN] at hlen
            have HX := Lib.hid hX
            have HN := Lib.hid hN
            have hw2 := HC2.size
            clear hX hN HC2 hnew hown1 hWB hTx
            go_wp2_with (first
              | (at_builtin
                 refine wpList_append_own _ rfl (.tmp 29) (.tmp 33) _ rfl w.heap.size 51 i0 _ 2 32 Tryz.underlying52 hi hz0 hz1 hz2 rfl (by decide) _ N X rfl (rown_chg hown2 ((Chg.refl [] wr).alloc _) (by simp)) ⟨wr.heap.size, 0, none⟩ 1 1 [.int .i64 (k : Int), .slice (some ⟨g, 0, none⟩) 64 64] rfl rfl ?c1 ?c2 ?c3 ?c4 ?c5 ?_
                 case c1 => exact cells_page _ _ _
                 case c2 => simp [Value.oneCell']
                 case c3 => simp only [maxLen]; omega
                 case c4 => omega
                 case c5 => simp; omega
                 intro v' w6 hown' hg' _))
            have HAL6 := Lib.hid (rown_chg hown2 ((Chg.refl [] wr).alloc (.cells #[.int .i64 (k : Int), .slice (some ⟨g, 0, none⟩) 64 64] 51)) (by simp))
            go_roundw
            case rel =>
              refine ⟨k + 1, by omega, by go_num, ls ++ [⟨(k : Int), some ⟨g, 0, none⟩, 64, 64, B⟩], a2, ?_, ?_, ?_, ?_, ?_, ?_, ?_⟩
              · rw [chCs_app, chCs_one, ← HX.out, List.length_append, ← HN.out]
                exact hown'
              · intro a ha
                rcases List.mem_append.1 ha with h | h
                · exact ((HM2.out a h).chg ((Chg.refl [] wr).alloc _) (by simp)).grown HAL6.out hg'
                · simp only [List.mem_cons, List.not_mem_nil, or_false] at h
                  subst h
                  exact (HNEW.out.chg ((Chg.refl [] wr).alloc _) (by simp)).grown HAL6.out hg'
              · intro a ha
                rcases List.mem_append.1 ha with h | h
                · have := HG.out a h; omega
                · simp only [List.mem_cons, List.not_mem_nil, or_false] at h
                  subst h
                  show (k : Int) < ((k + 1 : Nat) : Int)
                  omega
              · rw [List.length_append, ← HN.out]; simp only [List.length_cons, List.length_nil]; omega
              · intro P2 hP2
                exact rightS_snoc ls (-1) P2 _ (HRI.out P2 (by omega)) (fun b hb => HG.out b hb) (by show (-1 : Int) < (k : Int); omega) (by show (k : Int) < P2; omega) rfl
              · exact (HTX.out.keep ((Chg.refl [] wr).alloc _)).grown HAL6.out hg' (by decide) (by omega)
              · exact chg_grown2 (HC3.out.alloc _) hg' fun g hgg => (HAL6.out.lt g hgg).1
            case measure => simp [intOf]; omega
      · have h0I : ((r1 : Int) == 0) = false := by simp; omega
        have HO1 := Lib.hid hown1
        have HT1 := Lib.hid hT1
        clear hown1 hT1
        go_wp2_with fail
        go_roundw
        case rel => exact ⟨k + 1, by omega, by go_num, ls, a1, HO1.out, HM1.out, fun a ha => by have := HG.out a ha; omega, by omega, fun P2 hP2 => HRI.out P2 (by omega), HT1.out, HC1.out⟩
        case measure => simp [intOf]; omega
    · obtain rfl : P = k := by omega
      go_wp2_with fail
      go_ret
      exact ⟨_, rfl, ls, a', hown, HM.out, HG.out, hlen, HRI.out, hT, HC.out⟩
end
end Go.Proofs.YtddjgncdjdjgeaaGreat
