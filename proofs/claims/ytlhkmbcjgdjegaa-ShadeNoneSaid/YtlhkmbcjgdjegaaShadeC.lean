/-
  Layer 15: fresh, page, Changes.
-/
import Derived.Test.YtlhkmbcjgdjegaaMadeCh
import Derived.Test.YtlhkmbcjgdjegaaMmMore
import Derived.Test.YtlhkmbcjgdjegaaBEq
import Derived.Test.YtlhkmbcjgdjegaaWaits
namespace Go.Proofs.Ytlhkmbcjgdjegaa
open Go.RowKit
/-- Page i of bytes. -/
def pg (L : List UInt8) (i : Nat) : List UInt8 := (L.drop (i * 64)).take 64
theorem pg_len {L : List UInt8} {i : Nat} (h : (i + 1) * 64 ≤ L.length) : (pg L i).length = 64 := by
  unfold pg; rw [List.length_take, List.length_drop]; omega
/-- Is page i of M as it was in L? -/
def sameP (L M : List UInt8) (i : Nat) : Bool := decide (i < L.length / 64 ∧ pg L i = pg M i)
/-- What of k pages has turned. -/
def chsS (L M : List UInt8) (f : Nat) : Nat → List (Nat × List UInt8)
  | 0 => []
  | k + 1 => chsS L M f k ++ (if sameP L M k then [] else [(f + k, pg M k)])
def Chs2 (ls : List ChV) (cs : List (Nat × List UInt8)) : Prop := ls.map (fun a => (a.page, a.B)) = cs.map (fun c => ((c.1 : Int), c.2))
theorem Chs2.len {ls : List ChV} {cs : List (Nat × List UInt8)} (h : Chs2 ls cs) : ls.length = cs.length := by
  have := congrArg List.length h; simpa using this
theorem Chs2.snoc {ls : List ChV} {cs : List (Nat × List UInt8)} (h : Chs2 ls cs) {a : ChV} {p : Nat} (hp : a.page = (p : Int)) : Chs2 (ls ++ [a]) (cs ++ [(p, a.B)]) := by
  unfold Chs2 at *
  rw [List.map_append, List.map_append, h]; simp [hp]
theorem Chs2.at {ls : List ChV} {cs : List (Nat × List UInt8)} (h : Chs2 ls cs) {k : Nat} {a : ChV} {c : Nat × List UInt8} (ha : ls[k]? = some a) (hc : cs[k]? = some c) : a.page = (c.1 : Int) ∧ a.B = c.2 := by
  have := congrArg (fun l : List (Int × List UInt8) => l[k]?) h
  simp only [List.getElem?_map, ha, hc, Option.map_some] at this
  injection this with this
  injection this with h1 h2
  exact ⟨h1, h2⟩
/-- Changes of the call's own. -/
def ChPost (w : World) (cs : List (Nat × List UInt8)) (e : Ending) (w' : World) : Prop :=
  ∃ v ls, e = .returned v ∧ w'.ownsRow w.heap.size 53 2 v ls.length (chCs ls) ∧ (∀ a ∈ ls, MadeCh w' w.heap.size a) ∧ Chs2 ls cs ∧ Chg [] w w'
theorem MadeCh.more {w : World} {B0 B1 : Nat} {a : ChV} (h : MadeCh w B0 a) (hB : B1 ≤ B0) : MadeCh w B1 a := by
  obtain ⟨g, hg, hb, hW⟩ := h.b
  exact { h with b := ⟨g, hg, Nat.le_trans hB hb, hW⟩ }
theorem rown_more {w : World} {B B' n k : Nat} {e : TypeId} {v : Value} {xs : List Value} (h : w.ownsRow B e k v n xs) (hB : B' ≤ B) : w.ownsRow B' e k v n xs := by
  refine ⟨h.1, h.2.imp id ?_⟩
  rintro ⟨g, cap, cur, rfl, hb, r⟩
  exact ⟨g, cap, cur, rfl, Nat.le_trans hB hb, r⟩
section
variable {w : World} {A : Option Addr} {n c : Nat} {l : List UInt8}
set_option maxHeartbeats 400000 in
theorem shfresh_any (h : Bs w A n c l) (hn : n ≤ 1000000) :
    Calls Try.prog 65 #[.slice A n c] w fun e w' => e = .returned (.slice (some ⟨w.heap.size, 0, none⟩) n n) ∧ Whole w' w.heap.size 5 (bts l) ∧ Chg [] w w' := by
  have hl : (bts l).length = n := by rw [bts_len, h.len]
  have hs := h.src
  have h1 := bts_one l
  generalize bts l = xs at hl hs h1
  have hmk := make_u8 n hn
  go_enter Try.func65, Try.ntmps65
  go_wp2_with (first
    | (with_reducible refine wpList_copy_splice rfl (.tmp 7) (.tmp 8) _ _ rfl 5 Try.underlying22 size_u8 (some ⟨w.heap.size, 0, none⟩) A n n n c rfl rfl w.heap.size 0 (bts (zeros n)) 5 ?c1 xs ?c2 ?c3 ?c4 h1 w.heap.size w ?c5 (Nat.le_refl _) ?_
       case c1 => exact heap_alloc_new w _
       case c2 => simp [hl]
       case c3 =>
         intro hp
         obtain ⟨ad, e, _, hx⟩ := (hs.keep ((Chg.refl [] w).alloc _)) hp
         exact ⟨rfl, ad, e, hx⟩
       case c4 => simp [hl, bts_len, zeros_len]
       case c5 => exact (Below.refl _ _).alloc (Nat.le_refl _) _
       intro w1 HG hB))
  go_ret
  have HG' := HG.out
  rw [splice_all _ _ (by simp [hl, bts_len, zeros_len])] at HG'
  exact ⟨rfl, HG', Chg.of_below hB⟩
set_option maxHeartbeats 400000 in
theorem shpage_any (h : Bs w A n c l) (i : Nat) (hi : (i + 1) * 64 ≤ n) (hn : n ≤ 1000000) :
    Calls Try.prog 66 #[.slice A n c, .int .i64 (i : Int)] w fun e w' => ∃ A' c', e = .returned (.slice A' 64 c') ∧ Bs w A' 64 c' (pg l i) ∧ w = w' := by
  have hcut := h.cut (lo := i * 64) (hi := (i + 1) * 64) (by omega) hi
  have e64 : (i + 1) * 64 - i * 64 = 64 := by omega
  rw [e64] at hcut
  have hne : ¬ c = i * 64 := by have := h.cap; omega
  rw [if_neg hne] at hcut
  have hc := h.cap
  obtain ⟨ad, hA⟩ : ∃ ad, A = some ad := by
    obtain ⟨ad, e, _⟩ := h.src (by rw [bts_len, h.len]; omega)
    exact ⟨ad, e⟩
  have hsp := h.spot (by omega)
  subst hA
  obtain ⟨b, o, s⟩ := ad
  obtain rfl : s = none := hsp _ rfl
  rw [Option.map_some, add_plain] at hcut
  have HC := Lib.hid hcut
  have H64 := Lib.hid e64
  clear hcut e64
  go_enter Try.func66, Try.ntmps66
  go_wp2_with fail
  go_ret
  exact ⟨_, _, by rw [H64.out]; rfl, HC.out, rfl⟩
end
section
variable {w : World} {p gC gD p2 gC2 gD2 : Nat} {L L2 : List UInt8} {X X2 : List Value} {V V2 : List Bool} {Y Y2 : List Value} {most most2 : Nat}
set_option maxHeartbeats 2000000 in
set_option maxRecDepth 100000 in
theorem shchanges_any (h : Mm w p gC gD L X V Y most) (h2 : Mm w p2 gC2 gD2 L2 X2 V2 Y2 most2) (f : Nat) (hf : f ≤ 60000) :
    Calls Try.prog 30 #[.pointer (some ⟨p, 0, none⟩), .pointer (some ⟨p2, 0, none⟩), .int .i64 (f : Int)] w (ChPost w (chsS L L2 f V2.length)) := by
  obtain ⟨i0, hi, hz0, hz1, hz2⟩ := info_parts info_change
  have HM := Lib.hid h
  have HM2 := Lib.hid h2
  have HL := Lib.hid (show L.length = 64 * V.length ∧ V.length ≤ 64 from ⟨h.len, h.smallV⟩)
  have HL2 := Lib.hid (show L2.length = 64 * V2.length from h2.len)
  have hV2 := h2.smallV
  clear h h2
  go_enter Try.func30, Try.ntmps30
  go_wp2_with fail
  refine (mbytes_any HM.out).mono ?_
  rintro e w1 ⟨v1, rfl, ho1, hc1⟩
  obtain ⟨A1, c1, rfl, hB1, _⟩ := Bs.of_own ho1
  have HB1 := Lib.hid hB1
  have HC1 := Lib.hid hc1
  clear ho1 hB1 hc1
  go_wp2_with fail
  refine (mbytes_any (HM2.out.keep HC1.out)).mono ?_
  rintro e w2 ⟨v2, rfl, ho2, hc2⟩
  obtain ⟨A2, c2, rfl, hB2, _⟩ := Bs.of_own ho2
  have HB2 := Lib.hid hB2
  have HB1' := Lib.hid (HB1.out.keep hc2)
  have HC2 := Lib.hid (HC1.out.new hc2)
  clear ho2 hB2 hc2
  go_wp2_with fail
  refine (pages_any (HM2.out.keep HC2.out)).mono ?_
  rintro e w' ⟨rfl, rfl⟩
  go_wp2_with fail
  go_loopw [9, 24] (fun v i wr => ∃ (k : Nat) (ls : List ChV), k ≤ V2.length ∧ i = .int .i64 (k : Int) ∧ ls.length ≤ k ∧ wr.ownsRow w2.heap.size 53 2 v ls.length (chCs ls) ∧ Hid (∀ a ∈ ls, MadeCh wr w2.heap.size a) ∧ Hid (Chs2 ls (chsS L L2 f k)) ∧ Hid (Chg [] w2 wr)) (fun _ i _ => V2.length - (intOf i).toNat)
  case atStart => exact ⟨0, [], Nat.zero_le _, rfl, Nat.le_refl _, World.ownsRow_nil _ _ _ _, Lib.hid (by simp), Lib.hid rfl, Lib.hid (Chg.refl _ _)⟩
  case round =>
    obtain ⟨k, ls, hk, rfl, hlen, hown, HMade, HCs, HCr⟩ := hrel
    by_cases hlt : k < V2.length
    · have hkI : (k : Int) < (V2.length : Int) := by omega
      have hk2 : (k + 1) * 64 ≤ L2.length := by rw [HL2.out]; omega
      go_wp2_with fail
      refine (shpage_any (HB2.out.keep HCr.out) k hk2 (by rw [HL2.out]; omega)).mono ?_
      rintro e w' ⟨A3, c3, rfl, hB3, rfl⟩
      have HB3 := Lib.hid hB3
      clear hB3
      go_wp2_with fail
      refine (pages_any (HM.out.keep (HC2.out.new HCr.out))).mono ?_
      rintro e w' ⟨rfl, rfl⟩
      by_cases hkv : k < V.length
      · have hkvI : (k : Int) < (V.length : Int) := by omega
        go_wp2_with fail
        refine (shpage_any (HB1'.out.keep HCr.out) k (by have := HL.out; omega) (by have := HL.out; omega)).mono ?_
        rintro e w' ⟨A4, c4, rfl, hB4, rfl⟩
        go_wp2_with fail
        refine (bequal_any hB4 HB3.out).mono ?_
        rintro e w' ⟨rfl, rfl⟩
        by_cases heq : pg L k = pg L2 k
        · have hde : decide (pg L k = pg L2 k) = true := decide_eq_true heq
          have HS := Lib.hid (show chsS L L2 f (k + 1) = chsS L L2 f k by rw [chsS, show sameP L L2 k = true from decide_eq_true ⟨by have := HL.out; omega, heq⟩]; simp)
          rw [hde]
          clear heq hde hB4
          go_wp2_with fail
          go_roundw
          case rel => exact ⟨k + 1, ls, by omega, by go_num, by omega, hown, HMade, Lib.hid (by rw [HS.out]; exact HCs.out), HCr⟩
          case measure => simp [intOf]; omega
        · have hde : decide (pg L k = pg L2 k) = false := decide_eq_false heq
          have hsame : sameP L L2 k = false := decide_eq_false (fun h => heq h.2)
          rw [hde]
          clear heq hde hB4
          go_wp2_with fail
          refine (shfresh_any HB3.out (by omega)).mono ?_
          rintro e w5 ⟨rfl, hW5, hc5⟩
          obtain ⟨g, hg⟩ : ∃ g, g = wr.heap.size := ⟨_, rfl⟩
          rw [← hg] at hW5 ⊢
          have hB0 := HCr.out.size
          have hnew : MadeCh w5 w2.heap.size ⟨((f + k : Nat) : Int), some ⟨g, 0, none⟩, 64, 64, pg L2 k⟩ := ⟨⟨g, rfl, by omega, hW5⟩, pg_len hk2, rfl, rfl, by simp only; omega⟩
          have HN5 := Lib.hid hnew
          have HM5 := Lib.hid (show ∀ a ∈ ls, MadeCh w5 w2.heap.size a from fun a ha => (HMade.out a ha).chg hc5 (by simp))
          have hown5 := rown_chg hown hc5 (by simp)
          have HC5 := Lib.hid (HCr.out.new hc5)
          have HS := Lib.hid (show chsS L L2 f (k + 1) = chsS L L2 f k ++ [(f + k, pg L2 k)] by rw [chsS, hsame]; rfl)
          obtain ⟨X, hX⟩ : ∃ X, X = chCs ls := ⟨_, rfl⟩
          obtain ⟨N, hN⟩ : ∃ N, N = ls.length := ⟨_, rfl⟩
          rw [← hX, ← hN] at hown5
          rw [← hN] at hlen
          have HX := Lib.hid hX
          have HN := Lib.hid hN
          have hw5 := HC5.out.size
          have HFK := Lib.hid (show (f : Int) + (k : Int) = ((f + k : Nat) : Int) by omega)
          clear hX hN hown hnew hW5 hc5 hB0 hg hsame
          go_wp2_with (first
            | (at_builtin
               refine wpList_append_own _ rfl (.tmp 41) (.tmp 48) _ rfl w2.heap.size 53 i0 _ 2 32 Try.underlying47 hi hz0 hz1 hz2 rfl (by decide) _ N X rfl (rown_chg hown5 ((Chg.refl [] w5).alloc _) (by simp)) ⟨w5.heap.size, 0, none⟩ 1 1 [.int .i64 ((f : Int) + (k : Int)), .slice (some ⟨g, 0, none⟩) 64 64] rfl rfl ?c1 ?c2 ?c3 ?c4 ?c5 ?_
               case c1 => exact cells_page _ _ _
               case c2 => simp [Value.oneCell']
               case c3 => simp only [maxLen]; omega
               case c4 => omega
               case c5 => simp; omega
               intro v' w6 hown' hg' _))
          have HAL6 := Lib.hid (rown_chg hown5 ((Chg.refl [] w5).alloc (.cells #[.int .i64 ((f : Int) + (k : Int)), .slice (some ⟨g, 0, none⟩) 64 64] 53)) (by simp))
          have hc6 : Chg [] w2 w6 := chg_grown (HC5.out.alloc _) hg' fun g hgg => (HAL6.out.lt g hgg).1
          go_roundw
          case rel =>
            refine ⟨k + 1, ls ++ [⟨((f + k : Nat) : Int), some ⟨g, 0, none⟩, 64, 64, pg L2 k⟩], by omega, by go_num, ?_, ?_, Lib.hid ?_, Lib.hid ?_, Lib.hid hc6⟩
            · rw [List.length_append, ← HN.out]; simp; omega
            · rw [chCs_app, chCs_one, ← HX.out, List.length_append, ← HN.out]
              rw [HFK.out] at hown'
              exact hown'
            · intro a ha
              rcases List.mem_append.1 ha with h | h
              · exact ((HM5.out a h).chg ((Chg.refl [] w5).alloc _) (by simp)).grown HAL6.out hg'
              · simp only [List.mem_cons, List.not_mem_nil, or_false] at h
                subst h
                exact (HN5.out.chg ((Chg.refl [] w5).alloc _) (by simp)).grown HAL6.out hg'
            · rw [HS.out]
              exact HCs.out.snoc (a := ⟨((f + k : Nat) : Int), some ⟨g, 0, none⟩, 64, 64, pg L2 k⟩) rfl
          case measure => simp [intOf]; omega
      · have hkvI : ¬ (k : Int) < (V.length : Int) := by omega
        have hsame : sameP L L2 k = false := decide_eq_false (fun h => by have := HL.out; omega)
        go_wp2_with fail
        refine (shfresh_any HB3.out (by omega)).mono ?_
        rintro e w5 ⟨rfl, hW5, hc5⟩
        obtain ⟨g, hg⟩ : ∃ g, g = wr.heap.size := ⟨_, rfl⟩
        rw [← hg] at hW5 ⊢
        have hB0 := HCr.out.size
        have hnew : MadeCh w5 w2.heap.size ⟨((f + k : Nat) : Int), some ⟨g, 0, none⟩, 64, 64, pg L2 k⟩ := ⟨⟨g, rfl, by omega, hW5⟩, pg_len hk2, rfl, rfl, by simp only; omega⟩
        have HN5 := Lib.hid hnew
        have HM5 := Lib.hid (show ∀ a ∈ ls, MadeCh w5 w2.heap.size a from fun a ha => (HMade.out a ha).chg hc5 (by simp))
        have hown5 := rown_chg hown hc5 (by simp)
        have HC5 := Lib.hid (HCr.out.new hc5)
        have HS := Lib.hid (show chsS L L2 f (k + 1) = chsS L L2 f k ++ [(f + k, pg L2 k)] by rw [chsS, hsame]; rfl)
        obtain ⟨X, hX⟩ : ∃ X, X = chCs ls := ⟨_, rfl⟩
        obtain ⟨N, hN⟩ : ∃ N, N = ls.length := ⟨_, rfl⟩
        rw [← hX, ← hN] at hown5
        rw [← hN] at hlen
        have HX := Lib.hid hX
        have HN := Lib.hid hN
        have hw5 := HC5.out.size
        have HFK := Lib.hid (show (f : Int) + (k : Int) = ((f + k : Nat) : Int) by omega)
        clear hX hN hown hnew hW5 hc5 hB0 hg hsame
        go_wp2_with (first
          | (at_builtin
             refine wpList_append_own _ rfl (.tmp 41) (.tmp 48) _ rfl w2.heap.size 53 i0 _ 2 32 Try.underlying47 hi hz0 hz1 hz2 rfl (by decide) _ N X rfl (rown_chg hown5 ((Chg.refl [] w5).alloc _) (by simp)) ⟨w5.heap.size, 0, none⟩ 1 1 [.int .i64 ((f : Int) + (k : Int)), .slice (some ⟨g, 0, none⟩) 64 64] rfl rfl ?c1 ?c2 ?c3 ?c4 ?c5 ?_
             case c1 => exact cells_page _ _ _
             case c2 => simp [Value.oneCell']
             case c3 => simp only [maxLen]; omega
             case c4 => omega
             case c5 => simp; omega
             intro v' w6 hown' hg' _))
        have HAL6 := Lib.hid (rown_chg hown5 ((Chg.refl [] w5).alloc (.cells #[.int .i64 ((f : Int) + (k : Int)), .slice (some ⟨g, 0, none⟩) 64 64] 53)) (by simp))
        have hc6 : Chg [] w2 w6 := chg_grown (HC5.out.alloc _) hg' fun g hgg => (HAL6.out.lt g hgg).1
        go_roundw
        case rel =>
          refine ⟨k + 1, ls ++ [⟨((f + k : Nat) : Int), some ⟨g, 0, none⟩, 64, 64, pg L2 k⟩], by omega, by go_num, ?_, ?_, Lib.hid ?_, Lib.hid ?_, Lib.hid hc6⟩
          · rw [List.length_append, ← HN.out]; simp; omega
          · rw [chCs_app, chCs_one, ← HX.out, List.length_append, ← HN.out]
            rw [HFK.out] at hown'
            exact hown'
          · intro a ha
            rcases List.mem_append.1 ha with h | h
            · exact ((HM5.out a h).chg ((Chg.refl [] w5).alloc _) (by simp)).grown HAL6.out hg'
            · simp only [List.mem_cons, List.not_mem_nil, or_false] at h
              subst h
              exact (HN5.out.chg ((Chg.refl [] w5).alloc _) (by simp)).grown HAL6.out hg'
          · rw [HS.out]
            exact HCs.out.snoc (a := ⟨((f + k : Nat) : Int), some ⟨g, 0, none⟩, 64, 64, pg L2 k⟩) rfl
        case measure => simp [intOf]; omega
    · have hge : ¬ (k : Int) < (V2.length : Int) := by omega
      have HK := Lib.hid (show k = V2.length by omega)
      clear hlt
      go_wp2_with fail
      go_ret
      refine ⟨_, ls, rfl, rown_more hown HC2.out.size, fun a ha => (HMade.out a ha).more HC2.out.size, ?_, HC2.out.new HCr.out⟩
      rw [← HK.out]; exact HCs.out
set_option maxHeartbeats 400000 in
theorem shchanges_nil (p2 : Option Addr) (f : Int) : Calls Try.prog 30 #[.pointer none, .pointer p2, .int .i64 f] w fun e w' => e = .returned (.slice none 0 0) ∧ w = w' := by
  go_enter Try.func30, Try.ntmps30
  go_wp2_with fail
  go_ret
  exact ⟨rfl, rfl⟩
end
end Go.Proofs.Ytlhkmbcjgdjegaa
