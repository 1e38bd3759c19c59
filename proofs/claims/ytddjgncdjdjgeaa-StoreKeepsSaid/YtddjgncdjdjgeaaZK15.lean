/-
  K: DeltaRead.
-/
import Derived.Test.YtddjgncdjdjgeaaZK11
import Derived.Laws.CopyOwn
namespace Go.Proofs.Ytddjgncdjdjgeaa
open Go.RowKit
theorem size_byte4 : (Try.prog.info? 5).map (·.size) = some 1 := by kernel_rfl
/-- The k-th change that the bytes b say. -/
def chOf (b : List UInt8) (k : Nat) : ChV := ⟨(num2 (b.drop (2 + k * 66)) : Nat), none, 64, 64, (b.drop (2 + k * 66 + 2)).take 64⟩
def chsOf (b : List UInt8) (k : Nat) : List ChV := (List.range k).map (chOf b)
theorem chsOf_next (b : List UInt8) (k : Nat) : chsOf b (k + 1) = chsOf b k ++ [chOf b k] := by simp [chsOf, List.range_succ]
theorem chsOf_len (b : List UInt8) (k : Nat) : (chsOf b k).length = k := by simp [chsOf]
/-- The same page, the same bytes, as long. -/
def asC (l m : List ChV) : Prop := l.map keyC = m.map keyC ∧ ∀ (i : Nat) (a b : ChV), l[i]? = some a → m[i]? = some b → a.page = b.page ∧ a.bn = b.bn
theorem asC_nil : asC [] [] := ⟨rfl, fun i a b h => by simp at h⟩
theorem asC_snoc {l m : List ChV} {a b : ChV} (h : asC l m) (hk : keyC a = keyC b) (hb : a.bn = b.bn) : asC (l ++ [a]) (m ++ [b]) := by
  have hlen : l.length = m.length := by have := congrArg List.length h.1; simpa using this
  refine ⟨by simp [h.1, hk], fun i x y hx hy => ?_⟩
  rcases Nat.lt_trichotomy i l.length with hi | hi | hi
  · rw [List.getElem?_append_left hi] at hx
    rw [List.getElem?_append_left (by omega)] at hy
    exact h.2 i x y hx hy
  · subst hi
    rw [List.getElem?_concat_length] at hx
    rw [hlen, List.getElem?_concat_length] at hy
    cases hx
    cases hy
    exact ⟨by injection hk, hb⟩
  · rw [List.getElem?_eq_none (by simp; omega)] at hx
    cases hx
theorem asC_right : ∀ {l m : List ChV} (_ : l.length = m.length) (_ : ∀ (i : Nat) (a b : ChV), l[i]? = some a → m[i]? = some b → a.page = b.page ∧ a.bn = b.bn) (last P : Int), rightS last P l = rightS last P m
  | [], [], _, _, _, _ => rfl
  | [], b :: m, h, _, _, _ => by simp at h
  | a :: l, [], h, _, _, _ => by simp at h
  | a :: l, b :: m, h, hx, last, P => by
    obtain ⟨h1, h2⟩ := hx 0 a b rfl rfl
    unfold rightS
    rw [h1, h2, asC_right (by simpa using h) (fun i x y hi hj => hx (i + 1) x y (by simpa using hi) (by simpa using hj)) b.page P]
theorem asC_rightB {l m : List ChV} (h : asC l m) (P : Int) : rightB P l = rightB P m := by
  unfold rightB
  rw [asC_right (by have := congrArg List.length h.1; simpa using this) h.2]
/-- What Read answers, with rows of the call's own. -/
def DReadOwn (b : List UInt8) (P : Int) (w : World) (e : Ending) (w' : World) : Prop :=
  (2 ≤ b.length ∧ b.length = 2 + num2 b * 66 ∧ rightB P (chsOf b (num2 b)) = true ∧ ∃ v ls, e = .returned (.tuple #[v, .bool true]) ∧ w'.ownsRow w.heap.size 78 2 v (num2 b) (chCs ls) ∧ (∀ a ∈ ls, RMade w' w.heap.size a) ∧ ls.length = num2 b ∧ asC ls (chsOf b (num2 b)) ∧ Chg [] w w') ∨
  (¬ (2 ≤ b.length ∧ b.length = 2 + num2 b * 66 ∧ rightB P (chsOf b (num2 b)) = true) ∧ e = .returned (.tuple #[.slice none 0 0, .bool false]) ∧ Chg [] w w')
/-- What Read answers. -/
def DReadPost (b : List UInt8) (P : Int) (w : World) (e : Ending) (w' : World) : Prop :=
  (2 ≤ b.length ∧ b.length = 2 + num2 b * 66 ∧ rightB P (chsOf b (num2 b)) = true ∧ ∃ A c ls, e = .returned (.tuple #[.slice A (num2 b) c, .bool true]) ∧ Chs w' A ls ∧ ls.length = num2 b ∧ asC ls (chsOf b (num2 b)) ∧ Chg [] w w') ∨
  (¬ (2 ≤ b.length ∧ b.length = 2 + num2 b * 66 ∧ rightB P (chsOf b (num2 b)) = true) ∧ e = .returned (.tuple #[.slice none 0 0, .bool false]) ∧ Chg [] w w')
theorem DReadOwn.post {b : List UInt8} {P : Int} {w : World} {e : Ending} {w' : World} (h : DReadOwn b P w e w') : DReadPost b P w e w' := by
  rcases h with ⟨h1, h2, h3, v, ls, rfl, ho, hm, hl, ha, hc⟩ | h
  · obtain ⟨A, c, rfl, _, hch, _⟩ := chs_own' ho (fun a ha => (hm a ha).ok)
    exact .inl ⟨h1, h2, h3, A, c, ls, rfl, hch, hl, ha, hc⟩
  · exact .inr h
theorem num2_lt (l : List UInt8) : num2 l < 65536 := by
  unfold num2
  have h1 := (l.getD 0 0).toNat_lt
  have h2 := (l.getD 1 0).toNat_lt
  omega
theorem make_changes (n : Nat) (hn : n < 65536) (W : World) : ∃ o : Array Value, o.size = n * 2 ∧ (Instr.makeSlice 39 (.int .i64 0) (.int .i64 (n : Int))).run Try.prog W = .ok (.slice (some ⟨W.heap.size, 0, none⟩) 0 n) (W.alloc (.cells o 78)) := by
  obtain ⟨i, hi, hz, hs1, hb⟩ := info_parts info_change
  have h := run_make (P := Try.prog) W 39 78 i _ Try.underlying39 hi hz .i64 .i64 0 (n : Int) (by omega) (by omega) (by rw [hb]; omega) (by omega)
  rw [hs1] at h
  exact ⟨_, size_madeCells _ _, by simpa using h⟩
/-- What Read has made so far. -/
def ReadSo (b : List UInt8) (w wr : World) (v : Value) (k : Nat) : Prop :=
  ∃ ls : List ChV, wr.ownsRow w.heap.size 78 2 v k (chCs ls) ∧ (∀ a ∈ ls, MadeCh wr w.heap.size a) ∧ asC ls (chsOf b k) ∧ Chg [] w wr
section
variable {w : World} {A : Option Addr} {n c : Nat}
set_option maxHeartbeats 8000000 in
set_option maxRecDepth 100000 in
theorem dread_own {b : List UInt8} (h : Bs w A n c b) (P : Int) :
    Calls Try.prog 70 #[.slice A n c, .int .i64 P] w (DReadOwn b P w) := by
  obtain ⟨i0, hi, hz0, hz1, hz2⟩ := info_parts info_change
  have hlen := h.len
  have hcap := h.cap
  have hmax := h.max
  have H := Lib.hid h
  have HLN := Lib.hid hlen
  clear h hlen
  by_cases h2 : n < 2
  · have HNO := Lib.hid (show ¬ (2 ≤ b.length ∧ b.length = 2 + num2 b * 66 ∧ rightB P (chsOf b (num2 b)) = true) from fun h => by have := HLN.out; omega)
    have hd : decide ((n : Int) < 2) = true := by simp; omega
    go_enter Try.func70, Try.ntmps70
    go_wp2_with fail
    go_ret2
    exact .inr ⟨HNO.out, rfl, Chg.refl _ _⟩
  · have hd : decide ((n : Int) < 2) = false := by simp; omega
    obtain ⟨N, hN⟩ : ∃ N, N = num2 b := ⟨_, rfl⟩
    have hN6 : N < 65536 := by rw [hN]; exact num2_lt b
    have HN := Lib.hid hN
    clear hN
    go_enter Try.func70, Try.ntmps70
    go_wp2_with fail
    refine (dget_any H.out (by omega)).mono ?_
    rintro e w1 ⟨rfl, hc1⟩
    rw [← HN.out]
    have H1 := Lib.hid (H.out.keep hc1)
    have HC1 := Lib.hid hc1
    clear hc1
    by_cases h66 : n = 2 + N * 66
    · obtain ⟨o, ho, hmk⟩ := make_changes N hN6 w1
      have hnI : (n : Int) = 2 + (N : Int) * 66 := by omega
      have hb1 : ((n : Int) == 2 + (N : Int) * 66) = true := by simp; omega
      have HO := Lib.hid ho
      clear ho
      have hmkp := make_page
      have hb2 : (!((n : Int) == 2 + (N : Int) * 66)) = false := by rw [hb1]; rfl
      have hb3 : ((n : Int) != 2 + (N : Int) * 66) = false := by simp; omega
      have H66 := Lib.hid h66
      clear hnI h66
      go_wp2_with fail
      have hown0 : (w1.alloc (.cells o 78)).ownsRow w.heap.size 78 2 (.slice (some ⟨w1.heap.size, 0, none⟩) 0 N) 0 (chCs []) :=
        ⟨rfl, .inr ⟨_, _, o, rfl, HC1.out.size, heap_alloc_new w1 _, Nat.zero_le _, by unfold maxLen; omega, HO.out, by simp [chCs]⟩⟩
      have hc2 : Chg [] w (w1.alloc (.cells o 78)) := HC1.out.alloc _
      go_loopw [7, 8] (fun v i wr => ∃ (k t : Nat), k ≤ N ∧ i = .int .i64 (t : Int) ∧ Hid (t = 2 + k * 66) ∧ ReadSo b w wr v k) (fun _ i _ => n - (intOf i).toNat)
      case atStart => exact ⟨0, 2, Nat.zero_le _, rfl, Lib.hid rfl, [], hown0, fun a ha => by simp at ha, asC_nil, hc2⟩
      case round =>
        obtain ⟨k, t, hk, rfl, HT, ls, hown, hmade, has, hcr⟩ := hrel
        have hwr := hcr.size
        have HM := Lib.hid hmade
        have HAS := Lib.hid has
        have HC := Lib.hid hcr
        have HB := Lib.hid (H.out.keep hcr)
        clear hown0 hc2 hmade has hcr
        by_cases hlt : k < N
        · have ht66 : t + 66 ≤ n := by have := HT.out; have := H66.out; omega
          have htI : (t : Int) < (n : Int) := by omega
          have htc : ¬ c = t := by omega
          have htc2 : ¬ c = t + 2 := by omega
          obtain ⟨ad, rfl, _, _⟩ := HB.out.src (by rw [bts_len, HLN.out]; omega)
          obtain ⟨b0, o0, s0⟩ := ad
          obtain rfl : s0 = none := HB.out.spot (by omega) _ rfl
          have hcut2 := HB.out.cut (lo := t + 2) (hi := n) (by omega) (Nat.le_refl _)
          have hcut1 := HB.out.cut (lo := t) (hi := n) (by omega) (Nat.le_refl _)
          rw [if_neg htc2, Option.map_some, add_plain] at hcut2
          rw [if_neg htc, Option.map_some, add_plain] at hcut1
          have e2 : (b.drop (t + 2)).take (n - (t + 2)) = b.drop (t + 2) := List.take_of_length_le (by rw [List.length_drop, HLN.out]; exact Nat.le_refl _)
          have e1 : (b.drop t).take (n - t) = b.drop t := List.take_of_length_le (by rw [List.length_drop, HLN.out]; exact Nat.le_refl _)
          rw [e2] at hcut2
          rw [e1] at hcut1
          obtain ⟨Y, hY⟩ : ∃ Y, Y = (b.drop (t + 2)).take 64 := ⟨_, rfl⟩
          have hYl : Y.length = 64 := by rw [hY, List.length_take, List.length_drop, HLN.out]; omega
          have hsY : Src wr (some ⟨b0, o0 + (t + 2), none⟩) (bts Y) := by
            have := (hcut2.take (m := 64) (by omega)).src
            rwa [← hY] at this
          have HY := Lib.hid hY
          have HCUT := Lib.hid hcut1
          have hYn := Lib.hid (show (bts Y).length = Nat.min (n - (t + 2)) 64 by rw [bts_len, hYl]; show 64 = min _ _; omega)
          have hYf := Lib.hid (show 0 + (bts Y).length ≤ (bts (zeros 64)).length by rw [bts_len, bts_len, hYl, zeros_len]; omega)
          have hYs := Lib.hid (show splice (bts (zeros 64)) 0 (bts Y) = bts Y from splice_all _ _ (by rw [bts_len, bts_len, hYl, zeros_len]))
          have HYL := Lib.hid hYl
          have HSY := Lib.hid (hsY.keep ((Chg.refl [] wr).alloc (.cells (bts (zeros 64)).toArray 5)))
          have hsub : ((t : Int) + 2).toNat = t + 2 := by omega
          clear hY hYl hsY hcut1 hcut2 e1 e2
          go_wp2_with (with_reducible refine wpList_copy_chg rfl (.tmp 30) (.tmp 34) _ _ rfl 5 Try.underlying44 size_byte4 (some ⟨wr.heap.size, 0, none⟩) (some ⟨b0, o0 + (t + 2), none⟩) 64 64 (n - (t + 2)) (c - (t + 2)) rfl rfl wr.heap.size 0 5 (bts (zeros 64)) (bts Y) (Whole.new wr _ _) hYn.out (fun _ => rfl) HSY.out hYf.out (bts_one _) ?_
                       intro w3 hW3 hc3
                       rw [hYs.out] at hW3)
          have hpg := num2_lt (b.drop t)
          have HW3 := Lib.hid hW3
          have hcg := (Chg.refl [] wr).alloc (.cells (bts (zeros 64)).toArray 5)
          have hc3' : Chg [] wr w3 := hcg.then_ hc3 (fun i hm hlt => by simp only [List.mem_cons, List.not_mem_nil, or_false] at hm; omega)
          have HC3 := Lib.hid hc3'
          have hw3 := hc3'.size
          clear hW3 hc3 hcg hc3'
          go_wp2_with fail
          refine (dget_any (HCUT.out.keep HC3.out) (by omega)).mono ?_
          rintro e w4 ⟨rfl, hc4⟩
          have hown4 := rown_chg (rown_chg hown HC3.out (by simp)) hc4 (by simp)
          have HM4 := Lib.hid (show ∀ a ∈ ls, MadeCh w4 w.heap.size a from fun a ha => ((HM.out a ha).chg HC3.out (by simp)).chg hc4 (by simp))
          have hnew : MadeCh w4 w.heap.size ⟨(num2 (b.drop t) : Nat), some ⟨wr.heap.size, 0, none⟩, 64, 64, Y⟩ := ⟨⟨_, rfl, hwr, HW3.out.keep hc4⟩, HYL.out, rfl, rfl, by simp only; omega⟩
          have HNEW := Lib.hid hnew
          have HC4 := Lib.hid ((HC.out.new HC3.out).new hc4)
          have hw4 := hc4.size
          obtain ⟨X, hX⟩ : ∃ X, X = chCs ls := ⟨_, rfl⟩
          rw [← hX] at hown4
          have HX := Lib.hid hX
          obtain ⟨pg, hpgq⟩ : ∃ pg, pg = num2 (b.drop t) := ⟨_, rfl⟩
          rw [← hpgq]
          have HPG := Lib.hid hpgq
          clear hX hc4 hnew hpgq hown
          go_wp2_with (first
            | (at_builtin
               refine wpList_append_own _ rfl (.tmp 36) (.tmp 43) _ rfl w.heap.size 78 i0 _ 2 32 Try.underlying39 hi hz0 hz1 hz2 rfl (by decide) _ k X rfl (rown_chg hown4 ((Chg.refl [] w4).alloc _) (by simp)) ⟨w4.heap.size, 0, none⟩ 1 1 [.int .i64 (pg : Int), .slice (some ⟨wr.heap.size, 0, none⟩) 64 64] rfl rfl ?c1 ?c2 ?c3 ?c4 ?c5 ?_
               case c1 => exact cells_page _ _ _
               case c2 => simp [Value.oneCell']
               case c3 => simp only [maxLen]; omega
               case c4 => omega
               case c5 => simp; omega
               intro v' w6 hown' hg' _))
          have HAL6 := Lib.hid (rown_chg hown4 ((Chg.refl [] w4).alloc (.cells #[.int .i64 (pg : Int), .slice (some ⟨wr.heap.size, 0, none⟩) 64 64] 78)) (by simp))
          go_roundw
          case rel =>
            refine ⟨k + 1, t + 66, by omega, by go_num, Lib.hid (by have := HT.out; omega), ls ++ [⟨(num2 (b.drop t) : Nat), some ⟨wr.heap.size, 0, none⟩, 64, 64, Y⟩], ?_, ?_, ?_, ?_⟩
            · rw [chCs_app, chCs_one, ← HX.out, ← HPG.out]
              exact hown'
            · intro a ha
              rcases List.mem_append.1 ha with h | h
              · exact ((HM4.out a h).chg ((Chg.refl [] w4).alloc _) (by simp)).grown HAL6.out hg'
              · simp only [List.mem_cons, List.not_mem_nil, or_false] at h
                subst h
                exact (HNEW.out.chg ((Chg.refl [] w4).alloc _) (by simp)).grown HAL6.out hg'
            · rw [chsOf_next]
              refine asC_snoc HAS.out ?_ rfl
              unfold keyC chOf
              rw [HY.out, HT.out]
            · exact chg_grown2 (HC4.out.alloc _) hg' fun g hgg => (HAL6.out.lt g hgg).1
          case measure => simp [intOf]; omega
        · obtain rfl : N = k := by omega
          have htI : (n : Int) ≤ (t : Int) := by have := HT.out; have := H66.out; omega
          have HOWN := Lib.hid hown
          obtain ⟨A5, c5, rfl, hll, hch, hm5, hnc5, _⟩ := chs_own hown HM.out
          have HLL := Lib.hid hll
          have HCH := Lib.hid hch
          clear hll hch hown
          cases hr : rightB P (chsOf b N) with
          | true =>
            have HR := Lib.hid hr
            have hrr : rightB P ls = true := by rw [asC_rightB HAS.out P, hr]
            clear hr
            go_wp2_with fail
            refine (right_any HCH.out HLL.out hm5 P).mono ?_
            rintro e w7 ⟨rfl, hc7⟩
            rw [hrr]
            clear hrr
            go_wp2_with fail
            go_ret2
            refine .inl ⟨by have := HLN.out; omega, by have := HLN.out; have := H66.out; have := HN.out; omega, ?_, _, ls, rfl, ?_, fun a ha => ((HM.out a ha).rmade).chg hc7 (by simp), ?_, ?_, HC.out.new hc7⟩
            · rw [← HN.out]; exact HR.out
            · rw [← HN.out]; exact rown_chg HOWN.out hc7 (by simp)
            · rw [← HN.out]; exact HLL.out
            · rw [← HN.out]; exact HAS.out
          | false =>
            have HR := Lib.hid hr
            have hrr : rightB P ls = false := by rw [asC_rightB HAS.out P, hr]
            clear hr
            go_wp2_with fail
            refine (right_any HCH.out HLL.out hm5 P).mono ?_
            rintro e w7 ⟨rfl, hc7⟩
            rw [hrr]
            clear hrr
            go_wp2_with fail
            go_ret2
            refine .inr ⟨fun h => ?_, rfl, HC.out.new hc7⟩
            have := h.2.2
            rw [← HN.out, HR.out] at this
            cases this
    · have HNO := Lib.hid (show ¬ (2 ≤ b.length ∧ b.length = 2 + num2 b * 66 ∧ rightB P (chsOf b (num2 b)) = true) from fun h => by have := HLN.out; have := h.2.1; have := HN.out; omega)
      have hb1 : ((n : Int) == 2 + (N : Int) * 66) = false := by simp; omega
      have hb2 : (!((n : Int) == 2 + (N : Int) * 66)) = true := by rw [hb1]; rfl
      go_wp2_with fail
      go_ret2
      exact .inr ⟨HNO.out, rfl, HC1.out⟩
end
end Go.Proofs.Ytddjgncdjdjgeaa
