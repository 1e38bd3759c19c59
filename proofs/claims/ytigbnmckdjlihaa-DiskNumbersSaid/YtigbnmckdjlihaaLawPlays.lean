/-
  The walk of DiskPlays.
-/
import Derived.Test.YtigbnmckdjlihaaAlike
import Derived.Test.YtigbnmckdjlihaaAskRow
import Derived.Test.YtigbnmckdjlihaaWithin
import Derived.Test.YtigbnmckdjlihaaBsMore
import Derived.Maps.AppendAt
namespace Go.Proofs.Ytigbnmckdjlihaa
open Go.RowKit
theorem ask_turned {w : World} {a : AskV} (h : AskOk w a) {k i : Int} (hk : 0 ≤ k ∧ k ≤ 7) (hi : -1 ≤ i ∧ i ≤ 4) : AskOk w { a with kind := k, i := i } :=
  { h with k0 := by show -9223372036854775808 ≤ k; omega, k1 := by show k ≤ 9223372036854775807; omega, i0 := by show -9223372036854775808 ≤ i; omega, i1 := by show i ≤ 9223372036854775807; omega }
theorem cells_fresh (w : World) (xs : List Value) (t : Nat) : ∀ (j : Nat) (u : Value), xs[j]? = some u → (w.alloc (.cells xs.toArray t)).cell? ((⟨w.heap.size, 0, none⟩ : Addr).add j) = some u := fun j u hj => by
  rw [add_plain, Nat.zero_add, (Whole.new w t xs).cell]; exact hj
/-- What the loop holds. -/
def SomeA (w wr : World) (v : Value) (k : Nat) : Prop := ∃ l, wr.ownsRow w.heap.size 74 4 v k (askCs l) ∧ (∀ a ∈ l, AskOk w a) ∧ Chg [] w wr
section
variable {w : World} {A L F : Option Addr} {n c nl cl nf cf : Nat} {l : List UInt8} {al fl : List AskV}
set_option maxHeartbeats 8000000 in
set_option maxRecDepth 100000 in
theorem plays_any (hb : Bs w A n c l) (hn : n ≤ 300) (hal : Asks w L al) (hnl : al.length = nl) (hml : nl ≤ 9223372036854775807) (hfl : Asks w F fl) (hnf : fl.length = nf) (hmf : nf * 64 ≤ 140737488351232) :
    Calls Try.prog 13 #[.slice A n c, .slice L nl cl, .slice F nf cf] w (LawPost w) := by
  obtain ⟨i0, hi, hz0, hz1, hz2⟩ := info_parts info_ask
  have HA := Lib.hid hal
  have HF := Lib.hid hfl
  have HNL := Lib.hid hnl
  have HNF := Lib.hid hnf
  have HB := Lib.hid hb
  clear hal hfl hnl hnf hb
  have hd1 : decide (300 < n) = false := by simp; omega
  have hd2 : decide ((300 : Int) < (n : Int)) = false := by simp; omega
  go_enter Try.func13, Try.ntmps13
  go_wp2_with fail
  go_loopw [7, 17] (fun v i wr => ∃ k : Nat, k ≤ nf ∧ i = .int .i64 (k : Int) ∧ SomeA w wr v k) (fun _ i _ => nf - (intOf i).toNat)
  case atStart => exact ⟨0, Nat.zero_le _, rfl, [], World.ownsRow_nil _ _ _ _, fun a ha => by simp at ha, Chg.refl _ _⟩
  case round =>
    obtain ⟨k, hk, rfl, sl, hown, hok, hcg⟩ := hrel
    have hwr := hcg.size
    have HOK := Lib.hid hok
    have HC := Lib.hid hcg
    clear hok hcg
    by_cases hlt : k < nf
    · obtain ⟨a, ha⟩ : ∃ a, fl[k]? = some a := ⟨_, List.getElem?_eq_getElem (by have := HNF.out; omega)⟩
      have hao := HF.out.ok a (List.mem_of_getElem? ha)
      obtain ⟨g, o, rfl, hg, hce⟩ := HF.out.cells (by have := HNF.out; omega)
      obtain ⟨e0, e1, e2, e3⟩ := hce k a ha
      have hkp : ∀ j, wr.cell? ⟨g, j, none⟩ = w.cell? ⟨g, j, none⟩ := fun j => World.cell?_of_block (w := w) (HC.out.block g hg (by simp))
      have c0 := (hkp _).trans e0
      have c1 := (hkp _).trans e1
      have c2 := (hkp _).trans e2
      have c3 := (hkp _).trans e3
      clear hce e0 e1 e2 e3 hkp ha
      have HAO := Lib.hid hao
      have b0 := hao.k0
      have b1 := hao.k1
      have b2 := hao.i0
      have b3 := hao.i1
      clear hao
      obtain ⟨kind, i, bA, bn, bc, B, cA, cn, cc, C⟩ := a
      simp only at c0 c1 c2 c3 b0 b1 b2 b3
      have hkI : (k : Int) < (nf : Int) := by omega
      go_wp2_with fail
      have hw := Whole.new wr 74 [.int .i64 kind, .int .i64 i, .slice bA bn bc, .slice cA cn cc]
      have hal : Chg [] wr (wr.alloc (.cells #[.int .i64 kind, .int .i64 i, .slice bA bn bc, .slice cA cn cc] 74)) := (Chg.refl [] wr).alloc _
      obtain ⟨kd, hkd⟩ : ∃ kd, kd = withinI kind 0 7 := ⟨_, rfl⟩
      obtain ⟨id, hid⟩ : ∃ id, id = withinI i (-1) 4 := ⟨_, rfl⟩
      have HKD := Lib.hid hkd
      have HID := Lib.hid hid
      clear hkd hid c0 c1 c2 c3
      go_region_with ((go_at_call 37; with_reducible refine (within_is _ _ _ (by omega) (by omega) (by omega) (by omega) (by omega)).mono ?_; rintro e w' ⟨rfl, rfl⟩))
      all_goals
        clear hw hal
        rw [← HKD.out, ← HID.out]
        have hkk : 0 ≤ kd ∧ kd ≤ 7 := by rw [HKD.out]; have := into_within kind 0 7 (by omega); exact ⟨this.1, this.2.1⟩
        have hii : -1 ≤ id ∧ id ≤ 4 := by rw [HID.out]; have := into_within i (-1) 4 (by omega); exact ⟨this.1, this.2.1⟩
        have HT := Lib.hid (ask_turned HAO.out hkk hii)
        have hsz : (wr.alloc (.cells #[.int .i64 kd, .int .i64 id, .slice bA bn bc, .slice cA cn cc] 74)).drew.heap.size = wr.heap.size + 1 := by simp
        have HZ := Lib.hid hsz
        obtain ⟨X, hX⟩ : ∃ X, X = askCs sl := ⟨_, rfl⟩
        rw [← hX] at hown
        have HX := Lib.hid hX
        clear hX hsz hkk hii b0 b1 b2 b3
        go_wp2_with (first
          | (at_builtin
             refine wpList_append_own _ rfl (.tmp 32) (.tmp 34) _ rfl w.heap.size 74 i0 _ 4 64 Try.underlying72 hi hz0 hz1 hz2 rfl (by decide) _ k X rfl (ownN_keep hown (((Chg.refl [] wr).alloc (.cells #[.int .i64 kd, .int .i64 id, .slice bA bn bc, .slice cA cn cc] 74)).drew.alloc _)) ⟨wr.heap.size + 1, 0, none⟩ 1 1 [.int .i64 kd, .int .i64 id, .slice bA bn bc, .slice cA cn cc] rfl rfl ?c1 ?c2 ?c3 ?c4 ?c5 ?_
             case c1 => rw [← HZ.out]; exact cells_fresh _ _ _
             case c2 => simp [Value.oneCell']
             case c3 => simp only [maxLen]; omega
             case c4 => omega
             case c5 => simp; omega
             intro v' w2 hown' hg' _))
        go_roundw
        case rel =>
          refine ⟨k + 1, by omega, by go_num, sl ++ [⟨kd, id, bA, bn, bc, B, cA, cn, cc, C⟩], ?_, ?_, chg_grown ((HC.out.alloc _).drew.alloc _) hg' fun g hgg => (hown.lt g hgg).1⟩
          · rw [askCs_app, askCs_one, ← HX.out]
            exact hown'
          · intro a ha
            rcases List.mem_append.1 ha with h | h
            · exact HOK.out a h
            · simp only [List.mem_cons, List.not_mem_nil, or_false] at h
              subst h
              exact HT.out
        case measure => simp [intOf]; omega
    · have hkI : (nf : Int) ≤ (k : Int) := by omega
      obtain ⟨A1, c1, rfl, hsl, has, hkm⟩ := asks_own hown fun a ha => (HOK.out a ha).keep HC.out
      have HSL := Lib.hid hsl
      have HAS := Lib.hid has
      have hmk1 : ∀ W : World, (Instr.makeSlice 40 (.int .i64 256) (.int .i64 256)).run Try.prog W = .ok (.slice (some ⟨W.heap.size, 0, none⟩) 256 256) (W.alloc (.cells (bts (zeros 256)).toArray 5)) := fun W => make_u8 256 (by omega) W
      have hmk2 : ∀ W : World, (Instr.makeSlice 40 (.int .i64 128) (.int .i64 128)).run Try.prog W = .ok (.slice (some ⟨W.heap.size, 0, none⟩) 128 128) (W.alloc (.cells (bts (zeros 128)).toArray 5)) := fun W => make_u8 128 (by omega) W
      clear hsl has hown
      go_wp2_with fail
      refine (play_any alike_said (l := zeros 256) (n := 256) (zeros_len _) (Src.of_all (Whole.new wr _ _)) (by omega) (HAS.out.keep ((Chg.refl _ _).alloc _)) HSL.out hkm).mono ?_
      rintro e w2 ⟨rfl, hc2⟩
      have h2 := (HC.out.alloc _).new hc2
      clear hc2
      have HA2 := Lib.hid (HA.out.keep h2)
      have HB2 := Lib.hid (HB.out.keep h2)
      have H2 := Lib.hid h2
      clear h2
      go_wp2_with fail
      refine (play_any alike_said HB2.out.len HB2.out.src (by omega) HA2.out HNL.out hml).mono ?_
      rintro e w3 ⟨rfl, hc3⟩
      have H3 := Lib.hid (H2.out.new hc3)
      have HA3 := Lib.hid (HA2.out.keep hc3)
      clear hc3
      go_wp2_with fail
      refine (play_any alike_said (l := zeros 128) (n := 128) (zeros_len _) (Src.of_all (Whole.new w3 _ _)) (by omega) (HA3.out.keep ((Chg.refl _ _).alloc _)) HNL.out hml).mono ?_
      rintro e w4 ⟨rfl, hc4⟩
      have H4 := Lib.hid ((H3.out.alloc _).new hc4)
      clear hc4
      go_wp2_with fail
      refine known_any.mono ?_
      rintro e w5 ⟨rfl, hc5⟩
      go_wp2_with fail
      go_ret
      exact ⟨rfl, H4.out.new hc5⟩
set_option maxHeartbeats 8000000 in
set_option maxRecDepth 100000 in
theorem plays_long (hb : Bs w A n c l) (hn : 300 < n) (hal : Asks w L al) (hnl : al.length = nl) (hml : nl ≤ 9223372036854775807) (hfl : Asks w F fl) (hnf : fl.length = nf) (hmf : nf * 64 ≤ 140737488351232) :
    Calls Try.prog 13 #[.slice A n c, .slice L nl cl, .slice F nf cf] w (LawPost w) := by
  obtain ⟨i0, hi, hz0, hz1, hz2⟩ := info_parts info_ask
  have HA := Lib.hid hal
  have HF := Lib.hid hfl
  have HNL := Lib.hid hnl
  have HNF := Lib.hid hnf
  have hdd : ¬ c < 256 := by have := hb.cap; omega
  have hB0 := hb.take (m := 256) (by omega)
  generalize l.take 256 = l2 at hB0
  have HB := Lib.hid hB0
  clear hal hfl hnl hnf hb hB0
  have hd1 : decide (300 < n) = true := by simp; omega
  have hd2 : decide ((300 : Int) < (n : Int)) = true := by simp; omega
  go_enter Try.func13, Try.ntmps13
  go_wp2_with fail
  go_loopw [7, 17] (fun v i wr => ∃ k : Nat, k ≤ nf ∧ i = .int .i64 (k : Int) ∧ SomeA w wr v k) (fun _ i _ => nf - (intOf i).toNat)
  case atStart => exact ⟨0, Nat.zero_le _, rfl, [], World.ownsRow_nil _ _ _ _, fun a ha => by simp at ha, Chg.refl _ _⟩
  case round =>
    obtain ⟨k, hk, rfl, sl, hown, hok, hcg⟩ := hrel
    have hwr := hcg.size
    have HOK := Lib.hid hok
    have HC := Lib.hid hcg
    clear hok hcg
    by_cases hlt : k < nf
    · obtain ⟨a, ha⟩ : ∃ a, fl[k]? = some a := ⟨_, List.getElem?_eq_getElem (by have := HNF.out; omega)⟩
      have hao := HF.out.ok a (List.mem_of_getElem? ha)
      obtain ⟨g, o, rfl, hg, hce⟩ := HF.out.cells (by have := HNF.out; omega)
      obtain ⟨e0, e1, e2, e3⟩ := hce k a ha
      have hkp : ∀ j, wr.cell? ⟨g, j, none⟩ = w.cell? ⟨g, j, none⟩ := fun j => World.cell?_of_block (w := w) (HC.out.block g hg (by simp))
      have c0 := (hkp _).trans e0
      have c1 := (hkp _).trans e1
      have c2 := (hkp _).trans e2
      have c3 := (hkp _).trans e3
      clear hce e0 e1 e2 e3 hkp ha
      have HAO := Lib.hid hao
      have b0 := hao.k0
      have b1 := hao.k1
      have b2 := hao.i0
      have b3 := hao.i1
      clear hao
      obtain ⟨kind, i, bA, bn, bc, B, cA, cn, cc, C⟩ := a
      simp only at c0 c1 c2 c3 b0 b1 b2 b3
      have hkI : (k : Int) < (nf : Int) := by omega
      go_wp2_with fail
      have hw := Whole.new wr 74 [.int .i64 kind, .int .i64 i, .slice bA bn bc, .slice cA cn cc]
      have hal : Chg [] wr (wr.alloc (.cells #[.int .i64 kind, .int .i64 i, .slice bA bn bc, .slice cA cn cc] 74)) := (Chg.refl [] wr).alloc _
      obtain ⟨kd, hkd⟩ : ∃ kd, kd = withinI kind 0 7 := ⟨_, rfl⟩
      obtain ⟨id, hid⟩ : ∃ id, id = withinI i (-1) 4 := ⟨_, rfl⟩
      have HKD := Lib.hid hkd
      have HID := Lib.hid hid
      clear hkd hid c0 c1 c2 c3
      go_region_with ((go_at_call 37; with_reducible refine (within_is _ _ _ (by omega) (by omega) (by omega) (by omega) (by omega)).mono ?_; rintro e w' ⟨rfl, rfl⟩))
      all_goals
        clear hw hal
        rw [← HKD.out, ← HID.out]
        have hkk : 0 ≤ kd ∧ kd ≤ 7 := by rw [HKD.out]; have := into_within kind 0 7 (by omega); exact ⟨this.1, this.2.1⟩
        have hii : -1 ≤ id ∧ id ≤ 4 := by rw [HID.out]; have := into_within i (-1) 4 (by omega); exact ⟨this.1, this.2.1⟩
        have HT := Lib.hid (ask_turned HAO.out hkk hii)
        have hsz : (wr.alloc (.cells #[.int .i64 kd, .int .i64 id, .slice bA bn bc, .slice cA cn cc] 74)).drew.heap.size = wr.heap.size + 1 := by simp
        have HZ := Lib.hid hsz
        obtain ⟨X, hX⟩ : ∃ X, X = askCs sl := ⟨_, rfl⟩
        rw [← hX] at hown
        have HX := Lib.hid hX
        clear hX hsz hkk hii b0 b1 b2 b3
        go_wp2_with (first
          | (at_builtin
             refine wpList_append_own _ rfl (.tmp 32) (.tmp 34) _ rfl w.heap.size 74 i0 _ 4 64 Try.underlying72 hi hz0 hz1 hz2 rfl (by decide) _ k X rfl (ownN_keep hown (((Chg.refl [] wr).alloc (.cells #[.int .i64 kd, .int .i64 id, .slice bA bn bc, .slice cA cn cc] 74)).drew.alloc _)) ⟨wr.heap.size + 1, 0, none⟩ 1 1 [.int .i64 kd, .int .i64 id, .slice bA bn bc, .slice cA cn cc] rfl rfl ?c1 ?c2 ?c3 ?c4 ?c5 ?_
             case c1 => rw [← HZ.out]; exact cells_fresh _ _ _
             case c2 => simp [Value.oneCell']
             case c3 => simp only [maxLen]; omega
             case c4 => omega
             case c5 => simp; omega
             intro v' w2 hown' hg' _))
        go_roundw
        case rel =>
          refine ⟨k + 1, by omega, by go_num, sl ++ [⟨kd, id, bA, bn, bc, B, cA, cn, cc, C⟩], ?_, ?_, chg_grown ((HC.out.alloc _).drew.alloc _) hg' fun g hgg => (hown.lt g hgg).1⟩
          · rw [askCs_app, askCs_one, ← HX.out]
            exact hown'
          · intro a ha
            rcases List.mem_append.1 ha with h | h
            · exact HOK.out a h
            · simp only [List.mem_cons, List.not_mem_nil, or_false] at h
              subst h
              exact HT.out
        case measure => simp [intOf]; omega
    · have hkI : (nf : Int) ≤ (k : Int) := by omega
      obtain ⟨A1, c1, rfl, hsl, has, hkm⟩ := asks_own hown fun a ha => (HOK.out a ha).keep HC.out
      have HSL := Lib.hid hsl
      have HAS := Lib.hid has
      have hmk1 : ∀ W : World, (Instr.makeSlice 40 (.int .i64 256) (.int .i64 256)).run Try.prog W = .ok (.slice (some ⟨W.heap.size, 0, none⟩) 256 256) (W.alloc (.cells (bts (zeros 256)).toArray 5)) := fun W => make_u8 256 (by omega) W
      have hmk2 : ∀ W : World, (Instr.makeSlice 40 (.int .i64 128) (.int .i64 128)).run Try.prog W = .ok (.slice (some ⟨W.heap.size, 0, none⟩) 128 128) (W.alloc (.cells (bts (zeros 128)).toArray 5)) := fun W => make_u8 128 (by omega) W
      clear hsl has hown
      go_wp2_with fail
      refine (play_any alike_said (l := zeros 256) (n := 256) (zeros_len _) (Src.of_all (Whole.new wr _ _)) (by omega) (HAS.out.keep ((Chg.refl _ _).alloc _)) HSL.out hkm).mono ?_
      rintro e w2 ⟨rfl, hc2⟩
      have h2 := (HC.out.alloc _).new hc2
      clear hc2
      have HA2 := Lib.hid (HA.out.keep h2)
      have HB2 := Lib.hid (HB.out.keep h2)
      have H2 := Lib.hid h2
      clear h2
      go_wp2_with fail
      refine (play_any alike_said HB2.out.len HB2.out.src (by omega) HA2.out HNL.out hml).mono ?_
      rintro e w3 ⟨rfl, hc3⟩
      have H3 := Lib.hid (H2.out.new hc3)
      have HA3 := Lib.hid (HA2.out.keep hc3)
      clear hc3
      go_wp2_with fail
      refine (play_any alike_said (l := zeros 128) (n := 128) (zeros_len _) (Src.of_all (Whole.new w3 _ _)) (by omega) (HA3.out.keep ((Chg.refl _ _).alloc _)) HNL.out hml).mono ?_
      rintro e w4 ⟨rfl, hc4⟩
      have H4 := Lib.hid ((H3.out.alloc _).new hc4)
      clear hc4
      go_wp2_with fail
      refine known_any.mono ?_
      rintro e w5 ⟨rfl, hc5⟩
      go_wp2_with fail
      go_ret
      exact ⟨rfl, H4.out.new hc5⟩
end
end Go.Proofs.Ytigbnmckdjlihaa
