/-
  The walk of DiskWaits.
-/
import Derived.Test.YtmhconklpkenmaaSame
import Derived.Test.YtmhconklpkenmaaPure
import Derived.Test.YtmhconklpkenmaaLawKeeps
namespace Go.Proofs.Ytmhconklpkenmaa
open Go.RowKit

theorem set_six {V : List Bool} (h : V.length = 6) : ((((((bls V).set 0 (.bool false)).set 1 (.bool false)).set 2 (.bool false)).set 3 (.bool false)).set 4 (.bool false)).set 5 (.bool false) = bls (falses 6) := by
  match V, h with
  | [_, _, _, _, _, _], _ => rfl
theorem whole_six {w : World} {g t : Nat} {V : List Bool} (h : Whole w g t (bls V)) (hl : V.length = 6) :
    Whole ((((((w.setCell ⟨g, 0, none⟩ (.bool false)).setCell ⟨g, 1, none⟩ (.bool false)).setCell ⟨g, 2, none⟩ (.bool false)).setCell ⟨g, 3, none⟩ (.bool false)).setCell ⟨g, 4, none⟩ (.bool false)).setCell ⟨g, 5, none⟩ (.bool false)) g t (bls (falses 6)) := by
  rw [← set_six hl]
  exact (((((h.set_ 0 _).set_ 1 _).set_ 2 _).set_ 3 _).set_ 4 _).set_ 5 _
theorem chg_six {w : World} {g : Nat} : Chg [g] w ((((((w.setCell ⟨g, 0, none⟩ (.bool false)).setCell ⟨g, 1, none⟩ (.bool false)).setCell ⟨g, 2, none⟩ (.bool false)).setCell ⟨g, 3, none⟩ (.bool false)).setCell ⟨g, 4, none⟩ (.bool false)).setCell ⟨g, 5, none⟩ (.bool false)) :=
  ((((((Chg.refl [g] w).setCell (by simp) _).setCell (by simp) _).setCell (by simp) _).setCell (by simp) _).setCell (by simp) _).setCell (by simp) _

theorem waits_form {w : World} {p bL bS bW : Nat} {L S : List UInt8} {V : List Bool} (h : Dsk w p bL bS bW L S V) :
    Calls Try.prog 10 #[.pointer (some ⟨p, 0, none⟩)] w fun e w' => ∃ A c, e = .returned (.slice A (wl V V.length).length c) ∧ Src w' A (nmsN (wl V V.length)) ∧ (∀ ad, A = some ad → ad.spot = none) ∧ Chg [] w w' := by
  refine (waits_any h).mono ?_
  rintro e w' ⟨v, rfl, hown, hc⟩
  obtain ⟨A, c, rfl, hs, _, hA⟩ := own_form hown
  exact ⟨A, c, rfl, hs, fun ad e => (hA ad e).1, hc⟩
theorem crash_none {w : World} {p bL bS bW n : Nat} {s : St} (h : DskS w p bL bS bW s) (hs : Sane s n) :
    Calls Try.prog 17 #[.pointer (some ⟨p, 0, none⟩), .slice none 0 0] w fun e w' => ∃ X, e = .returned (.int .i64 ((wl s.V n).length : Int)) ∧ Dsk w' p bL bS bW X X (falses n) ∧ Chg [bL, bS, bW] w w' := by
  refine (crash_any h (cuts := []) (c := 0) rfl (Src.nil _ _) (fun _ ad e => by cases e) (fun _ ad e => by cases e) (by simp)).mono ?_
  rintro e w' ⟨rfl, hd, hc⟩
  obtain ⟨h1, h2⟩ := crash_same hs []
  unfold DskS at hd
  rw [← show s.V.length = n from hs.lv]
  rw [← h1, h2, ← hs.lv] at hd
  exact ⟨_, rfl, hd, hc⟩

section
variable {w : World}
set_option maxHeartbeats 3000000 in
set_option maxRecDepth 100000 in
theorem diskWaits_any {A B : Option Addr} {na nb ca cb : Nat} {l : List Int} {b : List UInt8} (hla : l.length = na) (hsa : Src w A (nms l)) (hA : 0 < na → ∀ ad, A = some ad → ad.spot = none) (hlr : ∀ n ∈ l, -9223372036854775808 ≤ n ∧ n ≤ 9223372036854775807)
    (hna : na ≤ 9223372036854775807) (hlb : b.length = nb) (hsb : Src w B (bts b)) :
    Calls Try.prog 6 #[.slice A na ca, .slice B nb cb] w (LawPost w) := by
  have HLA := Lib.hid hla
  have HLB := Lib.hid hlb
  have HA := Lib.hid hA
  have HR := Lib.hid hlr
  clear hla hlb hA hlr
  go_enter Try.func6, Try.ntmps6
  go_wp2_with fail
  refine (new_int 6 (by omega) (by omega)).mono ?_
  rintro e w1 ⟨p, bL, bS, bW, rfl, hd, b0, b1, b2, b3, hc1⟩
  go_wp2_with fail
  have hi1 := Whole.new w1 42 (bls (falses 6))
  have l1 := hd.rec_.lt
  have l2 := hd.last.lt
  have l3 := hd.seen.lt
  have l4 := hd.wait.lt
  have hd1 : DskS (w1.alloc (.cells (bls (falses 6)).toArray 42)) p bL bS bW (St.new 6) := Dsk.keep hd ((Chg.refl _ _).alloc _)
  have ok1 : Chg [] w (w1.alloc (.cells (bls (falses 6)).toArray 42)) := hc1.alloc _
  have zw : w.heap.size ≤ w1.heap.size := hc1.size
  obtain ⟨gi, hgi⟩ : ∃ gi, gi = w1.heap.size := ⟨_, rfl⟩
  rw [← hgi] at hi1 l1 l2 l3 l4 zw
  rw [← hgi]
  clear hd hc1 hgi
  go_loopw [7] (fun i wr => ∃ k : Nat, i = .int .i64 (k : Int) ∧ k ≤ na ∧ k ≤ 20 ∧ (∃ s : St, DskS wr p bL bS bW s ∧ Sane s 6 ∧ Whole wr gi 42 (bls s.V)) ∧ Chg [] w wr) (fun i _ => 20 - (intOf i).toNat)
  case atStart => exact ⟨0, rfl, Nat.zero_le _, by omega, ⟨St.new 6, hd1, ⟨rfl, zeros_len _, zeros_len _, fun _ _ _ _ _ => rfl⟩, hi1⟩, ok1⟩
  case round =>
    obtain ⟨k, rfl, hk, hk2, ⟨s, hds, hsane, hin⟩, okr⟩ := hrel
    have hV6 := Lib.hid hsane.lv
    by_cases hlt : k < na ∧ k < 20
    · obtain ⟨hlt, hlt2⟩ := hlt
      obtain ⟨ad, rfl, _, hx⟩ := (hsa.keep okr) (by simp [nms]; have := HLA.out; omega)
      obtain ⟨z, hz0⟩ : ∃ z, l[k]? = some z := ⟨_, List.getElem?_eq_getElem (by have := HLA.out; omega)⟩
      have hx1 := hx k (.int .i64 z) (by simp [nms, hz0])
      clear hx
      obtain ⟨b2, o2, s2'⟩ := ad
      obtain rfl : s2' = none := HA.out (by omega) _ rfl
      rw [add_plain] at hx1
      obtain ⟨z0, z1⟩ := HR.out z (List.mem_of_getElem? hz0)
      clear hz0
      go_wp2_with fail
      refine (within_any z 0 6 (by omega) (by omega) (by omega) z0 z1).mono ?_
      rintro e w' ⟨r, ⟨r0, r1, _⟩, rfl, rfl⟩
      by_cases hr6 : r = 6
      · subst hr6
        go_wp2_with fail
        refine (flush_any hds).mono ?_
        rintro e w3 ⟨rfl, hd3, hc3⟩
        rw [flush_all hsane.lv hsane.ll hsane.ls] at hd3
        have hin3 : Whole w3 gi 42 (bls s.V) := hin.chg hc3 (by simp; omega)
        have ok3 : Chg [] w w3 := okr.then_ hc3 (by simp; omega)
        have q0 := (hin3.cell 0).trans (bls_get s.V 0 (by rw [hV6.out]; omega))
        have f0 := hin3.frozen 0
        have q1 := (hin3.cell 1).trans (bls_get s.V 1 (by rw [hV6.out]; omega))
        have f1 := hin3.frozen 1
        have q2 := (hin3.cell 2).trans (bls_get s.V 2 (by rw [hV6.out]; omega))
        have f2 := hin3.frozen 2
        have q3 := (hin3.cell 3).trans (bls_get s.V 3 (by rw [hV6.out]; omega))
        have f3 := hin3.frozen 3
        have q4 := (hin3.cell 4).trans (bls_get s.V 4 (by rw [hV6.out]; omega))
        have f4 := hin3.frozen 4
        have q5 := (hin3.cell 5).trans (bls_get s.V 5 (by rw [hV6.out]; omega))
        have f5 := hin3.frozen 5
        have hin4 := whole_six hin3 hV6.out
        have hc4 := chg_six (w := w3) (g := gi)
        have hd4 := Dsk.away hd3 hc4 (by simp; omega) (by simp; omega) (by simp; omega) (by simp; omega)
        have ok4 := ok3.then_ hc4 (by simp; omega)
        have hsan4 : Sane ⟨s.S, s.S, falses 6⟩ 6 := ⟨rfl, hsane.ls, hsane.ls, fun _ _ _ _ _ => rfl⟩
        go_wp2_with fail
        clear q0 q1 q2 q3 q4 q5 f0 f1 f2 f3 f4 f5 hin3 hd3 hin hds
        generalize (((((w3.setCell ⟨gi, 0, none⟩ (.bool false)).setCell ⟨gi, 1, none⟩ (.bool false)).setCell ⟨gi, 2, none⟩ (.bool false)).setCell ⟨gi, 3, none⟩ (.bool false)).setCell ⟨gi, 4, none⟩ (.bool false)).setCell ⟨gi, 5, none⟩ (.bool false) = w4 at hin4 hc4 hd4 ok4
        clear hc4
        go_region_with (first
          | (go_at_call 19; refine (image_any (hd4.keep ?_)).mono ?_; · (repeat (first | exact Chg.refl _ _ | apply Chg.drew))
             rintro e wI ⟨rfl, hI, hcI⟩
             have hI0 : Whole wI w4.heap.size 5 (bts s.S) := hI
             have hvI := str_whole hI0 rfl s.S.length)
          | (go_at_call 20; refine (seen_any (hd4.keep ?_)).mono ?_; · (repeat (first | exact Chg.refl _ _ | apply Chg.drew | refine Chg.new ?_ hcI))
             rintro e wS ⟨rfl, hS, hcS⟩
             have hvI2 := str_whole (hI0.keep hcS) rfl s.S.length
             have hvS := str_whole hS rfl s.S.length))
        all_goals
          have hc5 : Chg [] w4 wS := ((Chg.refl [] w4).drew.new hcI).new hcS
          have hd5 := Dsk.keep hd4 hc5
          have hin5 := hin4.keep hc5
          have ok5 := ok4.new hc5
          go_wp2_with fail
          go_roundw
          case rel => exact ⟨k + 1, by go_num, by omega, by omega, ⟨⟨s.S, s.S, falses 6⟩, hd5, hsan4, hin5⟩, ok5⟩
          case measure => simp [intOf]; omega
      · obtain ⟨q, rfl⟩ := Int.eq_ofNat_of_zero_le r0
        have hq6 : q < 6 := by omega
        have hrb : ((q : Int) == 6) = false := by simp; omega
        clear hr6
        go_wp2_with fail
        refine (lsector_any HLB.out (hsb.keep okr)).mono ?_
        rintro e w3 ⟨rfl, hx3, hc3⟩
        have hX := Lib.hid (pad_len b)
        generalize pad b = x at hx3 hX
        have hd3 := Dsk.keep hds hc3
        go_wp2_with fail
        refine (write_int hd3 q (by omega) (by show (q : Int) < (s.V.length : Int); have := hV6.out; omega) hX.out (Src.of_all hx3)).mono ?_
        rintro e w4 ⟨rfl, hd4, hc4⟩
        rw [Int.toNat_natCast] at hd4
        have hin4 := (hin.keep hc3).chg hc4 (by simp; omega)
        have ok4 : Chg [] w w4 := (okr.new hc3).then_ hc4 (by simp; omega)
        have hql : q < s.V.length := by rw [hV6.out]; exact hq6
        have q0 := (hin4.cell q).trans (bls_get s.V q hql)
        have f0 := hin4.frozen q
        go_wp2_with fail
        go_roundw
        case rel =>
          refine ⟨k + 1, by go_num, by omega, by omega, ⟨s.write q x, ?_, hsane.write hq6 hX.out, ?_⟩, ok4.setCell (by intro h; exact absurd h (by simp; omega)) _⟩
          · exact Dsk.away hd4 ((Chg.refl [gi] w4).setCell (by simp) _) (by simp; omega) (by simp; omega) (by simp; omega) (by simp; omega)
          · have := hin4.set_ q (.bool true)
            rw [bls_set] at this
            exact this
        case measure => simp [intOf]; omega
    · clear hsa
      have hle6 : ∀ j, (wl s.V j).length ≤ j := wl_le s.V
      obtain ⟨i0, hi, hz0, hz1, hz2⟩ := info_parts info_int
      obtain ⟨wo, rfl⟩ : ∃ wo : World, wo = wr := ⟨_, rfl⟩
      have zo := okr.size
      go_wp2_with fail
      all_goals
        go_loopw [9, 50] (fun v i wr => ∃ j : Nat, j ≤ 6 ∧ i = .int .i64 (j : Int) ∧ wr.ownsRow wo.heap.size 3 1 v (wl s.V j).length (nmsN (wl s.V j)) ∧ Chg [] wo wr) (fun _ i _ => 6 - (intOf i).toNat)
        case atStart => exact ⟨0, by omega, rfl, by simpa [wl, nmsN] using World.ownsRow_nil wo wo.heap.size 3 1, Chg.refl _ _⟩
        case round =>
          obtain ⟨j, hj, rfl, hown, hcg⟩ := hrel
          have hin2 := hin.keep hcg
          have hll := hle6 j
          have hwr := hcg.size
          by_cases hj6 : j < 6
          · have hjl : j < s.V.length := by rw [hV6.out]; exact hj6
            have c4 := (hin2.cell j).trans (bls_get s.V j hjl)
            cases hv : s.V[j] with
            | true =>
              rw [hv] at c4
              have HY := Lib.hid (wl_yes s.V j hjl hv)
              clear hv
              obtain ⟨X, hX⟩ : ∃ X, X = nmsN (wl s.V j) := ⟨_, rfl⟩
              obtain ⟨N, hN⟩ : ∃ N, N = (wl s.V j).length := ⟨_, rfl⟩
              rw [← hX, ← hN] at hown
              have HX := Lib.hid hX
              have HN := Lib.hid hN
              rw [← hN] at hll
              clear hX hN
              go_wp2_with (first
                | (at_builtin
                   refine wpList_append_own _ rfl (.tmp 56) (.tmp 58) _ rfl wo.heap.size 3 i0 (.int .i64 0) 1 8 Try.underlying22 hi hz0 hz1 hz2 rfl (by decide) _ N X rfl (hown.alloc _) ⟨wr.heap.size, 0, none⟩ 1 1 [.int .i64 (j : Int)] rfl rfl ?c1 ?c2 ?c3 ?c4 ?c5 ?_
                   case c1 => exact cell_one_new _ _ _
                   case c2 => simp [Value.oneCell']
                   case c3 => simp only [maxLen]; omega
                   case c4 => omega
                   case c5 => simp; omega
                   intro v' w1 hown' hg' _))
              go_roundw
              case rel =>
                refine ⟨j + 1, by omega, by go_num, ?_, chg_grown (hcg.alloc _) hg' fun g hgg => (hown.lt g hgg).1⟩
                rw [HY.out, nmsN_app, List.length_append, ← HX.out, ← HN.out]
                exact hown'
              case measure => simp [intOf]; omega
            | false =>
              rw [hv] at c4
              have HY := Lib.hid (wl_no s.V j hjl hv)
              clear hv
              go_wp2_with fail
              go_roundw
              case rel => exact ⟨j + 1, by omega, by go_num, by rw [HY.out]; exact hown, hcg⟩
              case measure => simp [intOf]; omega
          · have hj66 : j = 6 := by omega
            rw [hj66] at hown
            obtain ⟨A3, c3, rfl, hs3, hl3, hA3⟩ := own_form hown
            clear hown hj66 hle6 hll hl3
            have hdw := Dsk.keep hds hcg
            have okw := okr.new hcg
            have hl6 := wl_le s.V 6
            have HW := Lib.hid (show ∀ W : World, Chg [] wr W → Calls Try.prog 10 #[.pointer (some ⟨p, 0, none⟩)] W fun e w' => ∃ A c, e = .returned (.slice A (wl s.V 6).length c) ∧ Src w' A (nmsN (wl s.V 6)) ∧ (∀ ad, A = some ad → ad.spot = none) ∧ Chg [] W w' from fun W hc => by
              have := waits_form (Dsk.keep hdw hc)
              rwa [hV6.out] at this)
            have HK := Lib.hid (fun (W : World) (hc : Chg [] wr W) => crash_none (Dsk.keep hdw hc : DskS W p bL bS bW s) hsane)
            have HSm := Lib.hid (fun (W : World) (A4 : Option Addr) (c4 : Nat) (h4 : Src W A4 (nmsN (wl s.V 6))) (h4' : ∀ ad, A4 = some ad → ad.spot = none) (hc : Chg [] wr W) => same_yes (c := c4) (d := c3) rfl (Nat.le_trans hl6 (by omega)) h4 (hs3.keep hc) h4' (fun ad e => (hA3 ad e).1))
            have r1 : bL < wr.heap.size := hdw.last.lt
            have r2 : bS < wr.heap.size := hdw.seen.lt
            have r3 : bW < wr.heap.size := hdw.wait.lt
            clear hds hcg hin2 hin hs3 hA3 hdw hsane hwr
            generalize wl s.V 6 = ws at HW HK HSm hl6
            clear hl6
            go_wp2_with fail
            go_region_with (first
              | (go_at_call 10; refine (HW.out _ ?_).mono ?_; · (repeat (first | exact Chg.refl _ _ | apply Chg.drew))
                 rintro e wA ⟨A4, c4, rfl, hs4, hA4, hcA⟩)
              | (go_at_call 21; refine (HSm.out _ A4 c4 ?_ hA4 ?_).mono ?_; · exact hs4
                 · (repeat (first | exact Chg.refl _ _ | apply Chg.drew | refine Chg.new ?_ hcA))
                 rintro e wB ⟨rfl, hcB⟩)
              | (go_at_call 17; refine (HK.out _ ?_).mono ?_; · (repeat (first | exact Chg.refl _ _ | apply Chg.drew | refine Chg.new ?_ hcB | refine Chg.new ?_ hcA))
                 rintro e wC ⟨X, rfl, hdX, hcC⟩)
              | (go_at_call 19; refine (image_any (hdX.keep ?_)).mono ?_; · (repeat (first | exact Chg.refl _ _ | apply Chg.drew))
                 rintro e wI ⟨rfl, hI, hcI⟩
                 have hvI := str_whole hI rfl X.length)
              | (go_at_call 20; refine (seen_any (hdX.keep ?_)).mono ?_; · (repeat (first | exact Chg.refl _ _ | apply Chg.drew | refine Chg.new ?_ hcI))
                 rintro e wS ⟨rfl, hS, hcS⟩
                 have hvI2 := str_whole (hI.keep hcS) rfl X.length
                 have hvS := str_whole hS rfl X.length)
              | (go_at_call 12; refine (known_any).mono ?_; rintro e wK ⟨rfl, hcK⟩))
            all_goals
              have ok9 : Chg [] w wC := ((okw.drew.new hcA).new hcB).then_ hcC (by simp; omega)
              go_wp2_with fail
              go_ret
              exact ⟨rfl, ((ok9.new hcI).new hcS).new hcK⟩
end
end Go.Proofs.Ytmhconklpkenmaa
