/-
  The law's 'play': disk and reference, ask by ask.
-/
import Derived.Test.YtigbnmckdjlihaaSame
import Derived.Test.YtigbnmckdjlihaaRefOf
import Derived.Test.YtigbnmckdjlihaaRefCrash
namespace Go.Proofs.Ytigbnmckdjlihaa
open Go.RowKit

/-- An ask as it lies in memory: four cells, two of them slices. -/
structure AskV where
  kind : Int
  i : Int
  bA : Option Addr
  bn : Nat
  bc : Nat
  B : List UInt8
  cA : Option Addr
  cn : Nat
  cc : Nat
  C : List Int
structure AskOk (w : World) (a : AskV) : Prop where
  k0 : -9223372036854775808 ≤ a.kind
  k1 : a.kind ≤ 9223372036854775807
  i0 : -9223372036854775808 ≤ a.i
  i1 : a.i ≤ 9223372036854775807
  bl : a.B.length = a.bn
  bs : Src w a.bA (bts a.B)
  bm : a.bn ≤ 9223372036854775807
  cl : a.C.length = a.cn
  cs : Src w a.cA (nms a.C)
  cm : a.cn ≤ 9223372036854775807
  cp : 0 < a.cn → ∀ ad, a.cA = some ad → ad.spot = none ∧ ad.block < w.heap.size
/-- The slice at A reads as the asks l. -/
structure Asks (w : World) (A : Option Addr) (l : List AskV) : Prop where
  cells : 0 < l.length → ∃ g o, A = some ⟨g, o, none⟩ ∧ g < w.heap.size ∧ ∀ k a, l[k]? = some a → w.cell? ⟨g, o + k * 4, none⟩ = some (.int .i64 a.kind) ∧ w.cell? ⟨g, o + k * 4 + 1, none⟩ = some (.int .i64 a.i) ∧
    w.cell? ⟨g, o + k * 4 + 2, none⟩ = some (.slice a.bA a.bn a.bc) ∧ w.cell? ⟨g, o + k * 4 + 3, none⟩ = some (.slice a.cA a.cn a.cc)
  ok : ∀ a ∈ l, AskOk w a

/-- What 'same' is asked to do (proved in a text of its own). -/
def AlikeSaid : Prop := ∀ (w : World) (p bL bS bW q gL gN gW : Nat) (rL rN : List Value) (m : Int) (s : St), DskS w p bL bS bW s → Rfd w q gL gN gW rL rN m s →
  Calls Try.prog 67 #[.pointer (some ⟨p, 0, none⟩), .pointer (some ⟨q, 0, none⟩)] w (LawPost w)

theorem str_front {w : World} {g : Nat} {X : List UInt8} {r : List Value} (h : Whole w g 5 (bts X ++ r)) (n : Nat) (hn : X.length = n) (c : Nat) :
    (convert 40 9 (.slice (some ⟨g, 0, none⟩) n c)).run Try.prog w = .ok (.string (strOf X)) w := by
  subst hn
  have hs : Src w (some ⟨g, 0, none⟩) (bts X) := by
    have := Src.of_whole h 0 X.length
    rwa [List.drop_zero, List.take_append_of_le_length (by rw [bts_len]; omega), List.take_of_length_le (by rw [bts_len]; omega)] at this
  exact run_str 40 5 9 Try.underlying40 Try.underlying5 Try.underlying9 _ X c w hs (fun ad e => by injection e with e; subst e; rfl)

theorem crash_alike {s : St} {N : Nat} (h : Sane s N) (C : List Int) :
    s.crash (wl s.V s.V.length) C (wl s.V s.V.length).length = ⟨rcL s (wl s.V s.V.length) C (wl s.V s.V.length).length, rcL s (wl s.V s.V.length) C (wl s.V s.V.length).length, falses s.V.length⟩ := by
  have hws : ∀ j (hj : j < (wl s.V s.V.length).length), (wl s.V s.V.length)[j] < N := fun j hj => Nat.lt_of_lt_of_le (wl_lt s.V s.V.length j hj) (Nat.le_of_eq h.lv)
  have e1 := rcL_eq h (wl s.V s.V.length) C hws (wl_rises _ _) _ (Nat.le_refl _)
  obtain ⟨e2, e3⟩ := crash_same h C
  rw [e1]
  rw [← h.lv] at e3
  generalize s.crash (wl s.V s.V.length) C (wl s.V s.V.length).length = t at e2 e3
  obtain ⟨tL, tS, tV⟩ := t
  simp only at e2 e3 ⊢
  rw [e2, e3]

section
variable {w : World}
set_option maxHeartbeats 4000000 in
set_option maxRecDepth 100000 in
theorem play_any (hal : AlikeSaid) {A L : Option Addr} {n c na ca : Nat} {l : List UInt8} {al : List AskV} (hl : l.length = n) (hs : Src w A (bts l)) (hn : n ≤ 1000000) (has : Asks w L al) (hna : al.length = na) (hnm : na ≤ 9223372036854775807) :
    Calls Try.prog 40 #[.slice A n c, .slice L na ca] w (LawPost w) := by
  by_cases hok : 64 ≤ n ∧ n < 10304 ∧ n % 64 = 0
  · obtain ⟨h1, h2, h3⟩ := hok
    have HL := Lib.hid hl
    have HA := Lib.hid hna
    have H3 := Lib.hid h3
    clear hl hna h3
    go_enter Try.func40, Try.ntmps40
    go_wp2_with fail
    refine (of_yes HL.out hs h1 h2 H3.out).mono ?_
    rintro e w1 ⟨p, bL, bS, bW, rfl, hd, b0, b1, b2, b3, hc1⟩
    go_wp2_with fail
    refine (rof_yes HL.out (hs.keep hc1) h1 h2 H3.out).mono ?_
    rintro e w2 ⟨q, gL, gN, gW, rL, rN, m, rfl, hr, q0, q1, q2, q3, hc2⟩
    have l1 := hd.rec_.lt
    have l2 := hd.last.lt
    have l3 := hd.seen.lt
    have l4 := hd.wait.lt
    have hd2 : DskS w2 p bL bS bW ⟨l, l, falses (n / 64)⟩ := Dsk.keep hd hc2
    obtain ⟨z, hz⟩ : ∃ z, z = w1.heap.size := ⟨_, rfl⟩
    rw [← hz] at l1 l2 l3 l4 q0 q1 q2 q3
    have hzw : w.heap.size ≤ z := by rw [hz]; exact hc1.size
    have ok2 : Chg [] w w2 := hc1.new hc2
    have hsane : Sane ⟨l, l, falses (n / 64)⟩ (n / 64) := ⟨falses_len _, by have := HL.out; have := H3.out; show l.length = _; omega, by have := HL.out; have := H3.out; show l.length = _; omega, fun _ _ _ _ _ => rfl⟩
    obtain ⟨N, hN⟩ : ∃ N, N = n / 64 := ⟨_, rfl⟩
    rw [← hN] at hd2 hr hsane
    clear hd hc1 hc2 hz hN
    go_wp2_with fail
    go_loopw [7] (fun i wr => ∃ k : Nat, i = .int .i64 (k : Int) ∧ k ≤ na ∧ k ≤ 60 ∧ (∃ (s : St) (m : Int) (gW : Nat), Sane s N ∧ DskS wr p bL bS bW s ∧ Rfd wr q gL gN gW rL rN m s ∧ z ≤ gW) ∧ Chg [] w wr) (fun i _ => 60 - (intOf i).toNat)
    case atStart => exact ⟨0, rfl, Nat.zero_le _, by omega, ⟨_, _, _, hsane, hd2, hr, q3⟩, ok2⟩
    case round =>
      obtain ⟨k, rfl, hk, hk60, ⟨s, m2, gW2, hsn, hds, hrs, hz2⟩, okr⟩ := hrel
      by_cases hlt : k < na ∧ k < 60
      · obtain ⟨hlt, hlt2⟩ := hlt
        obtain ⟨a, ha⟩ : ∃ a, al[k]? = some a := ⟨_, List.getElem?_eq_getElem (by have := HA.out; omega)⟩
        have hao := has.ok a (List.mem_of_getElem? ha)
        obtain ⟨g, o, rfl, hg, hce⟩ := has.cells (by have := HA.out; omega)
        obtain ⟨e0, e1, e2, e3⟩ := hce k a ha
        have hkp : ∀ j, wr.cell? ⟨g, j, none⟩ = w.cell? ⟨g, j, none⟩ := fun j => World.cell?_of_block (w := w) (okr.block g hg (by simp))
        have c0 := (hkp _).trans e0
        have c1 := (hkp _).trans e1
        have c2 := (hkp _).trans e2
        have c3 := (hkp _).trans e3
        clear hce e0 e1 e2 e3 hkp
        obtain ⟨kind, i, bA, bn, bc, B, cA, cn, cc, C⟩ := a
        simp only at c0 c1 c2 c3
        have hds1 : DskS (wr.alloc (.cells #[.int .i64 kind, .int .i64 i, .slice bA bn bc, .slice cA cn cc] 74)) p bL bS bW s := Dsk.keep hds ((Chg.refl _ _).alloc _)
        have hrs1 := hrs.keep ((Chg.refl [] wr).alloc (.cells #[.int .i64 kind, .int .i64 i, .slice bA bn bc, .slice cA cn cc] 74))
        have hask := Whole.new wr 74 [.int .i64 kind, .int .i64 i, .slice bA bn bc, .slice cA cn cc]
        have ok1 := okr.alloc (.cells #[.int .i64 kind, .int .i64 i, .slice bA bn bc, .slice cA cn cc] 74)
        have hsv := Lib.hid hsn.lv
        go_wp2_with fail
        · refine (flush_any hds1).mono ?_
          rintro e w3 ⟨rfl, hd3, hc3⟩
          rw [flush_all hsn.lv hsn.ll hsn.ls] at hd3
          have hr3 := hrs1.away hc3 (by simp; omega) (by simp; omega) (by simp; omega) (by simp; omega)
          have ok3 := ok1.then_ hc3 (by simp; omega)
          go_wp2_with fail
          refine (rflush_any hr3).mono ?_
          rintro e w4 ⟨gW4, m4, rfl, hr4, hz4, hc4⟩
          rw [hsv.out] at hr4
          have hd4 : DskS w4 p bL bS bW ⟨s.S, s.S, falses N⟩ := Dsk.away hd3 hc4 (by simp; omega) (by simp; omega) (by simp; omega) (by simp; omega)
          have ok4 := ok3.then_ hc4 (by simp; omega)
          have hsn4 : Sane ⟨s.S, s.S, falses N⟩ N := ⟨falses_len _, hsn.ls, hsn.ls, fun _ _ _ _ _ => rfl⟩
          have z3 := hc3.size
          have z4 := hr3.last.lt
          have zz : z ≤ gW4 := by omega
          go_wp2_with fail
          refine (hal _ _ _ _ _ _ _ _ _ _ _ _ _ hd4 hr4).mono ?_
          rintro e w9 ⟨rfl, hc9⟩
          go_wp2_with fail
          go_roundw
          case rel => exact ⟨k + 1, by go_num, by omega, by omega, ⟨_, _, _, hsn4, Dsk.keep hd4 hc9, hr4.keep hc9, zz⟩, ok4.new hc9⟩
          case measure => simp [intOf]; omega
        · have hcl : C.length = cn := hao.cl
          have hca : 0 < C.length → ∀ ad, cA = some ad → ad.spot = none ∧ ad.block < w.heap.size := fun h0 => hao.cp (show 0 < cn by omega)
          have hcs : Src wr cA (nms C) := hao.cs.keep okr
          have hcm : cn ≤ 9223372036854775807 := hao.cm
          have zr : z ≤ wr.heap.size := by have := hrs.last.lt; omega
          have HC1 := Lib.hid (fun (W : World) (hc : Chg [] wr W) => crash_any (c := cc) (Dsk.keep hds hc) hcl (hcs.keep hc) (fun h0 ad e => (hca h0 ad e).1) (fun h0 ad e => by have := (hca h0 ad e).2; simp; omega) hcm)
          have HC2 := Lib.hid (fun (W : World) (T : List Nat) (hc : Chg T wr W) (hT : ∀ x ∈ T, x = bL ∨ x = bS ∨ x = bW) => rcrash_any (c := cc) (hrs.away hc (fun hm => by have := hT _ hm; omega) (fun hm => by have := hT _ hm; omega) (fun hm => by have := hT _ hm; omega) (fun hm => by have := hT _ hm; omega)) hcl
            (hcs.chg hc (fun h0 ad e hm => by have := (hca (by simpa [nms] using h0) ad e).2; have := hT _ hm; omega)) (fun h0 ad e => (hca h0 ad e).1) (fun h0 ad e => by have := (hca h0 ad e).2; simp; omega))
          have hal1 : Chg [] wr (wr.alloc (.cells #[.int .i64 kind, .int .i64 i, .slice bA bn bc, .slice cA cn cc] 74)) := (Chg.refl _ _).alloc _
          clear hcl hcm hca
          go_region_with (first
            | (go_at_call 60; refine (HC1.out _ ?_).mono ?_; · (repeat (first | exact hal1 | apply Chg.drew))
               rintro e w3 ⟨rfl, hd3, hc3⟩
               have a3 := (hask.drew.chg hc3 (by simp; omega)).cell 3
               have hcw3 : Chg [bL, bS, bW] wr w3 := (hal1.sub (by simp)).drew.trans hc3)
            | (go_at_call 61; refine (HC2.out _ [bL, bS, bW] hcw3 (by simp)).mono ?_
               rintro e w4 ⟨gW4, rfl, hr4, hz4, hc4⟩))
          all_goals
            have hd3' : DskS w3 p bL bS bW (s.crash (wl s.V s.V.length) C (wl s.V s.V.length).length) := hd3
            have hsn4 := (crash_quiet hsn C).1
            rw [crash_alike hsn C] at hd3' hsn4
            have ok3 : Chg [] w w3 := okr.then_ hcw3 (by simp; omega)
            have z3 := hcw3.size
            have hd4 := Dsk.away hd3' hc4 (by simp; omega) (by simp; omega) (by simp; omega) (by simp; omega)
            have ok4 : Chg [] w w4 := ok3.then_ hc4 (by simp; omega)
            have zz : z ≤ gW4 := by omega
            clear hd3 hd3' z3
            generalize rcL s (wl s.V s.V.length) C (wl s.V s.V.length).length = X at hd4 hr4 hsn4
            have hd5 : DskS w4 p bL bS bW ⟨X, X, falses s.V.length⟩ := hd4
            go_wp2_with fail
            refine (hal _ _ _ _ _ _ _ _ _ _ _ _ _ hd5 hr4).mono ?_
            rintro e w9 ⟨rfl, hc9⟩
            go_wp2_with fail
            go_roundw
            case rel => exact ⟨k + 1, by go_num, by omega, by omega, ⟨_, _, _, hsn4, Dsk.keep hd5 hc9, hr4.keep hc9, zz⟩, ok4.new hc9⟩
            case measure => simp [intOf]; omega
        · by_cases hin : 0 ≤ i ∧ i < s.V.length
          · obtain ⟨i', rfl⟩ := Int.eq_ofNat_of_zero_le hin.1
            have hi2 : i' < s.V.length := by omega
            clear hin
            refine (read_int hds1 i' (by omega) (by omega)).mono ?_
            rintro e w3 ⟨rfl, hR3, hc3⟩
            rw [Int.toNat_natCast] at hR3
            have hds3 := Dsk.keep hds1 hc3
            have hrs3 := hrs1.keep hc3
            have a1 := (hask.keep hc3).cell 1
            have ok3 := ok1.new hc3
            go_wp2_with fail
            refine (rread_yes hrs3 i' hi2).mono ?_
            rintro e w4 ⟨gR, cR, rfl, ⟨rR, hR4⟩, hc4⟩
            have hlen : ((s.S.drop (i' * 64)).take 64).length = 64 := by
              have e6 := hsn.ls
              have e7 := hsn.lv
              rw [List.length_take, List.length_drop]; omega
            have hb3 : Whole w3 (wr.heap.size + 1) 5 (bts ((s.S.drop (i' * 64)).take 64)) := whole_at hR3 (by simp)
            have hv3 := str_whole (hb3.keep hc4) hlen 64
            have hv4 := str_front hR4 64 hlen cR
            have hds4 : DskS w4 p bL bS bW s := Dsk.keep hds3 hc4
            have hrs4 := hrs3.keep hc4
            have ok4 := ok3.new hc4
            clear hlen hR3 hR4 hb3
            go_wp2_with fail
            refine (hal _ _ _ _ _ _ _ _ _ _ _ _ _ hds4 hrs4).mono ?_
            rintro e w9 ⟨rfl, hc9⟩
            go_wp2_with fail
            go_roundw
            case rel => exact ⟨k + 1, by go_num, by omega, by omega, ⟨_, _, _, hsn, Dsk.keep hds4 hc9, hrs4.keep hc9, hz2⟩, ok4.new hc9⟩
            case measure => simp [intOf]; omega
          · have hno : i < 0 ∨ (s.V.length : Int) ≤ i := by omega
            refine (read_no hds1 i hno).mono ?_
            rintro e w3 ⟨rfl, hw3⟩
            have hc3 : Chg [] (wr.alloc (.cells #[.int .i64 kind, .int .i64 i, .slice bA bn bc, .slice cA cn cc] 74)) w3 := by rw [← hw3]; exact Chg.refl _ _
            have hds3 : DskS w3 p bL bS bW s := Dsk.keep hds1 hc3
            have hrs3 := hrs1.keep hc3
            have a1 := (hask.keep hc3).cell 1
            have ok3 := ok1.new hc3
            clear hw3 hc3
            go_wp2_with fail
            refine (rread_no hrs3 i hno).mono ?_
            rintro e w4 ⟨rfl, rfl⟩
            have hvn := run_convert_bytes_nil (P := Try.prog) w3 40 5 Try.underlying40 Try.underlying5 0 0 9 Try.underlying9
            go_wp2_with fail
            refine (hal _ _ _ _ _ _ _ _ _ _ _ _ _ hds3 hrs3).mono ?_
            rintro e w9 ⟨rfl, hc9⟩
            go_wp2_with fail
            go_roundw
            case rel => exact ⟨k + 1, by go_num, by omega, by omega, ⟨_, _, _, hsn, Dsk.keep hds3 hc9, hrs3.keep hc9, hz2⟩, ok3.new hc9⟩
            case measure => simp [intOf]; omega
        · have hbl : B.length = bn := hao.bl
          have zr : z ≤ wr.heap.size := by have := hrs.last.lt; omega
          have qr : q < wr.heap.size := hrs.rec_.lt
          refine (lsector_any hbl ((hao.bs.keep okr).keep ((Chg.refl _ _).alloc _))).mono ?_
          rintro e w3 ⟨rfl, hx3, hc3⟩
          have hxl := pad_len B
          generalize pad B = x at hx3 hxl
          have hx4 := whole_at hx3 (show _ = wr.heap.size + 1 by simp)
          have hds3 : DskS w3 p bL bS bW s := Dsk.keep hds1 hc3
          have hrs3 := hrs1.keep hc3
          have hask3 := hask.keep hc3
          have a3 := hask3.cell 1
          have ok3 := ok1.new hc3
          have hsx : Src w3 (some ⟨wr.heap.size + 1, 0, none⟩) (bts x) := Src.of_all hx4
          have HXL := Lib.hid hxl
          clear hx3 hx4 hxl
          by_cases hgood : 0 ≤ i ∧ i < s.V.length ∧ 64 = 64
          · obtain ⟨g1, g2, g3⟩ := hgood
            obtain ⟨i', rfl⟩ := Int.eq_ofNat_of_zero_le g1
            have hi2 : i' < s.V.length := by omega
            have hx64 : x.length = 64 := by exact HXL.out
            have hA64 : ∀ ad, (some (⟨wr.heap.size + 1, 0, none⟩ : Addr)) = some ad → ad.block ∉ [bS, bW] ∧ ad.block ≠ q := fun ad e => by
              injection e with e
              subst e
              simp
              omega
            have hsnw := hsn.write (k := i') (by have := hsn.lv; omega) hx64
            have HW1 := Lib.hid (fun (W : World) (hc : Chg [] w3 W) => write_int (c := 64) (Dsk.keep hds3 hc : DskS W p bL bS bW s) i' g1 (by omega) hx64 (hsx.keep hc))
            have HW2 := Lib.hid (fun (W : World) (hc : Chg [bS, bW] w3 W) => rwrite_yes (c := 64) (hrs3.away hc (by simp; omega) (by simp; omega) (by simp; omega) (by simp; omega)) i' hi2 hx64 (hsx.chg hc (fun _ ad e => (hA64 ad e).1)) (fun ad e => (hA64 ad e).2))
            clear hA64 hx64 g1 g2
            go_wp2_with fail
            go_region_with (first
              | (go_at_call 65; refine (HW1.out _ ?_).mono ?_; · (repeat (first | exact Chg.refl _ _ | apply Chg.drew))
                 rintro e w5 ⟨rfl, hd5, hc5⟩
                 have a5 := ((hask3).drew.chg hc5 (by simp; omega)).cell 1
                 have hcw5 : Chg [bS, bW] w3 w5 := ((Chg.refl _ _).drew).trans hc5)
              | (go_at_call 66; refine (HW2.out _ hcw5).mono ?_
                 rintro e w6 ⟨m6, rfl, hr6, hc6⟩))
            all_goals
              rw [Int.toNat_natCast] at hd5
              have hd6 : DskS w6 p bL bS bW (s.write i' x) := Dsk.away hd5 hc6 (by simp; omega) (by simp; omega) (by simp; omega) (by simp; omega)
              have ok5 : Chg [] w w5 := ok3.then_ hcw5 (by simp; omega)
              have ok6 : Chg [] w w6 := ok5.then_ hc6 (by simp; omega)
              clear hd5
              go_wp2_with fail
              refine (hal _ _ _ _ _ _ _ _ _ _ _ _ _ hd6 hr6).mono ?_
              rintro e w9 ⟨rfl, hc9⟩
              go_wp2_with fail
              go_roundw
              case rel => exact ⟨k + 1, by go_num, by omega, by omega, ⟨_, _, _, hsnw, Dsk.keep hd6 hc9, hr6.keep hc9, hz2⟩, ok6.new hc9⟩
              case measure => simp [intOf]; omega
          · have hbad : i < 0 ∨ (s.V.length : Int) ≤ i ∨ 64 ≠ 64 := by omega
            have HW1 := Lib.hid (fun (W : World) (hc : Chg [] w3 W) => write_no (Dsk.keep hds3 hc : DskS W p bL bS bW s) i (some (⟨wr.heap.size + 1, 0, none⟩ : Addr)) 64 64 hbad)
            have HW2 := Lib.hid (fun (W : World) (hc : Chg [] w3 W) => rwrite_no (hrs3.keep hc) i (some (⟨wr.heap.size + 1, 0, none⟩ : Addr)) 64 64 hbad)
            clear hgood hbad
            go_wp2_with fail
            go_region_with (first
              | (go_at_call 65; refine (HW1.out _ ?_).mono ?_; · (repeat (first | exact Chg.refl _ _ | apply Chg.drew))
                 rintro e w5 ⟨rfl, rfl⟩)
              | (go_at_call 66; refine (HW2.out _ ?_).mono ?_; · (repeat (first | exact Chg.refl _ _ | apply Chg.drew))
                 rintro e w6 ⟨rfl, rfl⟩))
            all_goals
              have hd6 : DskS (w3).drew p bL bS bW s := Dsk.keep hds3 (Chg.refl _ _).drew
              have hr6 := hrs3.keep (Chg.refl [] _).drew
              go_wp2_with fail
              refine (hal _ _ _ _ _ _ _ _ _ _ _ _ _ hd6 hr6).mono ?_
              rintro e w9 ⟨rfl, hc9⟩
              go_wp2_with fail
              go_roundw
              case rel => exact ⟨k + 1, by go_num, by omega, by omega, ⟨_, _, _, hsn, Dsk.keep hd6 hc9, hr6.keep hc9, hz2⟩, ok3.drew.new hc9⟩
              case measure => simp [intOf]; omega
        · have hbl : B.length = bn := hao.bl
          have hbs : Src w bA (bts B) := hao.bs
          have zr : z ≤ wr.heap.size := by have := hrs.last.lt; omega
          have hbs1 : Src (wr.alloc (.cells #[.int .i64 kind, .int .i64 i, .slice bA bn bc, .slice cA cn cc] 74)) bA (bts B) := (hbs.keep okr).keep ((Chg.refl _ _).alloc _)
          by_cases hgood : 0 ≤ i ∧ i < s.V.length ∧ bn = 64
          · obtain ⟨g1, g2, g3⟩ := hgood
            obtain ⟨i', rfl⟩ := Int.eq_ofNat_of_zero_le g1
            have hi2 : i' < s.V.length := by omega
            have hx64 : B.length = 64 := by omega
            have hA64 : ∀ ad, bA = some ad → ad.block ∉ [bS, bW] ∧ ad.block ≠ q := fun ad e => by
              obtain ⟨ad', e', hlt', _⟩ := hbs (by rw [bts_len]; omega)
              rw [e] at e'
              injection e' with e'
              subst e'
              simp
              omega
            have hsnw := hsn.write (k := i') (by have := hsn.lv; omega) hx64
            have HW1 := Lib.hid (fun (W : World) (hc : Chg [] (wr.alloc (.cells #[.int .i64 kind, .int .i64 (i' : Int), .slice bA bn bc, .slice cA cn cc] 74)) W) => write_int (c := bc) (Dsk.keep hds1 hc : DskS W p bL bS bW s) i' g1 (by omega) hx64 (hbs1.keep hc))
            have HW2 := Lib.hid (fun (W : World) (hc : Chg [bS, bW] (wr.alloc (.cells #[.int .i64 kind, .int .i64 (i' : Int), .slice bA bn bc, .slice cA cn cc] 74)) W) => rwrite_yes (c := bc) (hrs1.away hc (by simp; omega) (by simp; omega) (by simp; omega) (by simp; omega)) i' hi2 hx64 (hbs1.chg hc (fun _ ad e => (hA64 ad e).1)) (fun ad e => (hA64 ad e).2))
            subst g3
            clear hA64 hx64 g1 g2
            go_wp2_with fail
            go_region_with (first
              | (go_at_call 65; refine (HW1.out _ ?_).mono ?_; · (repeat (first | exact Chg.refl _ _ | apply Chg.drew))
                 rintro e w5 ⟨rfl, hd5, hc5⟩
                 have a5 := ((hask).drew.chg hc5 (by simp; omega)).cell 1
                 have hcw5 := (Chg.refl [bS, bW] _).drew.trans hc5)
              | (go_at_call 66; refine (HW2.out _ hcw5).mono ?_
                 rintro e w6 ⟨m6, rfl, hr6, hc6⟩))
            all_goals
              rw [Int.toNat_natCast] at hd5
              have hd6 : DskS w6 p bL bS bW (s.write i' B) := Dsk.away hd5 hc6 (by simp; omega) (by simp; omega) (by simp; omega) (by simp; omega)
              have ok5 : Chg [] w w5 := ok1.then_ hcw5 (by simp; omega)
              have ok6 : Chg [] w w6 := ok5.then_ hc6 (by simp; omega)
              clear hd5
              go_wp2_with fail
              refine (hal _ _ _ _ _ _ _ _ _ _ _ _ _ hd6 hr6).mono ?_
              rintro e w9 ⟨rfl, hc9⟩
              go_wp2_with fail
              go_roundw
              case rel => exact ⟨k + 1, by go_num, by omega, by omega, ⟨_, _, _, hsnw, Dsk.keep hd6 hc9, hr6.keep hc9, hz2⟩, ok6.new hc9⟩
              case measure => simp [intOf]; omega
          · have hbad : i < 0 ∨ (s.V.length : Int) ≤ i ∨ bn ≠ 64 := by omega
            have HW1 := Lib.hid (fun (W : World) (hc : Chg [] (wr.alloc (.cells #[.int .i64 kind, .int .i64 i, .slice bA bn bc, .slice cA cn cc] 74)) W) => write_no (Dsk.keep hds1 hc : DskS W p bL bS bW s) i bA bn bc hbad)
            have HW2 := Lib.hid (fun (W : World) (hc : Chg [] (wr.alloc (.cells #[.int .i64 kind, .int .i64 i, .slice bA bn bc, .slice cA cn cc] 74)) W) => rwrite_no (hrs1.keep hc) i bA bn bc hbad)
            clear hgood hbad
            go_wp2_with fail
            go_region_with (first
              | (go_at_call 65; refine (HW1.out _ ?_).mono ?_; · (repeat (first | exact Chg.refl _ _ | apply Chg.drew))
                 rintro e w5 ⟨rfl, rfl⟩)
              | (go_at_call 66; refine (HW2.out _ ?_).mono ?_; · (repeat (first | exact Chg.refl _ _ | apply Chg.drew))
                 rintro e w6 ⟨rfl, rfl⟩))
            all_goals
              have hd6 : DskS ((wr.alloc (.cells #[.int .i64 kind, .int .i64 i, .slice bA bn bc, .slice cA cn cc] 74))).drew p bL bS bW s := Dsk.keep hds1 (Chg.refl _ _).drew
              have hr6 := hrs1.keep (Chg.refl [] _).drew
              go_wp2_with fail
              refine (hal _ _ _ _ _ _ _ _ _ _ _ _ _ hd6 hr6).mono ?_
              rintro e w9 ⟨rfl, hc9⟩
              go_wp2_with fail
              go_roundw
              case rel => exact ⟨k + 1, by go_num, by omega, by omega, ⟨_, _, _, hsn, Dsk.keep hd6 hc9, hr6.keep hc9, hz2⟩, ok1.drew.new hc9⟩
              case measure => simp [intOf]; omega
      · clear has
        go_wp2_with fail
        all_goals
          refine (hal _ _ _ _ _ _ _ _ _ _ _ _ _ hds hrs).mono ?_
          rintro e w9 ⟨rfl, hc9⟩
          go_wp2_with fail
          go_ret
          exact ⟨rfl, okr.new hc9⟩
  · have hno : n < 64 ∨ 10304 ≤ n ∨ n % 64 ≠ 0 := by omega
    clear hok has
    go_enter Try.func40, Try.ntmps40
    go_wp2_with fail
    refine (of_no hn hno).mono ?_
    rintro e w1 ⟨rfl, rfl⟩
    go_wp2_with fail
    refine (rof_no hn hno).mono ?_
    rintro e w1 ⟨rfl, rfl⟩
    go_wp2_with fail
    go_ret
    exact ⟨rfl, Chg.refl _ _⟩
end
end Go.Proofs.Ytigbnmckdjlihaa
