/-
  The walk of DiskNumbers.
-/
import Derived.Test.YtigbnmckdjlihaaLawPlays
namespace Go.Proofs.Ytigbnmckdjlihaa
open Go.RowKit
def seven : List Value := [.int .i64 (-1), .int .i64 0, .int .i64 1, .int .i64 2, .int .i64 160, .int .i64 161, .int .i64 1099511627776]
theorem seven_get (j : Nat) (h : j < 7) : seven[j]? = some (.int .i64 (-1)) ∨ seven[j]? = some (.int .i64 0) ∨ seven[j]? = some (.int .i64 1) ∨ seven[j]? = some (.int .i64 2) ∨ seven[j]? = some (.int .i64 160) ∨ seven[j]? = some (.int .i64 161) ∨ seven[j]? = some (.int .i64 1099511627776) := by
  match j, h with
  | 0, _ => exact .inl rfl
  | 1, _ => exact .inr (.inl rfl)
  | 2, _ => exact .inr (.inr (.inl rfl))
  | 3, _ => exact .inr (.inr (.inr (.inl rfl)))
  | 4, _ => exact .inr (.inr (.inr (.inr (.inl rfl))))
  | 5, _ => exact .inr (.inr (.inr (.inr (.inr (.inl rfl)))))
  | 6, _ => exact .inr (.inr (.inr (.inr (.inr (.inr rfl)))))
/-- An ask that the law made: its slices are new blocks. -/
structure MadeAsk (w : World) (a : AskV) : Prop where
  k : 0 ≤ a.kind ∧ a.kind ≤ 7
  i : -1 ≤ a.i ∧ a.i ≤ 4
  b : ∃ g, a.bA = some ⟨g, 0, none⟩ ∧ Whole w g 5 (bts a.B)
  bl : a.B.length = a.bn
  bm : a.bn ≤ 100
  c : ∃ g r, a.cA = some ⟨g, 0, none⟩ ∧ Whole w g 3 (nms a.C ++ r)
  cl : a.C.length = a.cn
  cm : a.cn ≤ 100
theorem nms_len' (l : List Int) : (nms l).length = l.length := by simp [nms]
theorem MadeAsk.ok {w : World} {a : AskV} (h : MadeAsk w a) : AskOk w a := by
  obtain ⟨g, hg, hW⟩ := h.b
  obtain ⟨g2, r, hg2, hW2⟩ := h.c
  refine ⟨by have := h.k; omega, by have := h.k; omega, by have := h.i; omega, by have := h.i; omega, h.bl, by rw [hg]; exact Src.of_all hW, by have := h.bm; omega, h.cl, ?_, by have := h.cm; omega, fun _ ad e => ?_⟩
  · rw [hg2]
    have := Src.of_whole hW2 0 a.C.length
    rwa [List.drop_zero, List.take_left' (nms_len' _)] at this
  · rw [hg2] at e
    injection e with e
    subst e
    exact ⟨rfl, hW2.lt⟩
theorem MadeAsk.keep {w w' : World} {a : AskV} (h : MadeAsk w a) (hc : Chg [] w w') : MadeAsk w' a := by
  obtain ⟨g, hg, hW⟩ := h.b
  obtain ⟨g2, r, hg2, hW2⟩ := h.c
  exact { h with b := ⟨g, hg, hW.keep hc⟩, c := ⟨g2, r, hg2, hW2.keep hc⟩ }
theorem whole_grown {w w' : World} {B2 e2 k2 m : Nat} {v2 : Value} {ys : List Value} {g t : Nat} {cs : List Value} (h : Whole w g t cs) (h2 : w.ownsRow B2 e2 k2 v2 m ys) (hne : t ≠ e2) (hg : w.grownBy w' v2.ownBlock) : Whole w' g t cs := by
  unfold Whole at h ⊢
  rw [hg.block g ?_ ?_]
  · exact h
  · rcases Nat.lt_or_ge g w.heap.size with hlt | hge
    · exact hlt
    · rw [Array.getElem?_eq_none hge] at h; cases h
  · intro hc
    rcases h2.2 with ⟨rfl, _⟩ | ⟨g2, cap2, cur2, rfl, hb2, hh2, _⟩
    · simp [Value.ownBlock] at hc
    · simp [Value.ownBlock] at hc
      subst hc
      rw [h] at hh2
      simp at hh2
      exact hne hh2.2
theorem MadeAsk.grown {w w' : World} {B2 m : Nat} {v2 : Value} {ys : List Value} {a : AskV} (h : MadeAsk w a) (h2 : w.ownsRow B2 74 4 v2 m ys) (hg : w.grownBy w' v2.ownBlock) : MadeAsk w' a := by
  obtain ⟨g, hg1, hW⟩ := h.b
  obtain ⟨g2, r, hg2, hW2⟩ := h.c
  exact { h with b := ⟨g, hg1, whole_grown hW h2 (by decide) hg⟩, c := ⟨g2, r, hg2, whole_grown hW2 h2 (by decide) hg⟩ }
theorem byte_of (j : Nat) (h : j < 256) : B8 (UInt8.ofNat j) = .int .u8 (j : Int) := by
  unfold B8
  rw [UInt8.toNat_ofNat', Nat.mod_eq_of_lt (by simpa using h)]
/-- The law's own ask. -/
def theAsk (z j q : Nat) : AskV := ⟨((j : Int) * (j : Int) + (q : Int)) % 8, ((j : Int) * 7 + (q : Int)) % 6 - 1, some ⟨z, 0, none⟩, 3, 3, [UInt8.ofNat j, UInt8.ofNat q, 3], some ⟨z + 1, 0, none⟩, j % 6 % 5, 5, ([(j : Int) % 70 - 3, 64, (q : Int), -1, 1099511627776]).take (j % 6 % 5)⟩
theorem theAsk_made (wr : World) (j q : Nat) (hj : j < 50) (hq : q < 30) (o : Obj) :
    MadeAsk (((wr.alloc (.cells #[.int .u8 (j : Int), .int .u8 (q : Int), .int .u8 3] 5)).alloc (.cells #[.int .i64 ((j : Int) % 70 - 3), .int .i64 64, .int .i64 (q : Int), .int .i64 (-1), .int .i64 1099511627776] 3)).alloc o) (theAsk wr.heap.size j q) := by
  have h1 := Whole.new wr 5 [.int .u8 (j : Int), .int .u8 (q : Int), .int .u8 3]
  have h2 := whole_at (Whole.new (wr.alloc (.cells #[.int .u8 (j : Int), .int .u8 (q : Int), .int .u8 3] 5)) 3 [.int .i64 ((j : Int) % 70 - 3), .int .i64 64, .int .i64 (q : Int), .int .i64 (-1), .int .i64 1099511627776]) (show _ = wr.heap.size + 1 by simp)
  refine ⟨by unfold theAsk; simp only; omega, by unfold theAsk; simp only; omega, ⟨_, rfl, ?_⟩, rfl, by unfold theAsk; simp only; omega, ⟨_, nms (([(j : Int) % 70 - 3, 64, (q : Int), -1, 1099511627776]).drop (j % 6 % 5)), rfl, ?_⟩, ?_, by unfold theAsk; simp only; omega⟩
  · have e : bts (theAsk wr.heap.size j q).B = [.int .u8 (j : Int), .int .u8 (q : Int), .int .u8 3] := by
      show [B8 (UInt8.ofNat j), B8 (UInt8.ofNat q), B8 3] = _
      rw [byte_of j (by omega), byte_of q (by omega)]
      rfl
    rw [e]
    exact (h1.keep ((Chg.refl _ _).alloc _)).keep ((Chg.refl _ _).alloc _)
  · have e : nms (theAsk wr.heap.size j q).C ++ nms (([(j : Int) % 70 - 3, 64, (q : Int), -1, 1099511627776]).drop (j % 6 % 5)) = [.int .i64 ((j : Int) % 70 - 3), .int .i64 64, .int .i64 (q : Int), .int .i64 (-1), .int .i64 1099511627776] := by
      show nms (([(j : Int) % 70 - 3, 64, (q : Int), -1, 1099511627776]).take (j % 6 % 5)) ++ _ = _
      unfold nms
      rw [← List.map_append, List.take_append_drop]
      rfl
    rw [e]
    exact h2.keep ((Chg.refl _ _).alloc _)
  · show (List.take _ _).length = j % 6 % 5
    rw [List.length_take]
    simp only [List.length_cons, List.length_nil]
    omega
def MadeA (w wr : World) (v : Value) (k : Nat) : Prop := ∃ l, wr.ownsRow w.heap.size 74 4 v k (askCs l) ∧ (∀ a ∈ l, MadeAsk wr a) ∧ Chg [] w wr
section
variable {w : World}
set_option maxHeartbeats 8000000 in
set_option maxRecDepth 100000 in
theorem dnumbers_any : Calls Try.prog 14 #[] w (LawPost w) := by
  obtain ⟨i0, hi, hz0, hz1, hz2⟩ := info_parts info_ask
  go_enter Try.func14, Try.ntmps14
  go_wp2_with fail
  have hT := Whole.new w 3 seven
  obtain ⟨g, hg⟩ : ∃ g, g = w.heap.size := ⟨_, rfl⟩
  rw [← hg] at hT
  have hc0 : Chg [] w (w.alloc (.cells seven.toArray 3)) := (Chg.refl [] w).alloc _
  change Code.wp _ _ _ _ (w.alloc (.cells seven.toArray 3))
  rw [← hg]
  clear hg
  go_loopw [9] (fun i wr => ∃ k : Nat, k ≤ 7 ∧ i = .int .i64 (k : Int) ∧ Whole wr g 3 seven ∧ Chg [] w wr) (fun i _ => 7 - (intOf i).toNat)
  case atStart => exact ⟨0, by omega, rfl, hT, hc0⟩
  case round =>
    obtain ⟨k, hk, rfl, hTr, hcr⟩ := hrel
    clear hT hc0
    by_cases hlt : k < 7
    · have ck := hTr.cell k
      have hkI : (k : Int) < 7 := by omega
      have HT := Lib.hid hTr
      have HC := Lib.hid hcr
      clear hTr hcr
      rcases seven_get k hlt with hv | hv | hv | hv | hv | hv | hv
      · rw [hv] at ck
        clear hv
        go_wp2_with fail
        refine (new_no (-1) (by omega)).mono ?_
        rintro e w1 ⟨rfl, rfl⟩
        go_wp2_with fail
        go_roundw
        case rel => exact ⟨k + 1, by omega, by go_num, HT.out, HC.out⟩
        case measure => simp [intOf]; omega
      · rw [hv] at ck
        clear hv
        go_wp2_with fail
        refine (new_no (0) (by omega)).mono ?_
        rintro e w1 ⟨rfl, rfl⟩
        go_wp2_with fail
        go_roundw
        case rel => exact ⟨k + 1, by omega, by go_num, HT.out, HC.out⟩
        case measure => simp [intOf]; omega
      · rw [hv] at ck
        clear hv
        go_wp2_with fail
        refine (new_int (1) (by omega) (by omega)).mono ?_
        rintro e w1 ⟨p, bL, bS, bW, rfl, hd, _, _, _, _, hc1⟩
        have hd2 : Dsk w1 p bL bS bW (zeros (1 * 64)) (zeros (1 * 64)) (falses 1) := hd
        go_wp2_with fail
        refine (len_any hd2).mono ?_
        rintro e w1' ⟨rfl, rfl⟩
        rw [show ((falses 1).length : Int) = 1 by rw [falses_len]; rfl]
        go_wp2_with fail
        refine (waits_none hd2).mono ?_
        rintro e w2 ⟨A2, c2, rfl, hc2⟩
        go_wp2_with fail
        go_roundw
        case rel => exact ⟨k + 1, by omega, by go_num, (HT.out.keep hc1).keep hc2, (HC.out.new hc1).new hc2⟩
        case measure => simp [intOf]; omega
      · rw [hv] at ck
        clear hv
        go_wp2_with fail
        refine (new_int (2) (by omega) (by omega)).mono ?_
        rintro e w1 ⟨p, bL, bS, bW, rfl, hd, _, _, _, _, hc1⟩
        have hd2 : Dsk w1 p bL bS bW (zeros (2 * 64)) (zeros (2 * 64)) (falses 2) := hd
        go_wp2_with fail
        refine (len_any hd2).mono ?_
        rintro e w1' ⟨rfl, rfl⟩
        rw [show ((falses 2).length : Int) = 2 by rw [falses_len]; rfl]
        go_wp2_with fail
        refine (waits_none hd2).mono ?_
        rintro e w2 ⟨A2, c2, rfl, hc2⟩
        go_wp2_with fail
        go_roundw
        case rel => exact ⟨k + 1, by omega, by go_num, (HT.out.keep hc1).keep hc2, (HC.out.new hc1).new hc2⟩
        case measure => simp [intOf]; omega
      · rw [hv] at ck
        clear hv
        go_wp2_with fail
        refine (new_int (160) (by omega) (by omega)).mono ?_
        rintro e w1 ⟨p, bL, bS, bW, rfl, hd, _, _, _, _, hc1⟩
        have hd2 : Dsk w1 p bL bS bW (zeros (160 * 64)) (zeros (160 * 64)) (falses 160) := hd
        go_wp2_with fail
        refine (len_any hd2).mono ?_
        rintro e w1' ⟨rfl, rfl⟩
        rw [show ((falses 160).length : Int) = 160 by rw [falses_len]; rfl]
        go_wp2_with fail
        refine (waits_none hd2).mono ?_
        rintro e w2 ⟨A2, c2, rfl, hc2⟩
        go_wp2_with fail
        go_roundw
        case rel => exact ⟨k + 1, by omega, by go_num, (HT.out.keep hc1).keep hc2, (HC.out.new hc1).new hc2⟩
        case measure => simp [intOf]; omega
      · rw [hv] at ck
        clear hv
        go_wp2_with fail
        refine (new_no (161) (by omega)).mono ?_
        rintro e w1 ⟨rfl, rfl⟩
        go_wp2_with fail
        go_roundw
        case rel => exact ⟨k + 1, by omega, by go_num, HT.out, HC.out⟩
        case measure => simp [intOf]; omega
      · rw [hv] at ck
        clear hv
        go_wp2_with fail
        refine (new_no (1099511627776) (by omega)).mono ?_
        rintro e w1 ⟨rfl, rfl⟩
        go_wp2_with fail
        go_roundw
        case rel => exact ⟨k + 1, by omega, by go_num, HT.out, HC.out⟩
        case measure => simp [intOf]; omega
    · have hkI : (7 : Int) ≤ (k : Int) := by omega
      have HC := Lib.hid hcr
      clear hTr hcr
      go_wp2_with fail
      go_loopw [4] (fun i wr => ∃ k : Nat, k ≤ 30 ∧ i = .int .i64 (k : Int) ∧ Chg [] w wr) (fun i _ => 30 - (intOf i).toNat)
      case atStart => exact ⟨0, by omega, rfl, HC.out⟩
      case round =>
        obtain ⟨q, hq, rfl, hcq⟩ := hrel
        by_cases hltq : q < 30
        · have hqI : (q : Int) < 30 := by omega
          have HCQ := Lib.hid hcq
          have hwq := hcq.size
          clear hcq
          go_wp2_with fail
          go_loopw [5, 6] (fun v i wx => ∃ j : Nat, j ≤ 50 ∧ i = .int .i64 (j : Int) ∧ MadeA w wx v j) (fun _ i _ => 50 - (intOf i).toNat)
          case atStart => exact ⟨0, by omega, rfl, [], World.ownsRow_nil _ _ _ _, fun a ha => by simp at ha, HCQ.out⟩
          case round =>
            obtain ⟨j, hj, rfl, sl, hown, hok, hcx⟩ := hrel
            have hwx := hcx.size
            by_cases hltj : j < 50
            · have hjI : (j : Int) < 50 := by omega
              have hjj : (j : Int) * (j : Int) ≤ 2401 := by
                have : j * j ≤ 49 * 49 := Nat.mul_le_mul (by omega) (by omega)
                have h2 : ((j * j : Nat) : Int) ≤ 2401 := by omega
                rwa [Int.natCast_mul] at h2
              have hj0 : (0 : Int) ≤ (j : Int) * (j : Int) := by
                have h2 : (0 : Int) ≤ ((j * j : Nat) : Int) := by omega
                rwa [Int.natCast_mul] at h2
              obtain ⟨X, hX⟩ : ∃ X, X = askCs sl := ⟨_, rfl⟩
              rw [← hX] at hown
              have HX := Lib.hid hX
              have HOK := Lib.hid hok
              have HCX := Lib.hid hcx
              have hsz : ((wr.alloc (.cells #[.int .u8 (j : Int), .int .u8 (q : Int), .int .u8 3] 5)).alloc (.cells #[.int .i64 ((j : Int) % 70 - 3), .int .i64 64, .int .i64 (q : Int), .int .i64 (-1), .int .i64 1099511627776] 3)).heap.size = wr.heap.size + 1 + 1 := by simp
              have HZ := Lib.hid hsz
              clear hX hok hcx hsz
              go_wp2_with (first
                | (at_builtin
                   refine wpList_append_own _ rfl (.tmp 49) (.tmp 77) _ rfl w.heap.size 74 i0 _ 4 64 Try.underlying72 hi hz0 hz1 hz2 rfl (by decide) _ j X rfl (ownN_keep hown ((((Chg.refl [] wr).alloc (.cells #[.int .u8 (j : Int), .int .u8 (q : Int), .int .u8 3] 5)).alloc (.cells #[.int .i64 ((j : Int) % 70 - 3), .int .i64 64, .int .i64 (q : Int), .int .i64 (-1), .int .i64 1099511627776] 3)).alloc _)) ⟨wr.heap.size + 1 + 1, 0, none⟩ 1 1 [.int .i64 (((j : Int) * (j : Int) + (q : Int)) % 8), .int .i64 (((j : Int) * 7 + (q : Int)) % 6 - 1), .slice (some ⟨wr.heap.size, 0, none⟩) 3 3, .slice (some ⟨wr.heap.size + 1, 0, none⟩) (j % 6 % 5) 5] rfl rfl ?c1 ?c2 ?c3 ?c4 ?c5 ?_
                   case c1 => rw [← HZ.out]; exact cells_fresh _ _ _
                   case c2 => simp [Value.oneCell']
                   case c3 => simp only [maxLen]; omega
                   case c4 => omega
                   case c5 => simp; omega
                   intro v' w2 hown' hg' _))
              have hal := ownN_keep hown ((((Chg.refl [] wr).alloc (.cells #[.int .u8 (j : Int), .int .u8 (q : Int), .int .u8 3] 5)).alloc (.cells #[.int .i64 ((j : Int) % 70 - 3), .int .i64 64, .int .i64 (q : Int), .int .i64 (-1), .int .i64 1099511627776] 3)).alloc (.cells #[.int .i64 (((j : Int) * (j : Int) + (q : Int)) % 8), .int .i64 (((j : Int) * 7 + (q : Int)) % 6 - 1), .slice (some ⟨wr.heap.size, 0, none⟩) 3 3, .slice (some ⟨wr.heap.size + 1, 0, none⟩) (j % 6 % 5) 5] 74))
              have HAL := Lib.hid hal
              clear hal
              go_roundw
              case rel =>
                refine ⟨j + 1, by omega, by go_num, sl ++ [theAsk wr.heap.size j q], ?_, ?_, chg_grown (((HCX.out.alloc _).alloc _).alloc _) hg' fun g hgg => (hown.lt g hgg).1⟩
                · rw [askCs_app, askCs_one, ← HX.out]
                  exact hown'
                · intro a ha
                  rcases List.mem_append.1 ha with h | h
                  · exact ((HOK.out a h).keep ((((Chg.refl [] wr).alloc _).alloc _).alloc _)).grown HAL.out hg'
                  · simp only [List.mem_cons, List.not_mem_nil, or_false] at h
                    subst h
                    exact (theAsk_made wr j q hltj hltq _).grown HAL.out hg'
              case measure => simp [intOf]; omega
            · have hjI : (50 : Int) ≤ (j : Int) := by omega
              obtain ⟨A1, c1, rfl, hsl, has, hkm⟩ := asks_own hown fun a ha => (hok a ha).ok
              have HSL := Lib.hid hsl
              have HAS := Lib.hid has
              have HCX := Lib.hid hcx
              have hmk1 : ∀ W : World, (Instr.makeSlice 40 (.int .i64 256) (.int .i64 256)).run Try.prog W = .ok (.slice (some ⟨W.heap.size, 0, none⟩) 256 256) (W.alloc (.cells (bts (zeros 256)).toArray 5)) := fun W => make_u8 256 (by omega) W
              clear hsl has hown hok hcx
              go_wp2_with fail
              refine (play_any alike_said (l := zeros 256) (n := 256) (zeros_len _) (Src.of_all (Whole.new wr _ _)) (by omega) (HAS.out.keep ((Chg.refl _ _).alloc _)) HSL.out hkm).mono ?_
              rintro e w2 ⟨rfl, hc2⟩
              go_wp2_with fail
              go_roundw
              case rel => exact ⟨q + 1, by omega, by go_num, (HCX.out.alloc _).new hc2⟩
              case measure => simp [intOf]; omega
        · have hqI : (30 : Int) ≤ (q : Int) := by omega
          have HCQ := Lib.hid hcq
          have hmk1 : ∀ W : World, (Instr.makeSlice 40 (.int .i64 65) (.int .i64 65)).run Try.prog W = .ok (.slice (some ⟨W.heap.size, 0, none⟩) 65 65) (W.alloc (.cells (bts (zeros 65)).toArray 5)) := fun W => make_u8 65 (by omega) W
          clear hcq
          go_wp2_with fail
          refine (play_any alike_said (l := zeros 65) (n := 65) (al := []) (na := 0) (zeros_len _) (Src.of_all (Whole.new wr _ _)) (by omega) ⟨fun h => absurd h (by simp), fun a ha => by simp at ha⟩ rfl (by omega)).mono ?_
          rintro e w2 ⟨rfl, hc2⟩
          have H2 := Lib.hid ((HCQ.out.alloc _).new hc2)
          clear hc2
          go_wp2_with fail
          refine (play_any alike_said (l := []) (n := 0) (al := []) (na := 0) rfl (Src.nil _ _) (by omega) ⟨fun h => absurd h (by simp), fun a ha => by simp at ha⟩ rfl (by omega)).mono ?_
          rintro e w3 ⟨rfl, hc3⟩
          have H3 := Lib.hid (H2.out.new hc3)
          clear hc3
          go_wp2_with fail
          refine known_any.mono ?_
          rintro e w4 ⟨rfl, hc4⟩
          go_wp2_with fail
          go_ret
          exact ⟨rfl, H3.out.new hc4⟩
end
end Go.Proofs.Ytigbnmckdjlihaa
