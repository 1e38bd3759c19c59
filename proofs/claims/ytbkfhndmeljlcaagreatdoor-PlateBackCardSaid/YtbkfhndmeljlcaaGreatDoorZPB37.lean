/-
  PB: UNum2, ULines.
-/
import Derived.Test.YtbkfhndmeljlcaaGreatDoorZPB33
import Derived.Laws.RangeAny
import Derived.Laws.Strings
import Derived.Deep.DeepCutAuto
import Derived.Lib.OthersKept
namespace Go.Proofs.YtbkfhndmeljlcaaGreatDoor
open Go.RowKit
open Go.Lib (decodeN decode_at decodeN_shape decodeN_le_n')
/-- A rune of one byte, or of bytes that are none of the first half. -/
theorem dec_byte (l : List UInt8) (p : Nat) (h : p < l.length) :
    ((l.getD p 0).toNat < 128 ∧ Utf8.decode (strOf l) p = ((l.getD p 0).toNat, 1)) ∨
    (128 ≤ (l.getD p 0).toNat ∧ 128 ≤ (Utf8.decode (strOf l) p).1 ∧ 1 ≤ (Utf8.decode (strOf l) p).2 ∧ p + (Utf8.decode (strOf l) p).2 ≤ l.length ∧ ∀ j, p ≤ j → j < p + (Utf8.decode (strOf l) p).2 → 128 ≤ (l.getD j 0).toNat) := by
  have hg : ∀ i, (strOf l).get! i = l.getD i 0 := fun i => ba_get l i
  have hs : (strOf l).size = l.length := strOf_len l
  have hw := width_pos (strOf l) p (by rw [hs]; exact h)
  rw [decode_at, hg, hg, hg, hg, hs] at hw ⊢
  have hle := decodeN_le_n' (l.length - p) (l.getD p 0).toNat (l.getD (p + 1) 0).toNat (l.getD (p + 2) 0).toNat (l.getD (p + 3) 0).toNat (by omega)
  rcases decodeN_shape (l.length - p) (l.getD p 0).toNat (l.getD (p + 1) 0).toNat (l.getD (p + 2) 0).toNat (l.getD (p + 3) 0).toNat with ⟨c, e⟩ | ⟨c1, c2, c3, cv, e⟩ | ⟨c1, c2, c3, c4, cv, cs, e⟩ | ⟨c1, c2, c3, c4, c5, cv, cw, e⟩ | e
  · exact .inl ⟨c, e⟩
  · rw [e] at hle ⊢
    simp only at hle ⊢
    refine .inr ⟨by omega, by omega, by omega, by omega, fun j h1 h2 => ?_⟩
    have : j = p ∨ j = p + 1 := by omega
    rcases this with rfl | rfl <;> omega
  · rw [e] at hle ⊢
    simp only at hle ⊢
    refine .inr ⟨by omega, by omega, by omega, by omega, fun j h1 h2 => ?_⟩
    have : j = p ∨ j = p + 1 ∨ j = p + 2 := by omega
    rcases this with rfl | rfl | rfl <;> omega
  · rw [e] at hle ⊢
    simp only at hle ⊢
    refine .inr ⟨by omega, by omega, by omega, by omega, fun j h1 h2 => ?_⟩
    have : j = p ∨ j = p + 1 ∨ j = p + 2 ∨ j = p + 3 := by omega
    rcases this with rfl | rfl | rfl | rfl <;> omega
  · by_cases hb : (l.getD p 0).toNat < 128
    · left
      refine ⟨hb, ?_⟩
      unfold decodeN
      rw [if_pos hb]
    · rw [e] at hle ⊢
      simp only at hle ⊢
      refine .inr ⟨by omega, by omega, by omega, by omega, fun j h1 h2 => ?_⟩
      have : j = p := by omega
      subst this
      omega
theorem drop_getD {l : List UInt8} {p : Nat} (h : p < l.length) : l.drop p = l.getD p 0 :: l.drop (p + 1) := by
  rw [List.drop_eq_getElem_cons h]
  congr 1
  simp [List.getD, List.getElem?_eq_getElem h]
def unumV (l : List UInt8) : Value := match valP l with
  | some n => .tuple #[.int .i64 (n : Int), .bool true]
  | none => .tuple #[.int .i64 0, .bool false]
def UnumPost (l : List UInt8) (w : World) (e : Ending) (w' : World) : Prop := e = .returned (unumV l) ∧ Chg [] w w'
theorem valN_le : ∀ (l : List UInt8) {n m : Nat}, n ≤ 9223372036854775807 → valN l n = some m → m ≤ 9223372036854775807
  | [], n, m, h, e => by rw [valN] at e; injection e with e; omega
  | b :: l, n, m, h, e => by
    rw [valN] at e
    split at e
    · split at e
      · cases e
      · exact valN_le l (by omega) e
    · cases e
theorem valP_le {l : List UInt8} {m : Nat} (e : valP l = some m) : m ≤ 9223372036854775807 := by
  unfold valP at e
  split at e
  · cases e
  · exact valN_le l (by omega) e
section
variable {w : World}
set_option maxHeartbeats 8000000 in
set_option maxRecDepth 100000 in
theorem unumber_any (l : List UInt8) (hl : l.length ≤ 1000000) : Calls Tryz.prog 116 #[.string (strOf l)] w (UnumPost l w) := by
  obtain ⟨V, hV⟩ : ∃ V, V = unumV l := ⟨_, rfl⟩
  unfold UnumPost
  rw [← hV]
  unfold unumV valP at hV
  have hsz := strOf_len l
  by_cases h0 : l = []
  · subst h0
    rw [if_pos (.inl rfl)] at hV
    have HV := Lib.hid hV
    clear hV
    have e0 : strOf [] = ⟨#[]⟩ := rfl
    rw [e0]
    go_enter Tryz.func116, Tryz.ntmps116
    go_wp2_with fail
    go_ret2
    exact ⟨by rw [HV.out]; rfl, Chg.refl _ _⟩
  have hlen : 0 < l.length := List.length_pos_iff.2 h0
  have hne : (strOf l).toList.isEmpty = false := by
    rw [ByteArray.toList_eq, strOf_toList]
    cases l with
    | nil => exact absurd rfl h0
    | cons => rfl
  have hlJ : (0 : Int) < ((strOf l).size : Int) := by omega
  have hg0 : ∀ h : 0 < (strOf l).size, ((strOf l)[0]'h).toNat = (l.getD 0 0).toNat := by
    intro h
    have e1 := get_at (strOf l) 0 h
    rw [Nat.add_zero, show (strOf l).get! 0 = l.getD 0 0 from ba_get l 0] at e1
    rw [← e1]
  by_cases hz : 1 < l.length ∧ l.getD 0 0 = 48
  · rw [if_pos (.inr hz)] at hV
    have HV := Lib.hid hV
    have hlI : (1 : Int) < (l.length : Int) := by omega
    rw [hz.2] at hg0
    have hg1 : ∀ h : 0 < (strOf l).size, ((strOf l)[0]'h).toNat = 48 := hg0
    clear hV h0 hz hg0
    generalize strOf l = S at *
    go_enter Tryz.func116, Tryz.ntmps116
    go_wp2_with fail
    go_ret2
    exact ⟨by rw [HV.out]; rfl, Chg.refl _ _⟩
  · have hVV : V = (match valN (l.drop 0) 0 with | some n => Value.tuple #[.int .i64 (n : Int), .bool true] | none => .tuple #[.int .i64 0, .bool false]) := by
      rw [hV, if_neg (fun h => h.elim h0 hz)]
      rfl
    have HVV := Lib.hid hVV
    have hspl : ((1 : Int) < (l.length : Int) ∧ ∀ h : 0 < (strOf l).size, (((((strOf l)[0]'h).toNat : Int) == 48) = false)) ∨ decide ((1 : Int) < (l.length : Int)) = false := by
      by_cases h1 : 1 < l.length
      · left
        refine ⟨by omega, fun h => ?_⟩
        rw [hg0 h]
        have h2 : l.getD 0 0 ≠ 48 := fun h => hz ⟨h1, h⟩
        have h3 : (l.getD 0 0).toNat ≠ 48 := fun h => h2 (UInt8.toNat_inj.1 (by rw [h]; rfl))
        generalize (l.getD 0 0).toNat = q at h3
        simp
        omega
      · right; simp; omega
    clear hV hVV hz h0 hg0
    obtain ⟨S, hS⟩ : ∃ S, S = strOf l := ⟨_, rfl⟩
    have HS := Lib.hid hS
    have HLN := Lib.hid hsz
    have hszS : S.size = l.length := by rw [hS]; exact hsz
    rw [← hS] at hne hlJ
    rw [← hS] at hspl
    have hspl2 := hspl
    rw [← hS]
    clear hspl hS hsz
    obtain ⟨n, hn⟩ : ∃ n, n = l.length := ⟨_, rfl⟩
    rw [← hn] at hszS hspl2 hlen hl
    have HNL := Lib.hid hn
    clear hn
    have HSN := Lib.hid hszS
    rcases hspl2 with ⟨hA, hB⟩ | hA
    all_goals
      go_enter Tryz.func116, Tryz.ntmps116
      go_upto_region 5 with fail
      clear hne hlJ
      have hI : (w.iter S 0).heap[w.heap.size]? = some (.stringIter S 0) := World.iter_heap w S 0
      have hc0 : Chg [] w (w.iter S 0) := (Chg.refl [] w).alloc _
      obtain ⟨kI, hkI⟩ : ∃ k, k = w.heap.size := ⟨_, rfl⟩
      rw [← hkI] at hI ⊢
      generalize w.iter S 0 = w1 at hI hc0 ⊢
      have HI := Lib.hid hI
      have HC0 := Lib.hid hc0
      have HK := Lib.hid hkI
      clear hI hc0 hkI
      have HCZ := Lib.hid (fun (W : World) (hW : Chg [kI] w1 W) => show Chg [] w W from HC0.out.then_ hW (fun i hi hl => by have := HK.out; simp only [List.mem_cons, List.not_mem_nil, or_false] at hi; omega))
      go_loopw [4] (fun v wr => ∃ m : Nat, v = .int .i64 (m : Int) ∧ m ≤ 9223372036854775807 ∧ (∃ pos, Hid (wr.heap[kI]? = some (.stringIter S pos)) ∧ pos ≤ n ∧ Hid (V = (match valN (l.drop pos) m with | some n => Value.tuple #[.int .i64 (n : Int), .bool true] | none => .tuple #[.int .i64 0, .bool false]))) ∧ Hid (Chg [kI] w1 wr)) (fun _ wr => n - wr.iterPos kI)
      case atStart => exact ⟨0, rfl, by omega, ⟨0, HI, by omega, HVV⟩, Lib.hid (Chg.refl _ _)⟩
      case round =>
        obtain ⟨m, rfl, hm, ⟨pos, HIr, hpos, HR⟩, HCr⟩ := hrel
        by_cases hlt : pos < n
        · have hltS : pos < S.size := by omega
          have hnx := fun ty => Lib.run_next_any_at (P := Tryz.prog) wr kI S pos ty HIr.out hltS
          go_upto_region 7 with fail
          have hdb := dec_byte l pos (by rw [← HNL.out]; exact hlt)
          rw [← HS.out] at hdb
          have hdr := drop_getD (l := l) (p := pos) (by rw [← HNL.out]; exact hlt)
          obtain ⟨d, hd⟩ : ∃ d, d = (Utf8.decode S pos).2 := ⟨_, rfl⟩
          obtain ⟨x, hx⟩ : ∃ r, r = (Utf8.decode S pos).1 := ⟨_, rfl⟩
          have hx2 : x ≤ 2147483647 := by rw [hx]; exact decode_le S pos
          have HI2 := Lib.hid (Lib.iterAt_heap wr kI S pos (pos + d) HIr.out)
          have HC2 := Lib.hid (show Chg [kI] w1 (wr.iterAt kI S (pos + d)) from HCr.out.trans ⟨rfl, rfl, rfl, by rw [Lib.iterAt_size]; exact Nat.le_refl _, fun i _ hn => Lib.iterAt_other wr kI i S (pos + d) (by simpa using hn)⟩)
          rw [← hd, ← hx]
          have HMP := Lib.hid (show wr.iterPos kI = pos from by unfold World.iterPos; rw [HIr.out])
          have HP2 := Lib.hid (show (wr.iterAt kI S (pos + d)).iterPos kI = pos + d from by unfold World.iterPos; rw [HI2.out])
          generalize wr.iterAt kI S (pos + d) = w3 at HI2 HC2 HP2 ⊢
          obtain ⟨c, hc⟩ : ∃ c, c = l.getD pos 0 := ⟨_, rfl⟩
          rw [← hc] at hdb hdr
          have HRR := Lib.hid (show V = (match valN (c :: l.drop (pos + 1)) m with | some n => Value.tuple #[.int .i64 (n : Int), .bool true] | none => .tuple #[.int .i64 0, .bool false]) from by rw [← hdr]; exact HR.out)
          have hdb2 : (c.toNat < 128 ∧ x = c.toNat ∧ d = 1) ∨ (128 ≤ c.toNat ∧ 128 ≤ x) := by
            rcases hdb with ⟨h1, h2⟩ | ⟨h1, h2, _⟩
            · exact .inl ⟨h1, by rw [hx, h2], by rw [hd, h2]⟩
            · exact .inr ⟨h1, by rw [hx]; exact h2⟩
          clear hdb hx hd hnx hdr hc
          have hwx : IntKind.i32.wrap ((x : Int) - 48) = (x : Int) - 48 := by rw [IntKind.wrap_i32]; omega
          have hno : ¬ (48 ≤ x ∧ x ≤ 57) → V = .tuple #[.int .i64 0, .bool false] := fun h => by
            rw [HRR.out, valN, if_neg]
            rcases hdb2 with ⟨_, h2, _⟩ | ⟨h1, h2⟩ <;> omega
          by_cases hd48 : 48 ≤ x
          · by_cases hd57 : x ≤ 57
            · obtain ⟨hcx, hd1⟩ : c.toNat = x ∧ d = 1 := by
                rcases hdb2 with ⟨_, h2, h3⟩ | ⟨h1, h2⟩
                · exact ⟨h2.symm, h3⟩
                · omega
              subst hd1
              have hq : ((9223372036854775807 : Int) - ((x : Int) - 48)).tdiv 10 = (((9223372036854775807 - (x - 48)) / 10 : Nat) : Int) := by
                rw [Int.tdiv_eq_ediv_of_nonneg (by omega)]; omega
              obtain ⟨q, hqe⟩ : ∃ q, q = (9223372036854775807 - (x - 48)) / 10 := ⟨_, rfl⟩
              rw [← hqe] at hq
              have hqB : (q : Int) ≤ 922337203685477580 := by omega
              have hqC : (0 : Int) ≤ (q : Int) := by omega
              have b1 : decide ((x : Int) - 48 < 0) = false := by simp; omega
              have b2 : decide (9 < (x : Int) - 48) = false := by simp; omega
              by_cases hov : q < m
              · have HV := Lib.hid (show V = .tuple #[.int .i64 0, .bool false] from by
                  rw [HRR.out, valN, if_pos (by omega), if_pos (by rw [hcx, ← hqe]; exact hov)])
                have hovI : (q : Int) < (m : Int) := by omega
                have hovD : decide ((q : Int) < (m : Int)) = true := by simpa using hov
                clear hov hdb2 hno hqe hcx
                go_wp2_with fail
                go_ret2
                exact ⟨by rw [HV.out]; rfl, HCZ.out _ HC2.out⟩
              · have HV := Lib.hid (show V = (match valN (l.drop (pos + 1)) (m * 10 + (x - 48)) with | some n => Value.tuple #[.int .i64 (n : Int), .bool true] | none => .tuple #[.int .i64 0, .bool false]) from by
                  rw [HRR.out, valN, if_pos (by omega), if_neg (by rw [hcx, ← hqe]; exact hov), hcx])
                have hovI : ¬ (q : Int) < (m : Int) := by omega
                have hovD : decide ((q : Int) < (m : Int)) = false := by simpa using hov
                have hovJ : (m : Int) ≤ (q : Int) := by omega
                clear hovI hovD
                have hm2 : m * 10 + (x - 48) ≤ 9223372036854775807 := by omega
                have HMM := Lib.hid (show ((m * 10 + (x - 48) : Nat) : Int) = (m : Int) * 10 + ((x : Int) - 48) from by omega)
                clear hov hdb2 hno hqe hcx
                go_wp2_with fail
                go_roundw
                case rel => exact ⟨m * 10 + (x - 48), by rw [HMM.out], hm2, ⟨pos + 1, HI2, by omega, HV⟩, HC2⟩
                case measure => rw [HP2.out, HMP.out]; omega
            · have HV := Lib.hid (hno (by omega))
              have b1 : decide ((x : Int) - 48 < 0) = false := by simp; omega
              have b2 : decide (9 < (x : Int) - 48) = true := by simp; omega
              clear hdb2 hno hd48 hd57
              go_wp2_with fail
              go_ret2
              exact ⟨by rw [HV.out]; rfl, HCZ.out _ HC2.out⟩
          · have HV := Lib.hid (hno (by omega))
            have b1 : decide ((x : Int) - 48 < 0) = true := by simp; omega
            clear hdb2 hno hd48
            go_wp2_with fail
            go_ret2
            exact ⟨by rw [HV.out]; rfl, HCZ.out _ HC2.out⟩
        · have hnx := fun ty => Lib.run_next_end_at (P := Tryz.prog) wr kI S pos ty HIr.out (by omega)
          have HV := Lib.hid (show V = .tuple #[.int .i64 (m : Int), .bool true] from by
            rw [HR.out, List.drop_eq_nil_of_le (by rw [← HNL.out]; omega), valN])
          go_wp2_with fail
          go_ret2
          exact ⟨by rw [HV.out]; rfl, HCZ.out _ HCr.out⟩
end
end Go.Proofs.YtbkfhndmeljlcaaGreatDoor
namespace Go.Proofs.YtbkfhndmeljlcaaGreatDoor
open Go.RowKit
/-- Texts, as cells. -/
def strs (L : List (List UInt8)) : List Value := L.map fun x => .string (strOf x)
theorem strs_app (L M : List (List UInt8)) : strs (L ++ M) = strs L ++ strs M := by simp [strs]
theorem info_str : (Tryz.prog.info? 9).map (fun i => (i.zero, i.size, i.bytes)) = some (some (.string ⟨#[]⟩), 1, 16) := by kernel_rfl
theorem split_skip : ∀ (a t acc : List UInt8), (∀ b ∈ a, b ≠ 10) → splitL (a ++ t) acc = splitL t (acc ++ a)
  | [], t, acc, _ => by simp
  | b :: a, t, acc, h => by
    rw [List.cons_append, splitL, if_neg (h b (by simp)), split_skip a t (acc ++ [b]) (fun c hc => h c (by simp [hc]))]
    simp
theorem split_rest : ∀ (t acc : List UInt8), (splitL t acc).2.length + ((splitL t acc).1.map List.length).sum + (splitL t acc).1.length = t.length + acc.length
  | [], acc => by simp [splitL]
  | b :: t, acc => by
    rw [splitL]
    split
    · have := split_rest t []
      simp only [List.length_cons, List.map_cons, List.sum_cons, List.length_nil] at this ⊢
      omega
    · have := split_rest t (acc ++ [b])
      simp only [List.length_append, List.length_cons, List.length_nil] at this ⊢
      omega
def linesOk (l : List UInt8) : Bool := decide (0 < (splitL l []).1.length) && decide ((splitL l []).2 = [])
def LinesPost (l : List UInt8) (ok : Bool) (w : World) (e : Ending) (w' : World) : Prop :=
  ∃ v, e = .returned (.tuple #[v, .bool ok]) ∧ w'.ownsRow w.heap.size 9 1 v (splitL l []).1.length (strs (splitL l []).1) ∧ Chg [] w w'
section
variable {w : World}
set_option maxHeartbeats 8000000 in
set_option maxRecDepth 100000 in
theorem ulines_any (l : List UInt8) (hl : l.length ≤ 1000000) : Calls Tryz.prog 93 #[.string (strOf l)] w (LinesPost l (linesOk l) w) := by
  obtain ⟨i0, hi0, hz0, hz1, hz2⟩ := info_parts info_str
  obtain ⟨X, hX⟩ : ∃ X, X = splitL l [] := ⟨_, rfl⟩
  obtain ⟨B, hB⟩ : ∃ B, B = linesOk l := ⟨_, rfl⟩
  rw [← hB]
  have HPP := Lib.hid (show ∀ (v : Value) (wr : World), wr.ownsRow w.heap.size 9 1 v X.1.length (strs X.1) → Chg [] w wr → LinesPost l B w (.returned (.tuple #[v, .bool B])) wr from fun v wr h1 h2 => ⟨v, rfl, by rw [← hX]; exact h1, h2⟩)
  unfold linesOk at hB
  rw [← hX] at hB
  have HB0 := Lib.hid hB
  clear hB
  have HSP := Lib.hid (show X.2.length + (X.1.map List.length).sum + X.1.length = l.length from by rw [hX]; simpa using split_rest l [])
  have HX0 := Lib.hid (show X = (([] : List (List UInt8)) ++ (splitL (l.drop 0) []).1, (splitL (l.drop 0) []).2) from by rw [hX]; rfl)
  clear hX
  obtain ⟨S, hS⟩ : ∃ S, S = strOf l := ⟨_, rfl⟩
  have HS := Lib.hid hS
  have hszS : S.size = l.length := by rw [hS]; exact strOf_len l
  rw [← hS]
  clear hS
  obtain ⟨n, hn⟩ : ∃ n, n = l.length := ⟨_, rfl⟩
  rw [← hn] at hszS hl
  have HNL := Lib.hid hn
  clear hn
  have HSZ := Lib.hid hszS
  go_enter Tryz.func93, Tryz.ntmps93
  go_upto_region 4 with fail
  have hI : (w.iter S 0).heap[w.heap.size]? = some (.stringIter S 0) := World.iter_heap w S 0
  have hc0 : Chg [] w (w.iter S 0) := (Chg.refl [] w).alloc _
  obtain ⟨kI, hkI⟩ : ∃ k, k = w.heap.size := ⟨_, rfl⟩
  have hsz : (w.iter S 0).heap.size = kI + 1 := by rw [hkI]; simp [World.iter]
  rw [← hkI] at hI ⊢
  generalize w.iter S 0 = w1 at hI hc0 hsz ⊢
  have HI := Lib.hid hI
  have HC0 := Lib.hid hc0
  have HK := Lib.hid hkI
  have HSZ1 := Lib.hid hsz
  clear hI hc0 hkI hsz hszS
  have HCZ := Lib.hid (fun (W : World) (hW : Chg [kI] w1 W) => show Chg [] w W from HC0.out.then_ hW (fun i hi hl => by have := HK.out; simp only [List.mem_cons, List.not_mem_nil, or_false] at hi; omega))
  go_loopw [4, 5] (fun v f wr => ∃ (q pos k : Nat) (L : List (List UInt8)), f = .int .i64 (q : Int) ∧ q ≤ pos ∧ pos ≤ n ∧ k ≤ pos ∧ Hid (k = L.length) ∧ Hid (wr.ownsRow (kI + 1) 9 1 v k (strs L)) ∧ Hid (wr.heap[kI]? = some (.stringIter S pos)) ∧ Hid (X = (L ++ (splitL (l.drop pos) ((l.drop q).take (pos - q))).1, (splitL (l.drop pos) ((l.drop q).take (pos - q))).2)) ∧ Hid (Chg [kI] w1 wr)) (fun _ _ wr => n - wr.iterPos kI)
  case atStart => exact ⟨0, 0, 0, [], rfl, by omega, by omega, by omega, Lib.hid rfl, Lib.hid (World.ownsRow_nil _ _ _ _), HI, HX0, Lib.hid (Chg.refl _ _)⟩
  case round =>
    obtain ⟨q, pos, k, L, rfl, hqp, hpn, hkp, HKL, HO, HIr, HX, HCr⟩ := hrel
    by_cases hlt : pos < n
    · have hltS : pos < S.size := by rw [HSZ.out]; exact hlt
      have hnx := fun ty => Lib.run_next_any_at (P := Tryz.prog) wr kI S pos ty HIr.out hltS
      go_upto_region 6 with fail
      have hdb := dec_byte l pos (by rw [← HNL.out]; exact hlt)
      rw [← HS.out] at hdb
      obtain ⟨d, hd⟩ : ∃ d, d = (Utf8.decode S pos).2 := ⟨_, rfl⟩
      obtain ⟨x, hx⟩ : ∃ r, r = (Utf8.decode S pos).1 := ⟨_, rfl⟩
      have hx2 : x ≤ 2147483647 := by rw [hx]; exact decode_le S pos
      have HI2 := Lib.hid (Lib.iterAt_heap wr kI S pos (pos + d) HIr.out)
      have hcI : Chg [kI] wr (wr.iterAt kI S (pos + d)) := ⟨rfl, rfl, rfl, by rw [Lib.iterAt_size]; exact Nat.le_refl _, fun i _ hn => Lib.iterAt_other wr kI i S (pos + d) (by simpa using hn)⟩
      have HC2 := Lib.hid (HCr.out.trans hcI)
      have HO2 := Lib.hid (rown_chg HO.out hcI (by simp))
      rw [← hd, ← hx]
      have hdb2 : (x = (l.getD pos 0).toNat ∧ d = 1) ∨ (128 ≤ x ∧ 1 ≤ d ∧ pos + d ≤ n ∧ ∀ j, pos ≤ j → j < pos + d → 128 ≤ (l.getD j 0).toNat) := by
        rcases hdb with ⟨h1, h2⟩ | ⟨h1, h2, h3, h4, h5⟩
        · exact .inl ⟨by rw [hx, h2], by rw [hd, h2]⟩
        · exact .inr ⟨by rw [hx]; exact h2, by rw [hd]; exact h3, by rw [hd, HNL.out]; exact h4, by rw [hd]; exact h5⟩
      have HMP := Lib.hid (show wr.iterPos kI = pos from by unfold World.iterPos; rw [HIr.out])
      have HP2 := Lib.hid (show (wr.iterAt kI S (pos + d)).iterPos kI = pos + d from by unfold World.iterPos; rw [HI2.out])
      have hdr := drop_getD (l := l) (p := pos) (by rw [← HNL.out]; exact hlt)
      generalize wr.iterAt kI S (pos + d) = w3 at HI2 HC2 HO2 HP2 hcI ⊢
      clear hx hd hnx hdb hcI
      by_cases h10 : x = 10
      · subst h10
        obtain ⟨hb, rfl⟩ : (l.getD pos 0) = 10 ∧ d = 1 := by
          rcases hdb2 with ⟨h1, h2⟩ | ⟨h1, _⟩
          · exact ⟨UInt8.toNat_inj.1 (by rw [← h1]; rfl), h2⟩
          · omega
        have HX2 := Lib.hid (show X = ((L ++ [(l.drop q).take (pos - q)]) ++ (splitL (l.drop (pos + 1)) ((l.drop (pos + 1)).take (pos + 1 - (pos + 1)))).1, (splitL (l.drop (pos + 1)) ((l.drop (pos + 1)).take (pos + 1 - (pos + 1)))).2) from by
          rw [HX.out, hdr, hb, splitL, if_pos rfl, Nat.sub_self, List.take_zero]
          simp)
        have hqI : (0 : Int) ≤ (q : Int) := by omega
        have hpI : (q : Int) ≤ (pos : Int) := by omega
        have hpS : (pos : Int) ≤ (S.size : Int) := by omega
        have hpT : (pos : Int) ≤ (n : Int) := by omega
        have HEX := Lib.hid (show S.extract q pos = strOf ((l.drop q).take (pos - q)) from by rw [HS.out]; exact strOf_ext l q pos)
        have HB3 := Lib.hid (show kI + 1 ≤ w3.heap.size from by rw [← HSZ1.out]; exact HC2.out.size)
        clear hdb2 hdr hb hx2
        go_wp2_with (at_builtin
                     refine wpList_append_own _ rfl (.tmp 16) (.tmp 21) _ rfl (kI + 1) 9 i0 _ 1 16 Tryz.underlying59 hi0 hz0 hz1 hz2 rfl (by decide) u4 k (strs L) rfl (own_keep HO2.out ((Chg.refl [] w3).alloc _)) ⟨w3.heap.size, 0, none⟩ 1 1 [.string (S.extract q pos)] rfl rfl (cells_page _ _ _) (by simp [Value.oneCell']) (by simp only [maxLen]; omega) (by omega) (by have := HB3.out; simp; omega) ?_
                     intro v6 w6 ho6 hg6 _
                     have HO6 := Lib.hid ho6
                     have HG6 := Lib.hid hg6
                     clear ho6 hg6)
        have HO7 := Lib.hid (show w6.ownsRow (kI + 1) 9 1 v6 (k + 1) (strs (L ++ [(l.drop q).take (pos - q)])) from by
          rw [strs_app]
          show w6.ownsRow _ _ _ _ _ (strs L ++ [.string (strOf ((l.drop q).take (pos - q)))])
          rw [← HEX.out]
          exact HO6.out)
        have HOW := Lib.hid (own_keep HO2.out ((Chg.refl [] w3).alloc (.cells #[.string (S.extract q pos)] 9)))
        have hkw : kI < w3.heap.size := by have := HB3.out; omega
        have HI6 := Lib.hid (show w6.heap[kI]? = some (.stringIter S (pos + 1)) from by
          rw [HG6.out.block kI (by simp; omega) (fun hc => by have := (HOW.out.lt kI hc.symm).1; omega)]
          exact (((Chg.refl [] w3).alloc (.cells #[.string (S.extract q pos)] 9)).block kI hkw (by simp)).trans HI2.out)
        have HC6 := Lib.hid (show Chg [kI] w1 w6 from chg_grown2 (HC2.out.alloc _) HG6.out (fun g hg => by have := (HOW.out.lt g hg).1; have := HSZ1.out; omega))
        have HP6 := Lib.hid (show w6.iterPos kI = pos + 1 from by unfold World.iterPos; rw [HI6.out])
        go_roundw
        case rel => exact ⟨pos + 1, pos + 1, k + 1, _, by go_num, by omega, by omega, by omega, Lib.hid (by rw [HKL.out]; simp), HO7, HI6, HX2, HC6⟩
        case measure => rw [HP6.out, HMP.out]; omega
      · have h10d : ((x : Int) == 10) = false := by simp; omega
        have hd1 : 1 ≤ d := by rcases hdb2 with ⟨_, h⟩ | ⟨_, h, _⟩ <;> omega
        have hdn : pos + d ≤ n := by rcases hdb2 with ⟨_, h⟩ | ⟨_, _, h, _⟩ <;> omega
        have HX2 := Lib.hid (show X = (L ++ (splitL (l.drop (pos + d)) ((l.drop q).take (pos + d - q))).1, (splitL (l.drop (pos + d)) ((l.drop q).take (pos + d - q))).2) from by
          have hsk : l.drop pos = (l.drop pos).take d ++ l.drop (pos + d) := by
            rw [← List.drop_drop, List.take_append_drop]
          have hne : ∀ b ∈ (l.drop pos).take d, b ≠ 10 := by
            intro b hb
            obtain ⟨j, hj, rfl⟩ := List.getElem_of_mem hb
            have hjd : j < d := by rw [List.length_take] at hj; omega
            have hjl : pos + j < l.length := by rw [List.length_take, List.length_drop] at hj; omega
            have e1 : ((l.drop pos).take d)[j] = l.getD (pos + j) 0 := by
              rw [List.getElem_take, List.getElem_drop]
              simp [List.getD, List.getElem?_eq_getElem hjl]
            rw [e1]
            rcases hdb2 with ⟨h1, h2⟩ | ⟨_, _, _, h4⟩
            · obtain rfl : j = 0 := by omega
              rw [Nat.add_zero]
              intro hh
              rw [hh] at h1
              exact h10 h1
            · have := h4 (pos + j) (by omega) (by omega)
              exact u8_ne (by show _ ≠ 10; omega)
          have htk : (l.drop q).take (pos + d - q) = (l.drop q).take (pos - q) ++ (l.drop pos).take d := by
            rw [show pos + d - q = (pos - q) + d from by omega, List.take_add, List.drop_drop, show q + (pos - q) = pos from by omega]
          rw [htk, ← split_skip _ _ _ hne, ← hsk]
          exact HX.out)
        clear hdb2 hdr h10
        go_wp2_with fail
        go_roundw
        case rel => exact ⟨q, pos + d, k, L, rfl, by omega, by omega, by omega, HKL, HO2, HI2, HX2, HC2⟩
        case measure => rw [HP2.out, HMP.out]; omega
    · have hnx := fun ty => Lib.run_next_end_at (P := Tryz.prog) wr kI S pos ty HIr.out (by rw [HSZ.out]; exact hlt)
      obtain rfl : pos = n := by omega
      have HXE := Lib.hid (show X = (L, l.drop q) from by
        rw [HX.out, HNL.out, List.drop_length, splitL, List.append_nil, List.take_of_length_le (by rw [List.length_drop]; exact Nat.le_refl _)])
      have hX1 : X.1 = L := by rw [HXE.out]
      have hX2 : X.2 = l.drop q := by rw [HXE.out]
      have HCf := Lib.hid (HCZ.out _ HCr.out)
      have hOf := (show wr.ownsRow w.heap.size 9 1 u4 X.1.length (strs X.1) from by rw [hX1, ← HKL.out]; exact own_more HO.out (by have := HK.out; omega))
      have HPO := Lib.hid (HPP.out _ _ hOf HCf.out)
      clear hOf
      have HKf := Lib.hid (show k = X.1.length from by rw [hX1]; exact HKL.out)
      obtain ⟨A4, c4, rfl, _⟩ := own_slice HO.out
      have hq2 : (X.2 = []) = (q = pos) := by
        rw [hX2, HNL.out]
        apply propext
        constructor
        · intro h
          have := congrArg List.length h
          rw [List.length_drop, List.length_nil] at this
          have := HNL.out
          omega
        · intro h
          rw [h, List.drop_length]
      have HB := Lib.hid (show B = (decide (0 < k) && decide (q = pos)) from by
        rw [HB0.out, ← HKf.out]
        congr 1
        rw [decide_eq_decide, hq2])
      have hnS := HSZ.out
      clear hX1 hX2 hq2
      by_cases hk0 : 0 < k
      · have hkI : (0 : Int) < (k : Int) := by omega
        by_cases hqn : q = pos
        · subst hqn
          have HBT := Lib.hid (show B = true from by rw [HB.out, decide_eq_true hk0]; simp)
          clear hk0
          go_wp2_with fail
          go_ret2
          have := HPO.out
          rw [HBT.out] at this ⊢
          exact this
        · have hqd : ((q : Int) == (pos : Int)) = false := by simp; omega
          have HBT := Lib.hid (show B = false from by rw [HB.out, decide_eq_false hqn]; simp)
          clear hk0 hqn
          go_wp2_with fail
          go_ret2
          have := HPO.out
          rw [HBT.out] at this ⊢
          exact this
      · have hkI : ¬ (0 : Int) < (k : Int) := by omega
        have HBT := Lib.hid (show B = false from by rw [HB.out, decide_eq_false hk0]; rfl)
        clear hk0
        go_wp2_with fail
        go_ret2
        have := HPO.out
        rw [HBT.out] at this ⊢
        exact this
end
end Go.Proofs.YtbkfhndmeljlcaaGreatDoor
