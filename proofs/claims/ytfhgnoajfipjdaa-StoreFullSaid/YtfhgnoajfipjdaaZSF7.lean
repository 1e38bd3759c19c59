/-
  SF: Delta, DeltaGet, DeltaBytes.
-/
import Derived.Test.YtfhgnoajfipjdaaZSF5
import Derived.Test.YtfhgnoajfipjdaaZSF6
import Derived.Deep.QuietTactic
import Derived.BigQuiet
import Derived.IntWalk
import Derived.Laws.BitsAllLaws
import Derived.Deep.RegionLaw
namespace Go.Proofs.Ytfhgnoajfipjdaa
open Go.RowKit
/-- A change as it lies in memory: two cells, one of them a slice. -/
structure ChV where
  page : Int
  bA : Option Addr
  bn : Nat
  bc : Nat
  B : List UInt8
def chC (a : ChV) : List Value := [.int .i64 a.page, .slice a.bA a.bn a.bc]
structure ChOk (w : World) (a : ChV) : Prop where
  p0 : -9223372036854775808 ≤ a.page
  p1 : a.page ≤ 9223372036854775807
  bs : Bs w a.bA a.bn a.bc a.B
/-- The slice at A reads as the changes l. -/
structure Chs (w : World) (A : Option Addr) (l : List ChV) : Prop where
  cells : 0 < l.length → ∃ g o, A = some ⟨g, o, none⟩ ∧ g < w.heap.size ∧ ∀ k a, l[k]? = some a → w.cell? ⟨g, o + k * 2, none⟩ = some (.int .i64 a.page) ∧ w.cell? ⟨g, o + k * 2 + 1, none⟩ = some (.slice a.bA a.bn a.bc)
  ok : ∀ a ∈ l, ChOk w a
/-- A change that Bytes can write. -/
def Small (a : ChV) : Prop := 0 ≤ a.page ∧ a.page < 65536 ∧ a.bn = 64
theorem ChOk.keep {w w' : World} {a : ChV} (h : ChOk w a) (hc : Chg [] w w') : ChOk w' a := { h with bs := h.bs.keep hc }
theorem Chs.nil (w : World) (A : Option Addr) : Chs w A [] := ⟨fun h => absurd h (by simp), fun a ha => by simp at ha⟩
theorem Chs.keep {w w' : World} {A : Option Addr} {l : List ChV} (h : Chs w A l) (hc : Chg [] w w') : Chs w' A l := by
  refine ⟨fun h0 => ?_, fun a ha => (h.ok a ha).keep hc⟩
  obtain ⟨g, o, e, hg, hx⟩ := h.cells h0
  refine ⟨g, o, e, Nat.lt_of_lt_of_le hg hc.size, fun k a ha => ?_⟩
  obtain ⟨h1, h2⟩ := hx k a ha
  have hk : ∀ j, w'.cell? ⟨g, j, none⟩ = w.cell? ⟨g, j, none⟩ := fun j => World.cell?_of_block (w := w) (hc.block g hg (by simp))
  exact ⟨(hk _).trans h1, (hk _).trans h2⟩
/-- append as a step of a region that draws. -/
theorem step_append_src {P : Program} {w : World} {ops : Array Oper} {o : Oper} {a : Act} {K : Act → World → Prop} {Q : Exit → Act → World → Prop} {E : Prop} (hgd : o.guard = none) (s x : Operand) (t : TypeId)
    (ho : o.op = .call { callee := .builtin .append, args := #[s, x], argTypes := #[t, t] })
    (base : Nat) (e : TypeId) (i : TypeInfo) (z : Value) (bytes : Nat) (ht : P.underlying t = some (.slice e)) (hi : P.info? e = some i) (hz : i.zero = some z)
    (hsize : i.size = 1) (hby : i.bytes = bytes) (hzs : z.cells.size = 1)
    (v : Value) (n : Nat) (xs : List Value) (hse : a.eval s = v) (hown : w.ownsRow base e 1 v n xs)
    (A : Option Addr) (m c : Nat) (news : List Value) (hxe : a.eval x = .slice A m c) (hl : news.length = m) (hs : Src w A news) (h1 : ∀ u ∈ news, u.oneCell' = true)
    (h63 : n + m ≤ maxLen) (hbytes : (n + m) * bytes ≤ 140737488355328) (hbase : base ≤ w.heap.size)
    (h : ∀ v' w', w'.ownsRow base e 1 v' (n + m) (xs ++ news) → w.grownBy w' v.ownBlock → K (a.put o.dst v') w') :
    if Region.wanted o (yielded ops a.tmps) = true then Oper.wp P o a w K Q else E := by
  have hw : Region.wanted o (yielded ops a.tmps) = true := by simp [Region.wanted, hgd]
  rw [if_pos hw]
  obtain ⟨v', w', hrun, h2, h3, _⟩ := run_append_src (P := P) w base t o.type e i z bytes ht hi hz hsize hby hzs v n xs hown A m c news hl hs h1 h63 hbytes hbase
  unfold Oper.wp execOp
  simp only [ho, resolve, invoke, builtin, Sem.run_bind, Sem.run_pure, Result.andThen_ok, List.map_toArray, List.map_cons, List.map_nil, hse, hxe, hrun]
  exact h v' w' h2 h3
/-- Two bytes, the higher one first. -/
def be2 (k : Nat) : List UInt8 := [UInt8.ofNat (k / 256), UInt8.ofNat k]
theorem bts_be2 (k : Nat) (hk : k < 65536) : bts (be2 k) = [.int .u8 ((k : Int) / 256), .int .u8 ((k : Int) % 256)] := by
  unfold be2 bts
  simp only [List.map_cons, List.map_nil, B8, UInt8.toNat_ofNat']
  have h1 : k / 256 % 2 ^ 8 = k / 256 := Nat.mod_eq_of_lt (by omega)
  rw [h1]
  congr 2
/-- What of Right is asked of the pages, one behind the other. -/
def rightS (last pages : Int) : List ChV → Bool
  | [] => true
  | a :: l => !(decide (a.page ≤ last) || decide (pages ≤ a.page) || decide (a.bn ≠ 64)) && rightS a.page pages l
def rightB (pages : Int) (l : List ChV) : Bool := decide (pages ≤ 64) && rightS (-1) pages l
section
variable {w : World} {A : Option Addr} {n c : Nat}
set_option maxHeartbeats 1000000 in
theorem dput_any {B m : Nat} {X : List UInt8} {v : Value} (hown : w.ownsRow B 5 1 v m (bts X)) (hB : B ≤ w.heap.size) (k : Nat) (hk : k < 65536) (hm : m ≤ 1000000) :
    Calls Try.prog 118 #[v, .int .i64 (k : Int)] w fun e w' => ∃ v', e = .returned v' ∧ w'.ownsRow B 5 1 v' (m + 2) (bts (X ++ be2 k)) ∧ (∀ (g t : Nat) (cs : List Value), t ≠ 5 → Whole w g t cs → Whole w' g t cs) ∧ Low B w w' := by
  obtain ⟨i0, hi, hz, hs1, hb⟩ := info_parts info_byte
  obtain ⟨A1, c1, rfl, _, _, _, _⟩ := own_slice hown
  have hbe := Lib.hid (bts_be2 k hk)
  have hx : bts (X ++ be2 k) = bts X ++ bts (be2 k) := by simp [bts]
  have HX := Lib.hid hx
  clear hx
  go_enter Try.func118, Try.ntmps118
  go_wp2_with (first
    | (at_builtin
       refine wpList_append_own _ rfl (.tmp 5) (.tmp 11) _ rfl B 5 i0 (.int .u8 0) 1 1 Try.underlying46 hi hz hs1 hb rfl (by decide) _ m (bts X) rfl (own_keep hown ((Chg.refl _ _).alloc _)) ⟨w.heap.size, 0, none⟩ 2 2 [.int .u8 ((k : Int) / 256), .int .u8 ((k : Int) % 256)] rfl rfl ?c1 ?c2 ?c3 ?c4 ?c5 ?_
       case c1 => exact fun j u hj => by rw [add_plain, Nat.zero_add, (Whole.new w 5 [.int .u8 ((k : Int) / 256), .int .u8 ((k : Int) % 256)]).cell]; exact hj
       case c2 => simp [Value.oneCell']
       case c3 => simp only [maxLen]; omega
       case c4 => omega
       case c5 => simp; omega
       intro v' w2 hown' hg' _))
  go_ret
  refine ⟨v', rfl, ?_, fun g t cs ht hW => whole_grown (hW.keep ((Chg.refl [] w).alloc _)) (own_keep hown ((Chg.refl [] w).alloc _)) ht hg', (Low.of_chg ((Chg.refl [] w).alloc _)).trans (Low.of_own (own_keep hown ((Chg.refl [] w).alloc _)) hg')⟩
  rw [HX.out, hbe.out]
  exact hown'
set_option maxHeartbeats 2000000 in
set_option maxRecDepth 100000 in
theorem right_any {l : List ChV} (h : Chs w A l) (hl : l.length = n) (hn : n ≤ 9223372036854775807) (pages : Int) :
    Calls Try.prog 75 #[.slice A n c, .int .i64 pages] w (BoolPost (rightB pages l) w) := by
  have H := Lib.hid h
  have HL := Lib.hid hl
  clear h hl
  by_cases hp : 64 < pages
  · have hd : decide (64 < pages) = true := by simp; omega
    have HR := Lib.hid (show rightB pages l = false by unfold rightB; rw [decide_eq_false (by omega)]; rfl)
    go_enter Try.func75, Try.ntmps75
    go_wp2_with fail
    go_ret
    exact ⟨by rw [HR.out]; rfl, Chg.refl _ _⟩
  · have hd : decide (64 < pages) = false := by simp; omega
    have HR := Lib.hid (show rightB pages l = rightS (-1) pages l by unfold rightB; rw [decide_eq_true (by omega)]; rfl)
    go_enter Try.func75, Try.ntmps75
    go_wp2_with fail
    go_loopw [5, 12] (fun t i wr => ∃ k : Nat, k ≤ n ∧ i = .int .i64 (k : Int) ∧ (∃ last : Int, t = .int .i64 last ∧ Hid (rightB pages l = rightS last pages (l.drop k))) ∧ Chg [] w wr) (fun _ i _ => n - (intOf i).toNat)
    case atStart => exact ⟨0, Nat.zero_le _, rfl, ⟨-1, rfl, by rw [List.drop_zero]; exact HR⟩, Chg.refl _ _⟩
    case round =>
      obtain ⟨k, hk, rfl, ⟨last, rfl, HK⟩, hcr⟩ := hrel
      clear HR
      by_cases hlt : k < n
      · obtain ⟨a, ha⟩ : ∃ a, l[k]? = some a := ⟨_, List.getElem?_eq_getElem (by have := HL.out; omega)⟩
        obtain ⟨g, o, rfl, hg, hce⟩ := (H.out.keep hcr).cells (by have := HL.out; omega)
        obtain ⟨c0, c1⟩ := hce k a ha
        have HD := Lib.hid (show l.drop k = a :: l.drop (k + 1) by rw [List.drop_eq_getElem_cons (by have := HL.out; omega)]; congr 1; have := List.getElem?_eq_getElem (l := l) (i := k) (by have := HL.out; omega); rw [this] at ha; injection ha)
        have HC := Lib.hid hcr
        clear hce ha hcr
        obtain ⟨page, bA, bn, bc, B⟩ := a
        simp only at c0 c1
        have hkI : (k : Int) < (n : Int) := by omega
        by_cases h1 : page ≤ last
        · have hd1 : decide (page ≤ last) = true := by simp; omega
          have HF := Lib.hid (show rightB pages l = false by rw [HK.out, HD.out]; simp [rightS, h1])
          go_wp2_with fail
          go_ret
          exact ⟨by rw [HF.out]; rfl, HC.out.alloc _⟩
        · have hd1 : decide (page ≤ last) = false := by simp; omega
          by_cases h2 : pages ≤ page
          · have hd2 : decide (pages ≤ page) = true := by simp; omega
            have HF := Lib.hid (show rightB pages l = false by rw [HK.out, HD.out]; simp [rightS, h2])
            go_wp2_with fail
            go_ret
            exact ⟨by rw [HF.out]; rfl, HC.out.alloc _⟩
          · have hd2 : decide (pages ≤ page) = false := by simp; omega
            by_cases h3 : bn = 64
            · have HF := Lib.hid (show rightB pages l = rightS page pages (l.drop (k + 1)) by rw [HK.out, HD.out]; simp only [rightS]; rw [decide_eq_false h1, decide_eq_false h2, decide_eq_false (by simpa using h3)]; rfl)
              subst h3
              go_wp2_with fail
              go_roundw
              case rel => exact ⟨k + 1, by omega, by go_num, ⟨page, rfl, HF⟩, HC.out.alloc _⟩
              case measure => simp [intOf]; omega
            · have HF := Lib.hid (show rightB pages l = false by rw [HK.out, HD.out]; simp [rightS, h3])
              have hd3 : ((bn : Int) == 64) = false := by simp; omega
              have hd4 : (!((bn : Int) == 64)) = true := by simp; omega
              go_wp2_with fail
              go_ret
              exact ⟨by rw [HF.out]; rfl, HC.out.alloc _⟩
      · have HF := Lib.hid (show rightB pages l = true by rw [HK.out, List.drop_eq_nil_of_le (by have := HL.out; omega)]; rfl)
        have hkI : (n : Int) ≤ (k : Int) := by omega
        go_wp2_with fail
        go_ret
        exact ⟨by rw [HF.out]; rfl, hcr⟩
end
end Go.Proofs.Ytfhgnoajfipjdaa
namespace Go.Proofs.Ytfhgnoajfipjdaa
open Go.RowKit
/-- The number of two bytes. -/
def num2 (l : List UInt8) : Nat := (l.getD 0 0).toNat * 256 + (l.getD 1 0).toNat
theorem ofInt_small (a : Nat) (h : a < 65536) : (BitVec.ofInt 64 (a : Int)).toNat = a := by
  rw [BitVec.toNat_ofInt]
  omega
theorem or_two (x y : UInt8) : bits .or .i64 ((x.toNat : Int) * 256) (y.toNat : Int) = ((x.toNat * 256 + y.toNat : Nat) : Int) := by
  have hx := x.toNat_lt
  have hy := y.toNat_lt
  have e1 : (x.toNat : Int) * 256 = ((x.toNat * 256 : Nat) : Int) := by omega
  rw [e1]
  show IntKind.i64.wrap ((BitVec.ofInt 64 ((x.toNat * 256 : Nat) : Int) ||| BitVec.ofInt 64 (y.toNat : Int)).toNat : Int) = _
  rw [BitVec.toNat_or, ofInt_small _ (by omega), ofInt_small _ (by omega), nat_join 8 (x.toNat * 256) y.toNat (by omega) (by omega)]
  exact IntWalk.i64_in _ (by omega)
theorem ret_word {a b : Int} (h : a = b) : Ending.returned (.int .i64 a) = .returned (.int .i64 b) := by rw [h]
section
variable {w : World} {A : Option Addr} {n c : Nat} {l : List UInt8}
set_option maxHeartbeats 2000000 in
theorem dget_any (h : Bs w A n c l) (hn : 2 ≤ n) :
    Calls Try.prog 160 #[.slice A n c] w fun e w' => e = .returned (.int .i64 (num2 l : Nat)) ∧ Chg [] w w' := by
  obtain ⟨x, y, t, rfl⟩ : ∃ x y t, l = x :: y :: t := by
    match l, h.len with
    | [], h0 => simp at h0; omega
    | [_], h0 => simp at h0; omega
    | x :: y :: t, _ => exact ⟨x, y, t, rfl⟩
  obtain ⟨ad, rfl, _, hx⟩ := h.src (by simp [bts])
  obtain ⟨b, o, s⟩ := ad
  obtain rfl : s = none := h.spot (by omega) _ rfl
  have h0 := hx 0 (B8 x) rfl
  have h1 := hx 1 (B8 y) rfl
  rw [add_plain, Nat.add_zero] at h0
  rw [add_plain] at h1
  unfold B8 at h0 h1
  have hx256 := x.toNat_lt
  have hy256 := y.toNat_lt
  have hnI : (1 : Int) < (n : Int) := by omega
  have hnJ : (0 : Int) < (n : Int) := by omega
  clear hx
  go_enter Try.func160, Try.ntmps160
  go_wp2_with fail
  go_quiet (fail)
  go_wp2_with fail
  go_ret
  exact ⟨ret_word (by rw [or_two]; simp [num2]), (Chg.refl _ _).drewN _⟩
end
end Go.Proofs.Ytfhgnoajfipjdaa
namespace Go.Proofs.Ytfhgnoajfipjdaa
open Go.RowKit
def chB (a : ChV) : List UInt8 := be2 a.page.toNat ++ a.B
/-- Changes as bytes. -/
def chsB : List ChV → List UInt8
  | [] => []
  | a :: l => chB a ++ chsB l
theorem chsB_app : ∀ l m, chsB (l ++ m) = chsB l ++ chsB m
  | [], _ => rfl
  | a :: l, m => by rw [List.cons_append, chsB, chsB, chsB_app l m, List.append_assoc]
theorem chsB_next (l : List ChV) (k : Nat) (a : ChV) (h : l[k]? = some a) : chsB (l.take (k + 1)) = chsB (l.take k) ++ chB a := by
  obtain ⟨hk, rfl⟩ := List.getElem?_eq_some_iff.1 h
  rw [List.take_succ_eq_append_getElem hk, chsB_app]
  simp [chsB]
def bytesD (l : List ChV) : List UInt8 := be2 l.length ++ chsB l
section
variable {w : World} {A : Option Addr} {n c : Nat}
set_option maxHeartbeats 4000000 in
set_option maxRecDepth 100000 in
theorem dbytes_any {l : List ChV} (h : Chs w A l) (hs : ∀ a ∈ l, Small a) (hl : l.length = n) (hn : n ≤ 1000) :
    Calls Try.prog 78 #[.slice A n c] w (BytesPost w (bytesD l)) := by
  obtain ⟨i0, hi, hz, hs1, hb⟩ := info_parts info_byte
  have H := Lib.hid h
  have HL := Lib.hid hl
  have HS := Lib.hid hs
  clear h hl hs
  have hmk : ∀ W : World, (Instr.makeSlice 46 (.int .i64 0) (.int .i64 (2 + (n : Int) * 66))).run Try.prog W = .ok (.slice (some ⟨W.heap.size, 0, none⟩) 0 (2 + n * 66)) (W.alloc (.cells (bts (zeros (2 + n * 66))).toArray 5)) := by
    intro W
    rw [bts_zeros]
    have := run_make0 (P := Try.prog) 46 5 i0 _ rfl Try.underlying46 hi hz hs1 (2 + n * 66) (by rw [hb]; omega) (by omega) W
    simpa using this
  have ho0 : (w.alloc (.cells (bts (zeros (2 + n * 66))).toArray 5)).ownsRow w.heap.size 5 1 (.slice (some ⟨w.heap.size, 0, none⟩) 0 (2 + n * 66)) 0 (bts []) := by
    have := own_of_whole (B := w.heap.size) (n := 0) (c := 2 + n * 66) (Whole.new w 5 (bts (zeros (2 + n * 66)))) (Nat.le_refl _) (by simp [bts_len, zeros_len]) (by omega) (by unfold maxLen; omega)
    simpa [bts] using this
  go_enter Try.func78, Try.ntmps78
  go_wp2_with fail
  refine (dput_any ho0 (by simp) n (by omega) (by omega)).mono ?_
  rintro e w1 ⟨v1, rfl, ho1, _, hL1⟩
  have hc1 : Chg [] w w1 := ((Low.of_chg (B := w.heap.size) ((Chg.refl [] w).alloc _)).trans hL1).chg (Nat.le_refl _)
  simp only [Nat.zero_add, List.nil_append] at ho1
  clear ho0 hL1
  go_wp2_with fail
  go_loopw [3, 16] (fun t i wr => ∃ k : Nat, k ≤ n ∧ i = .int .i64 (k : Int) ∧ wr.ownsRow w.heap.size 5 1 t (2 + k * 66) (bts (be2 n ++ chsB (l.take k))) ∧ Chg [] w wr) (fun _ i _ => n - (intOf i).toNat)
  case atStart => exact ⟨0, Nat.zero_le _, rfl, by simpa [chsB] using ho1, hc1⟩
  case round =>
    obtain ⟨k, hk, rfl, hown, hcr⟩ := hrel
    have hwr := hcr.size
    clear ho1 hc1
    by_cases hlt : k < n
    · obtain ⟨a, ha⟩ : ∃ a, l[k]? = some a := ⟨_, List.getElem?_eq_getElem (by have := HL.out; omega)⟩
      have ham := List.mem_of_getElem? ha
      obtain ⟨g, o, rfl, hg, hce⟩ := (H.out.keep hcr).cells (by have := HL.out; omega)
      obtain ⟨c0, c1⟩ := hce k a ha
      have hbs := (H.out.ok a ham).bs
      obtain ⟨hp0, hp1, hbn⟩ := HS.out a ham
      have HT := Lib.hid (chsB_next l k a ha)
      have HC := Lib.hid hcr
      clear hce ha ham hcr
      obtain ⟨page, bA, bn, bc, Bb⟩ := a
      simp only at c0 c1 hbs hp0 hp1 hbn
      subst hbn
      obtain ⟨q, rfl⟩ := Int.eq_ofNat_of_zero_le hp0
      have HBS := Lib.hid hbs
      clear hbs
      obtain ⟨A3, c3, rfl, _, _, _, _⟩ := own_slice hown
      obtain ⟨X, hX⟩ : ∃ X, X = be2 n ++ chsB (l.take k) := ⟨_, rfl⟩
      rw [← hX] at hown
      have HX := Lib.hid hX
      clear hX
      have hkI : (k : Int) < (n : Int) := by omega
      go_wp2_with fail
      have hz0 := Whole.new wr 140 [.int .i64 (q : Int), .slice bA 64 bc]
      have hal : Chg [] wr (wr.alloc (.cells #[.int .i64 (q : Int), .slice bA 64 bc] 140)) := (Chg.refl [] wr).alloc _
      have HW0 := Lib.hid hal
      have HZ0 := Lib.hid hz0
      clear hal hz0 c0 c1
      go_region_law (first
        | (refine step_append_src rfl (.tmp 23) (.tmp 25) 46 rfl w.heap.size 5 i0 _ 1 Try.underlying46 hi hz hs1 hb cells_u8 v2 (2 + k * 66 + 2) (bts (X ++ be2 q)) rfl ho2 bA 64 bc (bts Bb) rfl hbl hsB (bts_one _) hx1 hx2 hx3 ?_
           intro v5 w5 ho5 hg5)
        | (go_simp
           go_at_call 118
           refine (dput_any (own_keep hown HW0.out.drew) (by simp; omega) q (by omega) (by omega)).mono ?_
           rintro e w2 ⟨v2, rfl, ho2, hk2, hL2⟩
           have hz2 := hk2 _ _ _ (by decide) HZ0.out.drew
           have hc2 : Chg [] w w2 := ((Low.of_chg (B := w.heap.size) (HC.out.new HW0.out).drew).trans hL2).chg (Nat.le_refl _)
           have hB2 := HBS.out.keep hc2
           have hbl : (bts Bb).length = 64 := by rw [bts_len]; exact hB2.len
           have hsB := hB2.src
           have hx1 : 2 + k * 66 + 2 + 64 ≤ maxLen := by unfold maxLen; omega
           have hx2 : (2 + k * 66 + 2 + 64) * 1 ≤ 140737488355328 := by omega
           have hx3 : w.heap.size ≤ w2.heap.size := hc2.size
           have z0 := hz2.cell 0
           have z1 := hz2.cell 1))
      all_goals
        have hL5 : Low w.heap.size w2 w5 := Low.of_own ho2 hg5
        have hc5 : Chg [] w w5 := ((Low.of_chg hc2).trans hL5).chg (Nat.le_refl _)
        clear hg5
        go_wp2_with fail
        go_roundw
        case rel =>
          refine ⟨k + 1, by omega, by go_num, ?_, hc5⟩
          have e1 : bts (be2 n ++ chsB (l.take (k + 1))) = bts (X ++ be2 q) ++ bts Bb := by
            rw [HT.out, ← List.append_assoc, ← HX.out]
            simp [chB, bts]
          rw [e1, show 2 + (k + 1) * 66 = 2 + k * 66 + 2 + 64 by omega]
          exact ho5
        case measure => simp [intOf]; omega
    · obtain rfl : n = k := by omega
      have HK := Lib.hid (show l.take n = l by rw [List.take_of_length_le (by rw [HL.out]; exact Nat.le_refl _)])
      rw [HK.out] at hown
      have e1 : be2 n ++ chsB l = bytesD l := by unfold bytesD; rw [HL.out]
      rw [e1] at hown
      have e2 : 2 + n * 66 = (bytesD l).length := by have := hown.1; rw [bts_len] at this; omega
      rw [e2] at hown
      have HO := Lib.hid hown
      clear e1 e2 hown
      go_wp2_with fail
      go_ret
      exact ⟨_, rfl, HO.out, hcr⟩
end
end Go.Proofs.Ytfhgnoajfipjdaa
