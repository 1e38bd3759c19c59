/-
  T: Fresh, Delta, MadeCh, BRows, DeltaGet, DeltaBytes.
-/
import Derived.Test.YtddjgncdjdjgeaaZT1
import Derived.Test.YtddjgncdjdjgeaaZT3
import Derived.Test.YtddjgncdjdjgeaaZT4
import Derived.Test.YtddjgncdjdjgeaaZT5
import Derived.Test.YtddjgncdjdjgeaaChecked
import Derived.Deep.QuietTactic
import Derived.BigQuiet
import Derived.IntWalk
import Derived.Laws.BitsAllLaws
import Derived.Deep.RegionLaw
namespace Go.Proofs.Ytddjgncdjdjgeaa
open Go.RowKit

theorem info_u8 : (Try.prog.info? 5).map (fun i => (i.zero, i.size, i.bytes)) = some (some (.int .u8 0), 1, 1) := by kernel_rfl
theorem info_bool : (Try.prog.info? 4).map (fun i => (i.zero, i.size, i.bytes)) = some (some (.bool false), 1, 1) := by kernel_rfl
theorem info_int : (Try.prog.info? 3).map (fun i => (i.zero, i.size, i.bytes)) = some (some (.int .i64 0), 1, 8) := by kernel_rfl
theorem size_u8 : (Try.prog.info? 5).map (·.size) = some 1 := by kernel_rfl

theorem make_u8 (n : Nat) (h : n ≤ 1000000) (w : World) :
    (Instr.makeSlice 44 (.int .i64 (n : Int)) (.int .i64 (n : Int))).run Try.prog w = .ok (.slice (some ⟨w.heap.size, 0, none⟩) n n) (w.alloc (.cells (bts (zeros n)).toArray 5)) := by
  rw [bts_zeros]
  obtain ⟨i, hi, hz, hs, hb⟩ := info_parts info_u8
  exact run_make1 _ _ i _ rfl Try.underlying44 hi hz hs n (by rw [hb]; omega) (by omega) w
theorem make_bool (n : Nat) (h : n ≤ 1000000) (w : World) :
    (Instr.makeSlice 68 (.int .i64 (n : Int)) (.int .i64 (n : Int))).run Try.prog w = .ok (.slice (some ⟨w.heap.size, 0, none⟩) n n) (w.alloc (.cells (bls (falses n)).toArray 4)) := by
  rw [bls_falses]
  obtain ⟨i, hi, hz, hs, hb⟩ := info_parts info_bool
  exact run_make1 _ _ i _ rfl Try.underlying68 hi hz hs n (by rw [hb]; omega) (by omega) w

set_option maxHeartbeats 400000 in
set_option maxRecDepth 100000 in
theorem fresh_any {w : World} {A : Option Addr} {n c : Nat} {xs : List Value} (hl : xs.length = n) (hs : Src w A xs) (h1 : ∀ v ∈ xs, v.oneCell' = true) (hn : n ≤ 1000000) :
    Calls Try.prog 53 #[.slice A n c] w fun e w' => e = .returned (.slice (some ⟨w.heap.size, 0, none⟩) n n) ∧ Whole w' w.heap.size 5 xs ∧ Chg [] w w' := by
  have hmk := make_u8 n hn
  go_enter Try.func53, Try.ntmps53
  go_wp2_with (first
    | (with_reducible refine wpList_copy_splice rfl (.tmp 7) (.tmp 8) _ _ rfl 5 Try.underlying44 size_u8 (some ⟨w.heap.size, 0, none⟩) A n n n c rfl rfl w.heap.size 0 (bts (zeros n)) 5 ?c1 xs ?c2 ?c3 ?c4 h1 w.heap.size w ?c5 (Nat.le_refl _) ?_
       case c1 => exact heap_alloc_new w _
       case c2 => simp [hl]
       case c3 =>
         intro hp
         obtain ⟨ad, e, _, hx⟩ := (hs.keep ((Chg.refl [] w).alloc _)) hp
         exact ⟨rfl, ad, e, hx⟩
       case c4 => simp [hl, bts_len, zeros_len]
       case c5 => exact (Below.refl _ _).alloc (Nat.le_refl _) _
       intro w1 HG hB))
  go_ret
  have HG' := HG.out
  rw [splice_all _ _ (by simp [hl, bts_len, zeros_len])] at HG'
  exact ⟨rfl, HG', Chg.of_below hB⟩

end Go.Proofs.Ytddjgncdjdjgeaa
namespace Go.Proofs.Ytddjgncdjdjgeaa
open Go.RowKit
/-- A change as it lies in memory: two cells, one of them a slice. -/
structure ChV where
  page : Int
  bA : Option Addr
  bn : Nat
  bc : Nat
  B : List UInt8
def chC (a : ChV) : List Value := [.int .i64 a.page, .slice a.bA a.bn a.bc]
structure ChOk (w : World) (a : ChV) : Prop where
  p0 : -9223372036854775808 ≤ a.page
  p1 : a.page ≤ 9223372036854775807
  bs : Bs w a.bA a.bn a.bc a.B
/-- The slice at A reads as the changes l. -/
structure Chs (w : World) (A : Option Addr) (l : List ChV) : Prop where
  cells : 0 < l.length → ∃ g o, A = some ⟨g, o, none⟩ ∧ g < w.heap.size ∧ ∀ k a, l[k]? = some a → w.cell? ⟨g, o + k * 2, none⟩ = some (.int .i64 a.page) ∧ w.cell? ⟨g, o + k * 2 + 1, none⟩ = some (.slice a.bA a.bn a.bc)
  ok : ∀ a ∈ l, ChOk w a
/-- A change that Bytes can write. -/
def Small (a : ChV) : Prop := 0 ≤ a.page ∧ a.page < 65536 ∧ a.bn = 64
theorem ChOk.keep {w w' : World} {a : ChV} (h : ChOk w a) (hc : Chg [] w w') : ChOk w' a := { h with bs := h.bs.keep hc }
theorem Chs.nil (w : World) (A : Option Addr) : Chs w A [] := ⟨fun h => absurd h (by simp), fun a ha => by simp at ha⟩
theorem Chs.keep {w w' : World} {A : Option Addr} {l : List ChV} (h : Chs w A l) (hc : Chg [] w w') : Chs w' A l := by
  refine ⟨fun h0 => ?_, fun a ha => (h.ok a ha).keep hc⟩
  obtain ⟨g, o, e, hg, hx⟩ := h.cells h0
  refine ⟨g, o, e, Nat.lt_of_lt_of_le hg hc.size, fun k a ha => ?_⟩
  obtain ⟨h1, h2⟩ := hx k a ha
  have hk : ∀ j, w'.cell? ⟨g, j, none⟩ = w.cell? ⟨g, j, none⟩ := fun j => World.cell?_of_block (w := w) (hc.block g hg (by simp))
  exact ⟨(hk _).trans h1, (hk _).trans h2⟩
/-- append as a step of a region that draws. -/
theorem step_append_src {P : Program} {w : World} {ops : Array Oper} {o : Oper} {a : Act} {K : Act → World → Prop} {Q : Exit → Act → World → Prop} {E : Prop} (hgd : o.guard = none) (s x : Operand) (t : TypeId)
    (ho : o.op = .call { callee := .builtin .append, args := #[s, x], argTypes := #[t, t] })
    (base : Nat) (e : TypeId) (i : TypeInfo) (z : Value) (bytes : Nat) (ht : P.underlying t = some (.slice e)) (hi : P.info? e = some i) (hz : i.zero = some z)
    (hsize : i.size = 1) (hby : i.bytes = bytes) (hzs : z.cells.size = 1)
    (v : Value) (n : Nat) (xs : List Value) (hse : a.eval s = v) (hown : w.ownsRow base e 1 v n xs)
    (A : Option Addr) (m c : Nat) (news : List Value) (hxe : a.eval x = .slice A m c) (hl : news.length = m) (hs : Src w A news) (h1 : ∀ u ∈ news, u.oneCell' = true)
    (h63 : n + m ≤ maxLen) (hbytes : (n + m) * bytes ≤ 140737488355328) (hbase : base ≤ w.heap.size)
    (h : ∀ v' w', w'.ownsRow base e 1 v' (n + m) (xs ++ news) → w.grownBy w' v.ownBlock → K (a.put o.dst v') w') :
    if Region.wanted o (yielded ops a.tmps) = true then Oper.wp P o a w K Q else E := by
  have hw : Region.wanted o (yielded ops a.tmps) = true := by simp [Region.wanted, hgd]
  rw [if_pos hw]
  obtain ⟨v', w', hrun, h2, h3, _⟩ := run_append_src (P := P) w base t o.type e i z bytes ht hi hz hsize hby hzs v n xs hown A m c news hl hs h1 h63 hbytes hbase
  unfold Oper.wp execOp
  simp only [ho, resolve, invoke, builtin, Sem.run_bind, Sem.run_pure, Result.andThen_ok, List.map_toArray, List.map_cons, List.map_nil, hse, hxe, hrun]
  exact h v' w' h2 h3
/-- Two bytes, the higher one first. -/
def be2 (k : Nat) : List UInt8 := [UInt8.ofNat (k / 256), UInt8.ofNat k]
theorem bts_be2 (k : Nat) (hk : k < 65536) : bts (be2 k) = [.int .u8 ((k : Int) / 256), .int .u8 ((k : Int) % 256)] := by
  unfold be2 bts
  simp only [List.map_cons, List.map_nil, B8, UInt8.toNat_ofNat']
  have h1 : k / 256 % 2 ^ 8 = k / 256 := Nat.mod_eq_of_lt (by omega)
  rw [h1]
  congr 2
/-- What of Right is asked of the pages, one behind the other. -/
def rightS (last pages : Int) : List ChV → Bool
  | [] => true
  | a :: l => !(decide (a.page ≤ last) || decide (pages ≤ a.page) || decide (a.bn ≠ 64)) && rightS a.page pages l
def rightB (pages : Int) (l : List ChV) : Bool := decide (pages ≤ 64) && rightS (-1) pages l
section
variable {w : World} {A : Option Addr} {n c : Nat}
set_option maxHeartbeats 2000000 in
set_option maxRecDepth 100000 in
theorem right_any {l : List ChV} (h : Chs w A l) (hl : l.length = n) (hn : n ≤ 9223372036854775807) (pages : Int) :
    Calls Try.prog 38 #[.slice A n c, .int .i64 pages] w (BoolPost (rightB pages l) w) := by
  have H := Lib.hid h
  have HL := Lib.hid hl
  clear h hl
  by_cases hp : 64 < pages
  · have hd : decide (64 < pages) = true := by simp; omega
    have HR := Lib.hid (show rightB pages l = false by unfold rightB; rw [decide_eq_false (by omega)]; rfl)
    go_enter Try.func38, Try.ntmps38
    go_wp2_with fail
    go_ret
    exact ⟨by rw [HR.out]; rfl, Chg.refl _ _⟩
  · have hd : decide (64 < pages) = false := by simp; omega
    have HR := Lib.hid (show rightB pages l = rightS (-1) pages l by unfold rightB; rw [decide_eq_true (by omega)]; rfl)
    go_enter Try.func38, Try.ntmps38
    go_wp2_with fail
    go_loopw [5, 12] (fun t i wr => ∃ k : Nat, k ≤ n ∧ i = .int .i64 (k : Int) ∧ (∃ last : Int, t = .int .i64 last ∧ Hid (rightB pages l = rightS last pages (l.drop k))) ∧ Chg [] w wr) (fun _ i _ => n - (intOf i).toNat)
    case atStart => exact ⟨0, Nat.zero_le _, rfl, ⟨-1, rfl, by rw [List.drop_zero]; exact HR⟩, Chg.refl _ _⟩
    case round =>
      obtain ⟨k, hk, rfl, ⟨last, rfl, HK⟩, hcr⟩ := hrel
      clear HR
      by_cases hlt : k < n
      · obtain ⟨a, ha⟩ : ∃ a, l[k]? = some a := ⟨_, List.getElem?_eq_getElem (by have := HL.out; omega)⟩
        obtain ⟨g, o, rfl, hg, hce⟩ := (H.out.keep hcr).cells (by have := HL.out; omega)
        obtain ⟨c0, c1⟩ := hce k a ha
        have HD := Lib.hid (show l.drop k = a :: l.drop (k + 1) by rw [List.drop_eq_getElem_cons (by have := HL.out; omega)]; congr 1; have := List.getElem?_eq_getElem (l := l) (i := k) (by have := HL.out; omega); rw [this] at ha; injection ha)
        have HC := Lib.hid hcr
        clear hce ha hcr
        obtain ⟨page, bA, bn, bc, B⟩ := a
        simp only at c0 c1
        have hkI : (k : Int) < (n : Int) := by omega
        by_cases h1 : page ≤ last
        · have hd1 : decide (page ≤ last) = true := by simp; omega
          have HF := Lib.hid (show rightB pages l = false by rw [HK.out, HD.out]; simp [rightS, h1])
          go_wp2_with fail
          go_ret
          exact ⟨by rw [HF.out]; rfl, HC.out.alloc _⟩
        · have hd1 : decide (page ≤ last) = false := by simp; omega
          by_cases h2 : pages ≤ page
          · have hd2 : decide (pages ≤ page) = true := by simp; omega
            have HF := Lib.hid (show rightB pages l = false by rw [HK.out, HD.out]; simp [rightS, h2])
            go_wp2_with fail
            go_ret
            exact ⟨by rw [HF.out]; rfl, HC.out.alloc _⟩
          · have hd2 : decide (pages ≤ page) = false := by simp; omega
            by_cases h3 : bn = 64
            · have HF := Lib.hid (show rightB pages l = rightS page pages (l.drop (k + 1)) by rw [HK.out, HD.out]; simp only [rightS]; rw [decide_eq_false h1, decide_eq_false h2, decide_eq_false (by simpa using h3)]; rfl)
              subst h3
              go_wp2_with fail
              go_roundw
              case rel => exact ⟨k + 1, by omega, by go_num, ⟨page, rfl, HF⟩, HC.out.alloc _⟩
              case measure => simp [intOf]; omega
            · have HF := Lib.hid (show rightB pages l = false by rw [HK.out, HD.out]; simp [rightS, h3])
              have hd3 : ((bn : Int) == 64) = false := by simp; omega
              have hd4 : (!((bn : Int) == 64)) = true := by simp; omega
              go_wp2_with fail
              go_ret
              exact ⟨by rw [HF.out]; rfl, HC.out.alloc _⟩
      · have HF := Lib.hid (show rightB pages l = true by rw [HK.out, List.drop_eq_nil_of_le (by have := HL.out; omega)]; rfl)
        have hkI : (n : Int) ≤ (k : Int) := by omega
        go_wp2_with fail
        go_ret
        exact ⟨by rw [HF.out]; rfl, hcr⟩
end
end Go.Proofs.Ytddjgncdjdjgeaa
namespace Go.Proofs.Ytddjgncdjdjgeaa
open Go.RowKit
/-- The cells of changes. -/
def chCs : List ChV → List Value
  | [] => []
  | a :: l => chC a ++ chCs l
theorem chCs_len : ∀ l, (chCs l).length = l.length * 2
  | [] => rfl
  | a :: l => by rw [chCs, List.length_append, chCs_len l]; simp [chC]; omega
theorem chCs_app : ∀ l m, chCs (l ++ m) = chCs l ++ chCs m
  | [], _ => rfl
  | a :: l, m => by rw [List.cons_append, chCs, chCs, chCs_app l m, List.append_assoc]
theorem chCs_one (a : ChV) : chCs [a] = chC a := by simp [chCs]
theorem chCs_get : ∀ (l : List ChV) (k : Nat) (a : ChV) (j : Nat), l[k]? = some a → j < 2 → (chCs l)[k * 2 + j]? = (chC a)[j]?
  | [], k, a, j, h, hj => by simp at h
  | b :: l, 0, a, j, h, hj => by
    simp at h; subst h
    rw [chCs, List.getElem?_append_left (by simp [chC]; omega)]
    congr 1; omega
  | b :: l, k + 1, a, j, h, hj => by
    simp at h
    rw [chCs, List.getElem?_append_right (by simp [chC]; omega)]
    rw [← chCs_get l k a j h hj]
    congr 1; simp [chC]; omega
/-- A change whose bytes lie in a block of their own, from B0 on. -/
structure MadeCh (w : World) (B0 : Nat) (a : ChV) : Prop where
  b : ∃ g, a.bA = some ⟨g, 0, none⟩ ∧ B0 ≤ g ∧ Whole w g 5 (bts a.B)
  bl : a.B.length = 64
  bn : a.bn = 64
  bc : a.bc = 64
  p : 0 ≤ a.page ∧ a.page < 65536
theorem MadeCh.ok {w : World} {B0 : Nat} {a : ChV} (h : MadeCh w B0 a) : ChOk w a := by
  obtain ⟨g, hg, _, hW⟩ := h.b
  refine ⟨by have := h.p; omega, by have := h.p; omega, ?_⟩
  rw [hg, h.bn, h.bc]
  have := Bs.of_all hW (by rw [h.bl]; omega)
  rwa [h.bl] at this
theorem MadeCh.small {w : World} {B0 : Nat} {a : ChV} (h : MadeCh w B0 a) : Small a := ⟨h.p.1, h.p.2, h.bn⟩
theorem MadeCh.chg {w w' : World} {B0 : Nat} {a : ChV} {T : List Nat} (h : MadeCh w B0 a) (hc : Chg T w w') (hT : ∀ i ∈ T, i < B0 ∨ w.heap.size ≤ i) : MadeCh w' B0 a := by
  obtain ⟨g, hg, hB, hW⟩ := h.b
  exact { h with b := ⟨g, hg, hB, hW.chg hc fun hm => by have := hT g hm; have := hW.lt; omega⟩ }
theorem MadeCh.grown {w w' : World} {B0 B2 m : Nat} {v2 : Value} {ys : List Value} {a : ChV} (h : MadeCh w B0 a) (h2 : w.ownsRow B2 78 2 v2 m ys) (hg : w.grownBy w' v2.ownBlock) : MadeCh w' B0 a := by
  obtain ⟨g, hg1, hB, hW⟩ := h.b
  exact { h with b := ⟨g, hg1, hB, whole_grown hW h2 (by decide) hg⟩ }
theorem rown_chg {w w' : World} {B n k : Nat} {e : TypeId} {v : Value} {xs : List Value} {T : List Nat} (h : w.ownsRow B e k v n xs) (hc : Chg T w w') (hT : ∀ i ∈ T, i < B ∨ w.heap.size ≤ i) : w'.ownsRow B e k v n xs := by
  refine ⟨h.1, h.2.imp id ?_⟩
  rintro ⟨g, cap, cur, rfl, hb, hg, r⟩
  refine ⟨g, cap, cur, rfl, hb, ?_, r⟩
  have hgl : g < w.heap.size := by
    rcases Nat.lt_or_ge g w.heap.size with hlt | hge
    · exact hlt
    · rw [Array.getElem?_eq_none hge] at hg; cases hg
  rw [hc.block g hgl (fun hm => by have := hT g hm; omega)]
  exact hg
/-- An own row of changes, as a list of changes is taken. -/
theorem chs_own {w : World} {B B0 n : Nat} {e : TypeId} {v : Value} {l : List ChV} (h : w.ownsRow B e 2 v n (chCs l)) (hok : ∀ a ∈ l, MadeCh w B0 a) :
    ∃ A c, v = .slice A n c ∧ l.length = n ∧ Chs w A l ∧ n ≤ 9223372036854775807 ∧ n ≤ c ∧ (∀ ad, A = some ad → ad.spot = none) := by
  have hl : l.length = n := by have := h.1; rw [chCs_len] at this; omega
  rcases h.2 with ⟨rfl, rfl⟩ | ⟨g, cap, cur, rfl, hb, hg, hn, hc, hs, ht⟩
  · exact ⟨none, 0, rfl, hl, ⟨fun h => absurd h (by omega), fun a ha => (hok a ha).ok⟩, by omega, Nat.le_refl _, fun ad e => by cases e⟩
  · have hgl : g < w.heap.size := by
      rcases Nat.lt_or_ge g w.heap.size with hlt | hge
      · exact hlt
      · rw [Array.getElem?_eq_none hge] at hg; cases hg
    refine ⟨_, cap, rfl, hl, ⟨fun _ => ⟨g, 0, rfl, hgl, fun k a ha => ?_⟩, fun a ha => (hok a ha).ok⟩, by unfold maxLen at hc; omega, hn, fun ad e => by injection e with e; subst e; rfl⟩
    have hx : ∀ j u, (chCs l)[j]? = some u → w.cell? ((⟨g, 0, none⟩ : Addr).add j) = some u := h.cells rfl
    have q : ∀ j, j < 2 → ∀ u, (chC a)[j]? = some u → w.cell? ⟨g, k * 2 + j, none⟩ = some u := fun j hj u hu => by
      have := hx (k * 2 + j) u ((chCs_get l k a j ha hj).trans hu)
      rwa [add_plain, Nat.zero_add] at this
    simp only [Nat.zero_add]
    exact ⟨q 0 (by omega) _ rfl, q 1 (by omega) _ rfl⟩
theorem info_change : (Try.prog.info? 78).map (fun i => (i.zero, i.size, i.bytes)) = some (some (.agg #[.int .i64 0, .slice none 0 0]), 2, 32) := by kernel_rfl
theorem cells_page (w : World) (xs : List Value) (t : Nat) : ∀ (j : Nat) (u : Value), xs[j]? = some u → (w.alloc (.cells xs.toArray t)).cell? ((⟨w.heap.size, 0, none⟩ : Addr).add j) = some u := fun j u hj => by
  rw [add_plain, Nat.zero_add, (Whole.new w t xs).cell]; exact hj
/-- A change whose bytes begin a block of their own, from B0 on. -/
structure RMade (w : World) (B0 : Nat) (a : ChV) : Prop where
  b : ∃ g r, a.bA = some ⟨g, 0, none⟩ ∧ B0 ≤ g ∧ Whole w g 5 (bts a.B ++ r) ∧ a.bc = 64 + r.length ∧ 64 + r.length ≤ 9223372036854775807
  bl : a.B.length = 64
  bn : a.bn = 64
  p : 0 ≤ a.page ∧ a.page < 65536
theorem RMade.ok {w : World} {B0 : Nat} {a : ChV} (h : RMade w B0 a) : ChOk w a := by
  obtain ⟨g, r, hg, _, hW, hc, hm⟩ := h.b
  refine ⟨by have := h.p; omega, by have := h.p; omega, ?_⟩
  rw [hg, h.bn, hc]
  exact Bs.of_whole hW h.bl (by rw [List.take_left' (by rw [bts_len, h.bl])]) (by omega) hm
theorem RMade.chg {w w' : World} {B0 : Nat} {a : ChV} {T : List Nat} (h : RMade w B0 a) (hc : Chg T w w') (hT : ∀ i ∈ T, i < B0 ∨ w.heap.size ≤ i) : RMade w' B0 a := by
  obtain ⟨g, r, hg, hB, hW, hr⟩ := h.b
  exact { h with b := ⟨g, r, hg, hB, hW.chg hc (fun hm => by have := hT g hm; have := hW.lt; omega), hr⟩ }
theorem RMade.grown {w w' : World} {B0 B2 m : Nat} {v2 : Value} {ys : List Value} {a : ChV} (h : RMade w B0 a) (h2 : w.ownsRow B2 78 2 v2 m ys) (hg : w.grownBy w' v2.ownBlock) : RMade w' B0 a := by
  obtain ⟨g, r, hg1, hB, hW, hr⟩ := h.b
  exact { h with b := ⟨g, r, hg1, hB, whole_grown hW h2 (by decide) hg, hr⟩ }
theorem chs_own' {w : World} {B n : Nat} {e : TypeId} {v : Value} {l : List ChV} (h : w.ownsRow B e 2 v n (chCs l)) (hok : ∀ a ∈ l, ChOk w a) :
    ∃ A c, v = .slice A n c ∧ l.length = n ∧ Chs w A l ∧ n ≤ 9223372036854775807 ∧ n ≤ c ∧ (∀ ad, A = some ad → ad.spot = none) := by
  have hl : l.length = n := by have := h.1; rw [chCs_len] at this; omega
  rcases h.2 with ⟨rfl, rfl⟩ | ⟨g, cap, cur, rfl, hb, hg, hn, hc, hs, ht⟩
  · exact ⟨none, 0, rfl, hl, ⟨fun h => absurd h (by omega), hok⟩, by omega, Nat.le_refl _, fun ad e => by cases e⟩
  · have hgl : g < w.heap.size := by
      rcases Nat.lt_or_ge g w.heap.size with hlt | hge
      · exact hlt
      · rw [Array.getElem?_eq_none hge] at hg; cases hg
    refine ⟨_, cap, rfl, hl, ⟨fun _ => ⟨g, 0, rfl, hgl, fun k a ha => ?_⟩, hok⟩, by unfold maxLen at hc; omega, hn, fun ad e => by injection e with e; subst e; rfl⟩
    have hx : ∀ j u, (chCs l)[j]? = some u → w.cell? ((⟨g, 0, none⟩ : Addr).add j) = some u := h.cells rfl
    have q : ∀ j, j < 2 → ∀ u, (chC a)[j]? = some u → w.cell? ⟨g, k * 2 + j, none⟩ = some u := fun j hj u hu => by
      have := hx (k * 2 + j) u ((chCs_get l k a j ha hj).trans hu)
      rwa [add_plain, Nat.zero_add] at this
    simp only [Nat.zero_add]
    exact ⟨q 0 (by omega) _ rfl, q 1 (by omega) _ rfl⟩
theorem MadeCh.rmade {w : World} {B0 : Nat} {a : ChV} (h : MadeCh w B0 a) : RMade w B0 a := by
  obtain ⟨g, hg, hB, hW⟩ := h.b
  exact ⟨⟨g, [], hg, hB, by rw [List.append_nil]; exact hW, by rw [h.bc]; rfl, by simp⟩, h.bl, h.bn, h.p⟩
end Go.Proofs.Ytddjgncdjdjgeaa
namespace Go.Proofs.Ytddjgncdjdjgeaa
open Go.RowKit
/-- Slices of bytes of our own, one for each list. -/
def Rows (B : Nat) (w : World) (vs : List Value) (rs : List (List UInt8)) : Prop :=
  vs.length = rs.length ∧ ∀ (i : Nat) (v : Value) (l : List UInt8), vs[i]? = some v → rs[i]? = some l → w.ownsRow B 5 1 v l.length (bts l)
theorem Rows.keep {B : Nat} {w w' : World} {vs : List Value} {rs : List (List UInt8)} (h : Rows B w vs rs) (hc : Chg [] w w') : Rows B w' vs rs :=
  ⟨h.1, fun i v l hv hl => own_keep (h.2 i v l hv hl) hc⟩
theorem Rows.nil (B : Nat) (w : World) : Rows B w [] [] := ⟨rfl, fun i v l hv => by simp at hv⟩
theorem Rows.snoc {B : Nat} {w : World} {vs : List Value} {rs : List (List UInt8)} (h : Rows B w vs rs) {v : Value} {l : List UInt8} (ho : w.ownsRow B 5 1 v l.length (bts l)) : Rows B w (vs ++ [v]) (rs ++ [l]) := by
  refine ⟨by simp [h.1], fun i u x hu hx => ?_⟩
  rcases Nat.lt_or_ge i vs.length with hi | hi
  · rw [List.getElem?_append_left hi] at hu
    rw [List.getElem?_append_left (by rw [← h.1]; exact hi)] at hx
    exact h.2 i u x hu hx
  · rw [List.getElem?_append_right hi] at hu
    rw [List.getElem?_append_right (by rw [← h.1]; exact hi)] at hx
    rw [← h.1] at hx
    cases hj : i - vs.length with
    | zero => rw [hj] at hu hx; simp at hu hx; subst hu; subst hx; exact ho
    | succ j => rw [hj] at hu; simp at hu
theorem own_grown {w w' : World} {B B2 n m : Nat} {e e2 : TypeId} {v v2 : Value} {xs ys : List Value} (h : w.ownsRow B e 1 v n xs) (h2 : w.ownsRow B2 e2 1 v2 m ys) (hne : e ≠ e2) (hg : w.grownBy w' v2.ownBlock) : w'.ownsRow B e 1 v n xs := by
  refine ⟨h.1, h.2.imp id ?_⟩
  rintro ⟨g, cap, cur, rfl, hb, hh, r⟩
  refine ⟨g, cap, cur, rfl, hb, ?_, r⟩
  rw [hg.block g ?_ ?_]
  · exact hh
  · rcases Nat.lt_or_ge g w.heap.size with hlt | hge
    · exact hlt
    · rw [Array.getElem?_eq_none hge] at hh; cases hh
  · intro hc
    rcases h2.2 with ⟨rfl, _⟩ | ⟨g2, cap2, cur2, rfl, hb2, hh2, _⟩
    · simp [Value.ownBlock] at hc
    · simp [Value.ownBlock] at hc
      subst hc
      rw [hh] at hh2
      simp at hh2
      exact hne hh2.2
theorem Rows.grown {B B2 m : Nat} {w w' : World} {vs : List Value} {rs : List (List UInt8)} (h : Rows B w vs rs) {v2 : Value} {ys : List Value} (h2 : w.ownsRow B2 44 1 v2 m ys) (hg : w.grownBy w' v2.ownBlock) : Rows B w' vs rs :=
  ⟨h.1, fun i v l hv hl => own_grown (h.2 i v l hv hl) h2 (by decide) hg⟩
theorem info_bytes : (Try.prog.info? 44).map (fun i => (i.zero, i.size, i.bytes)) = some (some (.slice none 0 0), 1, 24) := by kernel_rfl
theorem cells_slice : (Value.slice none 0 0).cells.size = 1 := rfl
end Go.Proofs.Ytddjgncdjdjgeaa
namespace Go.Proofs.Ytddjgncdjdjgeaa
open Go.RowKit
/-- The number of two bytes. -/
def num2 (l : List UInt8) : Nat := (l.getD 0 0).toNat * 256 + (l.getD 1 0).toNat
theorem ofInt_small (a : Nat) (h : a < 65536) : (BitVec.ofInt 64 (a : Int)).toNat = a := by
  rw [BitVec.toNat_ofInt]
  omega
theorem or_two (x y : UInt8) : bits .or .i64 ((x.toNat : Int) * 256) (y.toNat : Int) = ((x.toNat * 256 + y.toNat : Nat) : Int) := by
  have hx := x.toNat_lt
  have hy := y.toNat_lt
  have e1 : (x.toNat : Int) * 256 = ((x.toNat * 256 : Nat) : Int) := by omega
  rw [e1]
  show IntKind.i64.wrap ((BitVec.ofInt 64 ((x.toNat * 256 : Nat) : Int) ||| BitVec.ofInt 64 (y.toNat : Int)).toNat : Int) = _
  rw [BitVec.toNat_or, ofInt_small _ (by omega), ofInt_small _ (by omega), nat_join 8 (x.toNat * 256) y.toNat (by omega) (by omega)]
  exact IntWalk.i64_in _ (by omega)
theorem ret_word {a b : Int} (h : a = b) : Ending.returned (.int .i64 a) = .returned (.int .i64 b) := by rw [h]
section
variable {w : World} {A : Option Addr} {n c : Nat} {l : List UInt8}
set_option maxHeartbeats 2000000 in
set_option maxRecDepth 100000 in
theorem dget_any (h : Bs w A n c l) (hn : 2 ≤ n) :
    Calls Try.prog 106 #[.slice A n c] w fun e w' => e = .returned (.int .i64 (num2 l : Nat)) ∧ Chg [] w w' := by
  obtain ⟨x, y, t, rfl⟩ : ∃ x y t, l = x :: y :: t := by
    match l, h.len with
    | [], h0 => simp at h0; omega
    | [_], h0 => simp at h0; omega
    | x :: y :: t, _ => exact ⟨x, y, t, rfl⟩
  obtain ⟨ad, rfl, _, hx⟩ := h.src (by simp [bts])
  obtain ⟨b, o, s⟩ := ad
  obtain rfl : s = none := h.spot (by omega) _ rfl
  have h0 := hx 0 (B8 x) rfl
  have h1 := hx 1 (B8 y) rfl
  rw [add_plain, Nat.add_zero] at h0
  rw [add_plain] at h1
  unfold B8 at h0 h1
  have hx256 := x.toNat_lt
  have hy256 := y.toNat_lt
  have hnI : (1 : Int) < (n : Int) := by omega
  have hnJ : (0 : Int) < (n : Int) := by omega
  clear hx
  go_enter Try.func106, Try.ntmps106
  go_wp2_with fail
  go_quiet (fail)
  go_wp2_with fail
  go_ret
  exact ⟨ret_word (by rw [or_two]; simp [num2]), (Chg.refl _ _).drewN _⟩
end
end Go.Proofs.Ytddjgncdjdjgeaa
namespace Go.Proofs.Ytddjgncdjdjgeaa
open Go.RowKit
def chB (a : ChV) : List UInt8 := be2 a.page.toNat ++ a.B
/-- Changes as bytes. -/
def chsB : List ChV → List UInt8
  | [] => []
  | a :: l => chB a ++ chsB l
theorem chsB_app : ∀ l m, chsB (l ++ m) = chsB l ++ chsB m
  | [], _ => rfl
  | a :: l, m => by rw [List.cons_append, chsB, chsB, chsB_app l m, List.append_assoc]
theorem chsB_next (l : List ChV) (k : Nat) (a : ChV) (h : l[k]? = some a) : chsB (l.take (k + 1)) = chsB (l.take k) ++ chB a := by
  obtain ⟨hk, rfl⟩ := List.getElem?_eq_some_iff.1 h
  rw [List.take_succ_eq_append_getElem hk, chsB_app]
  simp [chsB]
def bytesD (l : List ChV) : List UInt8 := be2 l.length ++ chsB l
end Go.Proofs.Ytddjgncdjdjgeaa
