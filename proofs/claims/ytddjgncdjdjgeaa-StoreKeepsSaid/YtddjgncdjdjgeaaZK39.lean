/-
  K: Sto19, Sto20.
-/
import Derived.Test.YtddjgncdjdjgeaaZK34
import Derived.Test.YtddjgncdjdjgeaaZK35
import Derived.Test.YtddjgncdjdjgeaaZK38
namespace Go.Proofs.Ytddjgncdjdjgeaa
open Go.RowKit
theorem homeV_com {s : St} {x : SV} {ms : List (List ChV)} {m : List ChV} (h : KeptZ s x ms) (hm : InL x.P m) (hf : x.used + (18 + 66 * m.length) ≤ x.L * 64) : homeV (comS s x m) ⟨x.L, x.P, x.E⟩ = homeV s ⟨x.L, x.P, x.E⟩ := by
  have h1 := rightR_true.1 h.k.rt
  have hl : (comL x m).length = 18 + 66 * m.length := by unfold comL; rw [frameL_len, back_len hm.1]; omega
  have hgd := h.k.gd
  have hb : 128 + x.used + (comL x m).length ≤ s.S.length := by unfold Gd at hgd; omega
  have hs : ∀ q, q < 2 ∨ 2 + x.L ≤ q → secV (comS s x m) q = secV s q := fun q hq => secV_apS hb q (by rcases hq with hq | hq <;> omega)
  unfold homeV
  simp only
  rw [show pagesL (comS s x m) x.L x.P = pagesL s x.L x.P from ext_getD (by rw [pagesL_len, pagesL_len]) (fun i hi => by
    rw [pagesL_len] at hi
    rw [pagesL_at _ _ _ _ hi, pagesL_at _ _ _ _ hi, hs _ (by omega)])]
theorem homeV_flA (s : St) (o : RV) : homeV (flA s) o = homeV s o := by
  unfold homeV
  rw [show pagesL (flA s) o.log o.pages = pagesL s o.log o.pages from ext_getD (by rw [pagesL_len, pagesL_len]) (fun i hi => by
    rw [pagesL_len] at hi
    rw [pagesL_at _ _ _ _ hi, pagesL_at _ _ _ _ hi, secV_flA])]
/-- The pages' bytes behind the first i records. -/
def stA (H : SV) (ms : List (List ChV)) (i : Nat) : List UInt8 := ((ms.take i).foldl turnV H).pages.flatten
def stsL (H : SV) (ms : List (List ChV)) : List (List UInt8) := (List.range (ms.length + 1)).map (stA H ms)
theorem stA_snoc (H : SV) (ms : List (List ChV)) (m : List ChV) (i : Nat) (hi : i ≤ ms.length) : stA H (ms ++ [m]) i = stA H ms i := by
  unfold stA
  rw [List.take_append_of_le_length hi]
theorem stsL_snoc (H : SV) (ms : List (List ChV)) (m : List ChV) : stsL H (ms ++ [m]) = stsL H ms ++ [((ms ++ [m]).foldl turnV H).pages.flatten] := by
  unfold stsL
  rw [show (ms ++ [m]).length + 1 = (ms.length + 1) + 1 by simp, List.range_succ, List.map_append]
  congr 1
  · apply List.map_congr_left
    intro i hi
    exact stA_snoc H ms m i (by have := List.mem_range.1 hi; omega)
  · show [stA H (ms ++ [m]) (ms.length + 1)] = _
    unfold stA
    rw [List.take_of_length_le (by simp)]
theorem stsL_nil (H : SV) : stsL H [] = [H.pages.flatten] := rfl
theorem stsL_get (H : SV) (ms : List (List ChV)) (i : Nat) (hi : i ≤ ms.length) : (stsL H ms)[i]? = some (stA H ms i) := by
  unfold stsL
  rw [List.getElem?_map, List.getElem?_range (by omega)]; rfl
theorem stsL_len (H : SV) (ms : List (List ChV)) : (stsL H ms).length = ms.length + 1 := by simp [stsL]
/-- Texts as cells hold them. -/
def sts (l : List (List UInt8)) : List Value := l.map fun x => .string (strOf x)
theorem sts_len (l : List (List UInt8)) : (sts l).length = l.length := by simp [sts]
theorem sts_get {l : List (List UInt8)} {i : Nat} {x : List UInt8} (h : l[i]? = some x) : (sts l)[i]? = some (.string (strOf x)) := by
  unfold sts
  rw [List.getElem?_map, h]; rfl
/-- A row of our own: its block is told. -/
theorem own_blk_lt {w : World} {B n : Nat} {e : TypeId} {v : Value} {xs : List Value} (h : w.ownsRow B e 1 v n xs) : ∀ g, v.ownBlock = some g → B ≤ g ∧ g < w.heap.size := by
  intro g hg
  rcases h.2 with ⟨rfl, _⟩ | ⟨q, cap, cur, rfl, hb, hh, _⟩
  · simp [Value.ownBlock] at hg
  · simp [Value.ownBlock] at hg
    subst hg
    refine ⟨hb, ?_⟩
    rcases Nat.lt_or_ge q w.heap.size with hlt | hge
    · exact hlt
    · rw [Array.getElem?_eq_none hge] at hh; cases hh
/-- .. a block more, beside one that is let be written. -/
theorem Sto.more2 {w w' : World} {p bL bS bW g gN : Nat} {ex : List Nat} {s : St} {x : SV} {vP : Value} (h : Sto w ⟨p, bL, bS, bW, g, gN, ex⟩ s x vP) {r : Nat} (hc : Chg [r] w w') (hr : r ∈ ex) (hn : ∀ i ∈ [p, bL, bS, bW, g, gN], i ≠ r) {q : Nat} (hq : w.heap.size ≤ q) (hq2 : q < w'.heap.size) : Sto w' ⟨p, bL, bS, bW, g, gN, q :: ex⟩ s x vP := by
  have h64 := h.p64
  have hpl := h.pl
  have h1 := rightR_true.1 h.rt
  have hk := h.past hc hr hn
  obtain ⟨A, c, us, e, hc1, hs, hu, hA, hR⟩ := h.pgs
  have hrD : r ∈ SK.D ⟨p, bL, bS, bW, g, gN, ex⟩ := by simp [SK.D, hr]
  have hin : ∀ i, i ∈ SK.D ⟨p, bL, bS, bW, g, gN, q :: ex⟩ → i = q ∨ i ∈ SK.D ⟨p, bL, bS, bW, g, gN, ex⟩ := fun i hi => by
    simp only [SK.D, List.mem_cons] at hi ⊢
    rcases hi with h | h | h | h | h | h | h | h <;> simp [h]
  refine { dsk := hk.dsk, rec_ := hk.rec_, pgs := ?_, nm := hk.nm, ng := hk.ng, rt := hk.rt, ep := hk.ep, pl := hk.pl, nl := hk.nl, p64 := hk.p64, us := hk.us, sq := hk.sq, exl := fun i hi => ?_ }
  · refine ⟨A, c, us, e, hc1, src_aw hs hc (fun ad e hm => (hA ad e).2 (by simp only [List.mem_singleton] at hm; rw [hm]; exact hrD)), hu, fun ad ha => ⟨(hA ad ha).1, fun hm => ?_⟩, fun i u l hu' hl => ?_⟩
    · rcases hin _ hm with hm | hm
      · obtain ⟨ad', ea, hb, _⟩ := hs (by omega)
        rw [ha] at ea
        injection ea with ea
        subst ea
        omega
      · exact (hA ad ha).2 hm
    · obtain ⟨A', n', c', eu, hB, hD⟩ := hR i u l hu' hl
      refine ⟨A', n', c', eu, bs_aw hB hc (fun ad e hm => hD ad e (by simp only [List.mem_singleton] at hm; rw [hm]; exact hrD)), fun ad ha hm => ?_⟩
      rcases hin _ hm with hm | hm
      · obtain ⟨ad', ea, hb, _⟩ := hB.src (by rw [bts_len, h64 l (List.mem_of_getElem? hl)]; omega)
        rw [ha] at ea
        injection ea with ea
        subst ea
        omega
      · exact hD ad ha hm
  · simp only [List.mem_cons] at hi
    rcases hi with rfl | hi
    · exact hq2
    · exact hk.exl i hi
/-- A row of our own that the store knows of grows. -/
theorem Sto.grow {w w' : World} {p bL bS bW g gN : Nat} {ex : List Nat} {s : St} {x : SV} {vP v v' : Value} {B m : Nat} {e : TypeId} {ys : List Value} (h : Sto w ⟨p, bL, bS, bW, g, gN, ex⟩ s x vP)
    (hx : ∀ q, v.ownBlock = some q → q ∈ ex ∧ ∀ i ∈ [p, bL, bS, bW, g, gN], i ≠ q) (hg : w.grownBy w' v.ownBlock) (ho' : w'.ownsRow B e 1 v' m ys) (hb : v'.ownBlock = v.ownBlock ∨ v'.ownBlock = some w.heap.size) (hn : ∀ i ∈ [p, bL, bS, bW, g, gN], i < w.heap.size) :
    ∃ ex', (∀ i ∈ ex, i ∈ ex') ∧ (∀ q, v'.ownBlock = some q → q ∈ ex' ∧ ∀ i ∈ [p, bL, bS, bW, g, gN], i ≠ q) ∧ Sto w' ⟨p, bL, bS, bW, g, gN, ex'⟩ s x vP := by
  rcases hb with hb | hb
  · refine ⟨ex, fun _ h => h, fun q hq => hx q (hb.symm.trans hq), ?_⟩
    cases hv : v.ownBlock with
    | none => exact h.keep (Chg.of_grown hg fun q hq _ => by rw [hv] at hq; cases hq)
    | some q =>
      obtain ⟨h1, h2⟩ := hx q hv
      exact h.past (q := q) (Chg.of_grown hg fun q' hq _ => by rw [hv] at hq; injection hq with hq; subst hq; exact List.mem_cons_self) h1 h2
  · refine ⟨w.heap.size :: ex, fun i hi => List.mem_cons_of_mem _ hi, fun q hq => ?_, ?_⟩
    · rw [hb] at hq
      injection hq with hq
      subst hq
      exact ⟨List.mem_cons_self, fun i hi => by have := hn i hi; omega⟩
    · obtain ⟨_, hlt⟩ := own_blk_lt ho' _ hb
      cases hv : v.ownBlock with
      | none => exact h.more (Chg.of_grown hg fun q hq _ => by rw [hv] at hq; cases hq) (Nat.le_refl _) hlt
      | some q =>
        obtain ⟨h1, h2⟩ := hx q hv
        exact Sto.more2 h (Chg.of_grown hg fun q' hq' _ => by rw [hv] at hq'; injection hq' with hq'; subst hq'; exact List.mem_cons_self) h1 h2 (Nat.le_refl _) hlt
end Go.Proofs.Ytddjgncdjdjgeaa
namespace Go.Proofs.Ytddjgncdjdjgeaa
open Go.RowKit
theorem info_str : (Try.prog.info? 9).map (fun i => (i.zero, i.size, i.bytes)) = some (some (.string ⟨#[]⟩), 1, 16) := by kernel_rfl
def UB (E k j u : Nat) (ms : List (List ChV)) : Prop := k < j → (frsL E 0 (ms.take k)).length = u
theorem Rows.chg {B : Nat} {w w' : World} {vs : List Value} {rs : List (List UInt8)} {T : List Nat} (h : Rows B w vs rs) (hc : Chg T w w') (hT : ∀ i ∈ T, i < B ∨ w.heap.size ≤ i) : Rows B w' vs rs := ⟨h.1, fun i v l hv hl => rown_chg (h.2 i v l hv hl) hc hT⟩
theorem Rows.lists {B : Nat} {w : World} {vs : List Value} {rs : List (List UInt8)} (h : Rows B w vs rs) : Lists w vs rs := ⟨h.1, fun i v X hv hX => by
  obtain ⟨A, c, e, hB, _⟩ := Bs.of_own (h.2 i v X hv hX)
  exact ⟨A, _, c, e, hB⟩⟩
theorem grown_T {w w' : World} {b : Option Nat} {B : Nat} (hg : w.grownBy w' b) (hb : ∀ q, b = some q → B ≤ q) : ∃ T, Chg T w w' ∧ ∀ i ∈ T, B ≤ i := by
  cases b with
  | none => exact ⟨[], Chg.of_grown hg (fun q h _ => by cases h), fun i h => by cases h⟩
  | some q => exact ⟨[q], Chg.of_grown hg (fun q' h _ => by injection h with h; subst h; exact List.mem_cons_self), fun i h => by simp only [List.mem_singleton] at h; subst h; exact hb i rfl⟩
theorem Tp.chg {T : List Nat} {w w' : World} {p n c a : Nat} {A : Option Addr} {l : List Int} (h : Tp w p A n c l a) (hc : Chg T w w') (hp : p ∉ T) (hA : 0 < n → ∀ ad, A = some ad → ad.block ∉ T) : Tp w' p A n c l a :=
  { h with rec_ := h.rec_.chg hc hp, src := h.src.chg hc (fun h0 ad e => hA (by rw [nms_len, h.len] at h0; exact h0) ad e) }
/-- The root behind a crash. -/
theorem crash_best {s s' : St} {x : SV} {ms : List (List ChV)} (hz : KeptZ s x ms) (hw : Wtl s x.L) (hc : Crs s s' (wl s.V s.V.length)) : bestK s'.V.length s'.S 2 = ⟨x.L, x.P, x.E⟩ := by
  have h1 := rightR_true.1 hz.k.rt
  have hwl : ∀ q, q ∈ wl s.V s.V.length → 2 ≤ q ∧ q < 2 + x.L := fun q hq => by
    unfold wl at hq
    exact hw q (by simpa using (List.mem_filter.1 hq).2)
  have hs : ∀ q, q < 2 ∨ 2 + x.L ≤ q → secV s' q = secV s q := fun q hq => secV_same hc.v q (fun j hj1 hj2 => hc.out j (fun hm => by have := hwl _ hm; omega))
  rw [bestK_two, hc.v, hs 0 (by omega), hs 1 (by omega), ← bestK_two]
  exact hz.k.best
/-- A tape, a row of texts, a row of rows of bytes. -/
structure Mt (w wr : World) (B pt : Nat) (A : Option Addr) (n c : Nat) (xs : List Int) (a : Nat) (vs : Value) (ns : Nat) (ts : List (List UInt8)) (vw : Value) (nw : Nat) (us : List Value) (rs : List (List UInt8)) : Prop where
  tp : Tp wr pt A n c xs a
  rs_ : wr.ownsRow B 9 1 vs ns (sts ts)
  rw_ : wr.ownsRow B 44 1 vw nw us
  rows : Rows B wr us rs
  chg : Chg [] w wr
  low : w.heap.size ≤ B
  siz : B ≤ wr.heap.size
  pl : pt < B
  al : 0 < n → ∀ ad, A = some ad → ad.block < w.heap.size
section
variable {w wr wx : World} {B pt n c a ns nw : Nat} {A : Option Addr} {xs : List Int} {vs vw : Value} {ts rs : List (List UInt8)} {us : List Value}
theorem Mt.on {T : List Nat} (h : Mt w wr B pt A n c xs a vs ns ts vw nw us rs) (hc : Chg T wr wx) (hT : ∀ i ∈ T, i < B ∧ i ≠ pt ∧ w.heap.size ≤ i) : Mt w wx B pt A n c xs a vs ns ts vw nw us rs := by
  have h1 : ∀ i ∈ T, i < B ∨ wr.heap.size ≤ i := fun i hi => .inl (hT i hi).1
  exact { tp := h.tp.chg hc (fun hm => (hT _ hm).2.1 rfl) (fun h0 ad e hm => by have := h.al h0 ad e; have := (hT _ hm).2.2; omega), rs_ := rown_chg h.rs_ hc h1, rw_ := rown_chg h.rw_ hc h1, rows := h.rows.chg hc h1, chg := h.chg.then_ hc (fun i hi hw => by have := (hT i hi).2.2; omega), low := h.low, siz := Nat.le_trans h.siz hc.size, pl := h.pl, al := h.al }
theorem Mt.keep (h : Mt w wr B pt A n c xs a vs ns ts vw nw us rs) (hc : Chg [] wr wx) : Mt w wx B pt A n c xs a vs ns ts vw nw us rs := h.on hc (fun i hi => by cases hi)
/-- The tape goes on. -/
theorem Mt.tape {a' : Nat} (h : Mt w wr B pt A n c xs a vs ns ts vw nw us rs) (hc : Chg [pt] wr wx) (ht : Tp wx pt A n c xs a') (hpt : w.heap.size ≤ pt) : Mt w wx B pt A n c xs a' vs ns ts vw nw us rs := by
  have h1 : ∀ i ∈ [pt], i < B ∨ wr.heap.size ≤ i := fun i hi => by simp only [List.mem_singleton] at hi; subst hi; exact .inl h.pl
  exact { tp := ht, rs_ := rown_chg h.rs_ hc h1, rw_ := rown_chg h.rw_ hc h1, rows := h.rows.chg hc h1, chg := h.chg.then_ hc (fun i hi hw => by simp only [List.mem_singleton] at hi; omega), low := h.low, siz := Nat.le_trans h.siz hc.size, pl := h.pl, al := h.al }
/-- A row of bytes more. -/
theorem Mt.more {v' u : Value} {l : List UInt8} (h : Mt w wr B pt A n c xs a vs ns ts vw nw us rs) (hu : wr.ownsRow B 5 1 u l.length (bts l)) (ho : wx.ownsRow B 44 1 v' (nw + 1) (us ++ [u])) (hg : wr.grownBy wx vw.ownBlock) : Mt w wx B pt A n c xs a vs ns ts v' (nw + 1) (us ++ [u]) (rs ++ [l]) := by
  obtain ⟨T, hc, hT⟩ := grown_T (B := B) hg (fun q hq => (own_blk_lt h.rw_ q hq).1)
  have hp := h.pl
  have hl := h.low
  exact { tp := h.tp.chg hc (fun hm => by have := hT _ hm; omega) (fun h0 ad e hm => by have := h.al h0 ad e; have := hT _ hm; omega), rs_ := own_grown h.rs_ h.rw_ (by decide) hg, rw_ := ho, rows := (h.rows.grown h.rw_ hg).snoc (own_grown hu h.rw_ (by decide) hg), chg := Chg.own h.chg h.rw_ h.low hg, low := h.low, siz := Nat.le_trans h.siz hc.size, pl := h.pl, al := h.al }
/-- A text more. -/
theorem Mt.text {v' : Value} {l : List UInt8} (h : Mt w wr B pt A n c xs a vs ns ts vw nw us rs) (ho : wx.ownsRow B 9 1 v' (ns + 1) (sts ts ++ [.string (strOf l)])) (hg : wr.grownBy wx vs.ownBlock) : Mt w wx B pt A n c xs a v' (ns + 1) (ts ++ [l]) vw nw us rs := by
  obtain ⟨T, hc, hT⟩ := grown_T (B := B) hg (fun q hq => (own_blk_lt h.rs_ q hq).1)
  have hp := h.pl
  have hl := h.low
  exact { tp := h.tp.chg hc (fun hm => by have := hT _ hm; omega) (fun h0 ad e hm => by have := h.al h0 ad e; have := hT _ hm; omega), rs_ := by simpa [sts] using ho, rw_ := own_grown h.rw_ h.rs_ (by decide) hg, rows := ⟨h.rows.1, fun i v l hv hl => own_grown (h.rows.2 i v l hv hl) h.rs_ (by decide) hg⟩, chg := Chg.own h.chg h.rs_ h.low hg, low := h.low, siz := Nat.le_trans h.siz hc.size, pl := h.pl, al := h.al }
end
theorem Sto.lt6 {w : World} {p bL bS bW g gN : Nat} {ex : List Nat} {s : St} {x : SV} {v : Value} (h : Sto w ⟨p, bL, bS, bW, g, gN, ex⟩ s x v) : ∀ i ∈ [p, bL, bS, bW, g, gN], i < w.heap.size := fun i hi => h.lts i (by
  simp only [List.mem_cons, List.not_mem_nil, or_false] at hi
  simp only [SK.D, List.mem_cons]
  rcases hi with h | h | h | h | h | h <;> simp [h])
/-- Blocks that a store lets be written. -/
structure ExB (p bL bS bW g gN pt : Nat) (ex : List Nat) (vs vw : Value) : Prop where
  tp : pt ∈ ex ∧ ∀ i ∈ [p, bL, bS, bW, g, gN], i ≠ pt
  s : ∀ q, vs.ownBlock = some q → q ∈ ex ∧ ∀ i ∈ [p, bL, bS, bW, g, gN], i ≠ q
  w : ∀ q, vw.ownBlock = some q → q ∈ ex ∧ ∀ i ∈ [p, bL, bS, bW, g, gN], i ≠ q
/-- What StoreKeeps' first loop keeps. -/
structure SKI (w wr : World) (B p bL bS bW g gN pt : Nat) (A : Option Addr) (n c : Nat) (xs : List Int) (H : SV) (K j jj : Nat) (vs vw : Value) (s : St) (x : SV) (v : Value) (a u : Nat) (ms : List (List ChV)) (us : List Value) (ex : List Nat) : Prop where
  sto : Sto wr ⟨p, bL, bS, bW, g, gN, ex⟩ s x v
  ex : ExB p bL bS bW g gN pt ex vs vw
  k : KeptS s x ms u
  home : homeV s ⟨x.L, x.P, x.E⟩ = H
  L : x.L = 24
  P : x.P = 6
  E : x.E = 2
  V : s.V.length = 40
  len : ms.length = j
  ub : UB 2 K jj u ms
  mt : Mt w wr B pt A n c xs a vs (j + 1) (stsL H ms) vw j us (ms.map bytesD)
/-- .. behind a Sync. -/
theorem SKI.sync {w wr wx : World} {B p bL bS bW g gN pt n c K j jj a u : Nat} {A : Option Addr} {xs : List Int} {H : SV} {vs vw v : Value} {s : St} {x : SV} {ms : List (List ChV)} {us : List Value} {ex : List Nat}
    (h : SKI w wr B p bL bS bW g gN pt A n c xs H K j jj vs vw s x v a u ms us ex) (hc : Chg [bL, bS, bW] wr wx) (hs : Sto wx ⟨p, bL, bS, bW, g, gN, ex⟩ (flA s) x v) (hT : ∀ i ∈ [bL, bS, bW], i < B ∧ i ≠ pt ∧ w.heap.size ≤ i) (hK : K = j) :
    SKI w wx B p bL bS bW g gN pt A n c xs H K j (j + 1) vs vw (flA s) x v a x.used ms us ex :=
  { sto := hs, ex := h.ex, k := h.k.flA, home := (homeV_flA s _).trans h.home, L := h.L, P := h.P, E := h.E, V := (flA_len s).trans h.V, len := h.len, ub := fun _ => by
      rw [List.take_of_length_le (by rw [h.len, hK]; exact Nat.le_refl _)]
      have := h.k.k.z.z.len
      rw [h.E] at this
      exact this, mt := h.mt.on hc hT }
end Go.Proofs.Ytddjgncdjdjgeaa
