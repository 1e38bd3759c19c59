/-
  K: Sto14, Sto15, LawStoreOpens, Sto16, Sto17.
-/
import Derived.Test.YtddjgncdjdjgeaaZK11
import Derived.Test.YtddjgncdjdjgeaaZK32
import Derived.Test.YtddjgncdjdjgeaaZK33
namespace Go.Proofs.Ytddjgncdjdjgeaa
open Go.RowKit
theorem chso_in {w wr : World} {p P : Nat} {At : Option Addr} {nt ct : Nat} {lt : List Int} {v : Value} {D : List Nat} (h : ChSo w p At nt ct lt wr v P) (hP : P ≤ 64) (hD : ∀ i ∈ D, i < w.heap.size) :
    ∃ A c ls a', v = .slice A ls.length c ∧ ChsD D wr A ls ∧ InL P ls ∧ Tp wr p At nt ct lt a' ∧ Chg [p] w wr ∧ ls.length ≤ 64 := by
  obtain ⟨ls, a', ho, hm, hpg, hl, hr, hT, hc⟩ := h
  obtain ⟨A, c, rfl, hl2, hch, _, _, _⟩ := chs_own' ho (fun a ha => (hm a ha).ok)
  have hb := own_blk ho rfl
  refine ⟨A, c, ls, a', rfl, ⟨hch, fun ad e hd => ?_, fun a ha ad e hd => ?_⟩, ⟨fun a ha => ⟨(hm a ha).small, (hm a ha).bl⟩, ?_, by omega⟩, hT, hc, by omega⟩
  · have h1 := hD _ hd
    have h2 := hb ad e
    omega
  · obtain ⟨g, hg, hB, _⟩ := (hm a ha).b
    rw [hg] at e
    injection e with e
    subst e
    have h1 : g < w.heap.size := hD _ hd
    omega
  · unfold rightB
    rw [hr (P : Int) (Int.le_refl _), Bool.and_true, decide_eq_true_iff]; omega
theorem fits_le {L u m : Nat} (h : fitsB (L : Int) (u : Int) (m : Int) = true) (hm : m ≤ 64) : u + (18 + 66 * m) ≤ L * 64 := by
  unfold fitsB at h
  rw [Bool.and_eq_true, decide_eq_true_iff, decide_eq_true_iff] at h
  have h2 := h.2
  unfold leftI sizeI needI at h2
  rw [if_neg (by omega), if_neg (by omega)] at h2
  omega
end Go.Proofs.Ytddjgncdjdjgeaa
namespace Go.Proofs.Ytddjgncdjdjgeaa
open Go.RowKit
theorem Sto.more {w w' : World} {p bL bS bW g gN : Nat} {ex : List Nat} {s : St} {x : SV} {vP : Value} (h : Sto w ⟨p, bL, bS, bW, g, gN, ex⟩ s x vP) (hc : Chg [] w w') {q : Nat} (hq : w.heap.size ≤ q) (hq2 : q < w'.heap.size) : Sto w' ⟨p, bL, bS, bW, g, gN, q :: ex⟩ s x vP := by
  have h1 := rightR_true.1 h.rt
  have hpl := h.pl
  have h64 := h.p64
  have hk := h.keep hc
  obtain ⟨A, c, us, e, hc1, hs, hu, hA, hR⟩ := h.pgs
  have hin : ∀ i, i ∈ SK.D ⟨p, bL, bS, bW, g, gN, q :: ex⟩ → i = q ∨ i ∈ SK.D ⟨p, bL, bS, bW, g, gN, ex⟩ := fun i hi => by
    simp only [SK.D, List.mem_cons] at hi ⊢
    rcases hi with h | h | h | h | h | h | h | h <;> simp [h]
  refine { dsk := hk.dsk, rec_ := hk.rec_, pgs := ?_, nm := hk.nm, ng := hk.ng, rt := hk.rt, ep := hk.ep, pl := hk.pl, nl := hk.nl, p64 := hk.p64, us := hk.us, sq := hk.sq, exl := fun i hi => ?_ }
  · refine ⟨A, c, us, e, hc1, hs.keep hc, hu, fun ad ha => ⟨(hA ad ha).1, fun hm => ?_⟩, fun i u l hu' hl => ?_⟩
    · rcases hin _ hm with hm | hm
      · obtain ⟨ad', ea, hb, _⟩ := hs (by omega)
        rw [ha] at ea
        injection ea with ea
        subst ea
        omega
      · exact (hA ad ha).2 hm
    · obtain ⟨A', n', c', eu, hB, hD⟩ := hR i u l hu' hl
      refine ⟨A', n', c', eu, hB.keep hc, fun ad ha hm => ?_⟩
      rcases hin _ hm with hm | hm
      · obtain ⟨ad', ea, hb, _⟩ := hB.src (by rw [bts_len, h64 l (List.mem_of_getElem? hl)]; omega)
        rw [ha] at ea
        injection ea with ea
        subst ea
        omega
      · exact hD ad ha hm
  · simp only [List.mem_cons] at hi
    rcases hi with rfl | hi
    · exact hq2
    · exact hk.exl i hi
theorem Sto.past {w w' : World} {k : SK} {s : St} {x : SV} {vP : Value} (h : Sto w k s x vP) {q : Nat} (hc : Chg [q] w w') (hq : q ∈ k.ex) (hn : ∀ i ∈ [k.p, k.bL, k.bS, k.bW, k.g, k.gN], i ≠ q) : Sto w' k s x vP := by
  have hne : ∀ i ∈ [k.p, k.bL, k.bS, k.bW, k.g, k.gN], i ∉ [q] := fun i hi hm => hn i hi (by simpa using hm)
  exact { h with dsk := Dsk.away h.dsk hc (hne _ (by simp)) (hne _ (by simp)) (hne _ (by simp)) (hne _ (by simp)), rec_ := h.rec_.chg hc (hne _ (by simp)), pgs := h.pgs.chg hc (fun i hi => by simp only [List.mem_singleton] at hi; subst hi; simp [SK.D, hq]), nm := h.nm.chg hc (hne _ (by simp)), exl := fun i hi => Nat.lt_of_lt_of_le (h.exl i hi) hc.size }
end Go.Proofs.Ytddjgncdjdjgeaa
namespace Go.Proofs.Ytddjgncdjdjgeaa
open Go.RowKit
theorem Fr.lists {B : Nat} {w : World} {g n : Nat} {us : List Value} {ps : List (List UInt8)} (h : Fr B w g n us ps n) (h64 : ∀ l ∈ ps, l.length ≤ 1000) : Lists w us ps := by
  refine ⟨by rw [h.len, h.lenP], fun i v l hv hl => ?_⟩
  have hi : i < n := by rw [← h.lenP]; exact (List.getElem?_eq_some_iff.1 hl).1
  obtain ⟨x, h1, h2, _⟩ := h.at_ i hi l hl
  rw [hv] at h1
  injection h1 with h1
  exact ⟨_, _, _, h1, Bs.of_all h2 (by have := h64 l (List.mem_of_getElem? hl); omega)⟩
end Go.Proofs.Ytddjgncdjdjgeaa
namespace Go.Proofs.Ytddjgncdjdjgeaa
open Go.RowKit
structure Eqn (s : St) : Prop where
  lenS : s.S.length = 64 * s.V.length
  lenL : s.L.length = s.S.length
theorem settle_S {s : St} (h : Eqn s) {k cut : Nat} (hk : k < s.V.length) (hc : cut ≤ 64) (j : Nat) : (s.settle k cut).S[j]? = if k * 64 + cut ≤ j ∧ j < (k + 1) * 64 then s.L[j]? else s.S[j]? := by
  have h1 := h.lenS
  have h2 := h.lenL
  have lx : ((s.L.drop (k * 64 + cut)).take (64 - cut)).length = 64 - cut := by rw [List.length_take, List.length_drop]; omega
  show (setS s.L s.S k cut)[j]? = _
  unfold setS
  rw [splice_get _ _ _ _ (by rw [lx]; omega), lx]
  by_cases hj : k * 64 + cut ≤ j ∧ j < (k + 1) * 64
  · rw [if_pos (by omega), if_pos hj, List.getElem?_take, if_pos (by omega), List.getElem?_drop]
    congr 1; omega
  · rw [if_neg (by omega), if_neg hj]
theorem settle_L {s : St} (h : Eqn s) {k cut : Nat} (hk : k < s.V.length) (hc : cut ≤ 64) (j : Nat) : (s.settle k cut).L[j]? = if k * 64 ≤ j ∧ j < k * 64 + cut then s.S[j]? else s.L[j]? := by
  have h1 := h.lenS
  have h2 := h.lenL
  have lx : ((s.S.drop (k * 64)).take cut).length = cut := by rw [List.length_take, List.length_drop]; omega
  show (setL s.L s.S k cut)[j]? = _
  unfold setL
  rw [splice_get _ _ _ _ (by rw [lx]; omega), lx]
  by_cases hj : k * 64 ≤ j ∧ j < k * 64 + cut
  · rw [if_pos hj, if_pos hj, List.getElem?_take, if_pos (by omega), List.getElem?_drop]
    congr 1; omega
  · rw [if_neg hj, if_neg hj]
theorem settle_V (s : St) (k cut : Nat) : (s.settle k cut).V.length = s.V.length := by simp [St.settle]
theorem Eqn.settle {s : St} (h : Eqn s) {k cut : Nat} (hk : k < s.V.length) (hc : cut ≤ 64) : Eqn (s.settle k cut) := by
  have h1 := h.lenS
  have h2 := h.lenL
  have lx : ((s.L.drop (k * 64 + cut)).take (64 - cut)).length = 64 - cut := by rw [List.length_take, List.length_drop]; omega
  have ly : ((s.S.drop (k * 64)).take cut).length = cut := by rw [List.length_take, List.length_drop]; omega
  have e1 : (s.settle k cut).S.length = s.S.length := splice_len _ _ _ (by rw [lx]; omega)
  have e2 : (s.settle k cut).L.length = s.L.length := splice_len _ _ _ (by rw [ly]; omega)
  exact ⟨by rw [e1, settle_V]; exact h1, by rw [e1, e2]; exact h2⟩
/-- What both images have alike stands; what does not wait stands. -/
structure Crs (s s' : St) (ws : List Nat) : Prop where
  eq : Eqn s'
  v : s'.V.length = s.V.length
  same : ∀ j : Nat, s.L[j]? = s.S[j]? → s'.S[j]? = s.S[j]? ∧ s'.L[j]? = s.S[j]?
  out : ∀ j : Nat, j / 64 ∉ ws → s'.S[j]? = s.S[j]?
theorem Crs.crash {s : St} (h : Eqn s) (ws : List Nat) (cuts : List Int) (hw : ∀ k ∈ ws, k < s.V.length) (hcut : ∀ i, cutAt cuts i ≤ 64) : ∀ i, i ≤ ws.length → Crs s (s.crash ws cuts i) ws
  | 0, _ => ⟨h, rfl, fun j hj => ⟨rfl, hj⟩, fun j _ => rfl⟩
  | i + 1, hi => by
    have ih := Crs.crash h ws cuts hw hcut i (by omega)
    have hk : ws.getD i 0 ∈ ws := by rw [List.getD_eq_getElem?_getD, List.getElem?_eq_getElem (by omega)]; exact List.getElem_mem _
    have hkv : ws.getD i 0 < (s.crash ws cuts i).V.length := by rw [ih.v]; exact hw _ hk
    refine ⟨ih.eq.settle hkv (hcut i), (settle_V _ _ _).trans ih.v, fun j hj => ?_, fun j hj => ?_⟩
    · obtain ⟨h1, h2⟩ := ih.same j hj
      show ((s.crash ws cuts i).settle (ws.getD i 0) (cutAt cuts i)).S[j]? = _ ∧ ((s.crash ws cuts i).settle (ws.getD i 0) (cutAt cuts i)).L[j]? = _
      rw [settle_S ih.eq hkv (hcut i), settle_L ih.eq hkv (hcut i)]
      constructor
      · split
        · exact h2
        · exact h1
      · split
        · exact h1
        · exact h2
    · show ((s.crash ws cuts i).settle (ws.getD i 0) (cutAt cuts i)).S[j]? = _
      rw [settle_S ih.eq hkv (hcut i), if_neg (fun hx => hj (by rw [show j / 64 = ws.getD i 0 by omega]; exact hk))]
      exact ih.out j hj
end Go.Proofs.Ytddjgncdjdjgeaa
namespace Go.Proofs.Ytddjgncdjdjgeaa
open Go.RowKit
/-- What lasts and what is seen are alike ahead of u and behind the log. -/
def Alk (s : St) (L u : Nat) : Prop := ∀ j : Nat, (j < 128 + u ∨ 128 + L * 64 ≤ j) → s.L[j]? = s.S[j]?
/-- Only the log waits. -/
def Wtl (s : St) (L : Nat) : Prop := ∀ j : Nat, s.V.getD j false = true → 2 ≤ j ∧ j < 2 + L
theorem flush_eqn {s : St} (h : Eqn s) : ∀ i, i ≤ s.V.length → Eqn (s.flush i)
  | 0, _ => h
  | i + 1, hi => (flush_eqn h i (by omega)).settle (by rw [flush_len]; omega) (by omega)
theorem flush_L {s : St} (h : Eqn s) : ∀ i, i ≤ s.V.length → ∀ j : Nat, (s.flush i).L[j]? = if j < i * 64 then s.S[j]? else s.L[j]?
  | 0, _, j => by rw [if_neg (by omega)]; rfl
  | i + 1, hi, j => by
    show ((s.flush i).settle i 64).L[j]? = _
    rw [settle_L (flush_eqn h i (by omega)) (by rw [flush_len]; omega) (by omega), flush_S, flush_L h i (by omega)]
    by_cases h1 : i * 64 ≤ j ∧ j < i * 64 + 64
    · rw [if_pos h1, if_pos (by omega)]
    · rw [if_neg h1]
      by_cases h2 : j < i * 64
      · rw [if_pos h2, if_pos (by omega)]
      · rw [if_neg h2, if_neg (by omega)]
theorem Eqn.flA {s : St} (h : Eqn s) : Eqn (flA s) := flush_eqn h _ (Nat.le_refl _)
theorem alk_flA {s : St} (h : Eqn s) (L u : Nat) : Alk (flA s) L u := fun j _ => by
  rw [flA_S]
  show (s.flush s.V.length).L[j]? = _
  rw [flush_L h _ (Nat.le_refl _)]
  have h1 := h.lenS
  have h2 := h.lenL
  split
  · rfl
  · rw [List.getElem?_eq_none (by omega), List.getElem?_eq_none (by omega)]
theorem wtl_flA (s : St) (L : Nat) : Wtl (flA s) L := fun j hj => by
  rcases Nat.lt_or_ge j s.V.length with h | h
  · rw [show (flA s).V.getD j false = false from flush_false s s.V.length j h] at hj; cases hj
  · rw [List.getD_eq_getElem?_getD, List.getElem?_eq_none (by rw [flA_len]; exact h)] at hj; cases hj
theorem Eqn.apS {s : St} (h : Eqn s) {a : Nat} {b : List UInt8} (hb : a + b.length ≤ s.S.length) : Eqn (apS s a b) := by
  have h1 := h.lenS
  have h2 := h.lenL
  have e : (Go.Proofs.Ytddjgncdjdjgeaa.apS s a b).S.length = s.S.length := splice_len _ _ _ hb
  exact ⟨by rw [e, apS_V]; exact h1, by rw [e]; exact h2⟩
theorem Alk.apS {s : St} {L u a : Nat} {b : List UInt8} (h : Alk s L u) (hb : a + b.length ≤ s.S.length) (h1 : 128 + u ≤ a) (h2 : a + b.length ≤ 128 + L * 64) : Alk (apS s a b) L u := fun j hj => by
  show s.L[j]? = (splice s.S a b)[j]?
  rw [splice_get _ _ _ _ hb, if_neg (by omega)]
  exact h j hj
theorem Wtl.apS {s : St} {L a : Nat} {b : List UInt8} (h : Wtl s L) (h1 : 128 ≤ a) (h2 : a + b.length ≤ 128 + L * 64) : Wtl (apS s a b) L := fun j hj => by
  have hj' : ((List.range s.V.length).map fun j => s.V.getD j false || tch a b.length j).getD j false = true := hj
  rcases Nat.lt_or_ge j s.V.length with hl | hl
  · rw [List.getD_eq_getElem?_getD, List.getElem?_map, List.getElem?_range hl] at hj'
    simp only [Option.map_some, Option.getD_some, Bool.or_eq_true] at hj'
    rcases hj' with h3 | h3
    · exact h j h3
    · unfold tch at h3
      simp at h3
      omega
  · rw [List.getD_eq_getElem?_getD, List.getElem?_eq_none (by simpa using hl)] at hj'; cases hj'
/-- Sectors of which every byte stands stand. -/
theorem secV_same {s s' : St} (hv : s'.V.length = s.V.length) (q : Nat) (h : ∀ j, q * 64 ≤ j → j < (q + 1) * 64 → s'.S[j]? = s.S[j]?) : secV s' q = secV s q := by
  unfold secV sectL
  rw [hv]
  split
  · apply List.ext_getElem?
    intro i
    rw [List.getElem?_take, List.getElem?_take]
    split
    · rw [List.getElem?_drop, List.getElem?_drop]
      exact h _ (by omega) (by omega)
    · rfl
  · rfl
theorem itS_pre (l : List UInt8) (ep : Nat) : ∀ k j, ∃ more, (itS l ep (k + j)).1 = (itS l ep k).1 ++ more
  | k, 0 => ⟨[], by simp⟩
  | k, j + 1 => by
    obtain ⟨m, hm⟩ := itS_pre l ep k j
    by_cases h : readOk (l.drop (itS l ep (k + j)).2) ep (itS l ep (k + j)).1.length
    · refine ⟨m ++ [recL (l.drop (itS l ep (k + j)).2)], ?_⟩
      show (stepS l ep (itS l ep (k + j))).1 = _
      rw [stepS_yes h]
      show (itS l ep (k + j)).1 ++ _ = _
      rw [hm, List.append_assoc]
    · refine ⟨m, ?_⟩
      show (stepS l ep (itS l ep (k + j))).1 = _
      rw [stepS_no h]; exact hm
theorem At.pre {l : List UInt8} {ep k : Nat} {rs : List (List UInt8)} {a : Nat} (h : At l ep k rs a) : ∃ more, (scanS l ep).1 = rs ++ more := by
  have h1 := h.low
  have h2 := h.top
  obtain ⟨m, hm⟩ := itS_pre l ep k (l.length + 1 - k)
  refine ⟨m, ?_⟩
  unfold scanS
  rw [show l.length + 1 = k + (l.length + 1 - k) by omega, hm, h.it]
/-- A log of which the first k records stand, and of which every record that is found was committed. -/
theorem torn_rec {s : St} {L P E : Nat} (hr : rightR L P E s.V.length = true) (hE : E < 4294967296) {ms : List (List ChV)} (hin : ∀ m ∈ ms, InL P m) {k : Nat} (hk : k ≤ ms.length) (hk2 : ms.length < 4294967296) {z : List UInt8}
    (hlog : logB s L = frsL E 0 (ms.take k) ++ z) (ht : ∀ (i : Nat) (b : List UInt8), (scanS (logB s L) E).1[i]? = some b → (ms.map bytesD)[i]? = some b) : ∃ r, k ≤ r ∧ r ≤ ms.length ∧ RecN s L P E (ms.take r) := by
  have hlk : (ms.take k).length = k := by rw [List.length_take]; omega
  have hb : ∀ m ∈ ms, (bytesD m).length < 4294967296 := fun m hm => by rw [back_len (hin m hm).1]; have := (hin m hm).2.2; omega
  obtain ⟨h1, _⟩ := at_frs hE (ms.take k) 0 [] 0 z (At.zero (logB s L) E) (by rw [List.drop_zero]; exact hlog) (by omega) (fun m hm => hb m (List.mem_of_mem_take hm))
  obtain ⟨more, hmo⟩ := h1.pre
  obtain ⟨R, hR⟩ : ∃ R, R = (scanS (logB s L) E).1 := ⟨_, rfl⟩
  rw [← hR] at ht hmo
  have hlen : R.length ≤ ms.length := by
    rcases Nat.lt_or_ge ms.length R.length with h | h
    · have := ht ms.length R[ms.length] (List.getElem?_eq_getElem h)
      rw [List.getElem?_eq_none (by simp)] at this; cases this
    · exact h
  have hpre : R = (ms.take R.length).map bytesD := by
    apply List.ext_getElem?
    intro i
    rw [List.getElem?_map, List.getElem?_take]
    rcases Nat.lt_or_ge i R.length with h | h
    · rw [if_pos h, List.getElem?_eq_getElem h]
      have := ht i R[i] (List.getElem?_eq_getElem h)
      rw [List.getElem?_map] at this
      exact this.symm
    · rw [if_neg (by omega), List.getElem?_eq_none h]; rfl
  refine ⟨R.length, ?_, hlen, fun x => ?_⟩
  · rw [hmo, List.nil_append, List.length_append, List.length_map, hlk]; omega
  · unfold recT recsS
    show (recF (P : Int) (scanS (logL s L P E) E).1).1.foldl turnV x = _
    rw [show logL s L P E = logB s L by unfold logL; rw [if_pos hr, Int.toNat_natCast], ← hR, hpre]
    have hin' : ∀ m ∈ ms.take R.length, InL P m := fun m hm => hin m (List.mem_of_mem_take hm)
    rw [recF_all P _ hin', fold_back P _ x hin']
    rw [List.length_map, List.length_take, Nat.min_eq_left hlen]
theorem frsL_take (E k : Nat) (ms : List (List ChV)) : ∃ t, frsL E 0 ms = frsL E 0 (ms.take k) ++ t := by
  have key : ∀ (a b : List (List ChV)) (q : Nat), ∃ t, frsL E q (a ++ b) = frsL E q a ++ t := by
    intro a
    induction a with
    | nil => exact fun b q => ⟨frsL E q b, by simp [frsL]⟩
    | cons m a ih =>
      intro b q
      obtain ⟨t, ht⟩ := ih b (q + 1)
      exact ⟨t, by show frameL E q (bytesD m) ++ frsL E (q + 1) (a ++ b) = (frameL E q (bytesD m) ++ frsL E (q + 1) a) ++ t; rw [ht, List.append_assoc]⟩
  obtain ⟨t, ht⟩ := key (ms.take k) (ms.drop k) 0
  rw [List.take_append_drop] at ht
  exact ⟨t, ht⟩
/-- A store behind a crash with cuts: what it finds are the first r records, none of the first k lost. -/
theorem crash_kept {s s' : St} {x : SV} {ms : List (List ChV)} (hz : KeptZ s x ms) {k u : Nat} (hk : k ≤ ms.length) (hu : (frsL x.E 0 (ms.take k)).length = u) (ha : Alk s x.L u) (hw : Wtl s x.L)
    (hc : Crs s s' (wl s.V s.V.length)) (ht : ∀ (i : Nat) (b : List UInt8), (scanS (logB s' x.L) x.E).1[i]? = some b → (ms.map bytesD)[i]? = some b) :
    ∃ r x', k ≤ r ∧ r ≤ ms.length ∧ Kept s' x' (ms.take r) ∧ x'.L = x.L ∧ x'.P = x.P ∧ x'.E = x.E ∧ x'.pages = ((ms.take r).foldl turnV (homeV s ⟨x.L, x.P, x.E⟩)).pages := by
  have h1 := rightR_true.1 hz.k.rt
  have hgd := hz.k.gd
  unfold Gd at hgd
  have hwl : ∀ q, q ∈ wl s.V s.V.length → 2 ≤ q ∧ q < 2 + x.L := fun q hq => by
    unfold wl at hq
    exact hw q (by simpa using (List.mem_filter.1 hq).2)
  have hs : ∀ q, q < 2 ∨ 2 + x.L ≤ q → secV s' q = secV s q := fun q hq => secV_same hc.v q (fun j hj1 hj2 => hc.out j (fun hm => by have := hwl _ hm; omega))
  have hrt : rightR x.L x.P x.E s'.V.length = true := by rw [hc.v]; exact hz.k.rt
  have hbest : bestK s'.V.length s'.S 2 = ⟨x.L, x.P, x.E⟩ := by
    rw [bestK_two, hc.v, hs 0 (by omega), hs 1 (by omega), ← bestK_two]
    exact hz.k.best
  have hhv : homeV s' ⟨x.L, x.P, x.E⟩ = homeV s ⟨x.L, x.P, x.E⟩ := by
    unfold homeV
    simp only
    rw [show pagesL s' x.L x.P = pagesL s x.L x.P from ext_getD (by rw [pagesL_len, pagesL_len]) (fun i hi => by
      rw [pagesL_len] at hi
      rw [pagesL_at _ _ _ _ hi, pagesL_at _ _ _ _ hi, hs _ (by omega)])]
  obtain ⟨t, htk⟩ := frsL_take x.E k ms
  have hlog0 := hz.z.log
  have hpre : logB s' x.L = frsL x.E 0 (ms.take k) ++ (logB s' x.L).drop u := by
    have hle : u ≤ x.L * 64 := by
      have h3 := hz.z.len
      have h4 := hz.z.top
      rw [htk, List.length_append] at h3; omega
    have e1 : (logB s' x.L).take u = (logB s x.L).take u := by
      apply List.ext_getElem?
      intro i
      rw [List.getElem?_take, List.getElem?_take]
      split
      · unfold logB
        rw [List.getElem?_take, List.getElem?_take]
        split
        · rw [List.getElem?_drop, List.getElem?_drop]
          exact (hc.same _ (ha _ (by omega))).1
        · rfl
      · rfl
    have e2 : (logB s x.L).take u = frsL x.E 0 (ms.take k) := by rw [hlog0, htk, List.append_assoc, List.take_left' hu]
    rw [← e2, ← e1, List.take_append_drop]
  obtain ⟨r, hr1, hr2, hrec⟩ := torn_rec hrt hz.k.ep hz.k.ins hk (by have := frsL_ge x.E ms 0; have := hz.z.len; have := hz.z.top; omega) hpre ht
  have hgd' : Gd s' := hc.eq.lenS
  refine ⟨r, ⟨x.L, x.P, x.E, ((ms.take r).foldl turnV (homeV s ⟨x.L, x.P, x.E⟩)).pages, ((ms.take r).foldl turnV (homeV s ⟨x.L, x.P, x.E⟩)).named, 0, 0⟩, hr1, hr2, ?_, rfl, rfl, rfl, rfl⟩
  exact { gd := hgd', rt := hrt, ep := hz.k.ep, best := hbest, recs := hrec, ins := fun m hm => hz.k.ins m (List.mem_of_mem_take hm), pages := by rw [hhv], named := by rw [hhv] }
end Go.Proofs.Ytddjgncdjdjgeaa
