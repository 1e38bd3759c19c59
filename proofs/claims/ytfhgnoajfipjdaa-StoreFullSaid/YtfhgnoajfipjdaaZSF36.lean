/-
  SF: Sto14, Sto15, LawStoreOpens.
-/
import Derived.Test.YtfhgnoajfipjdaaZSF13
import Derived.Test.YtfhgnoajfipjdaaZSF34
import Derived.Test.YtfhgnoajfipjdaaZSF35
namespace Go.Proofs.Ytfhgnoajfipjdaa
open Go.RowKit
theorem chso_in {w wr : World} {p P : Nat} {At : Option Addr} {nt ct : Nat} {lt : List Int} {v : Value} {D : List Nat} (h : ChSo w p At nt ct lt wr v P) (hP : P ≤ 64) (hD : ∀ i ∈ D, i < w.heap.size) :
    ∃ A c ls a', v = .slice A ls.length c ∧ ChsD D wr A ls ∧ InL P ls ∧ Tp wr p At nt ct lt a' ∧ Chg [p] w wr ∧ ls.length ≤ 64 := by
  obtain ⟨ls, a', ho, hm, hpg, hl, hr, hT, hc⟩ := h
  obtain ⟨A, c, rfl, hl2, hch, _, _, _⟩ := chs_own' ho (fun a ha => (hm a ha).ok)
  have hb := own_blk ho rfl
  refine ⟨A, c, ls, a', rfl, ⟨hch, fun ad e hd => ?_, fun a ha ad e hd => ?_⟩, ⟨fun a ha => ⟨(hm a ha).small, (hm a ha).bl⟩, ?_, by omega⟩, hT, hc, by omega⟩
  · have h1 := hD _ hd
    have h2 := hb ad e
    omega
  · obtain ⟨g, hg, hB, _⟩ := (hm a ha).b
    rw [hg] at e
    injection e with e
    subst e
    have h1 : g < w.heap.size := hD _ hd
    omega
  · unfold rightB
    rw [hr (P : Int) (Int.le_refl _), Bool.and_true, decide_eq_true_iff]; omega
section
variable {w : World} {p bL bS bW : Nat} {s : St} {x : SV} {ms : List (List ChV)}
/-- A formatted disk, opened. -/
def NewPost18 (w : World) (p bL bS bW L P : Nat) (e : Ending) (w' : World) : Prop :=
  ∃ g gN v s' x', e = .returned (.tuple #[.pointer (some ⟨g, 0, none⟩), .int .i64 0]) ∧ w.heap.size ≤ g ∧ w.heap.size ≤ gN ∧ Sto w' ⟨p, bL, bS, bW, g, gN, []⟩ s' x' v ∧ KeptZ s' x' [] ∧ x'.L = L ∧ x'.P = P ∧ x'.E = 2 ∧ Chg [bL, bS, bW] w w'
theorem opened_any (hg : Gd s) (L P : Nat) (hr : rightR L P 1 s.V.length = true) (hd : DskS w p bL bS bW (fmt s L P)) :
    Calls Try.prog 26 #[.pointer (some ⟨p, 0, none⟩)] w (NewPost18 w p bL bS bW L P) := by
  refine (open_any hd).mono ?_
  rintro e w' hO
  rw [OpenPost, best_fmt hg L P hr] at hO
  have ho := (kept_fmt hg L P hr).1.open_
  rcases hO with ⟨h0, _⟩ | ⟨h0, _⟩ | ⟨_, _, g, gN, v, rfl, hg1, hgN, hs, hc⟩
  · exact absurd h0 (by show ¬ (1 : Nat) = 0; omega)
  · exact absurd h0 (by show ¬ (1 : Nat) = 4294967295; omega)
  · have o3 : (openV (fmt s L P) ⟨L, P, 1⟩).L = L := ho.2.2.1
    have o4 : (openV (fmt s L P) ⟨L, P, 1⟩).P = P := ho.2.2.2.1
    have o5 : (openV (fmt s L P) ⟨L, P, 1⟩).E = 1 := ho.2.2.2.2
    exact ⟨g, gN, v, _, _, rfl, hg1, hgN, hs, kept_new hg L P hr, o3, o4, by show (openV (fmt s L P) ⟨L, P, 1⟩).E + 1 = 2; rw [o5], hc⟩
end
end Go.Proofs.Ytfhgnoajfipjdaa
namespace Go.Proofs.Ytfhgnoajfipjdaa
open Go.RowKit
theorem Sto.more {w w' : World} {p bL bS bW g gN : Nat} {ex : List Nat} {s : St} {x : SV} {vP : Value} (h : Sto w ⟨p, bL, bS, bW, g, gN, ex⟩ s x vP) (hc : Chg [] w w') {q : Nat} (hq : w.heap.size ≤ q) (hq2 : q < w'.heap.size) : Sto w' ⟨p, bL, bS, bW, g, gN, q :: ex⟩ s x vP := by
  have h1 := rightR_true.1 h.rt
  have hpl := h.pl
  have h64 := h.p64
  have hk := h.keep hc
  obtain ⟨A, c, us, e, hc1, hs, hu, hA, hR⟩ := h.pgs
  have hin : ∀ i, i ∈ SK.D ⟨p, bL, bS, bW, g, gN, q :: ex⟩ → i = q ∨ i ∈ SK.D ⟨p, bL, bS, bW, g, gN, ex⟩ := fun i hi => by
    simp only [SK.D, List.mem_cons] at hi ⊢
    rcases hi with h | h | h | h | h | h | h | h <;> simp [h]
  refine { dsk := hk.dsk, rec_ := hk.rec_, pgs := ?_, nm := hk.nm, ng := hk.ng, rt := hk.rt, ep := hk.ep, pl := hk.pl, nl := hk.nl, p64 := hk.p64, us := hk.us, sq := hk.sq, exl := fun i hi => ?_ }
  · refine ⟨A, c, us, e, hc1, hs.keep hc, hu, fun ad ha => ⟨(hA ad ha).1, fun hm => ?_⟩, fun i u l hu' hl => ?_⟩
    · rcases hin _ hm with hm | hm
      · obtain ⟨ad', ea, hb, _⟩ := hs (by omega)
        rw [ha] at ea
        injection ea with ea
        subst ea
        omega
      · exact (hA ad ha).2 hm
    · obtain ⟨A', n', c', eu, hB, hD⟩ := hR i u l hu' hl
      refine ⟨A', n', c', eu, hB.keep hc, fun ad ha hm => ?_⟩
      rcases hin _ hm with hm | hm
      · obtain ⟨ad', ea, hb, _⟩ := hB.src (by rw [bts_len, h64 l (List.mem_of_getElem? hl)]; omega)
        rw [ha] at ea
        injection ea with ea
        subst ea
        omega
      · exact hD ad ha hm
  · simp only [List.mem_cons] at hi
    rcases hi with rfl | hi
    · exact hq2
    · exact hk.exl i hi
theorem Sto.past {w w' : World} {k : SK} {s : St} {x : SV} {vP : Value} (h : Sto w k s x vP) {q : Nat} (hc : Chg [q] w w') (hq : q ∈ k.ex) (hn : ∀ i ∈ [k.p, k.bL, k.bS, k.bW, k.g, k.gN], i ≠ q) : Sto w' k s x vP := by
  have hne : ∀ i ∈ [k.p, k.bL, k.bS, k.bW, k.g, k.gN], i ∉ [q] := fun i hi hm => hn i hi (by simpa using hm)
  exact { h with dsk := Dsk.away h.dsk hc (hne _ (by simp)) (hne _ (by simp)) (hne _ (by simp)) (hne _ (by simp)), rec_ := h.rec_.chg hc (hne _ (by simp)), pgs := h.pgs.chg hc (fun i hi => by simp only [List.mem_singleton] at hi; subst hi; simp [SK.D, hq]), nm := h.nm.chg hc (hne _ (by simp)), exl := fun i hi => Nat.lt_of_lt_of_le (h.exl i hi) hc.size }
end Go.Proofs.Ytfhgnoajfipjdaa
namespace Go.Proofs.Ytfhgnoajfipjdaa
open Go.RowKit
theorem Fr.lists {B : Nat} {w : World} {g n : Nat} {us : List Value} {ps : List (List UInt8)} (h : Fr B w g n us ps n) (h64 : ∀ l ∈ ps, l.length ≤ 1000) : Lists w us ps := by
  refine ⟨by rw [h.len, h.lenP], fun i v l hv hl => ?_⟩
  have hi : i < n := by rw [← h.lenP]; exact (List.getElem?_eq_some_iff.1 hl).1
  obtain ⟨x, h1, h2, _⟩ := h.at_ i hi l hl
  rw [hv] at h1
  injection h1 with h1
  exact ⟨_, _, _, h1, Bs.of_all h2 (by have := h64 l (List.mem_of_getElem? hl); omega)⟩
end Go.Proofs.Ytfhgnoajfipjdaa
