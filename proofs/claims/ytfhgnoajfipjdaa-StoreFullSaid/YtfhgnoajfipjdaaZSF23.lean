/-
  SF: Sto4.
-/
import Derived.Test.YtfhgnoajfipjdaaZSF22
import Derived.RegionTactic
import Derived.BigRegion
namespace Go.Proofs.Ytfhgnoajfipjdaa
open Go.RowKit
section
variable {w : World} {k : SK} {s : St} {x : SV} {vP : Value} {C : Option Addr} {m d : Nat} {ls : List ChV}
set_option maxHeartbeats 8000000 in
set_option maxRecDepth 100000 in
theorem turn_any (h : Sto w k s x vP) (hC : Chs w C ls) (hm : ls.length = m) (hm1 : m ≤ 1000) (hin : InP x.P ls) (hCb : ∀ ad, C = some ad → ad.block ∉ [k.g, k.gN]) :
    Calls Try.prog 72 #[.pointer (some ⟨k.g, 0, none⟩), .slice C m d] w (TurnPost w k s x ls) := by
  obtain ⟨A, c, us, rfl, hcp, hsrc, hul, hsp, hli⟩ := h.pgs.lists
  have hP64 : x.P ≤ 64 := by have := rightR_true.1 h.rt; omega
  have hap := apply_any (d := d) (c := c) hsrc (fun _ ad e => hsp ad e) hul (by rw [h.pl]; omega) hli (fun l hl => by have := h.p64 l hl; omega) hC hm hm1 (fun a ha => by have := (hin a ha).2.2; omega)
  have HAP := Lib.hid hap
  have H := Lib.hid h
  have HCH := Lib.hid hC
  have HLM := Lib.hid hm
  have HIN := Lib.hid hin
  have HCB := Lib.hid hCb
  have e4 := h.rec_.cell 4
  clear hap h hC hm hin hCb hsrc hul hsp hli hcp
  go_enter Try.func72, Try.ntmps72
  go_wp2_with fail
  refine HAP.out.mono ?_
  rintro e w2 ⟨gp, us2, rfl, hfr, hgp, hc2⟩
  have HFR := Lib.hid (And.intro hfr hgp)
  have HC2 := Lib.hid hc2
  have hr2 := H.out.rec_.keep hc2
  have c4 := hr2.cell 4
  have f4 := hr2.frozen 4
  have HR2 := Lib.hid hr2
  obtain ⟨n, hn⟩ : ∃ n, n = (applyL x.pages ls).length := ⟨_, rfl⟩
  have HN := Lib.hid (show n = x.P from by rw [hn, applyL_len, H.out.pl])
  rw [← hn] at HFR ⊢
  clear e4 hfr hgp hc2 hr2 hn HAP
  go_upto_region 1 with fail
  have hR3 := Lib.hid (HR2.out.set_ 4 (.slice (some ⟨gp, 0, none⟩) n n))
  have HCH3 := Lib.hid (show Chg [k.g] w2 (w2.setCell ⟨k.g, 4, none⟩ (.slice (some ⟨gp, 0, none⟩) n n)) from (Chg.refl [k.g] w2).setCell (p := ⟨k.g, 4, none⟩) (fun _ => by simp) _)
  generalize w2.setCell ⟨k.g, 4, none⟩ (.slice (some ⟨gp, 0, none⟩) n n) = w3 at hR3 HCH3 ⊢
  have HGN := Lib.hid (show k.g ≠ k.gN from fun e => (H.out.rec_.ne_ H.out.nm (by decide)) e)
  have hN3 := Lib.hid ((H.out.nm.keep HC2.out).chg HCH3.out (fun hm => HGN.out (by simp only [List.mem_singleton] at hm; exact hm.symm)))
  go_wp2_with fail
  go_loopw [17] (fun i wr => ∃ j : Nat, i = .int .i64 (j : Int) ∧ j ≤ m ∧ Hid (Whole wr k.gN 4 (bls (nameL x.named (ls.take j)))) ∧ Hid (Chg [k.gN] w3 wr)) (fun i _ => m - (intOf i).toNat)
  case atStart => exact ⟨0, rfl, Nat.zero_le _, hN3, Lib.hid (Chg.refl _ _)⟩
  case round =>
    obtain ⟨j, rfl, hj, HNr, HCr⟩ := hrel
    have HRr := Lib.hid (hR3.out.chg HCr.out (fun hm => HGN.out (by simpa using hm)))
    by_cases hlt : j < m
    · have hjI : (j : Int) < (m : Int) := by omega
      have hj0 : (0 : Int) ≤ (j : Int) := by omega
      have hjl : j < ls.length := by have := HLM.out; omega
      obtain ⟨a, ha⟩ : ∃ a, ls[j]? = some a := ⟨ls[j], List.getElem?_eq_getElem hjl⟩
      obtain ⟨gc, oc, rfl, hgc, hcc⟩ := HCH.out.cells (by omega)
      obtain ⟨q0, q1⟩ := hcc j a ha
      obtain ⟨hp0, hp1, hp2⟩ := HIN.out a (List.mem_of_getElem? ha)
      have hcb := HCB.out _ rfl
      have hbl : ∀ i, wr.cell? ⟨gc, i, none⟩ = w.cell? ⟨gc, i, none⟩ := fun i => by
        refine World.cell?_of_block (w := w) ?_
        have h1 := HC2.out.block gc hgc (by simp)
        have h2 := HCH3.out.block gc (Nat.lt_of_lt_of_le hgc HC2.out.size) (fun hm => hcb (by simp only [List.mem_singleton] at hm; simp [hm]))
        have h3 := HCr.out.block gc (Nat.lt_of_lt_of_le hgc (Nat.le_trans HC2.out.size HCH3.out.size)) (fun hm => hcb (by simp only [List.mem_singleton] at hm; simp [hm]))
        rw [h3, h2, h1]
      have k0 := (hbl _).trans q0
      have k1 := (hbl _).trans q1
      have HNX := Lib.hid (nameL_next x.named ls j a ha)
      have hNl : (nameL x.named (ls.take j)).length = x.P := by rw [nameL_len, H.out.nl]
      obtain ⟨q, hq⟩ : ∃ q : Nat, a.page = (q : Int) := ⟨a.page.toNat, by omega⟩
      rw [hq] at k0 hp1 HNX
      rw [Int.toNat_natCast] at HNX
      generalize nameL x.named (ls.take j) = Nj at HNr HNX hNl
      have hqP : q < x.P := by omega
      have hold := HNr.out.cell q
      rw [bls_get Nj q (by omega)] at hold
      have hof := HNr.out.frozen q
      generalize Nj[q]'(by omega) = ob at hold
      have hqI : (q : Int) < (x.P : Int) := by omega
      have hqI0 : (0 : Int) ≤ (q : Int) := by omega
      clear hcc q0 q1 hbl ha hp0 hp1 hp2 hq hcb hjl
      go_upto_region 4 with fail
      have hX := Whole.new wr 140 [.int .i64 (q : Int), .slice a.bA a.bn a.bc]
      have hal := (Chg.refl [] wr).alloc (.cells #[.int .i64 (q : Int), .slice a.bA a.bn a.bc] 140)
      have hN4 := HNr.out.keep hal
      have hR4 := HRr.out.keep hal
      have HC4 := Lib.hid (HCr.out.new hal)
      generalize wr.heap.size = gx at hX ⊢
      generalize wr.alloc (.cells #[.int .i64 (q : Int), .slice a.bA a.bn a.bc] 140) = w4 at hX hN4 hR4 HC4 ⊢
      have HN4 := Lib.hid hN4
      have x0 := hX.cell 0
      have d5 := hR4.cell 5
      have dold := hN4.cell q
      have dfr := hN4.frozen q
      simp only [List.getElem?_cons_zero, List.getElem?_cons_succ, List.set_cons_zero, List.set_cons_succ] at d5
      rw [bls_get Nj q (by omega)] at dold
      clear hX hal hN4 hR4 k0 k1 hold hof
      go_region
      have hNs := HN4.out.drew.set_ q (.bool true)
      rw [bls_set] at hNs
      have HN5 := Lib.hid hNs
      have HC5 := Lib.hid (show Chg [k.gN] w3 (w4.drew.setCell ⟨k.gN, q, none⟩ (.bool true)) from (HC4.out.drew).setCell (p := ⟨k.gN, q, none⟩) (fun _ => by simp) _)
      clear hNs
      go_wp2_with fail
      go_roundw
      case rel => exact ⟨j + 1, by go_num, by omega, Lib.hid (by rw [HNX.out]; exact HN5.out), HC5⟩
      case measure => simp [intOf]; omega
    · obtain rfl : m = j := by omega
      have hjI : ¬ (m : Int) < (m : Int) := by omega
      have HP := Lib.hid (show TurnPost w k s x ls (.returned (.tuple #[])) wr from by
        have hc : Chg [k.g, k.gN] w wr := ((HC2.out.sub (T' := [k.g, k.gN]) (fun _ h => by cases h)).trans (sub_s HCH3.out)).trans (sub_s HCr.out)
        have hlt := H.out.lts
        have ht : ls.take m = ls := List.take_of_length_le (by rw [HLM.out]; exact Nat.le_refl _)
        have hN := HNr.out
        rw [ht] at hN
        have hdsk : DskS wr k.p k.bL k.bS k.bW s := Dsk.away H.out.dsk hc
          (by simp only [List.mem_cons, List.not_mem_nil, or_false]; rintro (e | e)
              · exact ((Dsk.rec_ H.out.dsk).ne_ H.out.rec_ (by decide)) e
              · exact ((Dsk.rec_ H.out.dsk).ne_ H.out.nm (by decide)) e)
          (by simp only [List.mem_cons, List.not_mem_nil, or_false]; rintro (e | e)
              · exact ((Dsk.last H.out.dsk).ne_ H.out.rec_ (by decide)) e
              · exact ((Dsk.last H.out.dsk).ne_ H.out.nm (by decide)) e)
          (by simp only [List.mem_cons, List.not_mem_nil, or_false]; rintro (e | e)
              · exact ((Dsk.seen H.out.dsk).ne_ H.out.rec_ (by decide)) e
              · exact ((Dsk.seen H.out.dsk).ne_ H.out.nm (by decide)) e)
          (by simp only [List.mem_cons, List.not_mem_nil, or_false]; rintro (e | e)
              · exact ((Dsk.wait H.out.dsk).ne_ H.out.rec_ (by decide)) e
              · exact H.out.ng e.symm)
        have h64 := applyL_64 ls x.pages H.out.p64 (fun a ha => (HIN.out a ha).2.2)
        have hpg := Pgs.of_fr (T := k.D) HFR.out.1 HFR.out.2 hlt (fun l hl => by have := h64 l hl; omega)
        refine ⟨rfl, ⟨.slice (some ⟨gp, 0, none⟩) n n, ?_⟩, hc⟩
        exact { dsk := hdsk, rec_ := HRr.out, pgs := (hpg.chg HCH3.out (by simp [SK.D])).chg HCr.out (by simp [SK.D]), nm := hN, ng := H.out.ng, rt := H.out.rt, ep := H.out.ep, pl := by show (applyL x.pages ls).length = _; rw [applyL_len, H.out.pl]; rfl, nl := by show (nameL x.named ls).length = _; rw [nameL_len, H.out.nl]; rfl, p64 := h64, us := H.out.us, sq := H.out.sq, exl := fun i hi => Nat.lt_of_lt_of_le (H.out.exl i hi) hc.size })
      go_wp2_with fail
      go_end0
      exact HP.out
end
end Go.Proofs.Ytfhgnoajfipjdaa
