/-
  PB: PlPut.
-/
import Derived.Test.YtbkfhndmeljlcaaGreatDoorZPB35
import Derived.Test.YtbkfhndmeljlcaaGreatDoorZPB42
namespace Go.Proofs.YtbkfhndmeljlcaaGreatDoor
open Go.RowKit
/-- Changes, and an errno. -/
def PtPost (w : World) (cs : List (Nat × List UInt8)) (r : Int) (e : Ending) (w' : World) : Prop :=
  ∃ v ls, e = .returned (.tuple #[v, .int .i64 r]) ∧ w'.ownsRow w.heap.size 44 2 v ls.length (chCs ls) ∧ (∀ a ∈ ls, RMade w' w.heap.size a) ∧ Chs2 ls cs ∧ Chg [] w w'
theorem PtPost.no {w w' : World} {r : Int} (hc : Chg [] w w') : PtPost w [] r (.returned (.tuple #[.slice none 0 0, .int .i64 r])) w' := ⟨_, [], rfl, World.ownsRow_nil _ _ _ _, by simp, rfl, hc⟩
def rPut (T : List UInt8) (E pg ms pages : Int) : List (Nat × List UInt8) × Int :=
  if E ≠ 0 then ([], E) else if pages < needZ T E ms ∨ 64 < pages then ([], 25) else (plCs T pg.toNat, 0)
theorem zeros_drop (m n : Nat) : (bts (zeros m)).drop n = bts (zeros (m - n)) := by
  unfold bts zeros
  rw [List.map_replicate, List.drop_replicate, List.map_replicate]
/-- The step 'copy(d, s)' where its run is known. -/
theorem step_copy {P : Program} {ops : Array Oper} {rest : List Oper} {o : Oper} {a : Act} {w w' : World} {Q : Exit → Act → World → Prop} {v u x : Value} (hgd : o.guard = none) (d s : Operand) (t t' : TypeId)
    (ho : o.op = .call { callee := .builtin .copy, args := #[d, s], argTypes := #[t, t'] }) (hd : a.eval d = v) (hs : a.eval s = u) (hr : (Builtin.copy_ #[t, t'] o.type #[v, u]).run P w = .ok x w') (h : wpList P ops Q rest (a.put o.dst x) w') : wpList P ops Q (o :: rest) a w := by
  refine wpList_plain hgd fun _ hK => ?_
  unfold Oper.wp execOp
  simp only [ho, resolve, invoke, builtin, Sem.run_bind, Sem.run_pure, Result.andThen_ok, List.map_toArray, List.map_cons, List.map_nil, hd, hs, hr]
  exact hK _ _ h
theorem RMade.more {w : World} {B0 B1 : Nat} {a : ChV} (h : RMade w B0 a) (hB : B1 ≤ B0) : RMade w B1 a := by
  obtain ⟨g, r, hg, hb, hW⟩ := h.b
  exact { h with b := ⟨g, r, hg, Nat.le_trans hB hb, hW⟩ }
theorem own_one_ch (w : World) (B : Nat) (hB : B ≤ w.heap.size) (a : ChV) : (w.alloc (.cells #[.int .i64 a.page, .slice a.bA a.bn a.bc] 44)).ownsRow B 44 2 (.slice (some ⟨w.heap.size, 0, none⟩) 1 1) 1 (chCs [a]) :=
  ⟨by simp [chCs, chC], .inr ⟨w.heap.size, 1, #[.int .i64 a.page, .slice a.bA a.bn a.bc], rfl, hB, heap_alloc_new w _, Nat.le_refl _, by unfold maxLen; omega, by simp, by simp [chCs, chC]⟩⟩
theorem make64z (W : World) : (Instr.makeSlice 33 (.int .i64 64) (.int .i64 64)).run Tryz.prog W = .ok (.slice (some ⟨W.heap.size, 0, none⟩) 64 64) (W.alloc (.cells (bts (zeros 64)).toArray 5)) := make_u8 64 (by omega) W
section
variable {w : World} {pg ms : Int} {A : Option Addr} {n c : Nat} {E : Int} {T : List UInt8}
set_option maxHeartbeats 8000000 in
set_option maxRecDepth 100000 in
theorem plput_any (hT : TxOk w pg ms A n c T E) (hTl : T.length ≤ 2048) (hms : E = 0 → 0 ≤ pg ∧ pg ≤ ms ∧ ms ≤ 64) (pages : Int) (hP : PowB w.heap.size w) : Calls Tryz.prog 20 #[.agg #[.int .i64 pg, .int .i64 ms, .slice A n c], .int .i64 pages] w (PtPost w (rPut T E pg ms pages).1 (rPut T E pg ms pages).2) := by
  obtain ⟨i0, hi, hz0, hz1, hz2⟩ := info_parts info_change
  have HT := Lib.hid hT
  have HP := Lib.hid hP
  have HND := Lib.hid (fun (W : World) (hc : Chg [] w W) (hp : PowB W.heap.size W) => plneed_any (hT.keep hc) hTl (fun h => ⟨by have := hms h; omega, (hms h).2.2⟩) hp)
  have HNO := Lib.hid (show ∀ (r : Int) (wr : World), rPut T E pg ms pages = ([], r) → Chg [] w wr → PtPost w (rPut T E pg ms pages).1 (rPut T E pg ms pages).2 (.returned (.tuple #[.slice none 0 0, .int .i64 r])) wr from fun r wr h hc => by rw [h]; exact PtPost.no hc)
  have HYES := Lib.hid (show ∀ (v : Value) (ls : List ChV) (wr : World) (B : Nat), rPut T E pg ms pages = (plCs T pg.toNat, 0) → w.heap.size ≤ B → wr.ownsRow B 44 2 v ls.length (chCs ls) → (∀ a ∈ ls, RMade wr B a) → Chs2 ls (plCs T pg.toNat) → Chg [] w wr → PtPost w (rPut T E pg ms pages).1 (rPut T E pg ms pages).2 (.returned (.tuple #[v, .int .i64 0])) wr from fun v ls wr B h hB h1 h2 h3 h4 => by rw [h]; exact ⟨v, ls, rfl, rown_more h1 hB, fun a ha => (h2 a ha).more hB, h3, h4⟩)
  have HDEF := Lib.hid (show rPut T E pg ms pages = if E ≠ 0 then ([], E) else if pages < needZ T E ms ∨ 64 < pages then ([], 25) else (plCs T pg.toNat, 0) from rfl)
  clear hT hP
  generalize rPut T E pg ms pages = RP at HNO HYES HDEF ⊢
  generalize PtPost w RP.1 RP.2 = PO at HNO HYES ⊢
  unfold TxOk UTextPost at HT
  go_enter Tryz.func20, Tryz.ntmps20
  go_upto_region 1 with fail
  have hN := Whole.new w 24 [.int .i64 pg, .int .i64 ms, .slice A n c]
  have hal := (Chg.refl [] w).alloc (.cells #[.int .i64 pg, .int .i64 ms, .slice A n c] 24)
  have HU1 := Lib.hid hN
  have HC1 := Lib.hid hal
  clear hN hal
  have HGW := Lib.hid (Nat.le_refl w.heap.size)
  obtain ⟨gu, hgu⟩ : ∃ gu, gu = w.heap.size := ⟨_, rfl⟩
  rw [← hgu] at HU1 ⊢
  clear hgu
  generalize w.alloc (.cells #[.int .i64 pg, .int .i64 ms, .slice A n c] 24) = w1 at HU1 HC1 ⊢
  have u0 := HU1.out.cell 0
  have u1 := HU1.out.cell 1
  have u2 := HU1.out.cell 2
  by_cases hE : E = 0
  · subst hE
    obtain ⟨hp0, hpm, hm1⟩ := hms rfl
    obtain ⟨p, rfl⟩ : ∃ p : Nat, pg = (p : Int) := ⟨pg.toNat, by omega⟩
    have hp64 : p ≤ 64 := by omega
    have hnz : needZ T 0 ms = 1 + (holdN T.length : Int) + ms := by unfold needZ; rw [if_pos rfl]
    by_cases hbad : pages < needZ T 0 ms ∨ 64 < pages
    · have HR := Lib.hid (show RP = ([], 25) from by rw [HDEF.out, if_neg (by simp), if_pos hbad])
      generalize needZ T 0 ms = N at HND hbad
      clear hnz HDEF hTl hms
      generalize strOf T = S at HT
      by_cases hb1 : pages < N
      · clear hbad
        go_wp2_with (first
          | (go_at_call 31
             refine (HT.out _ HC1.out (HP.out.here HC1.out)).mono ?_
             rintro e w2 ⟨rfl, hc2⟩
             have HC2 := Lib.hid (HC1.out.trans hc2)
             have HU2 := Lib.hid (HU1.out.keep hc2)
             have v0 := HU2.out.cell 0
             have v1 := HU2.out.cell 1
             have v2 := HU2.out.cell 2
             clear hc2)
          | (go_at_call 19
             refine (HND.out _ HC2.out (HP.out.here HC2.out)).mono ?_
             rintro e w3 ⟨rfl, hc3⟩
             have HC3 := Lib.hid (HC2.out.trans hc3)
             clear hc3))
        exact HNO.out 25 _ HR.out HC3.out
      · have hb2 : 64 < pages := by omega
        clear hbad
        go_wp2_with (first
          | (go_at_call 31
             refine (HT.out _ HC1.out (HP.out.here HC1.out)).mono ?_
             rintro e w2 ⟨rfl, hc2⟩
             have HC2 := Lib.hid (HC1.out.trans hc2)
             have HU2 := Lib.hid (HU1.out.keep hc2)
             have v0 := HU2.out.cell 0
             have v1 := HU2.out.cell 1
             have v2 := HU2.out.cell 2
             clear hc2)
          | (go_at_call 19
             refine (HND.out _ HC2.out (HP.out.here HC2.out)).mono ?_
             rintro e w3 ⟨rfl, hc3⟩
             have HC3 := Lib.hid (HC2.out.trans hc3)
             clear hc3))
        exact HNO.out 25 _ HR.out HC3.out
    · have HR := Lib.hid (show RP = (plCs T p, 0) from by rw [HDEF.out, if_neg (by simp), if_neg hbad]; rfl)
      obtain ⟨hb1, hb2⟩ : ¬ pages < needZ T 0 ms ∧ ¬ 64 < pages := by omega
      obtain ⟨h, hh⟩ : ∃ h, h = holdN T.length := ⟨_, rfl⟩
      have hh33 : h ≤ 33 := by rw [hh]; unfold holdN; omega
      have HPG := Lib.hid (fun (W : World) => plpages_any T (by omega) W)
      have HCS := Lib.hid (show plCs T p = [(0, metaL T.length p)] ++ plT T h ++ plM (1 + h) p from by rw [hh]; rfl)
      have HHT := Lib.hid (show T.length ≤ h * 64 ∧ (0 < h → (h - 1) * 64 ≤ T.length) from by rw [hh]; unfold holdN; omega)
      rw [← hh] at HPG
      clear hh hbad HDEF hnz hms
      generalize needZ T 0 ms = N at HND hb1
      have HMT := Lib.hid (fun (W : World) => meta_any (w := W) T.length p (by omega) (by omega))
      have hsz : (strOf T).size = T.length := strOf_len T
      obtain ⟨S, hS⟩ : ∃ S, S = strOf T := ⟨_, rfl⟩
      rw [← hS] at HT hsz HPG
      have HS := Lib.hid hS
      clear hS
      obtain ⟨nT, hnT⟩ : ∃ nT, nT = T.length := ⟨_, rfl⟩
      have HNT := Lib.hid hnT
      rw [← hnT] at hsz hTl HMT HCS HHT
      clear hnT
      -- the Meta
      go_upto_region 7 with (first
        | (go_at_call 31
           refine (HT.out _ HC1.out (HP.out.here HC1.out)).mono ?_
           rintro e w2 ⟨rfl, hc2⟩
           have HC2 := Lib.hid (HC1.out.trans hc2)
           have HU2 := Lib.hid (HU1.out.keep hc2)
           have v0 := HU2.out.cell 0
           have v1 := HU2.out.cell 1
           have v2 := HU2.out.cell 2
           clear hc2)
        | (go_at_call 19
           refine (HND.out _ HC2.out (HP.out.here HC2.out)).mono ?_
           rintro e w3 ⟨rfl, hc3⟩
           have HC3 := Lib.hid (HC2.out.trans hc3)
           have HU3 := Lib.hid (HU2.out.keep hc3)
           have x0 := HU3.out.cell 0
           clear hc3)
        | (go_at_call 46
           refine (HMT.out _).mono ?_
           rintro e w4 ⟨v4, rfl, ho4, hc4⟩
           rw [metaL_len] at ho4
           obtain ⟨g4, r4, rfl, hg4, hW4, hm4⟩ := own_whole ho4 (by omega)
           have HW4 := Lib.hid hW4
           have HM4 := Lib.hid hm4
           have HG4 := Lib.hid (Nat.le_trans HC3.out.size hg4)
           have HC4 := Lib.hid (HC3.out.trans hc4)
           have HU4 := Lib.hid (HU3.out.keep hc4)
           clear hc4 ho4 hW4 hm4 hg4))
      clear u0 u1 u2 v0 v1 v2 x0
      obtain ⟨c4, hc4⟩ : ∃ c4, c4 = 64 + r4.length := ⟨_, rfl⟩
      have HC4C := Lib.hid hc4
      rw [← hc4] at HM4 ⊢
      clear hc4
      have hal := (Chg.refl [] w4).alloc (.cells #[.int .i64 0, .slice (some ⟨g4, 0, none⟩) 64 c4] 44)
      have HOA := Lib.hid (own_one_ch w4 w.heap.size HC4.out.size ⟨0, some ⟨g4, 0, none⟩, 64, c4, metaL nT p⟩)
      have HRA := Lib.hid (show ∀ a ∈ [(⟨0, some ⟨g4, 0, none⟩, 64, c4, metaL nT p⟩ : ChV)], RMade (w4.alloc (.cells #[.int .i64 0, .slice (some ⟨g4, 0, none⟩) 64 c4] 44)) w.heap.size a from fun a ha => by
        rw [List.mem_singleton] at ha; subst ha
        have hm := HM4.out
        unfold maxLen at hm
        exact ⟨⟨g4, r4, rfl, HG4.out, HW4.out.keep hal, HC4C.out, by rw [← HC4C.out]; exact hm⟩, metaL_len _ _, rfl, by simp only; omega⟩)
      have HU5 := Lib.hid (HU4.out.keep hal)
      have HC5 := Lib.hid (HC4.out.trans hal)
      clear hal
      generalize w4.heap.size = g5 at HOA ⊢
      generalize w4.alloc (.cells #[.int .i64 0, .slice (some ⟨g4, 0, none⟩) 64 c4] 44) = w5 at HOA HRA HU5 HC5 ⊢
      have HS0 := Lib.hid (show Chs2 [(⟨0, some ⟨g4, 0, none⟩, 64, c4, metaL nT p⟩ : ChV)] ([(0, metaL nT p)] ++ plT T 0) from rfl)
      generalize [(⟨0, some ⟨g4, 0, none⟩, 64, c4, metaL nT p⟩ : ChV)] = ls0 at HOA HRA HS0
      have hl0 : ls0.length = 1 := by have := HS0.out.len; simpa [plT] using this
      have HL0 := Lib.hid hl0
      clear hl0 HW4 HM4 HG4 HC4C HC4 HU4 HC3 HC2 HU2 HU3
      go_wp2_with (go_at_call 44
                   refine (HPG.out _).mono ?_
                   rintro e wq ⟨rfl, rfl⟩)
      go_loopw [8, 38] (fun v i wr => ∃ (k : Nat) (ls : List ChV) (A' : Option Addr) (c' : Nat), k ≤ h ∧ i = .int .i64 (k : Int) ∧ v = .slice A' (1 + k) c' ∧ Hid (ls.length = 1 + k) ∧ Hid (wr.ownsRow w.heap.size 44 2 (.slice A' (1 + k) c') (1 + k) (chCs ls)) ∧ Hid (∀ a ∈ ls, RMade wr w.heap.size a) ∧ Hid (Chs2 ls ([(0, metaL nT p)] ++ plT T k)) ∧ Hid (Whole wr gu 24 [.int .i64 (p : Int), .int .i64 ms, .slice A n c]) ∧ Hid (Chg [] w wr)) (fun _ i _ => h - (intOf i).toNat)
      case atStart => exact ⟨0, ls0, some ⟨g5, 0, none⟩, 1, by omega, rfl, rfl, HL0, HOA, HRA, HS0, HU5, HC5⟩
      case round =>
        clear HOA HRA HS0 HU5 HC5 HL0
        obtain ⟨k, ls, A', c', hk, rfl, rfl, HLS, HOR, HRR, HSR, HUR, HCr⟩ := hrel
        by_cases hkh : k < h
        · have hkI : (k : Int) < (h : Int) := by omega
          have hk64 : k * 64 ≤ S.size := by
            have h1 := HHT.out.2 (by omega)
            have h2 : k * 64 ≤ (h - 1) * 64 := Nat.mul_le_mul_right 64 (by omega)
            omega
          have hex : S.extract (k * 64) nT = strOf (T.drop (k * 64)) := by rw [← hsz, HS.out]; exact strOf_drop T (k * 64)
          have HEX := Lib.hid hex
          have hN := Whole.new wr 5 (bts (zeros 64))
          have hal := (Chg.refl [] wr).alloc (.cells (bts (zeros 64)).toArray 5)
          obtain ⟨w6, hcp, hW6, hc6⟩ := run_copy_text (P := Tryz.prog) (wr.alloc (.cells (bts (zeros 64)).toArray 5)) 33 9 3 5 wr.heap.size 64 64 (T.drop (k * 64)) _ 5 Tryz.underlying33 size_u8 hN (by rw [bts_len, zeros_len])
          have HCP := Lib.hid hcp
          have hc6' : Chg [] wr w6 := hal.then_ hc6 (fun i hi hlt => by rw [List.mem_singleton] at hi; subst hi; exact absurd hlt (Nat.lt_irrefl _))
          have HW6 := Lib.hid (show Whole w6 wr.heap.size 5 (bts (pgT T k)) from by
            have e : bts (pgT T k) = bts ((T.drop (k * 64)).take 64) ++ (bts (zeros 64)).drop ((T.drop (k * 64)).take 64).length := by
              unfold pgT
              rw [bts_app, zeros_drop]
            rw [e]; exact hW6)
          have HB5 := Lib.hid (HCr.out.size)
          have HC6 := Lib.hid hc6'
          have HA6 := Lib.hid hal
          clear hN hal hcp hW6 hc6 hc6'
          obtain ⟨g6, hg6⟩ : ∃ g6, g6 = wr.heap.size := ⟨_, rfl⟩
          have hmk : (Instr.makeSlice 33 (.int .i64 64) (.int .i64 64)).run Tryz.prog wr = .ok (.slice (some ⟨g6, 0, none⟩) 64 64) (wr.alloc (.cells (bts (zeros 64)).toArray 5)) := by rw [hg6]; exact make64z wr
          rw [← hg6] at HW6 HB5 HCP
          clear hg6
          generalize wr.alloc (.cells (bts (zeros 64)).toArray 5) = w55 at hmk HCP HA6
          have HR6 := Lib.hid (show ∀ a ∈ ls, RMade w6 w.heap.size a from fun a ha => (HRR.out a ha).chg HC6.out (by simp))
          have HO6 := Lib.hid (rown_chg HOR.out HC6.out (by simp))
          have HU6 := Lib.hid (HUR.out.keep HC6.out)
          have HC7 := Lib.hid (HCr.out.trans HC6.out)
          have hws : w.heap.size ≤ w6.heap.size := HC7.out.size
          have HALX := Lib.hid ((Chg.refl [] w6).alloc (.cells #[.int .i64 (1 + (k : Int)), .slice (some ⟨g6, 0, none⟩) 64 64] 44))
          have HOX := Lib.hid (rown_chg HO6.out HALX.out (by simp))
          have hcpf := HCP.out
          rw [← HEX.out] at hcpf
          have HCPF := Lib.hid hcpf
          clear hcpf
          go_wp2_with (first
            | (with_reducible refine step_copy (v := .slice (some ⟨g6, 0, none⟩) 64 64) (u := .string (S.extract (k * 64) nT)) rfl (.tmp 42) (.tmp 46) 33 9 rfl rfl rfl HCPF.out ?_)
            | (at_builtin
               refine wpList_append_own _ rfl (.tmp 48) (.tmp 53) _ rfl w.heap.size 44 i0 _ 2 32 Tryz.underlying39 hi hz0 hz1 hz2 rfl (by decide) (.slice A' (1 + k) c') (1 + k) (chCs ls) rfl HOX.out ⟨w6.heap.size, 0, none⟩ 1 1 [.int .i64 (1 + (k : Int)), .slice (some ⟨g6, 0, none⟩) 64 64] rfl rfl ?c1 ?c2 ?c3 ?c4 ?c5 ?_
               case c1 => exact cells_page _ _ _
               case c2 => simp [Value.oneCell']
               case c3 => simp only [maxLen]; omega
               case c4 => omega
               case c5 => simp; omega
               intro v' w8 hown' hg' _))
          obtain ⟨A8, c8, rfl, _⟩ := rown_slice hown'
          have HO8 := Lib.hid hown'
          have HU8 := Lib.hid (whole_grown (HU6.out.keep HALX.out) HOX.out (by decide) hg')
          have HC8 := Lib.hid (chg_grown (HC7.out.trans HALX.out) hg' (fun g hg => (HOX.out.lt g hg).1))
          have HR8 := Lib.hid (show ∀ a ∈ ls ++ [(⟨((1 + k : Nat) : Int), some ⟨g6, 0, none⟩, 64, 64, pgT T k⟩ : ChV)], RMade w8 w.heap.size a from fun a ha => by
            rcases List.mem_append.1 ha with h | h
            · exact ((HR6.out a h).chg HALX.out (by simp)).grown HOX.out hg'
            · simp only [List.mem_cons, List.not_mem_nil, or_false] at h
              subst h
              exact ((MadeCh.rmade ⟨⟨g6, rfl, HB5.out, HW6.out⟩, pgT_len _ _, rfl, rfl, by simp only; omega⟩).chg HALX.out (by simp)).grown HOX.out hg')
          clear hown' hg'
          go_roundw
          case rel =>
            refine ⟨k + 1, ls ++ [(⟨((1 + k : Nat) : Int), some ⟨g6, 0, none⟩, 64, 64, pgT T k⟩ : ChV)], A8, c8, by omega, by go_num, rfl, Lib.hid (by rw [List.length_append, HLS.out]; rfl), Lib.hid ?_, HR8, Lib.hid ?_, HU8, HC8⟩
            · rw [chCs_app, chCs_one]
              have := HO8.out
              rw [show (1 : Int) + (k : Int) = ((1 + k : Nat) : Int) by omega] at this
              exact this
            · rw [plT, ← List.append_assoc]
              exact HSR.out.snoc (a := ⟨((1 + k : Nat) : Int), some ⟨g6, 0, none⟩, 64, 64, pgT T k⟩) rfl
          case measure => simp [intOf]; omega
        · have hkI : ¬ (k : Int) < (h : Int) := by omega
          obtain rfl : h = k := by omega
          have u0 := HUR.out.cell 0
          clear hkI hkh hk
          go_wp2_with (go_at_call 44
                       refine (HPG.out _).mono ?_
                       rintro e wq ⟨rfl, rfl⟩)
          clear u0
          obtain ⟨q1, hq1⟩ : ∃ q1, q1 = 1 + h := ⟨_, rfl⟩
          have HQ1 := Lib.hid hq1
          rw [← hq1] at HLS HOR ⊢
          clear hq1
          have HSR2 := Lib.hid (show Chs2 ls ([(0, metaL nT p)] ++ plT T h ++ plM (1 + h) 0) from by have := HSR.out; simpa [plM] using this)
          go_loopw [8, 61] (fun v i wr => ∃ (j : Nat) (ls : List ChV) (A' : Option Addr) (c' : Nat), j ≤ p ∧ i = .int .i64 (j : Int) ∧ v = .slice A' (q1 + j) c' ∧ Hid (ls.length = q1 + j) ∧ Hid (wr.ownsRow w.heap.size 44 2 (.slice A' (q1 + j) c') (q1 + j) (chCs ls)) ∧ Hid (∀ a ∈ ls, RMade wr w.heap.size a) ∧ Hid (Chs2 ls ([(0, metaL nT p)] ++ plT T h ++ plM (1 + h) j)) ∧ Hid (Chg [] w wr)) (fun _ i _ => p - (intOf i).toNat)
          case atStart => exact ⟨0, ls, A', c', by omega, rfl, rfl, HLS, HOR, HRR, HSR2, HCr⟩
          case round =>
            clear HLS HOR HRR HSR HSR2 HCr HUR
            obtain ⟨j, ls, A', c', hj, rfl, rfl, HLS, HOR, HRR, HSR, HCr⟩ := hrel
            by_cases hjp : j < p
            · have hjI : (j : Int) < (p : Int) := by omega
              have hq34 : q1 ≤ 34 := by have := HQ1.out; omega
              have hN := Whole.new wr 5 (bts (zeros 64))
              have hal := (Chg.refl [] wr).alloc (.cells (bts (zeros 64)).toArray 5)
              have hmk0 := make64z wr
              obtain ⟨g6, hg6⟩ : ∃ g6, g6 = wr.heap.size := ⟨_, rfl⟩
              have HB5 := Lib.hid (HCr.out.size)
              rw [← hg6] at hN hmk0 HB5
              clear hg6
              obtain ⟨w6, hw6⟩ : ∃ w6, w6 = wr.alloc (.cells (bts (zeros 64)).toArray 5) := ⟨_, rfl⟩
              rw [← hw6] at hN hal hmk0
              have HW6 := Lib.hid hN
              have HC6 := Lib.hid hal
              clear hN hal hw6
              have HR6 := Lib.hid (show ∀ a ∈ ls, RMade w6 w.heap.size a from fun a ha => (HRR.out a ha).chg HC6.out (by simp))
              have HO6 := Lib.hid (rown_chg HOR.out HC6.out (by simp))
              have HC7 := Lib.hid (HCr.out.trans HC6.out)
              have hws : w.heap.size ≤ w6.heap.size := HC7.out.size
              have HALX := Lib.hid ((Chg.refl [] w6).alloc (.cells #[.int .i64 (1 + (h : Int) + (j : Int)), .slice (some ⟨g6, 0, none⟩) 64 64] 44))
              have HOX := Lib.hid (rown_chg HO6.out HALX.out (by simp))
              go_wp2_with (first
                | (at_builtin
                   refine wpList_append_own _ rfl (.tmp 64) (.tmp 70) _ rfl w.heap.size 44 i0 _ 2 32 Tryz.underlying39 hi hz0 hz1 hz2 rfl (by decide) (.slice A' (q1 + j) c') (q1 + j) (chCs ls) rfl HOX.out ⟨w6.heap.size, 0, none⟩ 1 1 [.int .i64 (1 + (h : Int) + (j : Int)), .slice (some ⟨g6, 0, none⟩) 64 64] rfl rfl ?c1 ?c2 ?c3 ?c4 ?c5 ?_
                   case c1 => exact cells_page _ _ _
                   case c2 => simp [Value.oneCell']
                   case c3 => simp only [maxLen]; omega
                   case c4 => omega
                   case c5 => simp; omega
                   intro v' w8 hown' hg' _))
              obtain ⟨A8, c8, rfl, _⟩ := rown_slice hown'
              have HO8 := Lib.hid hown'
              have HC8 := Lib.hid (chg_grown (HC7.out.trans HALX.out) hg' (fun g hg => (HOX.out.lt g hg).1))
              have HR8 := Lib.hid (show ∀ a ∈ ls ++ [(⟨((1 + h + j : Nat) : Int), some ⟨g6, 0, none⟩, 64, 64, zeros 64⟩ : ChV)], RMade w8 w.heap.size a from fun a ha => by
                rcases List.mem_append.1 ha with h | h
                · exact ((HR6.out a h).chg HALX.out (by simp)).grown HOX.out hg'
                · simp only [List.mem_cons, List.not_mem_nil, or_false] at h
                  subst h
                  exact ((MadeCh.rmade ⟨⟨g6, rfl, HB5.out, HW6.out⟩, by rw [zeros_len], rfl, rfl, by simp only; omega⟩).chg HALX.out (by simp)).grown HOX.out hg')
              clear hown' hg'
              go_roundw
              case rel =>
                refine ⟨j + 1, ls ++ [(⟨((1 + h + j : Nat) : Int), some ⟨g6, 0, none⟩, 64, 64, zeros 64⟩ : ChV)], A8, c8, by omega, by go_num, rfl, Lib.hid (by rw [List.length_append, HLS.out]; rfl), Lib.hid ?_, HR8, Lib.hid ?_, HC8⟩
                · rw [chCs_app, chCs_one]
                  have := HO8.out
                  rw [show (1 : Int) + (h : Int) + (j : Int) = ((1 + h + j : Nat) : Int) by omega] at this
                  exact this
                · rw [plM, ← List.append_assoc]
                  exact HSR.out.snoc (a := ⟨((1 + h + j : Nat) : Int), some ⟨g6, 0, none⟩, 64, 64, zeros 64⟩) rfl
              case measure => simp [intOf]; omega
            · have hjI : ¬ (j : Int) < (p : Int) := by omega
              obtain rfl : p = j := by omega
              have HF := Lib.hid (HYES.out (.slice A' (q1 + p) c') ls wr w.heap.size (by rw [HR.out]; rfl) (Nat.le_refl _) (by rw [HLS.out]; exact HOR.out) HRR.out (by
                show Chs2 ls (plCs T p)
                rw [HCS.out]; exact HSR.out) HCr.out)
              go_wp2_with fail
              exact HF.out
  · have hd : (E == 0) = false := by simpa using hE
    have HR := Lib.hid (show RP = ([], E) from by rw [HDEF.out, if_pos hE])
    generalize strOf T = S at HT
    clear hE HDEF hms hTl
    go_wp2_with (go_at_call 31
                 refine (HT.out _ HC1.out (HP.out.here HC1.out)).mono ?_
                 rintro e w2 ⟨rfl, hc2⟩
                 have HC2 := Lib.hid (HC1.out.trans hc2)
                 clear hc2)
    exact HNO.out E _ HR.out HC2.out
end
end Go.Proofs.YtbkfhndmeljlcaaGreatDoor
