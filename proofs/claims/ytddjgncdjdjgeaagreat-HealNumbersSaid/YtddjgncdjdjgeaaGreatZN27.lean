/-
  N: Sto8, Heal1, Sto9.
-/
import Derived.Test.YtddjgncdjdjgeaaGreatZN22
import Derived.Test.YtddjgncdjdjgeaaGreatZN23
import Derived.Test.YtddjgncdjdjgeaaGreatZN26
namespace Go.Proofs.YtddjgncdjdjgeaaGreat
open Go.RowKit
section
variable {w : World} {k : SK} {s : St} {x : SV} {vP : Value}
set_option maxHeartbeats 1000000 in
set_option maxRecDepth 100000 in
theorem sroot_any (h : Sto w k s x vP) : Calls Tryz.prog 63 #[.pointer (some ⟨k.g, 0, none⟩)] w fun e w' => e = .returned (rootV x.L x.P x.E) ∧ Chg [] w w' := by
  go_enter Tryz.func63, Tryz.ntmps63
  go_upto_region 1 with fail
  have hal := (Chg.refl [] w).alloc (.cells #[.int .i64 0, .int .i64 0, .int .u32 0] 58)
  have hr := h.rec_.keep hal
  have c1 := hr.cell 1
  have c2 := hr.cell 2
  have c3 := hr.cell 3
  have hR := Whole.new w 58 [.int .i64 0, .int .i64 0, .int .u32 0]
  have d0 := hR.cell 0
  have d1 := hR.cell 1
  have d2 := hR.cell 2
  have f0 := hR.frozen 0
  have f1 := hR.frozen 1
  have f2 := hR.frozen 2
  have hn : w.heap.size ≤ w.heap.size := Nat.le_refl _
  generalize w.alloc (.cells #[.int .i64 0, .int .i64 0, .int .u32 0] 58) = w1 at *
  obtain ⟨gr, hgr⟩ : ∃ g, g = w.heap.size := ⟨_, rfl⟩
  rw [← hgr] at hR d0 d1 d2 f0 f1 f2 ⊢
  have HS := Lib.hid ((hR.set_ 0 (.int .i64 (x.L : Int))).set_ 1 (.int .i64 (x.P : Int)) |>.set_ 2 (.int .u32 (x.E : Int)))
  have hnl : ¬ gr < w.heap.size := by omega
  have HC := Lib.hid (((hal.setCell (p := ⟨gr, 0, none⟩) (fun h => absurd h hnl) (.int .i64 (x.L : Int))).setCell (p := ⟨gr, 1, none⟩) (fun h => absurd h hnl) (.int .i64 (x.P : Int))).setCell (p := ⟨gr, 2, none⟩) (fun h => absurd h hnl) (.int .u32 (x.E : Int)))
  clear hal hr hR hgr hnl hn h
  go_wp2_with fail
  refine bodyPost_ret_by (results_cell_row rfl _ _ gr 58 #[.int .i64 x.L, .int .i64 x.P, .int .u32 x.E] (0, 0) _ rfl HS.out Tryz.underlying58 rfl (by kernel_rfl)) rfl ⟨rfl, HC.out⟩
end
section
variable {w : World} {k : SK} {s : St} {x : SV} {vP : Value}
set_option maxHeartbeats 1000000 in
set_option maxRecDepth 100000 in
theorem spage_any (h : Sto w k s x vP) (i : Nat) (hi : i < x.P) : Calls Tryz.prog 67 #[.pointer (some ⟨k.g, 0, none⟩), .int .i64 (i : Int)] w (BytesPost w (x.pages.getD i [])) := by
  obtain ⟨A, c, us, rfl, hcp, hpg⟩ := h.pgs
  have hpl := h.pl
  obtain ⟨pb, po, A', n', c', rfl, hrow, hbs⟩ := PgR.row (show PgR k.D w A us x.pages from hpg) (i := i) (by rw [h.pl]; exact hi)
  have hgd : x.pages.getD i [] = x.pages[i]'(by rw [h.pl]; exact hi) := by rw [List.getD_eq_getElem?_getD, List.getElem?_eq_getElem (by rw [h.pl]; exact hi)]; rfl
  have h64 := h.p64 _ (List.getElem_mem (l := x.pages) (n := i) (by rw [h.pl]; exact hi))
  rw [hgd]
  have hP64 : x.P ≤ 64 := by have := rightR_true.1 h.rt; omega
  have hr := h.rec_
  rw [hpl] at hr hcp
  have e4 := hr.cell 4
  generalize x.pages[i]'(by rw [h.pl]; exact hi) = l at hbs h64 ⊢
  obtain ⟨i0, hi0, hz, hs1, hb⟩ := info_parts info_u8
  have hl := Lib.hid (bts_len l)
  have h1 := bts_one l
  have hn' : n' = l.length := hbs.len.symm
  subst hn'
  have x1 := Lib.hid (show 0 + l.length ≤ maxLen by unfold maxLen; omega)
  have x2 := Lib.hid (show (0 + l.length) * 1 ≤ 140737488355328 by omega)
  have hsr := hbs.src
  have hiI : (i : Int) < (x.P : Int) := by omega
  have hiI0 : (0 : Int) ≤ (i : Int) := by omega
  have hiN : ¬ x.P ≤ i := by omega
  clear h hpg hr hgd h64 hbs hpl
  go_enter Tryz.func67, Tryz.ntmps67
  go_wp2_with (at_builtin
               refine wpList_append_src rfl (.const (.slice none 0 0)) (.tmp 22) 30 rfl w.heap.size 5 i0 _ 1 Tryz.underlying30 hi0 hz hs1 hb cells_u8 (.slice none 0 0) 0 [] rfl (own_nil _ _ _) A' l.length c' (bts l) rfl hl.out hsr h1 x1.out x2.out (Nat.le_refl _) ?_
               intro v4 w4 ho4 hg4 _)
  go_ret
  rw [Nat.zero_add, List.nil_append] at ho4
  exact ⟨v4, rfl, ho4, Chg.of_grown hg4 (fun g hg => by simp [Value.ownBlock] at hg)⟩
end
end Go.Proofs.YtddjgncdjdjgeaaGreat
namespace Go.Proofs.YtddjgncdjdjgeaaGreat
open Go.RowKit
/-- What is found depends on what is seen alone. -/
theorem openV_eq {s s' : St} (hS : s'.S = s.S) (hV : s'.V.length = s.V.length) (o : RV) : openV s' o = openV s o := by
  unfold openV homeV recT recsS pagesL logL logB
  rw [hS, hV]
theorem bestK_eq {s s' : St} (hS : s'.S = s.S) (hV : s'.V.length = s.V.length) : bestK s'.V.length s'.S 2 = bestK s.V.length s.S 2 := by rw [hS, hV]
/-- The pages that records name. -/
def nameR (N : List Bool) (l : List (List ChV)) : List Bool := l.foldl nameL N
theorem named_fold : ∀ (l : List (List ChV)) (x : SV), (l.foldl turnV x).named = nameR x.named l
  | [], _ => rfl
  | m :: l, x => named_fold l (turnV x m)
theorem nameR_len : ∀ (l : List (List ChV)) (N : List Bool), (nameR N l).length = N.length
  | [], _ => rfl
  | m :: l, N => (nameR_len l (nameL N m)).trans (nameL_len m N)
theorem nameR_next (N : List Bool) (l : List (List ChV)) (j : Nat) (m : List ChV) (h : l[j]? = some m) : nameR N (l.take (j + 1)) = nameL (nameR N (l.take j)) m := by
  obtain ⟨hj, he⟩ := List.getElem?_eq_some_iff.1 h
  unfold nameR
  rw [List.take_succ_eq_append_getElem hj, List.foldl_append, he]; rfl
theorem openV_named (s : St) (o : RV) : (openV s o).named = nameR (List.replicate o.pages false) (recT s o) := named_fold _ _
/-- A deed that a disk of n sectors takes. -/
def okD (n : Nat) : Deed → Prop
  | none => True
  | some x => x.1 < n ∧ x.2.length = 64
theorem okD_home {n : Nat} {x : SV} (hr : rightR x.L x.P x.E n = true) (hp : x.pages.length = x.P) (h64 : ∀ l ∈ x.pages, l.length = 64) : ∀ k, k ≤ x.P → ∀ d ∈ homeDs x k, okD n d
  | 0, _, d, h => by cases h
  | k + 1, hk, d, h => by
    have h1 := rightR_true.1 hr
    rw [homeDs] at h
    rcases List.mem_append.1 h with h | h
    · exact okD_home hr hp h64 k (by omega) d h
    · split at h
      · simp only [List.mem_singleton] at h
        subst h
        refine ⟨by show 2 + x.L + k < n; omega, ?_⟩
        show (x.pages.getD k []).length = 64
        rw [List.getD_eq_getElem?_getD, List.getElem?_eq_getElem (by omega)]
        exact h64 _ (List.getElem_mem _)
      · cases h
theorem okD_ck {n : Nat} {x : SV} (hr : rightR x.L x.P x.E n = true) (hp : x.pages.length = x.P) (h64 : ∀ l ∈ x.pages, l.length = 64) : ∀ d ∈ ckDs x, okD n d := by
  intro d h
  have h1 := rightR_true.1 hr
  unfold ckDs at h
  rcases List.mem_cons.1 h with rfl | h
  · trivial
  · rcases List.mem_append.1 h with h | h
    · exact okD_home hr hp h64 _ (Nat.le_refl _) d h
    · simp only [List.mem_cons, List.not_mem_nil, or_false] at h
      rcases h with rfl | rfl | rfl
      · trivial
      · exact ⟨by show (x.E + 1) % 2 < n; omega, rootL_len _ _ _⟩
      · trivial
def LogdPost (w : World) (N : List Bool) (e : Ending) (w' : World) : Prop := ∃ g, e = .returned (.slice (some ⟨g, 0, none⟩) N.length N.length) ∧ Whole w' g 4 (bls N) ∧ w.heap.size ≤ g ∧ Chg [] w w'
section
variable {w : World} {p bL bS bW : Nat} {s : St}
set_option maxHeartbeats 8000000 in
set_option maxRecDepth 100000 in
theorem logged_any (h : DskS w p bL bS bW s) (L P E : Nat) (hr : rightR L P E s.V.length = true) :
    Calls Tryz.prog 115 #[.pointer (some ⟨p, 0, none⟩), rootV L P E] w (LogdPost w (nameR (List.replicate P false) (recT s ⟨L, P, E⟩))) := by
  have hrt := rightR_true.1 hr
  have HRT := Lib.hid hrt
  have H := Lib.hid h
  have hr0 : rootV L P E = .agg #[.int .i64 (L : Int), .int .i64 (P : Int), .int .u32 (E : Int)] := rfl
  have hP : P ≤ 64 := by omega
  have hmk : ∀ W : World, (Instr.makeSlice 67 (.int .i64 (P : Int)) (.int .i64 (P : Int))).run Tryz.prog W = .ok (.slice (some ⟨W.heap.size, 0, none⟩) P P) (W.alloc (.cells (bls (falses P)).toArray 4)) := fun W => make_bool P (by omega) W
  clear h hr hrt
  rw [hr0]
  go_enter Tryz.func115, Tryz.ntmps115
  go_upto_region 1 with fail
  have hR := Whole.new w 58 [.int .i64 (L : Int), .int .i64 (P : Int), .int .u32 (E : Int)]
  have hal := (Chg.refl [] w).alloc (.cells #[.int .i64 (L : Int), .int .i64 (P : Int), .int .u32 (E : Int)] 58)
  obtain ⟨gr, hgr⟩ : ∃ g, g = w.heap.size := ⟨_, rfl⟩
  rw [← hgr] at hR ⊢
  generalize w.alloc (.cells #[.int .i64 (L : Int), .int .i64 (P : Int), .int .u32 (E : Int)] 58) = w1 at hR hal ⊢
  have r0 := hR.cell 0
  have r1 := hR.cell 1
  have r2 := hR.cell 2
  have hal2 := (Chg.refl [] w1).alloc (.cells (bls (falses P)).toArray 4)
  have hN := Whole.new w1 4 (bls (falses P))
  have hR2 := hR.keep hal2
  have HD2 := Lib.hid (Dsk.keep H.out (hal.new hal2))
  have HC2 := Lib.hid (hal.new hal2)
  have HSZ := Lib.hid (show w.heap.size ≤ w1.heap.size from hal.size)
  clear hgr
  go_upto_region 2 with fail
  obtain ⟨gN, hgN⟩ : ∃ g, g = w1.heap.size := ⟨_, rfl⟩
  rw [← hgN] at hN ⊢
  generalize w1.alloc (.cells (bls (falses P)).toArray 4) = w2 at hal2 hN hR2 HD2 HC2 ⊢
  have HGN := Lib.hid (show w.heap.size ≤ gN ∧ gN < w2.heap.size from ⟨by have := HSZ.out; omega, hN.lt⟩)
  have HN2 := Lib.hid hN
  clear r0 r1 r2 hal hal2 hR hN hgN HSZ
  have r0 := hR2.cell 0
  have r1 := hR2.cell 1
  have r2 := hR2.cell 2
  clear hR2
  have hrec := rec_any HD2.out (L : Int) (P : Int) E
  unfold rootV at hrec
  go_wp2_with fail
  refine hrec.mono ?_
  rintro e w4 ⟨v4, vs4, rfl, ho4, hrc4, hc4⟩
  have HC4 := Lib.hid (HC2.out.new hc4)
  have HN4 := Lib.hid (HN2.out.keep hc4)
  have HO4 := Lib.hid ho4
  have HRC := Lib.hid hrc4
  have HSZ4 := Lib.hid hc4.size
  obtain ⟨X, hX⟩ : ∃ X, X = recsS s L P E := ⟨_, rfl⟩
  have HXE := Lib.hid (show recT s ⟨L, P, E⟩ = X.1 by rw [hX]; rfl)
  have HRR := Lib.hid (show ∀ m ∈ X.1, rightB (P : Int) m = true by rw [hX]; exact recF_right _ _)
  rw [← hX] at HO4 HRC ⊢
  rw [← hX] at ho4
  obtain ⟨A4, c4, rfl, hl4, hcp4, hs4, hA4⟩ := own_slice ho4
  have HL4 := Lib.hid (And.intro hl4 hcp4)
  have hmx := own_max ho4
  obtain ⟨n, hn⟩ : ∃ n, n = X.1.length := ⟨_, rfl⟩
  have HN := Lib.hid hn
  rw [← hn] at HO4 hmx ⊢
  have HA4 := Lib.hid hA4
  rw [HXE.out]
  clear ho4 hrc4 hc4 hX hl4 hcp4 hs4 hA4 hn r0 r1 r2 hrec HN2 HC2 HD2 hmk
  go_wp2_with fail
  go_loopw [23] (fun i wr => ∃ j : Nat, i = .int .i64 (j : Int) ∧ j ≤ n ∧ Hid (Whole wr gN 4 (bls (nameR (List.replicate P false) (X.1.take j)))) ∧ Hid (Chg [gN] w4 wr)) (fun i _ => n - (intOf i).toNat)
  case atStart => exact ⟨0, rfl, Nat.zero_le _, HN4, Lib.hid (Chg.refl _ _)⟩
  case round =>
    obtain ⟨j, rfl, hj, HNr, HCr⟩ := hrel
    by_cases hlt : j < n
    · have hjI : (j : Int) < (n : Int) := by omega
      have hj0 : (0 : Int) ≤ (j : Int) := by omega
      have hjX : j < X.1.length := by rw [← HN.out]; exact hlt
      have hjv : j < vs4.length := by rw [HL4.out.1]; exact hjX
      have hT3 : ∀ i ∈ [gN], i < w2.heap.size ∨ w4.heap.size ≤ i := fun i hi => by
        simp only [List.mem_singleton] at hi
        have := HGN.out
        omega
      obtain ⟨A', c', e', _, _, hsr, _⟩ := own_slice (rown_chg HO4.out HCr.out hT3)
      injection e' with e' _ e2
      subst e' e2
      obtain ⟨ad, rfl, _, hcell⟩ := hsr (by rw [HL4.out.1]; omega)
      obtain ⟨b7, o7, s7⟩ := ad
      obtain rfl : s7 = none := (HA4.out _ rfl).1
      have hc := hcell j vs4[j] (List.getElem?_eq_getElem hjv)
      obtain ⟨ls, g1, g2, g3, g4⟩ := HRC.out.2 j vs4[j] X.1[j] (List.getElem?_eq_getElem hjv) (List.getElem?_eq_getElem hjX)
      have HRB := Lib.hid (HRR.out X.1[j] (List.getElem_mem hjX))
      have HNX := Lib.hid (nameR_next (List.replicate P false) X.1 j X.1[j] (List.getElem?_eq_getElem hjX))
      generalize vs4[j] = vv at hc g1
      generalize X.1[j] = mj at g1 g3 g4 HRB HNX
      obtain ⟨A5, c5, e5, hl5, hch5, _, _, _⟩ := chs_own' g1 (fun a ha => (g2 a ha).ok)
      have hb5 := own_blk g1 e5
      subst e5
      obtain ⟨dl, hd⟩ : ∃ dl, dl = mj.length := ⟨_, rfl⟩
      have hrb : rightB (P : Int) ls = true := by rw [asC_rightB g4]; exact HRB.out
      have hrs : rightS (-1) (P : Int) ls = true := by unfold rightB at hrb; rw [Bool.and_eq_true] at hrb; exact hrb.2
      obtain ⟨hr1, hr2⟩ := rs_len hrs (by omega)
      have hd64 : dl ≤ 64 := by omega
      rw [← hd] at hc
      have HKV := Lib.hid (nameL_key ls mj (nameR (List.replicate P false) (X.1.take j)) g4.1)
      have HLS := Lib.hid (show ls.length = dl from hl5.trans hd.symm)
      have HR2 := Lib.hid hr2
      have HCH := Lib.hid (ChsD.mk (T := [gN]) hch5 (fun ad e hm => by
        have h1 : w2.heap.size ≤ ad.block := hb5 ad e
        have h2 := HGN.out
        simp only [List.mem_singleton] at hm
        omega) (fun a ha ad e hm => by
        obtain ⟨gb, rb, hgb, hBb, _⟩ := (g2 a ha).b
        rw [hgb] at e
        injection e with e
        subst e
        simp only [List.mem_singleton] at hm
        have h2 := HGN.out
        have hm' : gb = gN := hm
        omega))
      rw [add_plain] at hc
      have hNl : (nameR (List.replicate P false) (X.1.take j)).length = P := by rw [nameR_len, List.length_replicate]
      generalize nameR (List.replicate P false) (X.1.take j) = Nj at HNr HNX HKV hNl
      clear hcell hsr g1 g2 g3 g4 hb5 hl5 hch5 hd hrb hrs hr1 hr2 hjX hjv hT3
      go_wp2_with fail
      go_loopw [29] (fun i wx => ∃ t : Nat, i = .int .i64 (t : Int) ∧ t ≤ dl ∧ Hid (Whole wx gN 4 (bls (nameL Nj (ls.take t)))) ∧ Hid (Chg [gN] w4 wx)) (fun i _ => dl - (intOf i).toNat)
      case atStart => exact ⟨0, rfl, Nat.zero_le _, HNr, HCr⟩
      case round =>
        obtain ⟨t, rfl, ht, HNx, HCx⟩ := hrel
        by_cases htl : t < dl
        · have htI : (t : Int) < (dl : Int) := by omega
          have ht0 : (0 : Int) ≤ (t : Int) := by omega
          have htls : t < ls.length := by have := HLS.out; omega
          obtain ⟨a, ha⟩ : ∃ a, ls[t]? = some a := ⟨ls[t], List.getElem?_eq_getElem htls⟩
          have hCx := HCH.out.chg HCx.out (fun _ h => h)
          obtain ⟨gc, oc, rfl, hgc, hcc⟩ := hCx.chs.cells (by omega)
          obtain ⟨q0, q1⟩ := hcc t a ha
          have ha2 := HR2.out a (List.mem_of_getElem? ha)
          have HNX2 := Lib.hid (nameL_next Nj ls t a ha)
          obtain ⟨q, hq⟩ : ∃ q : Nat, a.page = (q : Int) := ⟨a.page.toNat, by omega⟩
          rw [hq] at q0 HNX2 ha2
          rw [Int.toNat_natCast] at HNX2
          have hqP : q < P := by omega
          have hqI : (q : Int) < (P : Int) := by omega
          have hqI0 : (0 : Int) ≤ (q : Int) := by omega
          have hMl : (nameL Nj (ls.take t)).length = P := by rw [nameL_len, hNl]
          generalize nameL Nj (ls.take t) = Nt at HNx HNX2 hMl
          clear hCx hcc ha ha2 hq htls
          go_upto_region 9 with fail
          have hX := Whole.new wr 51 [.int .i64 (q : Int), .slice a.bA a.bn a.bc]
          have hal := (Chg.refl [] wr).alloc (.cells #[.int .i64 (q : Int), .slice a.bA a.bn a.bc] 51)
          have hN4 := HNx.out.keep hal
          have HC4' := Lib.hid (HCx.out.new hal)
          generalize wr.heap.size = gx at hX ⊢
          generalize wr.alloc (.cells #[.int .i64 (q : Int), .slice a.bA a.bn a.bc] 51) = w5 at hX hN4 HC4' ⊢
          have HN5 := Lib.hid hN4
          have x0 := hX.cell 0
          have dold := hN4.cell q
          have dfr := hN4.frozen q
          rw [bls_get Nt q (by omega)] at dold
          clear hX hal hN4 q0 q1
          go_wp2_with fail
          have hNs := HN5.out.set_ q (.bool true)
          rw [bls_set] at hNs
          have HN6 := Lib.hid hNs
          have HC6 := Lib.hid (show Chg [gN] w4 (w5.setCell ⟨gN, q, none⟩ (.bool true)) from HC4'.out.setCell (p := ⟨gN, q, none⟩) (fun _ => by simp) _)
          clear hNs x0 dold dfr
          go_roundw
          case rel => exact ⟨t + 1, by go_num, by omega, Lib.hid (by rw [HNX2.out]; exact HN6.out), HC6⟩
          case measure => simp [intOf]; omega
        · obtain rfl : dl = t := by omega
          have htI : ¬ (dl : Int) < (dl : Int) := by omega
          have HNy := Lib.hid (show Whole wr gN 4 (bls (nameR (List.replicate P false) (X.1.take (j + 1)))) from by
            rw [HNX.out, ← HKV.out, ← List.take_length (l := ls), HLS.out]; exact HNx.out)
          go_wp2_with fail
          go_roundw
          case rel => exact ⟨j + 1, by go_num, by omega, HNy, HCx⟩
          case measure => simp [intOf]; omega
    · obtain rfl : n = j := by omega
      have hjI : ¬ (n : Int) < (n : Int) := by omega
      have HP := Lib.hid (show LogdPost w (nameR (List.replicate P false) (recT s ⟨L, P, E⟩)) (.returned (.slice (some ⟨gN, 0, none⟩) P P)) wr from by
        rw [HXE.out]
        refine ⟨gN, by rw [nameR_len, List.length_replicate], ?_, HGN.out.1, HC4.out.then_ HCr.out (fun i hi hw => by simp only [List.mem_singleton] at hi; have := HGN.out; omega)⟩
        have := HNr.out
        rw [HN.out, List.take_length] at this
        exact this)
      go_wp2_with fail
      go_ret
      exact HP.out
end
end Go.Proofs.YtddjgncdjdjgeaaGreat
namespace Go.Proofs.YtddjgncdjdjgeaaGreat
open Go.RowKit
def Gd (s : St) : Prop := s.S.length = 64 * s.V.length
def secV (s : St) (j : Nat) : List UInt8 := sectL s.S s.V.length j
theorem setS_64 (L S : List UInt8) (k : Nat) : setS L S k 64 = S := by
  unfold setS
  rw [show 64 - 64 = 0 from rfl, List.take_zero]
  unfold splice
  simp
theorem flush_S (s : St) : ∀ i, (s.flush i).S = s.S
  | 0 => rfl
  | i + 1 => by
    show setS (s.flush i).L (s.flush i).S i 64 = s.S
    rw [setS_64, flush_S s i]
theorem flA_S (s : St) : (flA s).S = s.S := flush_S s _
theorem Gd.flA {s : St} (h : Gd s) : Gd (flA s) := by unfold Gd; rw [flA_S, flA_len]; exact h
theorem Gd.write {s : St} (h : Gd s) {q : Nat} {x : List UInt8} (hq : q < s.V.length) (hx : x.length = 64) : Gd (s.write q x) := by
  unfold Gd at *
  rw [write_len]
  show (splice s.S (q * 64) x).length = _
  unfold splice
  simp only [List.length_append, List.length_take, List.length_drop, hx]
  omega
theorem secV_write {s : St} (h : Gd s) {q : Nat} {x : List UInt8} (hq : q < s.V.length) (hx : x.length = 64) (j : Nat) : secV (s.write q x) j = if j = q then x else secV s j := by
  unfold secV
  rw [write_len]
  show sectL (splice s.S (q * 64) x) _ j = _
  by_cases e : j = q
  · subst e; rw [if_pos rfl]; exact sect_same h hq hx
  · rw [if_neg e]; exact sect_other h hq hx e
theorem secV_flA (s : St) (j : Nat) : secV (flA s) j = secV s j := by unfold secV; rw [flA_S, flA_len]
theorem zeros64_len : (zeros 64).length = 64 := zeros_len 64
theorem Gd.wipeN {s : St} (h : Gd s) (a : Nat) : ∀ k, a + k ≤ s.V.length → Gd (wipeN s a k)
  | 0, _ => h
  | k + 1, hk => (Gd.wipeN h a k (by omega)).write (by rw [wipeN_len]; omega) zeros64_len
theorem secV_wipeN {s : St} (h : Gd s) (a : Nat) : ∀ k, a + k ≤ s.V.length → ∀ j, secV (wipeN s a k) j = if a ≤ j ∧ j < a + k then zeros 64 else secV s j
  | 0, _, j => by rw [if_neg (by omega)]; rfl
  | k + 1, hk, j => by
    show secV ((wipeN s a k).write (a + k) (zeros 64)) j = _
    rw [secV_write (Gd.wipeN h a k (by omega)) (by rw [wipeN_len]; omega) zeros64_len, secV_wipeN h a k (by omega)]
    by_cases e : j = a + k
    · rw [if_pos e, if_pos (by omega)]
    · rw [if_neg e]
      by_cases e2 : a ≤ j ∧ j < a + k
      · rw [if_pos e2, if_pos (by omega)]
      · rw [if_neg e2, if_neg (by omega)]
theorem Gd.putR {s : St} (h : Gd s) (L P E : Nat) (h2 : 2 ≤ s.V.length) : Gd (putR s L P E) := (h.write (by omega) (rootL_len _ _ _)).flA
theorem secV_putR {s : St} (h : Gd s) (L P E : Nat) (h2 : 2 ≤ s.V.length) (j : Nat) : secV (putR s L P E) j = if j = E % 2 then rootL L P E else secV s j := by
  unfold putR
  rw [secV_flA, secV_write h (by omega) (rootL_len _ _ _)]
/-- A formatted disk. -/
theorem Gd.fmt {s : St} (h : Gd s) (L P : Nat) (h2 : 2 + L + P ≤ s.V.length) : Gd (fmt s L P) := by
  unfold Go.Proofs.YtddjgncdjdjgeaaGreat.fmt
  exact Gd.putR (((h.wipeN 0 2 (by omega)).flA.wipeN 2 (L + P) (by rw [flA_len, wipeN_len]; omega)).flA) L P 1 (by rw [flA_len, wipeN_len, flA_len, wipeN_len]; omega)
theorem secV_fmt {s : St} (h : Gd s) (L P : Nat) (h2 : 2 + L + P ≤ s.V.length) (j : Nat) (hj : j < 2 + L + P) : secV (fmt s L P) j = if j = 1 then rootL L P 1 else zeros 64 := by
  unfold fmt
  rw [secV_putR (((h.wipeN 0 2 (by omega)).flA.wipeN 2 (L + P) (by rw [flA_len, wipeN_len]; omega)).flA) L P 1 (by rw [flA_len, wipeN_len, flA_len, wipeN_len]; omega)]
  show (if j = 1 then _ else _) = _
  by_cases e : j = 1
  · rw [if_pos e, if_pos e]
  · rw [if_neg e, if_neg e, secV_flA, secV_wipeN ((h.wipeN 0 2 (by omega)).flA) 2 (L + P) (by rw [flA_len, wipeN_len]; omega)]
    by_cases e2 : 2 ≤ j ∧ j < 2 + (L + P)
    · rw [if_pos e2]
    · rw [if_neg e2, secV_flA, secV_wipeN h 0 2 (by omega), if_pos (by omega)]
theorem zeros_noroot : ¬ isRoot (zeros 64) := by decide +kernel
theorem bestK_two (s : St) : bestK s.V.length s.S 2 = bestStep s.V.length (bestStep s.V.length RV.zero (secV s 0)) (secV s 1) := rfl
theorem bestStep_root {n : Int} {o : RV} {L P E : Nat} (hr : rightR L P E n = true) (hE : E < 4294967296) (ho : o.epoch < E) : bestStep n o (rootL L P E) = ⟨L, P, E⟩ := by
  have h1 := rightR_true.1 hr
  obtain ⟨a, b, c, d⟩ := root_is L P E (by omega) (by omega) hE
  unfold bestStep
  rw [if_pos ⟨a, by rw [b, c, d]; exact hr, by rw [d]; exact ho⟩, b, c, d]
theorem bestStep_no {n : Int} {o : RV} {l : List UInt8} (h : ¬ isRoot l) : bestStep n o l = o := by
  unfold bestStep
  rw [if_neg (fun k => h k.1)]
theorem best_fmt {s : St} (h : Gd s) (L P : Nat) (hr : rightR L P 1 s.V.length = true) : bestK (fmt s L P).V.length (fmt s L P).S 2 = ⟨L, P, 1⟩ := by
  have h1 := rightR_true.1 hr
  rw [bestK_two, secV_fmt h L P (by omega) 0 (by omega), secV_fmt h L P (by omega) 1 (by omega), if_neg (by omega), if_pos rfl, bestStep_no zeros_noroot, fmt_len]
  exact bestStep_root hr (by omega) (by show 0 < 1; omega)
/-- Behind a Checkpoint. -/
theorem Gd.homeN {s : St} (h : Gd s) {x : SV} (hr : rightR x.L x.P x.E s.V.length = true) (hp : x.pages.length = x.P) (h64 : ∀ l ∈ x.pages, l.length = 64) : ∀ k, k ≤ x.P → Gd (homeN s x k)
  | 0, _ => h
  | k + 1, hk => by
    have h1 := rightR_true.1 hr
    have ih := Gd.homeN h hr hp h64 k (by omega)
    show Gd (if _ then _ else _)
    split
    · refine ih.write (by rw [homeN_len]; omega) ?_
      rw [List.getD_eq_getElem?_getD, List.getElem?_eq_getElem (by omega)]
      exact h64 _ (List.getElem_mem _)
    · exact ih
theorem secV_homeN {s : St} (h : Gd s) {x : SV} (hr : rightR x.L x.P x.E s.V.length = true) (hp : x.pages.length = x.P) (h64 : ∀ l ∈ x.pages, l.length = 64) : ∀ k, k ≤ x.P → ∀ j, secV (homeN s x k) j = if 2 + x.L ≤ j ∧ j < 2 + x.L + k ∧ x.named.getD (j - (2 + x.L)) false = true then x.pages.getD (j - (2 + x.L)) [] else secV s j
  | 0, _, j => by rw [if_neg (by omega)]; rfl
  | k + 1, hk, j => by
    have h1 := rightR_true.1 hr
    have ih := secV_homeN h hr hp h64 k (by omega) j
    have hg := Gd.homeN h hr hp h64 k (by omega)
    show secV (if _ then _ else _) j = _
    by_cases hn : x.named.getD k false = true
    · rw [if_pos hn, secV_write hg (by rw [homeN_len]; omega) (by rw [List.getD_eq_getElem?_getD, List.getElem?_eq_getElem (by omega)]; exact h64 _ (List.getElem_mem _)), ih]
      by_cases e : j = 2 + x.L + k
      · subst e
        rw [if_pos rfl, if_pos ⟨by omega, by omega, by rw [show 2 + x.L + k - (2 + x.L) = k by omega]; exact hn⟩, show 2 + x.L + k - (2 + x.L) = k by omega]
      · rw [if_neg e]
        by_cases e2 : 2 + x.L ≤ j ∧ j < 2 + x.L + k ∧ x.named.getD (j - (2 + x.L)) false = true
        · rw [if_pos e2, if_pos ⟨e2.1, by omega, e2.2.2⟩]
        · rw [if_neg e2, if_neg (fun h3 => e2 ⟨h3.1, by omega, h3.2.2⟩)]
    · rw [if_neg hn, ih]
      by_cases e2 : 2 + x.L ≤ j ∧ j < 2 + x.L + k ∧ x.named.getD (j - (2 + x.L)) false = true
      · rw [if_pos e2, if_pos ⟨e2.1, by omega, e2.2.2⟩]
      · rw [if_neg e2, if_neg (fun h3 => ?_)]
        by_cases e : j = 2 + x.L + k
        · subst e
          apply hn
          have := h3.2.2
          rwa [show 2 + x.L + k - (2 + x.L) = k by omega] at this
        · exact e2 ⟨h3.1, by omega, h3.2.2⟩
theorem ckS_good {s : St} (h : Gd s) {x : SV} (hr : rightR x.L x.P x.E s.V.length = true) (hp : x.pages.length = x.P) (h64 : ∀ l ∈ x.pages, l.length = 64) : Gd (ckS s x) := by
  have h1 := rightR_true.1 hr
  unfold ckS
  exact Gd.putR (Gd.flA (Gd.homeN h.flA (by rw [flA_len]; exact hr) hp h64 x.P (Nat.le_refl _))) _ _ _ (by rw [flA_len, homeN_len, flA_len]; omega)
theorem secV_ckS {s : St} (h : Gd s) {x : SV} (hr : rightR x.L x.P x.E s.V.length = true) (hp : x.pages.length = x.P) (h64 : ∀ l ∈ x.pages, l.length = 64) (j : Nat) :
    secV (ckS s x) j = if j = (x.E + 1) % 2 then rootL x.L x.P (x.E + 1) else if 2 + x.L ≤ j ∧ j < 2 + x.L + x.P ∧ x.named.getD (j - (2 + x.L)) false = true then x.pages.getD (j - (2 + x.L)) [] else secV s j := by
  have h1 := rightR_true.1 hr
  unfold ckS
  rw [secV_putR (Gd.flA (Gd.homeN h.flA (by rw [flA_len]; exact hr) hp h64 x.P (Nat.le_refl _))) _ _ _ (by rw [flA_len, homeN_len, flA_len]; omega), secV_flA, secV_homeN h.flA (by rw [flA_len]; exact hr) hp h64 x.P (Nat.le_refl _), secV_flA]
theorem bestStep_ge {n : Int} {o : RV} {l : List UInt8} : o.epoch ≤ (bestStep n o l).epoch ∧ (isRoot l → rightR (getI l 4) (getI l 8) (getI l 12) n = true → getI l 12 ≤ (bestStep n o l).epoch) := by
  unfold bestStep
  split
  · rename_i h; exact ⟨by show _ ≤ getI l 12; omega, fun _ _ => Nat.le_refl _⟩
  · rename_i h; exact ⟨Nat.le_refl _, fun h1 h2 => by
      rcases Nat.lt_or_ge o.epoch (getI l 12) with h3 | h3
      · exact absurd ⟨h1, h2, h3⟩ h
      · exact h3⟩
theorem bestStep_two {n : Int} {o : RV} {l : List UInt8} : bestStep n o l = o ∨ (bestStep n o l = ⟨getI l 4, getI l 8, getI l 12⟩ ∧ isRoot l ∧ rightR (getI l 4) (getI l 8) (getI l 12) n = true) := by
  unfold bestStep
  split
  · rename_i h; exact .inr ⟨rfl, h.1, h.2.1⟩
  · exact .inl rfl
/-- The root that a Checkpoint put is found again. -/
theorem best_put {s s' : St} {L P E : Nat} (hv : s'.V.length = s.V.length) (hb : (bestK s.V.length s.S 2).epoch ≤ E) (hr : rightR L P (E + 1) s.V.length = true) (hE : E + 1 < 4294967296) (hq : secV s' ((E + 1) % 2) = rootL L P (E + 1)) (ho : secV s' (E % 2) = secV s (E % 2)) : bestK s'.V.length s'.S 2 = ⟨L, P, E + 1⟩ := by
  rw [bestK_two, hv]
  rw [bestK_two] at hb
  have hr' : rightR L P ((E + 1 : Nat) : Int) s.V.length = true := by rw [Int.natCast_add]; exact hr
  rcases Nat.mod_two_eq_zero_or_one E with h | h
  · rw [show (E + 1) % 2 = 1 by omega] at hq
    rw [h] at ho
    rw [hq, ho]
    refine bestStep_root hr' hE ?_
    have := (bestStep_ge (n := s.V.length) (o := bestStep s.V.length RV.zero (secV s 0)) (l := secV s 1)).1
    omega
  · rw [show (E + 1) % 2 = 0 by omega] at hq
    rw [h] at ho
    rw [hq, ho, bestStep_root hr' hE (by show 0 < E + 1; omega)]
    rcases bestStep_two (n := s.V.length) (o := ⟨L, P, E + 1⟩) (l := secV s 1) with h1 | ⟨h1, h2, h3⟩
    · exact h1
    · have h4 := (bestStep_ge (n := s.V.length) (o := bestStep s.V.length RV.zero (secV s 0)) (l := secV s 1)).2 h2 h3
      unfold bestStep
      rw [if_neg (fun h5 => by have := h5.2.2; simp only at this; omega)]
theorem best_ck {s : St} (h : Gd s) {x : SV} (hr : rightR x.L x.P x.E s.V.length = true) (hp : x.pages.length = x.P) (h64 : ∀ l ∈ x.pages, l.length = 64) (hb : (bestK s.V.length s.S 2).epoch ≤ x.E) (hE : x.E + 1 < 4294967296) : bestK (ckS s x).V.length (ckS s x).S 2 = ⟨x.L, x.P, x.E + 1⟩ := by
  have h1 := rightR_true.1 hr
  refine best_put (ckS_len s x) hb (rightR_true.2 (by omega)) hE ?_ ?_
  · rw [secV_ckS h hr hp h64, if_pos rfl]
  · rw [secV_ckS h hr hp h64, if_neg (by omega), if_neg (by omega)]
end Go.Proofs.YtddjgncdjdjgeaaGreat
