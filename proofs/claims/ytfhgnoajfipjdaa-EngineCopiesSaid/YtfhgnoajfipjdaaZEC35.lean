/-
  EC: EgTop.
-/
import Derived.Test.YtfhgnoajfipjdaaZEC32
import Derived.Test.YtfhgnoajfipjdaaZEC33
import Derived.Test.YtfhgnoajfipjdaaZEC34
namespace Go.Proofs.Ytfhgnoajfipjdaa
open Go.RowKit
/-- What Run leaves. -/
def RunOut (w : World) (T : List Nat) (p most rp : Nat) (rs : List (Option Int)) (nq : Nat) (val trap : Int) (s' : EgV) (e : Ending) (w' : World) : Prop :=
  ∃ v, e = .returned (.tuple #[.agg #[.int .i64 val, .int .i64 trap, .int .i64 (s'.fuel : Int), v], .int .i64 0]) ∧ QSl w' v (s'.qs.drop nq) ∧
    (∃ gC gD X Y, Mm w' p gC gD s'.L X s'.V Y most ∧ (w.heap.size ≤ gC ∨ gC ∈ T) ∧ (w.heap.size ≤ gD ∨ gD ∈ T)) ∧ (∃ a q, Rq w' rp rs s'.qs a q ∧ ∀ i, q.ownBlock = some i → w.heap.size ≤ i ∨ i ∈ T) ∧ Chg T w w'
section
variable {P : EP} {W W' : World} {vs vc : Value} {s : EgV}
theorem Eg.popped3 (h : Eg P W vs vc s) {A : Option Addr} {n c : Nat} (hv : vs = .slice A (n + 1) c) {W2 : World} (hc : Chg [] W W2) {st : List Int} {x : Int} (hst : s.st = st ++ [x]) :
    Eg P (W2.setCell ⟨P.g, 7, none⟩ (.slice A n c)) (.slice A n c) vc ⟨s.fuel, st, s.cs, s.L, s.V, s.qs⟩ ∧ Fe P.K eg3 W (W2.setCell ⟨P.g, 7, none⟩ (.slice A n c)) := by
  subst hv
  have h2 := h.keep hc
  have hl : s.st.length = st.length + 1 := by rw [hst]; simp
  have hq : n + 1 = s.st.length := by
    rcases h.stk.2 with ⟨e, e2⟩ | ⟨_, _, _, e, _⟩
    · injection e with _ e _; omega
    · injection e
  have hA : A ≠ none := by
    rintro rfl
    rcases h.stk.2 with ⟨e, _⟩ | ⟨_, _, _, e, _⟩
    · injection e with _ e _; simp at e
    · injection e with e _; cases e
  have ho := h2.stk
  rw [← hq] at ho
  have ht := rown_take (q' := n) ho (by omega) hA
  have e2 : (nms s.st).take (n * 1) = nms st := by rw [hst, nms_app, List.take_left' (by rw [nms_len]; omega)]
  rw [e2] at ht
  have hf : Fe P.K eg3 W (W2.setCell ⟨P.g, 7, none⟩ (.slice A n c)) := (Fe.of_chg hc).setw h2.rec_ h.kg (by simp [eg3]) _
  refine ⟨h.upd hf eg3_is (h2.rec_.set_ 7 _) ?_ (rown_lay h2.cal h2.rec_ (by decide)) h.loc (Nat.le_refl _) (by have := h.stkb; omega) h.calb, hf⟩
  have := rown_lay (j := 7) (u := .slice A n c) ht h2.rec_ (by decide)
  rw [show st.length = n from by omega]
  exact this
set_option maxHeartbeats 4000000 in
set_option maxRecDepth 100000 in
theorem epop_3 {x : Int} {s' : EgV} (h : Eg P W vs vc s) (hp : s.pop = some (x, s')) : Calls Try.prog 55 #[.pointer (some ⟨P.g, 0, none⟩)] W (fun e w' => e = .returned (.int .i64 x) ∧ (∃ vs' vc', Eg P w' vs' vc' s') ∧ Fe P.K eg3 W w') := by
  obtain ⟨st, hst, rfl⟩ := pop_some hp
  obtain ⟨gs, c, rfl, hc, hx⟩ := h.top hst
  have k7 : W.cell? ⟨P.g, 7, none⟩ = some (.slice (some ⟨gs, 0, none⟩) (st.length + 1) c) := h.rec_.cell 7
  have f7 := h.rec_.frozen 7
  have hb := h.stkb
  have hl : s.st.length = st.length + 1 := by rw [hst]; simp
  have HQ := Lib.hid (h.popped3 rfl (Chg.refl [] W) hst)
  have HQ2 := Lib.hid (h.popped3 rfl ((Chg.refl [] W).drew) hst)
  obtain ⟨n, hn⟩ : ∃ n, n = st.length := ⟨_, rfl⟩
  rw [← hn] at HQ HQ2 k7 hx hc hl
  have hn9 : n ≤ 3000000 := by omega
  generalize P.g = g at k7 f7 HQ HQ2 ⊢
  clear h hp hst hn hb
  have hsub : IntKind.i64.wrap (((n + 1 : Nat) : Int) - 1) = (n : Int) := by rw [IntWalk.i64_in _ (by omega)]; omega
  have hq0 : (0 : Int) ≤ (n : Int) := by omega
  have hq1 : (n : Int) < ((n + 1 : Nat) : Int) := by omega
  have hq2 : (n : Int) ≤ (c : Int) := by omega
  go_enter Try.func55, Try.ntmps55
  go_wp2_with fail
  go_ret
  exact ⟨rfl, ⟨_, _, HQ.out.1⟩, HQ.out.2⟩
end
theorem fe_chg {K : Nat → Prop} {TS : List TypeId} {w a b : World} {T : List Nat} (h : Chg [] w a) (hf : Fe K TS a b) (hK : ∀ k, K k → w.heap.size ≤ k ∨ k ∈ T) : Chg T w b :=
  ⟨hf.os.trans h.os, hf.tape.trans h.tape, hf.output.trans h.output, Nat.le_trans h.size hf.size, fun k hk hn => (hf.block k (Nat.lt_of_lt_of_le hk h.size) (.inl fun hc => by
    rcases hK k hc with hc | hc
    · omega
    · exact hn hc)).trans (h.block k hk (by simp))⟩
/-- The end: the result is laid where it is handed back. -/
theorem run_end {w w7 wx : World} {P : EP} {T : List Nat} {p most rp : Nat} {rs : List (Option Int)} {nq m9 gO : Nat} {val trap : Int} {s' : EgV} {Ab Ax : Option Addr} {cb : Nat} {vs vc : Value}
    (hP : P.p = p ∧ P.most = most ∧ P.rp = rp ∧ P.rs = rs ∧ P.B = w.heap.size ∧ P.T = T) (h7 : Chg [] w w7) (hf : Fe P.K egT w7 wx) {wy : World} (hE : Eg P wx vs vc s') (hy : Fe (fun _ => True) [34] wx wy) (hyc : Chg [] wx wy ∨ ∃ g u, w.heap.size ≤ g ∧ wy = wx.setCell ⟨g, 0, none⟩ u)
    (hax : (if cb = nq then Ab else Option.map (fun x => x.add (nq * 2)) Ab) = Ax) (hro : wx.ownsRow 0 53 2 (.slice Ab m9 cb) m9 (qsC s'.qs)) (hm : m9 = s'.qs.length) (hn : nq ≤ m9)
    (hO : Whole wy gO 34 [.int .i64 0, .int .i64 0, .int .i64 0, .slice none 0 0]) (hgO : w.heap.size ≤ gO) :
    ∀ wf, wf = ((((wy.setCell ⟨gO, 0, none⟩ (.int .i64 val)).setCell ⟨gO, 1, none⟩ (.int .i64 trap)).setCell ⟨gO, 2, none⟩ (.int .i64 (s'.fuel : Int))).setCell ⟨gO, 3, none⟩ (.slice Ax (m9 - nq) (cb - nq))) →
    Whole wf gO 34 [.int .i64 val, .int .i64 trap, .int .i64 (s'.fuel : Int), .slice Ax (m9 - nq) (cb - nq)] ∧ RunOut w T p most rp rs nq val trap s' (.returned (.tuple #[.agg #[.int .i64 val, .int .i64 trap, .int .i64 (s'.fuel : Int), .slice Ax (m9 - nq) (cb - nq)], .int .i64 0])) wf := by
  intro wf hwf
  have kP : ∀ k, P.K k → w.heap.size ≤ k ∨ k ∈ T := fun k hk => by
    rcases hk with hk | hk
    · exact .inl (hP.2.2.2.2.1 ▸ hk)
    · exact .inr (hP.2.2.2.2.2 ▸ hk)
  have c0 : Chg T w wx := fe_chg h7 hf kP
  have c1 : Chg T w wy := by
    rcases hyc with h | ⟨g, u, hg, rfl⟩
    · exact c0.new h
    · exact c0.setCell (p := ⟨g, 0, none⟩) (fun h => by simp only at h; omega) u
  have h0 := hO.set_ 0 (.int .i64 val)
  have h1 := h0.set_ 1 (.int .i64 trap)
  have h2 := h1.set_ 2 (.int .i64 (s'.fuel : Int))
  have h3 := h2.set_ 3 (.slice Ax (m9 - nq) (cb - nq))
  have hq : Fe (fun _ => True) [34] wx wf := by
    rw [hwf]
    exact (((hy.setw hO trivial (by simp) _).setw h0 trivial (by simp) _).setw h1 trivial (by simp) _).setw h2 trivial (by simp) _
  have hW : Whole wf gO 34 [.int .i64 val, .int .i64 trap, .int .i64 (s'.fuel : Int), .slice Ax (m9 - nq) (cb - nq)] := by
    rw [hwf]
    simpa using h3
  have hC : Chg T w wf := by
    rw [hwf]
    exact (((c1.setCell (p := ⟨gO, 0, none⟩) (fun h => by simp only at h; omega) _).setCell (p := ⟨gO, 1, none⟩) (fun h => by simp only at h; omega) _).setCell (p := ⟨gO, 2, none⟩) (fun h => by simp only at h; omega) _).setCell (p := ⟨gO, 3, none⟩) (fun h => by simp only at h; omega) _
  clear hwf h0 h1 h2 h3 c0 c1
  refine ⟨hW, .slice Ax (m9 - nq) (cb - nq), rfl, ?_, ?_, ?_, hC⟩
  · rw [← hax]
    exact qsl_drop (hq.own hro (by decide)) hm hn
  · obtain ⟨gC, gD, X, Y, hM, k1, k2⟩ := hE.mem
    refine ⟨gC, gD, X, Y, ?_, kP _ k1, kP _ k2⟩
    have := hq.mm hM (by decide) (by decide) (by decide)
    rwa [hP.1, hP.2.1] at this
  · obtain ⟨a, q, hR, k3⟩ := hE.row
    refine ⟨a, q, ?_, fun i hi => kP _ (k3 i hi)⟩
    have := hR.fe hq (by decide) (by decide) (by decide)
    rwa [hP.2.2.1, hP.2.2.2.1] at this
/-- The work struct is written into a block that was made before. -/
theorem work_laid {w4 w5 : World} {g : Nat} {z : List Value} (hz : z.length = 9) (h : Whole w5 g 104 z) (hc : Chg [] w4 w5) (hg : w4.heap.size ≤ g) (u0 u1 u2 u3 u4 u5 u6 u7 u8 : Value) :
    let w6 := ((((((((w5.setCell ⟨g, 0, none⟩ u0).setCell ⟨g, 1, none⟩ u1).setCell ⟨g, 2, none⟩ u2).setCell ⟨g, 3, none⟩ u3).setCell ⟨g, 4, none⟩ u4).setCell ⟨g, 5, none⟩ u5).setCell ⟨g, 6, none⟩ u6).setCell ⟨g, 7, none⟩ u7).setCell ⟨g, 8, none⟩ u8
    Whole w6 g 104 [u0, u1, u2, u3, u4, u5, u6, u7, u8] ∧ Fe (fun _ => True) [104] w5 w6 ∧ Chg [] w4 w6 := by
  have h0 := h.set_ 0 u0
  have h1 := h0.set_ 1 u1
  have h2 := h1.set_ 2 u2
  have h3 := h2.set_ 3 u3
  have h4 := h3.set_ 4 u4
  have h5 := h4.set_ 5 u5
  have h6 := h5.set_ 6 u6
  have h7 := h6.set_ 7 u7
  have h8 := h7.set_ 8 u8
  refine ⟨?_, ?_, ?_⟩
  · obtain ⟨a, b, c, d, e, f, i, j, k, rfl⟩ : ∃ a b c d e f i j k, z = [a, b, c, d, e, f, i, j, k] := by
      match z, hz with
      | [a, b, c, d, e, f, i, j, k], _ => exact ⟨a, b, c, d, e, f, i, j, k, rfl⟩
    simpa using h8
  · exact ((((((((((Fe.refl (fun _ => True) [104] w5).setw h trivial (by simp) u0).setw h0 trivial (by simp) u1).setw h1 trivial (by simp) u2).setw h2 trivial (by simp) u3).setw h3 trivial (by simp) u4).setw h4 trivial (by simp) u5).setw h5 trivial (by simp) u6).setw h6 trivial (by simp) u7).setw h7 trivial (by simp) u8)
  · exact ((((((((hc.setCell (p := ⟨g, 0, none⟩) (by simp; omega) u0).setCell (p := ⟨g, 1, none⟩) (by simp; omega) u1).setCell (p := ⟨g, 2, none⟩) (by simp; omega) u2).setCell (p := ⟨g, 3, none⟩) (by simp; omega) u3).setCell (p := ⟨g, 4, none⟩) (by simp; omega) u4).setCell (p := ⟨g, 5, none⟩) (by simp; omega) u5).setCell (p := ⟨g, 6, none⟩) (by simp; omega) u6).setCell (p := ⟨g, 7, none⟩) (by simp; omega) u7).setCell (p := ⟨g, 8, none⟩) (by simp; omega) u8
theorem res_laid {w4 w5 : World} {g : Nat} {z : List Value} (hz : z.length = 4) (h : Whole w5 g 34 z) (hc : Chg [] w4 w5) (hg : w4.heap.size ≤ g) (u0 u1 u2 u3 : Value) :
    let w6 := (((w5.setCell ⟨g, 0, none⟩ u0).setCell ⟨g, 1, none⟩ u1).setCell ⟨g, 2, none⟩ u2).setCell ⟨g, 3, none⟩ u3
    Whole w6 g 34 [u0, u1, u2, u3] ∧ Fe (fun _ => True) [34] w5 w6 ∧ Chg [] w4 w6 := by
  have h0 := h.set_ 0 u0
  have h1 := h0.set_ 1 u1
  have h2 := h1.set_ 2 u2
  have h3 := h2.set_ 3 u3
  refine ⟨?_, ?_, ?_⟩
  · obtain ⟨a, b, c, d, rfl⟩ : ∃ a b c d, z = [a, b, c, d] := by
      match z, hz with
      | [a, b, c, d], _ => exact ⟨a, b, c, d, rfl⟩
    simpa using h3
  · exact ((((Fe.refl (fun _ => True) [34] w5).setw h trivial (by simp) u0).setw h0 trivial (by simp) u1).setw h1 trivial (by simp) u2).setw h2 trivial (by simp) u3
  · exact (((hc.setCell (p := ⟨g, 0, none⟩) (by simp; omega) u0).setCell (p := ⟨g, 1, none⟩) (by simp; omega) u1).setCell (p := ⟨g, 2, none⟩) (by simp; omega) u2).setCell (p := ⟨g, 3, none⟩) (by simp; omega) u3
theorem cods_of {w : World} {B m : Nat} {v : Value} {xs : List CdV} (h : w.ownsRow B 170 3 v m (cdCs xs)) (hm : m = xs.length) (hx : Cdx w xs) (h32 : xs.length ≤ 32) : Cods w v xs := ⟨by subst hm; exact own_more_n h (Nat.zero_le _), hx.toks, hx.gos, hx.few, h32⟩
section
variable {w : World} {p gC gD rp mm n c : Nat} {L : List UInt8} {X : List Value} {V : List Bool} {Y : List Value} {rs : List (Option Int)} {qs : List (Int × Int)} {a q : Value} {A A2 : Option Addr} {l : List FnV} {pages most : Int} {T : List Nat} {args : List Int} {k fuel m2 c2 : Nat} {f : FnV} {val trap : Int} {s' : EgV} {name : Int}
set_option maxHeartbeats 16000000 in
set_option maxRecDepth 100000 in
theorem engrun_any (hM : Mm w p gC gD L X V Y mm) (hR : Rq w rp rs qs a q) (hF : Fnr w A n c l) (hU : RightU pages most l) (hp : p ∈ T) (hC : gC ∈ T) (hD : gD ∈ T) (hrp : rp ∈ T) (hq : ∀ i, q.ownBlock = some i → i ∈ T)
    (hA : ∀ ad, A = some ad → ad.block < w.heap.size ∧ ad.block ∉ T) (hk : findI l name = (k : Int)) (hf : l[k]? = some f) (hfa : f.args = (args.length : Int)) (hfu : fuel ≤ 1048576) (hqs : qs.length ≤ 800000000) (hm2 : m2 = args.length) (hS : Src w A2 (nms args))
    (hdo : eDo l rs mm k fuel args L V qs = some (val, trap, s')) : Calls Try.prog 13 #[unitV pages most A n c, .pointer (some ⟨p, 0, none⟩), .pointer (some ⟨rp, 0, none⟩), .int .i32 name, .int .i64 (fuel : Int), .slice A2 m2 c2] w (RunOut w T p mm rp rs qs.length val trap s') := by
  have hf4 := hU.fn k f hf
  have hl4 : args.length ≤ 4 := by have := hf4.2.2.2; omega
  have hkn : k < n := by rw [← hF.len]; exact (List.getElem?_eq_some_iff.1 hf).1
  have hn32 : n ≤ 32 := by rw [← hF.len]; exact hU.few
  have HRG := Lib.hid (fun (w1 : World) (hc : Chg [] w w1) => right_ok (hF.keep hc) hU)
  have HFI := Lib.hid (fun (w1 : World) (hc : Chg [] w w1) => cfind_any (pages := pages) (most := most) (hF.keep hc) name)
  have HCO := Lib.hid (fun (w1 : World) (hc : Chg [] w w1) => codes_any (pages := pages) (most := most) (hF.keep hc) (readable_of hU) hn32 hU.small)
  have HAS := Lib.hid (fun (w1 : World) (hc : Chg [] w w1) => asks_every (hR.keep hc) (by omega))
  rw [hk] at HFI
  obtain ⟨s0, tr1, s1, hc0, hr0, hend⟩ : ∃ s0 tr1 s1, eCall (l.map codeOf) k ⟨fuel, args, [], L, V, qs⟩ = some s0 ∧ eRun l (l.map codeOf) rs mm (2 * fuel + 2) s0 = some (tr1, s1) ∧ (if tr1 = 0 then s1.pop.map (fun q => (q.1, tr1, q.2)) else some (0, tr1, s1)) = some (val, trap, s') := by
    unfold eDo at hdo
    cases h1 : eCall (l.map codeOf) k ⟨fuel, args, [], L, V, qs⟩ with
    | none => rw [h1] at hdo; cases hdo
    | some s0 =>
      rw [h1] at hdo
      simp only at hdo
      cases h2 : eRun l (l.map codeOf) rs mm (2 * fuel + 2) s0 with
      | none => rw [h2] at hdo; cases hdo
      | some z => obtain ⟨tr1, s1⟩ := z; rw [h2] at hdo; exact ⟨s0, tr1, s1, rfl, h2, hdo⟩
  have HDO := Lib.hid (And.intro hc0 (And.intro hr0 hend))
  obtain ⟨fb, fo, hAe, hfbl, e0, e1, e2⟩ := hF.cell hf
  subst hAe
  have HMM := Lib.hid hM
  have HRQ := Lib.hid hR
  have HFN := Lib.hid hF
  have HT := Lib.hid (show p ∈ T ∧ gC ∈ T ∧ gD ∈ T ∧ rp ∈ T from ⟨hp, hC, hD, hrp⟩)
  have HQ := Lib.hid hq
  have HAB := Lib.hid hA
  have HSR := Lib.hid hS
  have HFL := Lib.hid hF.len
  obtain ⟨nq, hnq⟩ : ∃ nq, nq = qs.length := ⟨_, rfl⟩
  have HNQ := Lib.hid hnq
  rw [← hnq] at hqs ⊢
  rw [hfa] at e1
  rw [← hm2] at e1 hl4
  have HM2 := Lib.hid hm2
  unfold unitV at HRG HFI HCO ⊢
  have hfuI : ¬ ((fuel : Int) < 0) := by omega
  have hb1 : decide ((fuel : Int) < 0) = false := by simp
  have hb2 : decide (1048576 < (fuel : Int)) = false := by simp; omega
  have hk0 : decide ((k : Int) < 0) = false := by simp
  have hkk0 : (0 : Int) ≤ (k : Int) := by omega
  have hkk1 : (k : Int) < (n : Int) := by omega
  clear hM hR hF hU hp hC hD hrp hq hA hk hf hfa hS hdo hc0 hr0 hend hf4 hnq hm2 e0 e2
  go_enter Try.func13, Try.ntmps13
  go_upto_region 1 with fail
  have hN1 := Whole.new w 28 [.int .i64 pages, .int .i64 most, .slice (some ⟨fb, fo, none⟩) n c]
  have hal1 := (Chg.refl [] w).alloc (.cells #[.int .i64 pages, .int .i64 most, .slice (some ⟨fb, fo, none⟩) n c] 28)
  have hsz1 : (w.alloc (.cells #[.int .i64 pages, .int .i64 most, .slice (some ⟨fb, fo, none⟩) n c] 28)).heap.size = w.heap.size + 1 := Array.size_push _
  generalize w.alloc (.cells #[.int .i64 pages, .int .i64 most, .slice (some ⟨fb, fo, none⟩) n c] 28) = wa at hN1 hal1 hsz1 ⊢
  have hN2 := Whole.new wa 34 [.int .i64 0, .int .i64 0, .int .i64 0, .slice none 0 0]
  have hal2 := (Chg.refl [] wa).alloc (.cells #[.int .i64 0, .int .i64 0, .int .i64 0, .slice none 0 0] 34)
  obtain ⟨g1, hg1⟩ : ∃ g1, g1 = w.heap.size := ⟨_, rfl⟩
  have HG1 := Lib.hid hg1
  rw [hsz1] at hN2
  rw [← hg1] at hN1 hN2 ⊢
  have HU1 := Lib.hid (hN1.keep hal2)
  have HR1 := Lib.hid hN2
  have HC1 := Lib.hid (hal1.new hal2)
  generalize wa.alloc (.cells #[.int .i64 0, .int .i64 0, .int .i64 0, .slice none 0 0] 34) = w1 at HU1 HR1 HC1 ⊢
  clear hN1 hN2 hal1 hal2 hsz1 hg1
  have u0 := HU1.out.cell 0
  have u1 := HU1.out.cell 1
  have u2 := HU1.out.cell 2
  go_wp2_with fail
  refine (HRG.out w1 HC1.out).mono ?_
  rintro e w2 ⟨rfl, hc2⟩
  have HC2 := Lib.hid (HC1.out.new hc2)
  have HU2 := Lib.hid (HU1.out.keep hc2)
  have HR2 := Lib.hid (HR1.out.keep hc2)
  clear hc2 u0 u1 u2 HU1 HR1 HC1
  have u0 := HU2.out.cell 0
  have u1 := HU2.out.cell 1
  have u2 := HU2.out.cell 2
  go_wp2_with fail
  refine (HFI.out w2 HC2.out).mono ?_
  rintro e w3 ⟨rfl, hc3⟩
  have HC3 := Lib.hid (HC2.out.new hc3)
  have HU3 := Lib.hid (HU2.out.keep hc3)
  have HR3 := Lib.hid (HR2.out.keep hc3)
  have k1 := cell_keep e1 HC3.out
  clear hc3 u0 u1 u2 HU2 HR2 HC2 e1
  have u0 := HU3.out.cell 0
  have u1 := HU3.out.cell 1
  have u2 := HU3.out.cell 2
  go_wp2_with fail
  refine (HAS.out w3 HC3.out).mono ?_
  rintro e w4 ⟨va, rfl, hqa, hc4⟩
  obtain ⟨Aq, cq, rfl, _⟩ := rown_slice hqa
  rw [← HNQ.out]
  have HC4 := Lib.hid (HC3.out.new hc4)
  have HU4 := Lib.hid (HU3.out.keep hc4)
  have HR4 := Lib.hid (HR3.out.keep hc4)
  clear hc4 u0 u1 u2 HU3 HR3 HC3 k1
  have u0 := HU4.out.cell 0
  have u1 := HU4.out.cell 1
  have u2 := HU4.out.cell 2
  go_wp2_with fail
  have HD := Lib.hid (HC4.out.drew)
  have hzal := (Chg.refl [] w4.drew).alloc (.cells #[.int .i64 0, .int .i64 0, .slice none 0 0, .slice none 0 0, .pointer none, .pointer none, .int .i64 0, .slice none 0 0, .slice none 0 0] 104)
  have HZA := Lib.hid hzal
  have HZN := Lib.hid (show Whole (w4.drew.alloc (.cells #[.int .i64 0, .int .i64 0, .slice none 0 0, .slice none 0 0, .pointer none, .pointer none, .int .i64 0, .slice none 0 0, .slice none 0 0] 104)) w4.heap.size 104 [.int .i64 0, .int .i64 0, .slice none 0 0, .slice none 0 0, .pointer none, .pointer none, .int .i64 0, .slice none 0 0, .slice none 0 0] from Whole.new w4.drew 104 [.int .i64 0, .int .i64 0, .slice none 0 0, .slice none 0 0, .pointer none, .pointer none, .int .i64 0, .slice none 0 0, .slice none 0 0])
  have a0 := cell_keep u0 ((Chg.refl [] w4).alloc (.cells #[.int .i64 0, .int .i64 0, .slice none 0 0, .slice none 0 0, .pointer none, .pointer none, .int .i64 0, .slice none 0 0, .slice none 0 0] 104))
  have a1 := cell_keep u1 ((Chg.refl [] w4).alloc (.cells #[.int .i64 0, .int .i64 0, .slice none 0 0, .slice none 0 0, .pointer none, .pointer none, .int .i64 0, .slice none 0 0, .slice none 0 0] 104))
  have a2 := cell_keep u2 ((Chg.refl [] w4).alloc (.cells #[.int .i64 0, .int .i64 0, .slice none 0 0, .slice none 0 0, .pointer none, .pointer none, .int .i64 0, .slice none 0 0, .slice none 0 0] 104))
  clear hzal
  go_cut [17] (fun v wx => ∃ g6 Av cv xs, v = .pointer (some ⟨g6, 0, none⟩) ∧ w.heap.size ≤ g6 ∧ Hid (Whole wx g6 104 [.int .i64 pages, .int .i64 most, .slice (some ⟨fb, fo, none⟩) n c, .slice Av xs.length cv, .pointer (some ⟨p, 0, none⟩), .pointer (some ⟨rp, 0, none⟩), .int .i64 (fuel : Int), .slice none 0 0, .slice none 0 0]) ∧ Hid (Cods wx (.slice Av xs.length cv) xs) ∧ Hid (xs.map (·.c) = l.map codeOf) ∧ Hid (Chg [] w4 wx))
  case first =>
    go_region_with (go_at_call 52
                    refine (HCO.out _ (by first | exact HD.out | exact HD.out.new HZA.out | exact HC4.out.new HZA.out)).mono ?_
                    rintro e w5 ⟨v5, xs, rfl, ho5, hx5, hm5, hc5⟩
                    have HO5 := Lib.hid ho5
                    have HX5 := Lib.hid hx5
                    have HM5 := Lib.hid hm5
                    have HC5 := Lib.hid hc5
                    obtain ⟨A5, c5, rfl, _⟩ := rown_slice ho5
                    have v0 := cell_keep u0 (by first | exact (Chg.refl [] w4).drew.new HC5.out | exact ((Chg.refl [] w4).drew.new HZA.out).new HC5.out)
                    have v1 := cell_keep u1 (by first | exact (Chg.refl [] w4).drew.new HC5.out | exact ((Chg.refl [] w4).drew.new HZA.out).new HC5.out)
                    have v2 := cell_keep u2 (by first | exact (Chg.refl [] w4).drew.new HC5.out | exact ((Chg.refl [] w4).drew.new HZA.out).new HC5.out)
                    have b0 := cell_keep v0 ((Chg.refl [] w5).alloc (.cells #[.int .i64 0, .int .i64 0, .slice none 0 0, .slice none 0 0, .pointer none, .pointer none, .int .i64 0, .slice none 0 0, .slice none 0 0] 104))
                    have b1 := cell_keep v1 ((Chg.refl [] w5).alloc (.cells #[.int .i64 0, .int .i64 0, .slice none 0 0, .slice none 0 0, .pointer none, .pointer none, .int .i64 0, .slice none 0 0, .slice none 0 0] 104))
                    have b2 := cell_keep v2 ((Chg.refl [] w5).alloc (.cells #[.int .i64 0, .int .i64 0, .slice none 0 0, .slice none 0 0, .pointer none, .pointer none, .int .i64 0, .slice none 0 0, .slice none 0 0] 104))
                    clear ho5 hx5 hm5 hc5
                    first
                      | (have hz5 := HZN.out.keep HC5.out; have z0 := hz5.cell 0; have y0 := hz5.frozen 0; have z1 := hz5.cell 1; have y1 := hz5.frozen 1; have z2 := hz5.cell 2; have y2 := hz5.frozen 2; have z3 := hz5.cell 3; have y3 := hz5.frozen 3; have z4 := hz5.cell 4; have y4 := hz5.frozen 4; have z5 := hz5.cell 5; have y5 := hz5.frozen 5; have z6 := hz5.cell 6; have y6 := hz5.frozen 6; have z7 := hz5.cell 7; have y7 := hz5.frozen 7; have z8 := hz5.cell 8; have y8 := hz5.frozen 8)
                      | skip)
    all_goals go_wp2_with fail
    all_goals go_meet
    all_goals
      have hx32 : xs.length ≤ 32 := by have := congrArg List.length HM5.out; rw [List.length_map, List.length_map, HFL.out] at this; omega
      have hcd := cods_of HO5.out rfl HX5.out hx32
      first
        | (obtain ⟨q1, q2, q3⟩ := work_laid (w4 := w4) rfl hz5 ((((Chg.refl [] w4).drew.new HZA.out)).new HC5.out) (Nat.le_refl _) (.int .i64 pages) (.int .i64 most) (.slice (some ⟨fb, fo, none⟩) n c) (.slice A5 xs.length c5) (.pointer (some ⟨p, 0, none⟩)) (.pointer (some ⟨rp, 0, none⟩)) (.int .i64 (fuel : Int)) (.slice none 0 0) (.slice none 0 0)
           exact ⟨_, A5, c5, xs, rfl, HC4.out.size, Lib.hid q1, Lib.hid (hcd.fe q2 (by decide) (by decide) (by decide)), HM5, Lib.hid q3⟩)
        | (have hal := (Chg.refl [] w5).alloc (.cells #[.int .i64 pages, .int .i64 most, .slice (some ⟨fb, fo, none⟩) n c, .slice A5 xs.length c5, .pointer (some ⟨p, 0, none⟩), .pointer (some ⟨rp, 0, none⟩), .int .i64 (fuel : Int), .slice none 0 0, .slice none 0 0] 104)
           have hc45 := (Chg.refl [] w4).drew.new HC5.out
           exact ⟨_, A5, c5, xs, rfl, Nat.le_trans HC4.out.size hc45.size, Lib.hid (Whole.new w5 104 [.int .i64 pages, .int .i64 most, .slice (some ⟨fb, fo, none⟩) n c, .slice A5 xs.length c5, .pointer (some ⟨p, 0, none⟩), .pointer (some ⟨rp, 0, none⟩), .int .i64 (fuel : Int), .slice none 0 0, .slice none 0 0]), Lib.hid (hcd.keep hal), HM5, Lib.hid (hc45.new hal)⟩)
  case rest =>
    obtain ⟨g6, Av, cv, xs, rfl, hg6, HW, HCD, HXM, HC4c⟩ := hcut
    obtain ⟨w5, hw5⟩ : ∃ w5 : World, w5 = wc := ⟨_, rfl⟩
    subst hw5
    have HC5 := Lib.hid (HC4.out.new HC4c.out)
    have HG6 := Lib.hid hg6
    have HR5 := Lib.hid (HR4.out.keep HC4c.out)
    clear u0 u1 u2 a0 a1 a2 HD HZA HZN HU4 hg6
    have k7 := HW.out.cell 7
    have f7 := HW.out.frozen 7
    obtain ⟨i1, hi1, hz1, hs1, hb1⟩ := info_parts info_i64
    have HS5 := Lib.hid (HSR.out.keep HC5.out)
    have HML := Lib.hid (show (nms args).length = m2 from by rw [nms_len]; exact HM2.out.symm)
    have hbase : w.heap.size ≤ w5.heap.size := HC5.out.size
    go_upto_region 14 with (at_builtin
                            refine wpList_append_src rfl (.tmp 68) (.tmp 69) 23 rfl w.heap.size 2 i1 _ 8 Try.underlying23 hi1 hz1 hs1 hb1 rfl (.slice none 0 0) 0 [] rfl (own_nil _ _ _) A2 m2 c2 (nms args) rfl HML.out HS5.out (nms_one _) (by unfold maxLen; omega) (by omega) hbase ?_
                            intro v6 w6 ho6 hg6 _
                            have HO6 := Lib.hid ho6
                            have HC56 := Lib.hid (show Chg [] w5 w6 from Chg.of_grown hg6 (fun g hg => by simp [Value.ownBlock] at hg))
                            have HW6 := Lib.hid (HW.out.keep HC56.out)
                            have k77 := HW6.out.cell 7
                            have f77 := HW6.out.frozen 7
                            obtain ⟨A6, c6, rfl, _⟩ := rown_slice ho6
                            clear ho6 hg6)
    have hR6 := HR5.out.keep HC56.out
    have HR7 := Lib.hid (hR6.far (p := ⟨g6, 7, none⟩) (by simpa using hR6.ne_ HW6.out (by decide)) (.slice A6 m2 c6))
    clear hR6
    obtain ⟨P, hP⟩ : ∃ P : EP, P = ⟨g6, l, pages, most, some ⟨fb, fo, none⟩, n, c, .slice Av xs.length cv, xs, p, mm, rp, rs, w.heap.size, T⟩ := ⟨_, rfl⟩
    have hKT : ∀ i, i ∈ T → P.K i := fun i hi => by subst hP; exact .inr hi
    have hg6lt : w.heap.size ≤ g6 := HG6.out
    have hc6 : Chg [] w w6 := HC5.out.new HC56.out
    have hset : Chg [] w (w6.setCell ⟨g6, 7, none⟩ (.slice A6 m2 c6)) := hc6.setCell (p := ⟨g6, 7, none⟩) (by simp; omega) _
    have hFe : Fe (fun _ => True) [104] w6 (w6.setCell ⟨g6, 7, none⟩ (.slice A6 m2 c6)) := (Fe.refl _ _ _).setw HW6.out trivial (by simp) _
    have hcd7 := (HCD.out.keep HC56.out).fe hFe (by decide) (by decide) (by decide)
    have hcdP : P.cd = l.map codeOf := by subst hP; exact HXM.out
    have hEg : Eg P (w6.setCell ⟨g6, 7, none⟩ (.slice A6 m2 c6)) (.slice A6 m2 c6) (.slice none 0 0) ⟨fuel, args, [], L, V, qs⟩ := by
      have hPg : P.g = g6 := by rw [hP]
      have hPB : P.B = w.heap.size := by rw [hP]
      have hst := rown_lay (j := 7) (u := .slice A6 m2 c6) HO6.out HW6.out (by decide)
      rw [Nat.zero_add, List.nil_append] at hst
      refine { rec_ := ?_, stk := ?_, cal := World.ownsRow_nil _ _ _ _, mem := ?_, row := ?_, cod := ?_, fns := ?_, foff := ?_, gB := by rw [hPg, hPB]; exact hg6lt, room := by rw [hPB]; exact hset.size, pK := ?_, rK := ?_, loc := fun x hx => by simp at hx, fuelb := hfu, stkb := by show args.length + fuel ≤ _; have := HM2.out; omega, calb := by simp, qsb := by show qs.length + fuel ≤ _; have := HNQ.out; omega }
      · have := HW6.out.set_ 7 (.slice A6 m2 c6)
        rw [hPg]
        unfold wkC
        rw [hP]
        simpa using this
      · rw [hPB]
        show World.ownsRow _ w.heap.size 2 1 (.slice A6 m2 c6) args.length (nms args)
        rw [← HM2.out]
        exact hst
      · refine ⟨gC, gD, X, Y, ?_, hKT gC HT.out.2.1, hKT gD HT.out.2.2.1⟩
        have := HMM.out.keep hset
        rw [hP]
        exact this
      · refine ⟨a, q, ?_, fun i hi => hKT i (HQ.out i hi)⟩
        have := HRQ.out.keep hset
        rw [hP]
        exact this
      · rw [hP]; exact hcd7
      · have := HFN.out.keep hset
        rw [hP]
        exact this
      · intro ad had
        have := HAB.out ad (by rw [hP] at had; exact had)
        rw [hP]
        intro hK
        rcases hK with hK | hK
        · have h1 := this.1; simp only at hK; omega
        · exact this.2 hK
      · have := hKT p HT.out.1
        rw [hP] at this ⊢
        exact this
      · have := hKT rp HT.out.2.2.2
        rw [hP] at this ⊢
        exact this
    have hc0 := HDO.out.1
    rw [← hcdP] at hc0
    have HCALL := Lib.hid (ecall_any hEg hc0 (by simp))
    rw [show P.g = g6 from by rw [hP]] at HCALL
    have HSET := Lib.hid hset
    have HP := Lib.hid hP
    have HCDP := Lib.hid hcdP
    have HEG := Lib.hid hEg
    clear hc0 hEg hcdP hcd7 hFe hset hc6 hKT hP k7 f7 k77 f77 HO6 HW6 HC56 HW hg6lt
    generalize w6.setCell ⟨g6, 7, none⟩ (.slice A6 m2 c6) = w7 at HCALL HSET HEG HR7 ⊢
    go_wp2_with fail
    refine HCALL.out.mono ?_
    rintro e w8 ⟨rfl, ⟨vs8, vc8, h8⟩, hf8⟩
    have H8 := Lib.hid h8
    have HF8 := Lib.hid hf8
    clear h8 hf8
    have hrn := HDO.out.2.1
    have HRN := Lib.hid (show Rn P.us P.cd P.rs P.most s0 (tr1, s1) from by
      rw [HCDP.out, HP.out]
      exact Rn.of_run _ hrn)
    have HRUN := Lib.hid (erun_any H8.out HRN.out)
    rw [show P.g = g6 from by rw [HP.out]] at HRUN
    clear hrn
    go_wp2_with fail
    refine HRUN.out.mono ?_
    rintro e w9 ⟨rfl, ⟨vs9, vc9, h9⟩, hf9⟩
    have H9 := Lib.hid h9
    have HF9 := Lib.hid (HF8.out.trans hf9)
    clear h9 hf9
    obtain ⟨zq, hzq⟩ : QR s1 s0 := HRN.out.qs
    obtain ⟨_, _, _, _, hs0⟩ := call_some (P := P) (by rw [HCDP.out]; exact HDO.out.1)
    have hqs1 : s1.qs = qs ++ zq := by rw [hzq, hs0]
    have HQ1 := Lib.hid hqs1
    have hnq1 : nq ≤ s1.qs.length := by rw [hqs1, List.length_append, ← HNQ.out]; omega
    obtain ⟨m9, hm9⟩ : ∃ m9, m9 = s1.qs.length := ⟨_, rfl⟩
    rw [← hm9] at hnq1
    have HM9 := Lib.hid hm9
    have HPG := Lib.hid (show P.g = g6 from by rw [HP.out])
    have HPR := Lib.hid (show P.rp = rp ∧ P.rs = rs from by rw [HP.out]; exact ⟨rfl, rfl⟩)
    have HR9 := Lib.hid (HF9.out.whole HR7.out (by decide))
    have k6 : w9.cell? ⟨g6, 6, none⟩ = some (.int .i64 (s1.fuel : Int)) := by rw [← HPG.out]; exact H9.out.rec_.cell 6
    obtain ⟨a9, q9, hR9, hK9⟩ := H9.out.row
    rw [HPR.out.1, HPR.out.2] at hR9
    have HRW := Lib.hid hR9
    have HKW := Lib.hid hK9
    have HAS9 := Lib.hid (fun (w' : World) (hc : Chg [] w9 w') => asks_every (hR9.keep hc) (by have := H9.out.qsb; omega))
    have HD9 := Lib.hid ((Chg.refl [] w9).drew)
    have HZ9 := Lib.hid ((Chg.refl [] w9.drew).alloc (.cells #[.int .i64 0, .int .i64 0, .int .i64 0, .slice none 0 0] 34))
    have HZN9 := Lib.hid (show Whole (w9.drew.alloc (.cells #[.int .i64 0, .int .i64 0, .int .i64 0, .slice none 0 0] 34)) w9.heap.size 34 [.int .i64 0, .int .i64 0, .int .i64 0, .slice none 0 0] from Whole.new w9.drew 34 [.int .i64 0, .int .i64 0, .int .i64 0, .slice none 0 0])
    have a6 := cell_keep k6 ((Chg.refl [] w9).alloc (.cells #[.int .i64 0, .int .i64 0, .int .i64 0, .slice none 0 0] 34))
    have hn0 : (0 : Int) ≤ (nq : Int) := by omega
    have hn1 : (nq : Int) ≤ (m9 : Int) := by omega
    clear hzq hs0 hqs1 hR9 hK9 hm9
    go_wp2_with fail
    go_cut [19] (fun v wx => ∃ g9 Ab Ax cb, v = .pointer (some ⟨g9, 0, none⟩) ∧ w9.heap.size ≤ g9 ∧ Hid ((if cb = nq then Ab else Option.map (fun x => x.add (nq * 2)) Ab) = Ax) ∧ Hid (Whole wx g9 34 [.int .i64 0, .int .i64 tr1, .int .i64 (s1.fuel : Int), .slice Ax (m9 - nq) (cb - nq)]) ∧ Hid (wx.ownsRow 0 53 2 (.slice Ab m9 cb) m9 (qsC s1.qs)) ∧ Hid (Chg [] w9 wx))
    case first =>
      go_region_with (go_at_call 20
                      refine (HAS9.out _ (by first | exact HD9.out | exact HD9.out.new HZ9.out)).mono ?_
                      rintro e wb ⟨vb, rfl, hqb, hcb⟩
                      rw [← HM9.out] at hqb
                      obtain ⟨Ab, cb, rfl, hcb1, _, _⟩ := rown_slice hqb
                      have HSB := Lib.hid hqb
                      obtain ⟨Ax, hAx⟩ : ∃ Ax, (if cb = nq then Ab else Option.map (fun x => x.add (nq * 2)) Ab) = Ax := ⟨_, rfl⟩
                      have HCB := Lib.hid hcb
                      have v6 := cell_keep k6 (by first | exact HD9.out.new HCB.out | exact (HD9.out.new HZ9.out).new HCB.out)
                      have b6 := cell_keep v6 ((Chg.refl [] wb).alloc (.cells #[.int .i64 0, .int .i64 0, .int .i64 0, .slice none 0 0] 34))
                      clear hqb hcb
                      first
                        | (have hz5 := HZN9.out.keep HCB.out; have z0 := hz5.cell 0; have y0 := hz5.frozen 0; have z1 := hz5.cell 1; have y1 := hz5.frozen 1; have z2 := hz5.cell 2; have y2 := hz5.frozen 2; have z3 := hz5.cell 3; have y3 := hz5.frozen 3)
                        | skip)
      all_goals go_wp2_with fail
      all_goals go_meet
      all_goals
        first
          | (obtain ⟨q1, q2, q3⟩ := res_laid (w4 := w9) rfl hz5 ((HD9.out.new HZ9.out).new HCB.out) (Nat.le_refl _) (.int .i64 0) (.int .i64 tr1) (.int .i64 (s1.fuel : Int)) (.slice Ax (m9 - nq) (cb - nq))
             exact ⟨_, Ab, Ax, cb, rfl, Nat.le_refl _, Lib.hid hAx, Lib.hid q1, Lib.hid (q2.own (own_more_n HSB.out (Nat.zero_le _)) (by decide)), Lib.hid q3⟩)
          | (have hcb9 := HD9.out.new HCB.out
             have hal := (Chg.refl [] wb).alloc (.cells #[.int .i64 0, .int .i64 tr1, .int .i64 (s1.fuel : Int), (.slice Ax (m9 - nq) (cb - nq))] 34)
             exact ⟨_, Ab, Ax, cb, rfl, hcb9.size, Lib.hid hAx, Lib.hid (Whole.new wb 34 [.int .i64 0, .int .i64 tr1, .int .i64 (s1.fuel : Int), .slice Ax (m9 - nq) (cb - nq)]), Lib.hid (rown_keep (own_more_n HSB.out (Nat.zero_le _)) hal), Lib.hid (hcb9.new hal)⟩)
    case rest =>
      obtain ⟨g9, Ab, Ax, cb, rfl, hg9, HAX, HRS, HRO, HCw⟩ := hcut
      obtain ⟨w10, hw10⟩ : ∃ w10 : World, w10 = wc := ⟨_, rfl⟩
      subst hw10
      have H10 := Lib.hid (H9.out.keep HCw.out)
      have HO10 := Lib.hid (HR9.out.keep HCw.out)
      have HF10 := Lib.hid (HF9.out.new HCw.out)
      have hend := HDO.out.2.2
      have HGN := Lib.hid (show g9 ≠ g1 + 1 from by have := HR9.out.lt; omega)
      have r0 := HRS.out.cell 0
      have r1 := HRS.out.cell 1
      have r2 := HRS.out.cell 2
      have r3 := HRS.out.cell 3
      have fr0 := HRS.out.frozen 0
      have HG9 := Lib.hid (show w.heap.size ≤ g9 from by have h1 := HSET.out.size; have h2 := HF9.out.size; omega)
      clear k6 a6 HRW HKW HAS9 HD9 HZ9 HZN9 HR9 hg9
      by_cases htr : tr1 = 0
      · subst htr
        rw [if_pos rfl] at hend
        cases hp : s1.pop with
        | none => rw [hp] at hend; cases hend
        | some z =>
          obtain ⟨y, s2⟩ := z
          rw [hp] at hend
          simp only [Option.map_some] at hend
          injection hend with hend
          injection hend with he1 he2
          injection he2 with he2 he3
          subst he1 he2 he3
          have HPOP := Lib.hid (epop_3 H10.out hp)
          rw [HPG.out] at HPOP
          have HFU2 := Lib.hid (show s2.fuel = s1.fuel ∧ s2.qs = s1.qs from ⟨pop_fu hp, (pop_rest hp).2.2⟩)
          clear hp
          go_wp2_with fail
          refine HPOP.out.mono ?_
          rintro e w11 ⟨rfl, ⟨vs11, vc11, h11⟩, hf11⟩
          have H11 := Lib.hid h11
          have HO11 := Lib.hid (hf11.whole HO10.out (by decide))
          have HRS11 := Lib.hid (hf11.whole HRS.out (by decide))
          have HRO11 := Lib.hid (hf11.own HRO.out (by decide))
          have HF11 := Lib.hid (HF10.out.trans (hf11.sub eg3_sub))
          clear h11 hf11 r0 r1 r2 r3 fr0 H10 HO10 HRS HRO HF10
          have r0 := HRS11.out.cell 0
          have fr0 := HRS11.out.frozen 0
          go_upto_region 19 with fail
          have HRS12 := Lib.hid (HRS11.out.set_ 0 (.int .i64 y))
          have HO12 := Lib.hid (HO11.out.far (p := ⟨g9, 0, none⟩) (by have := HGN.out; simpa using Ne.symm this) (.int .i64 y))
          have HFE := Lib.hid (show Fe (fun _ => True) [34] w11 (w11.setCell ⟨g9, 0, none⟩ (.int .i64 y)) from (Fe.refl _ _ _).setw HRS11.out trivial (by simp) _)
          have HEND := Lib.hid (run_end (w := w) (P := P) (T := T) (p := p) (most := mm) (rp := rp) (rs := rs) (nq := nq) (m9 := m9) (gO := g1 + 1) (val := y) (trap := 0) (by rw [HP.out]; exact ⟨rfl, rfl, rfl, rfl, rfl, rfl⟩) HSET.out HF11.out H11.out HFE.out (.inr ⟨g9, .int .i64 y, HG9.out, rfl⟩) HAX.out (by rw [HFU2.out.2]; exact HRO11.out) (by rw [HFU2.out.2]; exact HM9.out) hnq1 HO12.out (by have := HG1.out; omega) _ rfl)
          rw [HFU2.out.1] at HEND
          generalize w11.setCell ⟨g9, 0, none⟩ (.int .i64 y) = w12 at HRS12 HO12 HFE HEND ⊢
          clear r0 fr0
          have r0 := HRS12.out.cell 0
          have r1 := HRS12.out.cell 1
          have r2 := HRS12.out.cell 2
          have r3 := HRS12.out.cell 3
          have o0 := HO12.out.cell 0
          have o1 := HO12.out.cell 1
          have o2 := HO12.out.cell 2
          have o3 := HO12.out.cell 3
          have p0 := HO12.out.frozen 0
          have p1 := HO12.out.frozen 1
          have p2 := HO12.out.frozen 2
          have p3 := HO12.out.frozen 3
          go_wp2_with fail
          have e0 := HEND.out.1.cell 0
          have e1 := HEND.out.1.cell 1
          have e2 := HEND.out.1.cell 2
          have e3 := HEND.out.1.cell 3
          generalize (((w12.setCell ⟨g1 + 1, 0, none⟩ (.int .i64 y)).setCell ⟨g1 + 1, 1, none⟩ (.int .i64 0)).setCell ⟨g1 + 1, 2, none⟩ (.int .i64 (s1.fuel : Int))).setCell ⟨g1 + 1, 3, none⟩ (.slice Ax (m9 - nq) (cb - nq)) = wf at HEND e0 e1 e2 e3 ⊢
          simp only [List.getElem?_cons_zero, List.getElem?_cons_succ] at e0 e1 e2 e3
          refine bodyPost_ret (v := .tuple #[.agg #[.int .i64 y, .int .i64 0, .int .i64 (s1.fuel : Int), .slice Ax (m9 - nq) (cb - nq)], .int .i64 0]) (by simp [results, Try.results13, go_sem, e0, e1, e2, e3]) rfl HEND.out.2
      · rw [if_neg htr] at hend
        injection hend with hend
        injection hend with he1 he2
        injection he2 with he2 he3
        subst he1 he2 he3
        have hz1 : (tr1 == 0) = false := by simpa using htr
        have o0 := HO10.out.cell 0
        have o1 := HO10.out.cell 1
        have o2 := HO10.out.cell 2
        have o3 := HO10.out.cell 3
        have p0 := HO10.out.frozen 0
        have p1 := HO10.out.frozen 1
        have p2 := HO10.out.frozen 2
        have p3 := HO10.out.frozen 3
        have HEND := Lib.hid (run_end (w := w) (P := P) (T := T) (p := p) (most := mm) (rp := rp) (rs := rs) (nq := nq) (m9 := m9) (gO := g1 + 1) (val := 0) (trap := tr1) (by rw [HP.out]; exact ⟨rfl, rfl, rfl, rfl, rfl, rfl⟩) HSET.out HF10.out H10.out (Fe.refl _ _ _) (.inl (Chg.refl _ _)) HAX.out HRO.out HM9.out hnq1 HO10.out (by have := HG1.out; omega) _ rfl)
        clear htr
        go_wp2_with fail
        have e0 := HEND.out.1.cell 0
        have e1 := HEND.out.1.cell 1
        have e2 := HEND.out.1.cell 2
        have e3 := HEND.out.1.cell 3
        generalize (((w10.setCell ⟨g1 + 1, 0, none⟩ (.int .i64 0)).setCell ⟨g1 + 1, 1, none⟩ (.int .i64 tr1)).setCell ⟨g1 + 1, 2, none⟩ (.int .i64 (s1.fuel : Int))).setCell ⟨g1 + 1, 3, none⟩ (.slice Ax (m9 - nq) (cb - nq)) = wf at HEND e0 e1 e2 e3 ⊢
        simp only [List.getElem?_cons_zero, List.getElem?_cons_succ] at e0 e1 e2 e3
        refine bodyPost_ret (v := .tuple #[.agg #[.int .i64 0, .int .i64 tr1, .int .i64 (s1.fuel : Int), .slice Ax (m9 - nq) (cb - nq)], .int .i64 0]) (by simp [results, Try.results13, go_sem, e0, e1, e2, e3]) rfl HEND.out.2
end
end Go.Proofs.Ytfhgnoajfipjdaa
