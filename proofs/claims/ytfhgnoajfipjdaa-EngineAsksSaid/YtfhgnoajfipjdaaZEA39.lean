/-
  EA: LawEngineAsks.
-/
import Derived.Test.YtfhgnoajfipjdaaZEA34
import Derived.Test.YtfhgnoajfipjdaaZEA37
import Derived.Test.YtfhgnoajfipjdaaZEA38
import Derived.Deep.QuietTactic
import Derived.BigQuiet
namespace Go.Proofs.Ytfhgnoajfipjdaa
open Go.RowKit
theorem askU_right : RightU 0 0 askU := by
  refine ⟨by decide, by decide, by decide, by simp [askU], fun k f hf => ?_, fun k hk => ?_, fun f hf => ?_⟩
  · cases k with
    | zero => simp only [askU, List.getElem?_cons_zero, Option.some.injEq] at hf; subst hf; exact ⟨by show nameB 102 = true; decide, by simp [findI, findK, askU], by show (0 : Int) ≤ 1; decide, by show (1 : Int) ≤ 4; decide⟩
    | succ k => simp [askU] at hf
  · obtain rfl : k = 0 := by simp [askU] at hk; omega
    decide +kernel
  · simp only [askU, List.mem_singleton] at hf
    subst hf
    show ByteArray.size _ ≤ _
    decide
def askQs (x : Int) : List (Int × Int) := [(113, x), (114, wrap64 (x + 1))]
/-- What a run tells. -/
def AskU (N : Nat → Prop) (p rp : Nat) (qs : List (Int × Int)) (x : Int) (W : World) (u : Value) : Prop :=
  QSl W u (askQs x) ∧ (∃ gC gD X Y, Mm W p gC gD [] X [] Y 0 ∧ N gC ∧ N gD) ∧ ∃ a q, Rq W rp [] (qs ++ askQs x) a q ∧ ∀ i, q.ownBlock = some i → N i
theorem askU_keep {N : Nat → Prop} {p rp : Nat} {qs : List (Int × Int)} {x : Int} : KeepP (AskU N p rp qs x) := fun K a b u hf ⟨h1, ⟨gC, gD, X, Y, h2, h3⟩, a1, q1, h4, h5⟩ =>
  ⟨h1.fe hf (by decide), ⟨gC, gD, X, Y, hf.mm h2 (by decide) (by decide) (by decide), h3⟩, a1, q1, h4.fe hf (by decide) (by decide) (by decide), h5⟩
theorem rq_len {W : World} {p : Nat} {rs rs' : List (Option Int)} {qs qs' : List (Int × Int)} {a a' q q' : Value} (h : Rq W p rs qs a q) (h' : Rq W p rs' qs' a' q') : qs.length = qs'.length := by
  have e : W.heap[p]? = _ := h.rec_
  have e' : W.heap[p]? = _ := h'.rec_
  rw [e] at e'
  injection e' with e'
  injection e' with e' _ _
  have e3 := congrArg Array.toList e'
  simp only [List.cons.injEq, and_true] at e3
  have hq : q = q' := e3.2
  obtain ⟨A, c, e1, _⟩ := rown_slice h.asks
  obtain ⟨A', c', e2, _⟩ := rown_slice h'.asks
  rw [hq, e2] at e1
  injection e1 with _ e1 _
  exact e1.symm
theorem src_away {w w' : World} {A : Option Addr} {xs : List Value} {T : List Nat} (h : Src w A xs) (hc : Chg T w w') (hA : ∀ ad, A = some ad → ad.block ∉ T) : Src w' A xs := fun hp => by
  obtain ⟨ad, e, hb, hx⟩ := h hp
  refine ⟨ad, e, Nat.lt_of_lt_of_le hb hc.size, fun j v hj => ?_⟩
  rw [← hx j v hj]
  refine World.cell?_of_block ?_
  rw [show (ad.add j).block = ad.block from by unfold Addr.add; split <;> rfl]
  exact hc.block _ hb (hA ad e)
def askTS : List TypeId := 34 :: 53 :: egTS
section
variable {w : World} {TA : Option Addr} {tn tc : Nat} {vs : List Int}
set_option maxHeartbeats 16000000 in
set_option maxRecDepth 100000 in
theorem engineAsks_any (hs : Src w TA (nms vs)) (hlen : vs.length = tn) (hspot : 0 < tn → ∀ ad, TA = some ad → ad.spot = none) (hn : tn ≤ 9223372036854775807) (hrng : ∀ x ∈ vs, -9223372036854775808 ≤ x ∧ x ≤ 9223372036854775807) :
    Calls Try.prog 5 #[.slice TA tn tc] w (LawPost w) := by
  have HS := Lib.hid hs
  have HLN := Lib.hid hlen
  have HSP := Lib.hid hspot
  have HRG := Lib.hid hrng
  clear hs hlen hspot hrng
  go_enter Try.func5, Try.ntmps5
  go_wp2_with fail
  refine (rnew_any (vs := []) (rs := []) Nums.nil (fun h => absurd h (by simp)) (fun ad h => by cases h) rfl (Nat.le_refl 0) 0 rfl).mono ?_
  rintro e w1 ⟨rp, av, rfl, hR, hrp, hc1⟩
  have HR := Lib.hid hR
  have HRP := Lib.hid hrp
  have HC1 := Lib.hid hc1
  clear hR hrp hc1
  go_wp2_with fail
  refine (cnew_yes 0 0 (by omega) (by omega)).mono ?_
  rintro e w2 ⟨p, gC, gD, rfl, hM, hp, hgC, hgD, hc2⟩
  have HM := Lib.hid hM
  have HPB := Lib.hid (show w.heap.size ≤ p ∧ w.heap.size ≤ gC ∧ w.heap.size ≤ gD by have := HC1.out.size; omega)
  have HR2 := Lib.hid (HR.out.keep hc2)
  have HC2 := Lib.hid (HC1.out.new hc2)
  clear hM hp hgC hgD hc2
  go_upto_region 4 with fail
  generalize hw3 : (w2.alloc (.cells #[.int .i32 102, .int .i64 1, .string { data := #[97, 207, 128, 113, 44, 97, 32, 49, 43, 207, 128, 114] }] 51)).alloc (.cells #[.int .i64 0, .int .i64 0, .slice (some ⟨w2.heap.size, 0, none⟩) 1 1] 28) = w3
  obtain ⟨hU3, hF3, hC3, hS3⟩ := unit_laid w2 askU 0 0 1 rfl (by decide) (by decide) #[.int .i32 102, .int .i64 1, .string { data := #[97, 207, 128, 113, 44, 97, 32, 49, 43, 207, 128, 114] }] rfl hw3
  have hgf : w2.heap.size < w3.heap.size ∧ w.heap.size ≤ w2.heap.size ∧ p < w2.heap.size ∧ gC < w2.heap.size ∧ gD < w2.heap.size ∧ rp < w2.heap.size := ⟨by omega, HC2.out.size, HM.out.rec_.lt, HM.out.cel.lt, HM.out.dir.lt, HR2.out.rec_.lt⟩
  clear hw3 hS3
  generalize w2.heap.size = gf at hU3 hF3 hgf ⊢
  generalize gf + 1 = gu at hU3 ⊢
  have HM3 := Lib.hid (HM.out.keep hC3)
  have HR3 := Lib.hid (HR2.out.keep hC3)
  have HU3 := Lib.hid hU3
  have HF3 := Lib.hid hF3
  have HC3 := Lib.hid (HC2.out.new hC3)
  have HGF := Lib.hid hgf
  clear hU3 hF3 hC3 hgf
  obtain ⟨N, hN⟩ : ∃ N : Nat → Prop, N = fun i => w.heap.size ≤ i ∧ i ≠ gf := ⟨_, rfl⟩
  have HN := Lib.hid hN
  clear hN
  go_wp2_with fail
  go_loopw [6] (fun i wr => ∃ (k gC gD : Nat) (X Y : List Value) (a q : Value) (qs : List (Int × Int)), i = .int .i64 (k : Int) ∧ k ≤ 6 ∧ k ≤ tn ∧ Hid (qs.length = 2 * k) ∧ Hid (Mm wr p gC gD [] X [] Y 0) ∧ Hid (Rq wr rp [] qs a q) ∧ Hid (N gC ∧ N gD ∧ ∀ i, q.ownBlock = some i → N i) ∧
    Hid (Whole wr gu 28 [.int .i64 0, .int .i64 0, .slice (some ⟨gf, 0, none⟩) 1 1]) ∧ Hid (Fnr wr (some ⟨gf, 0, none⟩) 1 1 askU) ∧ Hid (w3.heap.size ≤ wr.heap.size) ∧ Hid (Chg [] w wr)) (fun i _ => 6 - (intOf i).toNat)
  case atStart => exact ⟨0, gC, gD, _, _, av, .slice none 0 0, [], rfl, Nat.zero_le _, Nat.zero_le _, Lib.hid rfl, HM3, HR3, Lib.hid ⟨by rw [HN.out]; exact ⟨HPB.out.2.1, by have := HGF.out; omega⟩, by rw [HN.out]; exact ⟨HPB.out.2.2, by have := HGF.out; omega⟩, fun i hi => by simp [Value.ownBlock] at hi⟩, HU3, HF3, Lib.hid (Nat.le_refl _), HC3⟩
  case round =>
    obtain ⟨k, gC, gD, X, Y, a, q, qs, rfl, hk6, hkn, hql, HMr, HRr, HGr, HUr, HFr, HSr, HCr⟩ := hrel
    clear HM HR HR2 HM3 HR3 HU3 HF3 HC3 HC2 HC1
    by_cases hlt : k < tn ∧ k < 6
    · obtain ⟨hlt1, hlt2⟩ := hlt
      have hkI : decide ((k : Int) < (tn : Int)) = true := decide_eq_true (by omega)
      have hkI2 : decide ((k : Int) < 6) = true := decide_eq_true (by omega)
      obtain ⟨ad, hTA, hab, hx⟩ := HS.out (by rw [nms_len]; have := HLN.out; omega)
      obtain ⟨b1, o1, s1⟩ := ad
      obtain rfl : s1 = none := HSP.out (by omega) _ hTA
      have hx1 := hx k _ (nms_get vs k (by have := HLN.out; omega))
      rw [add_plain] at hx1
      subst hTA
      have hxr := HRG.out _ (List.getElem_mem (l := vs) (n := k) (by have := HLN.out; omega))
      generalize hxe : vs[k]'(by have := HLN.out; omega) = x at hx1 hxr
      have HXC := Lib.hid (show b1 < w.heap.size ∧ w.cell? ⟨b1, o1 + k, none⟩ = some (.int .i64 x) from ⟨hab, hx1⟩)
      have HXR := Lib.hid hxr
      clear hxe hx hx1 hxr hab
      go_upto_region 7 with fail
      obtain ⟨TL, hTL⟩ : ∃ TL, TL = p :: gC :: gD :: rp :: q.ownBlock.toList := ⟨_, rfl⟩
      have HTL := Lib.hid (show p ∈ TL ∧ gC ∈ TL ∧ gD ∈ TL ∧ rp ∈ TL ∧ (∀ i, q.ownBlock = some i → i ∈ TL) ∧ (∀ i ∈ TL, i = p ∨ i = gC ∨ i = gD ∨ i = rp ∨ q.ownBlock = some i) ∧ (∀ i ∈ TL, N i) by
        subst hTL
        have h3 := HGr.out
        refine ⟨by simp, by simp, by simp, by simp, fun i hi => by simp [hi], fun i hi => by simpa [eq_comm] using hi, fun i hi => ?_⟩
        simp only [List.mem_cons, Option.mem_toList] at hi
        rcases hi with rfl | rfl | rfl | rfl | hi
        · rw [HN.out]; exact ⟨HPB.out.1, by have := HGF.out; omega⟩
        · exact h3.1
        · exact h3.2.1
        · rw [HN.out]; exact ⟨by have h1 := HRP.out; omega, by have := HGF.out; omega⟩
        · exact h3.2.2 i hi)
      clear hTL
      have KP : KeepP (AskU N p rp qs x) := askU_keep
      have KR := keepP_res (val := 0) (trap := 0) (fuel := 13) KP
      have TOK := ewT_ok (B := wr.heap.size) (Tl := TL) (TS := askTS) (hard := [8]) (soft := [1, 8, 9, 10]) KR (by decide)
      refine F2.wp_flow (by kernel_rfl) (ewT wr.heap.size TL askTS (resW 0 0 13 (AskU N p rp qs x)) [8] [1, 8, 9, 10]) TOK (by kernel_rfl) (by kernel_rfl) ?_
      refine F2.flow1h (r := .agg #[.int .i64 0, .int .i64 0, .slice (some ⟨gf, 0, none⟩) 1 1]) TOK rfl (.out rfl rfl) rfl (fun ev W he hW e1 => by have hu := hW.fe.whole (show Whole wr.drew gu 28 _ from HUr.out) (by decide); have c0 := hu.cell 0; have c1 := hu.cell 1; have c2 := hu.cell 2; clear hu; go_simp) ?_
      refine ew_mem KR (show Mm wr.drew p gC gD [] X [] Y 0 from HMr.out.keep (Chg.refl [] wr).drew) ⟨HTL.out.1, HTL.out.2.1, HTL.out.2.2.1⟩ rfl rfl (.out rfl rfl) rfl (by intro h; cases h) ?_
      refine F2.flow_move_out TOK rfl rfl rfl (h := ?_)
      refine F2.flow_move_out TOK rfl rfl rfl (h := ?_)
      refine F2.flow_move_out TOK rfl rfl rfl (h := ?_)
      refine F2.flow2 (r := .pointer (some ⟨b1, o1 + k, none⟩)) TOK rfl (.inn rfl) (.inn rfl) rfl (fun ev W he e1 e2 => by (have h0 : (0 : Int) ≤ (k : Int) := by omega); (have h1 : (k : Int) < (tn : Int) := by omega); go_simp) ?_
      refine F2.flow1h (r := .int .i64 x) TOK rfl (.inn rfl) rfl (fun ev W he hW e1 => by
        have hb := HXC.out.1
        have hbr : b1 < wr.heap.size := Nat.lt_of_lt_of_le hb HCr.out.size
        have hc0 : W.cell? ⟨b1, o1 + k, none⟩ = some (.int .i64 x) := by
          rw [World.cell?_of_block (w := wr.drew) (hW.fe.block b1 hbr (.inl fun hm => by
            rcases hm with hm | hm
            · omega
            · have := HTL.out.2.2.2.2.2.2 b1 hm; rw [HN.out] at this; omega)), ← HXC.out.2]
          exact World.cell?_of_block (w := w) (HCr.out.block b1 hb (by simp))
        go_simp) ?_
      refine ew_args KR 1 [x] (by decide) (Nat.le_refl _) (fun ev W he hf => by have e0 : ev (.tmp 31) = .int .i64 x := hf.1; clear hf; go_simp; rfl) rfl (by intro h; cases h) ?_
      refine ew_run KP rfl rfl rfl (by kernel_rfl) (Nat.le_refl _) (fun ev W he hc hfs => ?_) rfl (by intro h; cases h) ?_
      · obtain ⟨f1, f2, f3, f4, f5, f6, _⟩ := hfs
        have e1 : ev (.tmp 25) = unitV 0 0 (some ⟨gf, 0, none⟩) 1 1 := f1
        obtain ⟨p', gC', gD', X', Y', e2, hM, ⟨rfl, rfl, rfl⟩, _⟩ : memW wr.heap.size TL (fun p' c' d' => p' = p ∧ c' = gC ∧ d' = gD) [] [] 0 (ev (.tmp 26)) W := f2
        have e3 : ev (.tmp 27) = .pointer (some ⟨rp, 0, none⟩) := f3
        have e4 : ev (.const (.int .i32 102)) = .int .i32 102 := he.const _
        have e5 : ev (.const (.int .i64 20)) = .int .i64 20 := he.const _
        obtain ⟨ga, e6, hga, hgb⟩ : argsF wr.heap.size 1 [x] (ev (.tmp 32)) W := f6
        have hcW : Chg [] wr W := (Chg.refl [] wr).drew.new hc
        have hR := HRr.out.keep hcW
        obtain ⟨t1, t2, t3, t4, t5, t6, t7⟩ := HTL.out
        rw [show Array.map ev #[.tmp 25, .tmp 26, .tmp 27, .const (.int .i32 102), .const (.int .i64 20), .tmp 32] = #[ev (.tmp 25), ev (.tmp 26), ev (.tmp 27), ev (.const (.int .i32 102)), ev (.const (.int .i64 20)), ev (.tmp 32)] by simp]
        rw [e1, e2, e3, e4, e5, e6]
        have hrun := ask_run x 0 [] [] qs
        have hgfW : gf < W.heap.size := by have h1 := HGF.out; have h2 := HSr.out; have h3 := hcW.size; omega
        have hgfT : gf ∉ TL := fun hm => by have := t7 _ hm; rw [HN.out] at this; exact this.2 rfl
        refine (engrun_any (T := TL) (fuel := 20) (k := 0) (f := ⟨102, 1, _⟩) (args := [x]) hM hR (HFr.out.keep hcW) askU_right t1 t2 t3 t4 t5 (fun ad e => by injection e with e; subst e; exact ⟨hgfW, hgfT⟩) rfl rfl rfl (by omega) (by have := hql.out; omega) rfl (Src.of_all hga) hrun).mono ?_
        rintro e w5 ⟨v5, rfl, hQ, ⟨gC5, gD5, X5, Y5, hM5, b1, b2⟩, ⟨a5, q5, hR5, b3⟩, hc5⟩
        have hfe : Fe (fun k => wr.heap.size ≤ k ∨ k ∈ TL) (53 :: egTS) W w5 := fe_run hM hR hc5 t6 (fun i hi => .inr hi) (fun t ht => List.mem_cons_of_mem _ ht) (fun _ => List.mem_cons_self)
        have hwW : w.heap.size ≤ W.heap.size := Nat.le_trans HCr.out.size hcW.size
        refine ⟨v5, rfl, ⟨?_, ⟨gC5, gD5, X5, Y5, hM5, ?_, ?_⟩, a5, q5, hR5, fun i hi => ?_⟩, fun u' hu' => ?_, hfe.sub (fun t ht => List.mem_cons_of_mem _ ht), fun g cs hW => hfe.whole hW (by decide)⟩
        · show QSl w5 v5 [(113, x), (114, wrap64 (x + 1))]
          simpa using hQ
        · rcases b1 with h | h
          · rw [HN.out]; exact ⟨by omega, by omega⟩
          · exact t7 _ h
        · rcases b2 with h | h
          · rw [HN.out]; exact ⟨by omega, by omega⟩
          · exact t7 _ h
        · rcases b3 i hi with h | h
          · rw [HN.out]; exact ⟨by omega, by omega⟩
          · exact t7 _ h
        · obtain ⟨_, _, a6, q6, hR6, _⟩ := hu'
          have := rq_len hR hR6
          simp [askQs] at this
      refine ew_move KR KP rfl rfl rfl (by intro h; cases h) ?_
      refine ew_x0 KR KP rfl rfl rfl (by intro h; cases h) ?_
      refine ew_x1 KR rfl rfl (by intro h; cases h) ?_
      refine ew_var KR (Nat.le_refl _) rfl (by intro h; cases h) (fun ev W => by go_simp) ?_
      refine ew_put KP (by decide) rfl rfl (fun W u hu => by obtain ⟨⟨A, c, rfl, _⟩, _⟩ := hu; rfl) rfl ?_
      refine F2.flow_assign TOK rfl (keeps_isV _) (.inr (keeps_isV _)) rfl ?_
      intro vs5 W hW hF hN
      obtain ⟨gx, cs, ex, hbx, hwx, _, u5, rfl, hu5⟩ := hN 13 _ _ 7 rfl rfl rfl rfl
      have ee : vs5 8 = .int .i64 0 := hF 8 _ rfl rfl
      have hcw : Chg TL wr W := Chg.then_ ((Chg.refl [] wr).drew.sub (fun _ h => by cases h)) (hW.fe.chg (show wr.drew.heap.size ≤ wr.heap.size from Nat.le_refl _)) (fun i hi hl => hi)
      have HC5 := Lib.hid (show Chg [] w W from HCr.out.then_ hcw (fun i hi hl => by have := HTL.out.2.2.2.2.2.2 i hi; rw [HN.out] at this; omega))
      have HU5 := Lib.hid (HUr.out.chg hcw (fun hm => by
        have h1 := HTL.out.2.2.2.2.2.1 gu hm
        rcases h1 with h1 | h1 | h1 | h1 | h1
        · exact (HUr.out.ne_ HMr.out.rec_ (by decide)) h1
        · exact (HUr.out.ne_ HMr.out.cel (by decide)) h1
        · exact (HUr.out.ne_ HMr.out.dir (by decide)) h1
        · exact (HUr.out.ne_ HRr.out.rec_ (by decide)) h1
        · rcases HRr.out.asks.2 with ⟨e, _⟩ | ⟨g, cap, cur, e, _, hh, _⟩
          · rw [e] at h1; simp [Value.ownBlock] at h1
          · rw [e] at h1
            simp only [Value.ownBlock, Option.some.injEq] at h1
            subst h1
            have hu : wr.heap[g]? = _ := HUr.out
            rw [hu] at hh
            injection hh with hh
            injection hh with _ hh _
            exact absurd hh (by decide)))
      have HF5 := Lib.hid (show Fnr W (some ⟨gf, 0, none⟩) 1 1 askU from { HFr.out with src := src_away HFr.out.src hcw (fun ad e => by injection e with e; subst e; exact fun hm => by have := HTL.out.2.2.2.2.2.2 _ hm; rw [HN.out] at this; exact this.2 rfl) })
      have HS5 := Lib.hid (Nat.le_trans HSr.out hcw.size)
      have HX5 := Lib.hid hwx
      have HA5 := Lib.hid hu5
      have HXW := Lib.hid (show W.cell? ⟨b1, o1 + k, none⟩ = some (.int .i64 x) from by
        rw [← HXC.out.2]
        exact World.cell?_of_block (HC5.out.block b1 HXC.out.1 (by simp)))
      simp only [putAll, Act.put, List.setIfInBounds_toArray, List.set_cons_zero, List.set_cons_succ]
      rw [ex, ee]
      clear hF hN hW hwx hcw ex ee hbx TOK KP KR hu5
      obtain ⟨w5, hw5⟩ : ∃ w5 : World, w5 = W := ⟨_, rfl⟩
      rw [← hw5] at HC5 HU5 HF5 HS5 HX5 HA5 HXW ⊢
      clear hw5
      obtain ⟨⟨A5, c5, rfl, hq1, hq2, hq3, _⟩, hM5, hR5⟩ := HA5.out
      obtain ⟨b5, o5, rfl, y0, y1⟩ := qs_cells (k := 0) hq2 hq3 (by simp [askQs])
      obtain ⟨b6, o6, e6, y2, y3⟩ := qs_cells (k := 1) hq2 hq3 (by simp [askQs])
      injection e6 with e6
      injection e6 with e6 e7 _
      subst e6 e7
      have HM5 := Lib.hid hM5
      have HR5 := Lib.hid hR5
      have x0 := HX5.out.cell 0
      have x1 := HX5.out.cell 1
      have x2 := HX5.out.cell 2
      have x3 := HX5.out.cell 3
      have z0 := HXW.out
      clear hq1 hq2 hq3 hM5 hR5
      simp only [askQs, List.length_cons, List.length_nil, List.getElem_cons_zero, List.getElem_cons_succ, Nat.zero_mul, Nat.one_mul, Nat.add_zero] at y0 y1 y2 y3 x3
      have p1 := HXR.out
      have hwx : IntKind.i64.wrap (x + 1) = wrap64 (x + 1) := by rw [IntKind.wrap_i64, wrap64]
      go_upto_region 8 with fail
      go_cut [83] (fun v wx => v = .bool false ∧ Hid (Chg [] w5 wx))
      case first =>
        go_quiet (fail)
        go_wp2_with fail
        go_meet
        exact ⟨rfl, Lib.hid ((Chg.refl [] w5).drewN nq)⟩
      case rest =>
        obtain ⟨rfl, hwc⟩ := hcut
        go_wp2_with fail
        go_roundw
        case rel =>
          obtain ⟨gC6, gD6, X6, Y6, hM6, n1, n2⟩ := HM5.out
          obtain ⟨a6, q6, hR6, n3⟩ := HR5.out
          exact ⟨k + 1, gC6, gD6, X6, Y6, a6, q6, qs ++ askQs x, by go_num, by omega, by omega, Lib.hid (by rw [List.length_append, hql.out]; show 2 * k + 2 = _; omega), Lib.hid (hM6.keep hwc.out), Lib.hid (hR6.keep hwc.out), Lib.hid ⟨n1, n2, n3⟩, Lib.hid (HU5.out.keep hwc.out), Lib.hid (HF5.out.keep hwc.out), Lib.hid (Nat.le_trans HS5.out hwc.out.size), Lib.hid (HC5.out.new hwc.out)⟩
        case measure => simp [intOf]; omega
    · have hmn : min (tn : Int) 6 = (k : Int) := by omega
      have hqc : (qs.length : Int) = 2 * (k : Int) := by have := hql.out; omega
      have hwk : IntKind.i64.wrap (2 * (k : Int)) = 2 * (k : Int) := by rw [IntKind.wrap_i64]; omega
      have hA := asks_every HRr.out (by have := hql.out; omega)
      have HA := Lib.hid hA
      clear hA
      have hcase : (¬ (k : Int) < (tn : Int)) ∨ ((k : Int) < (tn : Int) ∧ ¬ (k : Int) < 6) := by omega
      rcases hcase with hkI | ⟨hkI, hkI2⟩
      all_goals
        go_wp2_with fail
        refine HA.out.mono ?_
        rintro e w6 ⟨v6, rfl, hq6, hc6⟩
        obtain ⟨A6, c6, rfl, _⟩ := rown_slice hq6
        have HC6 := Lib.hid (HCr.out.new hc6)
        generalize qs.length = m at hqc ⊢
        have hqe : ((m : Int) == 2 * (k : Int)) = true := by rw [hqc]; simp
        clear hq6 hc6
        go_wp2_with fail
        refine eknown_any.mono ?_
        rintro e w9 ⟨rfl, hc9⟩
        have HP := Lib.hid (show LawPost w (.returned (.bool true)) w9 from ⟨rfl, HC6.out.new hc9⟩)
        clear hc9
        go_wp2_with fail
        go_ret
        exact HP.out
end
end Go.Proofs.Ytfhgnoajfipjdaa
