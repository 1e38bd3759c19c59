/-
  GL: LawGlB.
-/
import Derived.Test.YtodbeeodhekpeaaDoorZGL1
import Derived.Test.YtodbeeodhekpeaaDoorZGL4
import Derived.Test.YtodbeeodhekpeaaDoorZGL17
import Derived.Test.YtodbeeodhekpeaaDoorZGL33
import Derived.Test.YtodbeeodhekpeaaDoorZGL36
import Derived.Test.YtodbeeodhekpeaaDoorZGL43
import Derived.Test.YtodbeeodhekpeaaDoorZGL46
namespace Go.Proofs.YtodbeeodhekpeaaDoor
open Go.RowKit
open Go.Lib (decDigits encodeRune)
theorem tkCs_drop : ∀ (l : List TkV) (k : Nat), tkCs (l.drop k) = (tkCs l).drop (k * 3)
  | [], k => by simp [tkCs]
  | t :: l, 0 => by simp
  | t :: l, k + 1 => by
    have e : (tkC t).length = 3 := rfl
    rw [List.drop_succ_cons, tkCs, tkCs_drop l k, List.drop_append, e, show (k + 1) * 3 - 3 = k * 3 from by omega, show List.drop ((k + 1) * 3) (tkC t) = [] from List.drop_of_length_le (by rw [e]; omega), List.nil_append]
theorem Tks.take {W : World} {A : Option Addr} {n c k : Nat} {l : List TkV} (h : Tks W A n c l) (hk : k ≤ n) : Tks W A k c (l.take k) := by
  have hc := h.cap
  have hm := h.max
  refine ⟨by rw [List.length_take, h.len]; omega, fun hp => ?_, by omega, by omega, fun h0 => h.spot (by omega)⟩
  rw [tkCs_take, List.length_take, tkCs_len] at hp
  obtain ⟨ad, e, hb, hx⟩ := h.src (by rw [tkCs_len]; omega)
  refine ⟨ad, e, hb, fun j u hj => hx j u ?_⟩
  rw [tkCs_take, List.getElem?_take] at hj
  split at hj
  · exact hj
  · cases hj
theorem Tks.drop {W : World} {A : Option Addr} {n c k : Nat} {l : List TkV} (h : Tks W A n c l) (hk : k ≤ n) : Tks W (if c = k then A else Option.map (fun x => x.add (k * 3)) A) (n - k) (c - k) (l.drop k) := by
  have hc := h.cap
  have hm := h.max
  have hl := h.len
  refine ⟨by rw [List.length_drop, h.len], fun hp => ?_, by omega, by omega, fun h0 ad e => ?_⟩
  · rw [tkCs_drop, List.length_drop, tkCs_len] at hp
    rw [if_neg (by omega)]
    obtain ⟨⟨b, o, s⟩, rfl, hb, hx⟩ := h.src (by rw [tkCs_len]; omega)
    obtain rfl : s = none := h.spot (by omega) _ rfl
    refine ⟨_, rfl, by simp only [add_plain]; exact hb, fun j u hj => ?_⟩
    simp only [add_plain]
    rw [tkCs_drop, List.getElem?_drop] at hj
    have := hx _ _ hj
    rw [add_plain] at this
    rw [show o + k * 3 + j = o + (k * 3 + j) from by omega]
    exact this
  · rw [if_neg (by omega)] at e
    cases hA : A with
    | none => rw [hA] at e; cases e
    | some a =>
      rw [hA] at e
      have hs := h.spot (by omega) a hA
      obtain ⟨b, o, s⟩ := a
      simp only at hs
      subst hs
      simp only [Option.map_some, add_plain] at e
      injection e with e
      subst e
      rfl
def tkF (s : ByteArray) : Fact := fun v W => ∃ A n c, v = .tuple #[.slice A n c, .int .i64 (tokErr s)] ∧ Tks W A n c (toksOf s) ∧ n ≤ 512
def slF (l : List TkV) : Fact := fun v W => ∃ A n c, v = .slice A n c ∧ Tks W A n c l ∧ n ≤ 512
theorem keeps_tk (s : ByteArray) : Keeps (Chg []) (tkF s) := fun _ _ _ ⟨A, n, c, h1, h2, h3⟩ hc => ⟨A, n, c, h1, h2.keep hc, h3⟩
theorem keeps_sl (l : List TkV) : Keeps (Chg []) (slF l) := fun _ _ _ ⟨A, n, c, h1, h2, h3⟩ hc => ⟨A, n, c, h1, h2.keep hc, h3⟩
section
variable {T : Turns} {w0 : World} {a0 : Act} {ops : List Oper} {Q : Exit → Act → World → Prop} {F : Said} {k : Nat} {rest : List Oper} {d : Option Tmp} {ty : TypeId} {pos : String} {af : Array Go.Edge} {g : Option (Nat × Bool)}
theorem flow_tk0 {t : Tmp} {s : ByteArray} (hT : T.Ok) (hk : Keeps T.R (slF (toksOf s))) (hf : T.soft.contains k = true ∨ Keeps T.H (slF (toksOf s))) (hs : look F t = some (tkF s))
    (hg : guardIs ops F true ⟨d, .extract (.tmp t) 0, ty, pos, af, g⟩) (h : Flow Tryd.prog T w0 a0 ops Q ((d, slF (toksOf s)) :: F) (k + 1) rest) :
    Flow Tryd.prog T w0 a0 ops Q F k (⟨d, .extract (.tmp t) 0, ty, pos, af, g⟩ :: rest) := by
  refine flow_op _ hk hf hg (fun ev W he hW hf => ?_) h
  have hf1 : factOf a0 F (.tmp t) (ev (.tmp t)) W := hf.1
  simp only [factOf, hs] at hf1
  obtain ⟨A, n, c, e1, h1, h2⟩ := hf1
  have : (execOp ev ⟨d, .extract (.tmp t) 0, ty, pos, af, g⟩).run Tryd.prog W = .ok (.value (.slice A n c)) W := by go_simp
  rw [this]
  exact ⟨hT.by_refl k W, A, n, c, rfl, h1, h2⟩
theorem flow_tk1 {t : Tmp} {s : ByteArray} (hT : T.Ok) (hs : look F t = some (tkF s))
    (hg : guardIs ops F true ⟨d, .extract (.tmp t) 1, ty, pos, af, g⟩) (h : Flow Tryd.prog T w0 a0 ops Q ((d, isV (.int .i64 (tokErr s))) :: F) (k + 1) rest) :
    Flow Tryd.prog T w0 a0 ops Q F k (⟨d, .extract (.tmp t) 1, ty, pos, af, g⟩ :: rest) := by
  refine flow_op _ (keeps_isV _) (.inr (keeps_isV _)) hg (fun ev W he hW hf => ?_) h
  have hf1 : factOf a0 F (.tmp t) (ev (.tmp t)) W := hf.1
  simp only [factOf, hs] at hf1
  obtain ⟨A, n, c, e1, h1, h2⟩ := hf1
  have : (execOp ev ⟨d, .extract (.tmp t) 1, ty, pos, af, g⟩).run Tryd.prog W = .ok (.value (.int .i64 (tokErr s))) W := by go_simp
  rw [this]
  exact ⟨hT.by_refl k W, rfl⟩
end
/-- What the texts of a right code give. -/
structure BackF (code : ByteArray) (L : List TkV) : Prop where
  toks : toksOf code = L
  err : tokErr code = 0
  few : (txB false L).length ≤ 512
  back : toksOf (strOf (txB false L)) = L ∧ tokErr (strOf (txB false L)) = 0
  ok : ∀ t ∈ L, TkOk t
  len : L.length ≤ 512
theorem back_of {fl : List FnV} {code : ByteArray} (h : (rFunc fl code).1 = 0) : ∃ L, BackF code L := by
  unfold rFunc at h
  cases ht : tokR code with
  | none =>
    rw [ht] at h
    simp only at h
    unfold tokE at h
    split at h <;> omega
  | some ts =>
    have h1 := tok_plain ht
    have e : txC code = txB false ts := by unfold txC toksOf; rw [ht]; rfl
    rw [e] at h1
    have hs : ¬ 512 < code.size := by
      intro hh
      unfold tokR at ht
      rw [if_pos hh] at ht
      cases ht
    have hok : ∀ t ∈ ts, TkOk t := by
      have := toksOf_ok code
      unfold toksOf at this
      rw [ht] at this
      exact this
    have hlen : ts.length ≤ (txB false ts).length := by
      have key : ∀ (l : List TkV) (nb : Bool), (∀ t ∈ l, TkOk t) → l.length ≤ (txB nb l).length := by
        intro l
        induction l with
        | nil => intro nb _; simp
        | cons t l ih =>
          intro nb hl
          have h0 := hl t (by simp)
          have h2 := fun nb => ih nb (fun x hx => hl x (by simp [hx]))
          rcases h0 with ⟨a, _⟩ | ⟨a, _, b⟩ | ⟨a, b, c, _⟩
          · rw [txB_cons_num _ _ _ a, List.length_append, List.length_append]
            have := Lib.nDigits_pos t.n.toNat
            rw [← Lib.decDigits_length] at this
            have := h2 true
            simp; omega
          · rw [txB_cons_named _ _ _ (named_known a).2 a b, List.length_append, List.length_append]
            have := enc_pos t.sign
            have := h2 false
            simp; omega
          · rw [txB_cons_known _ _ _ a b c, List.length_append]
            have := enc_pos t.sign
            have := h2 false
            simp; omega
      exact key ts false hok
    refine ⟨ts, by unfold toksOf; rw [ht]; rfl, by unfold tokErr; rw [ht], by omega, ?_, hok, by omega⟩
    exact tok_text hok (by omega)
theorem parts_of {L : List TkV} (h : ∀ t ∈ L, TkOk t) (k : Nat) (hs : (txB false L).length < 504) : toksOf (strOf (txB false (L.take k) ++ [32, 32] ++ txB false (L.drop k) ++ [32])) = L ∧ tokErr (strOf (txB false (L.take k) ++ [32, 32] ++ txB false (L.drop k) ++ [32])) = 0 := by
  have h1 := txB_part (L.take k) (L.drop k)
  rw [List.take_append_drop] at h1
  have hr : tokR (strOf (txB false (L.take k) ++ [32, 32] ++ txB false (L.drop k) ++ [32])) = some L := by
    rw [gRun_is _ (by rw [strOf_len]; simp; omega)]
    have h2 := tx_parts (L.take k) (L.drop k) (by rw [List.take_append_drop]; exact h)
    rw [List.take_append_drop] at h2
    rw [← h2]
    show gRun (rl _) [] .idle = _
    congr 2
    simp
  unfold toksOf tokErr
  rw [hr]
  exact ⟨rfl, rfl⟩
section
variable {w : World} {A : Option Addr} {n c : Nat} {l : List Int}
set_option maxHeartbeats 8000000 in
set_option maxRecDepth 100000 in
theorem glyphBack_any (hs : Src w A (nms l)) (hlen : l.length = n) (hspot : 0 < n → ∀ ad, A = some ad → ad.spot = none) (hn : n ≤ 9223372036854775807) (hrng : ∀ x ∈ l, -9223372036854775808 ≤ x ∧ x ≤ 9223372036854775807)
    (z : Int) (hz : -9223372036854775808 ≤ z ∧ z ≤ 9223372036854775807) (hP : PowB w.heap.size w) :
    Calls Tryd.prog 6 #[.slice A n c, .int .i64 z] w (BoolPost true w) := by
  have HP := Lib.hid hP
  have HUN := Lib.hid (unit_any (c := c) hs hlen hspot hn hrng)
  clear hs hlen hspot hrng hn hP
  go_enter Tryd.func6, Tryd.ntmps6
  go_wp2_with fail
  refine HUN.out.mono ?_
  rintro e w2 ⟨pg, ms, v, fl, rfl, hp0, hp1, hm0, hm1, ho, hg, hfl0, hc2⟩
  obtain ⟨FA, fc, rfl, hFr⟩ := Fnr.of_own ho (by have := hg.lo; omega) (fun f hf => by have := hg.args f hf; omega)
  have HF2 := Lib.hid hFr
  have HG2 := Lib.hid hg
  have HC2 := Lib.hid hc2
  have hmx := hFr.max
  clear ho hg hFr hp0 hp1 hm0 hm1 hc2 hfl0 HUN
  obtain ⟨fn, hfn⟩ : ∃ fn, fn = fl.length := ⟨_, rfl⟩
  rw [← hfn] at HF2 hmx ⊢
  have HN2 := Lib.hid hfn.symm
  clear hfn
  have hfld := unit_funcs pg ms FA fn fc
  go_wp2_with fail
  go_loopw [19] (fun i wr => ∃ k : Nat, i = .int .i64 (k : Int) ∧ k ≤ fn ∧ Hid (Chg [] w2 wr)) (fun i _ => fn - (intOf i).toNat)
  case atStart => exact ⟨0, rfl, by omega, Lib.hid (Chg.refl [] _)⟩
  case round =>
    obtain ⟨k, rfl, hk, HCr⟩ := hrel
    by_cases hkn : k < fn
    · have hkI : (k : Int) < (fn : Int) := by omega
      obtain ⟨t, htk⟩ : ∃ t, fl[k]? = some t := ⟨fl[k]'(by rw [HN2.out]; exact hkn), by simp⟩
      obtain ⟨L, hL⟩ := back_of (HG2.out.func htk).1
      have htz := HG2.out.size t (List.mem_of_getElem? htk)
      obtain ⟨fb, fo, rfl, hfbl, e0, e1, e2⟩ := (HF2.out.keep HCr.out).cell htk
      obtain ⟨tn, ta, code⟩ := t
      simp only at e0 e1 e2 htz hL
      have HL := Lib.hid hL
      have hsz : code.size ≤ 9223372036854775807 := by omega
      have HRG := Lib.hid (fun t ht => (hL.ok t ht).rng)
      clear htk hL
      go_upto_region 4 with fail
      have hX := Whole.new wr 32 [.int .i32 tn, .int .i64 ta, .string code]
      have hc2 := (Chg.refl [] wr).alloc (.cells #[.int .i32 tn, .int .i64 ta, .string code] 32)
      have HX2 := Lib.hid hX
      have HC3 := Lib.hid (HC2.out.trans (HCr.out.new hc2))
      have HR3 := Lib.hid (HCr.out.new hc2)
      generalize wr.heap.size = gx at HX2 ⊢
      generalize wr.alloc (.cells #[.int .i32 tn, .int .i64 ta, .string code] 32) = w3 at HX2 HC3 HR3 ⊢
      clear hX hc2 e0 e1 e2 hfbl htz
      have x2 := HX2.out.cell 2
      go_wp2_with fail
      refine (gtokens_any code hsz).mono ?_
      rintro e w4 hT4
      obtain ⟨A4, n4, c4, rfl, hT4, hn4, hc4⟩ := tokPost_use hT4
      rw [HL.out.toks] at hT4
      rw [HL.out.err]
      have HT4 := Lib.hid hT4
      have HC4 := Lib.hid (HC3.out.trans hc4)
      have HR4 := Lib.hid (HR3.out.trans hc4)
      clear hT4 hc4 x2 hsz HX2
      go_wp2_with fail
      refine (gtext_any HT4.out HRG.out (by omega) (HP.out.here HC4.out)).mono ?_
      rintro e w5 ⟨rfl, hc5⟩
      have HT5 := Lib.hid (HT4.out.keep hc5)
      have HC5 := Lib.hid (HC4.out.trans hc5)
      have HR5 := Lib.hid (HR4.out.trans hc5)
      clear hc5
      obtain ⟨S, hS⟩ : ∃ S, S = strOf (txB false L) := ⟨_, rfl⟩
      rw [← hS]
      have HS := Lib.hid hS
      have hSl : S.size = (txB false L).length := by rw [hS, strOf_len]
      have HSL := Lib.hid hSl
      have hS512 : S.size ≤ 512 := by rw [hSl]; exact HL.out.few
      clear hS hSl
      go_wp2_with fail
      refine (gtokens_any S (by omega)).mono ?_
      rintro e w6 hT6
      obtain ⟨A6, n6, c6, rfl, hT6, hn6, hc6⟩ := tokPost_use hT6
      have hback := HL.out.back
      rw [← HS.out] at hback
      rw [hback.1] at hT6
      rw [hback.2]
      obtain rfl : n6 = n4 := by rw [← hT6.len, ← HT5.out.len]
      have HT6 := Lib.hid hT6
      have HTA := Lib.hid (HT5.out.keep hc6)
      have HC6 := Lib.hid (HC5.out.trans hc6)
      have HR6 := Lib.hid (HR5.out.trans hc6)
      clear hT6 hc6 hback HT4 HT5 HC4 HC5 HR4 HR5 HR3 HC3
      have hn60 : (0 : Int) ≤ (n6 : Int) := by omega
      go_wp2_with (first
        | (go_at_call 20
           with_reducible refine (toks_same HTA.out HT6.out).mono ?_
           rintro e w7 ⟨rfl, hc7⟩
           have HT7 := Lib.hid (HT6.out.keep hc7)
           have HTB := Lib.hid (HTA.out.keep hc7)
           have HC7 := Lib.hid (HC6.out.trans hc7)
           have HR7 := Lib.hid (HR6.out.trans hc7)
           clear hc7)
        | (go_at_call 17
           with_reducible refine (gtext_any HT7.out HRG.out (by omega) (HP.out.here HC7.out)).mono ?_
           rintro e w8 ⟨rfl, hc8⟩
           rw [← HS.out]
           have HTC := Lib.hid (HTB.out.keep hc8)
           have HC8 := Lib.hid (HC7.out.trans hc8)
           have HR8 := Lib.hid (HR7.out.trans hc8)
           clear hc8)
        | (go_at_call 10
           with_reducible refine (within_any z 0 (n6 : Int) (by omega) (by omega) (by omega) hz.1 hz.2).mono ?_
           rintro e w9 ⟨q, hq, rfl, rfl⟩))
      obtain ⟨p, rfl⟩ : ∃ p : Nat, q = (p : Int) := ⟨q.toNat, by have := hq.1; omega⟩
      have hpn : p ≤ n6 := by have := hq.2.1; omega
      have hpI : (p : Int) ≤ (n6 : Int) := by omega
      have hp0 : (0 : Int) ≤ (p : Int) := by omega
      have hcap := HTC.out.cap
      have hcI : (p : Int) ≤ (c4 : Int) := by omega
      have hcJ : (n6 : Int) ≤ (c4 : Int) := by omega
      have hps : p ≤ c4 := by omega
      clear hq
      have HRT := Lib.hid (fun t (ht : t ∈ L.take p) => HRG.out t (List.mem_of_mem_take ht))
      have HRD := Lib.hid (fun t (ht : t ∈ L.drop p) => HRG.out t (List.mem_of_mem_drop ht))
      have HPT := Lib.hid (fun (h : (txB false L).length < 504) => parts_of HL.out.ok p h)
      have hla := (txB_part (L.take p) (L.drop p))
      rw [List.take_append_drop] at hla
      have hlf := HL.out.few
      obtain ⟨TA, hTA⟩ : ∃ TA, TA = txB false (L.take p) := ⟨_, rfl⟩
      obtain ⟨TD, hTD⟩ : ∃ TD, TD = txB false (L.drop p) := ⟨_, rfl⟩
      rw [← hTA, ← hTD] at hla
      rw [← hTA, ← hTD] at HPT
      have HA := Lib.hid hTA
      have HD := Lib.hid hTD
      have HLA := Lib.hid (show TA.length + TD.length ≤ 512 from by omega)
      clear hTA hTD hla hlf
      obtain ⟨S2, hS2⟩ : ∃ S2, S2 = strOf (TA ++ [32, 32] ++ TD ++ [32]) := ⟨_, rfl⟩
      rw [← hS2] at HPT
      have HS2 := Lib.hid (show S2.size ≤ 9223372036854775807 from by rw [hS2, strOf_len]; have := HLA.out; simp; omega)
      have HS3 := Lib.hid hS2
      clear hS2
      have hadd1 : ∀ W, (Op.stringOp .add (strOf TA) ⟨#[32, 32]⟩).run Tryd.prog W = .ok (.string (strOf (TA ++ [32, 32]))) W := fun W => str_add TA [32, 32] (by have := HLA.out; simp; omega) W
      have hadd2 : ∀ W, (Op.stringOp .add (strOf (TA ++ [32, 32])) (strOf TD)).run Tryd.prog W = .ok (.string (strOf (TA ++ [32, 32] ++ TD))) W := fun W => str_add _ _ (by have := HLA.out; simp; omega) W
      have hadd3 : ∀ W, (Op.stringOp .add (strOf (TA ++ [32, 32] ++ TD)) ⟨#[32]⟩).run Tryd.prog W = .ok (.string S2) W := fun W => by rw [HS3.out]; exact str_add _ [32] (by have := HLA.out; simp; omega) W
      obtain ⟨Ad, hAd⟩ : ∃ Ad, (if c4 = p then A4 else Option.map (fun x => x.add (p * 3)) A4) = Ad := ⟨_, rfl⟩
      have HDR := Lib.hid (show Tks w8 Ad (n6 - p) (c4 - p) (L.drop p) from by rw [← hAd]; exact HTC.out.drop hpn)
      have HTK := Lib.hid (HTC.out.take hpn)
      generalize strOf (TA ++ [32, 32] ++ TD) = Z3 at hadd2 hadd3
      generalize strOf (TA ++ [32, 32]) = Z2 at hadd1 hadd2
      have HHW := Lib.hid (fun (W : World) (h : Chg [] w8.drew W) => (show Chg [] w8 W from (Chg.refl [] w8).drew.trans h))
      refine wp_flow (by kernel_rfl) plainT plainT_ok (by kernel_rfl) ?_
      refine flow_move_out plainT_ok rfl rfl rfl ?_
      refine flow_move_out plainT_ok rfl rfl rfl ?_
      refine flow_slice_hi (r := .slice A4 p c4) plainT_ok (.inn rfl) (.inn rfl) (fun ev W he e1 e2 => by go_simp) rfl ?_
      refine flow_callv (.string (strOf TA)) (by kernel_rfl) rfl (.cons (.inn rfl) .nil) (fun W hW => (gtext_any (HTK.out.keep (HHW.out W hW)) HRT.out (by omega) (HP.out.here (HC8.out.trans (HHW.out W hW)))).mono ?_) ?_
      · rintro e w' ⟨rfl, hc⟩
        rw [plain_by]
        exact ⟨by rw [HA.out], hc⟩
      refine flow2 (r := .string Z2) plainT_ok rfl (.inn rfl) (.const _) rfl (fun ev W he e1 e2 => by have q := hadd1 W; go_simp) ?_
      refine flow_move_out plainT_ok rfl rfl rfl ?_
      refine flow_move_out plainT_ok rfl rfl rfl ?_
      refine flow_slice_lo (r := .slice Ad (n6 - p) (c4 - p)) plainT_ok (.inn rfl) (.inn rfl) (fun ev W he e1 e2 => by rw [← hAd]; split <;> go_simp) rfl ?_
      refine flow_callv (.string (strOf TD)) (by kernel_rfl) rfl (.cons (.inn rfl) .nil) (fun W hW => (gtext_any (HDR.out.keep (HHW.out W hW)) HRD.out (by omega) (HP.out.here (HC8.out.trans (HHW.out W hW)))).mono ?_) ?_
      · rintro e w' ⟨rfl, hc⟩
        rw [plain_by]
        exact ⟨by rw [HD.out], hc⟩
      refine flow2 (r := .string Z3) plainT_ok rfl (.inn rfl) (.inn rfl) rfl (fun ev W he e1 e2 => by have q := hadd2 W; go_simp) ?_
      refine flow2 (r := .string S2) plainT_ok rfl (.inn rfl) (.const _) rfl (fun ev W he e1 e2 => by have q := hadd3 W; go_simp) ?_
      refine flow_calld (tkF S2) (keeps_tk _) (.inr (keeps_tk _)) (by kernel_rfl) rfl (.cons (.inn rfl) .nil) (fun W hW => (gtokens_any S2 HS2.out).mono ?_) ?_
      · intro e w' hq
        obtain ⟨Aq, nq, cq, rfl, hTq, hnq, hcq⟩ := tokPost_use hq
        rw [plain_by]
        exact ⟨_, rfl, hcq, Aq, nq, cq, rfl, hTq, hnq⟩
      refine flow_move plainT_ok rfl (keeps_tk _) (.inr (keeps_tk _)) rfl ?_
      refine flow_tk0 plainT_ok (keeps_sl _) (.inr (keeps_sl _)) rfl rfl ?_
      refine flow_tk1 plainT_ok rfl rfl ?_
      refine flow_assign plainT_ok rfl (keeps_sl _) (.inr (keeps_sl _)) rfl ?_
      refine flow_assign plainT_ok rfl (keeps_isV _) (.inr (keeps_isV _)) rfl ?_
      intro vs W hW hF
      obtain ⟨A9, n9, c9, e13, hT9, hn9⟩ := hF 13 _ rfl rfl
      have e14 : vs 14 = .int .i64 (tokErr S2) := hF 14 _ rfl rfl
      have HT9 := Lib.hid hT9
      have hWW := HHW.out W hW
      have HT10 := Lib.hid (HTC.out.keep hWW)
      have HC9 := Lib.hid (HC8.out.trans hWW)
      have HR9 := Lib.hid (HR8.out.trans hWW)
      simp only [putAll, Act.put, List.setIfInBounds_toArray, List.set_cons_zero, List.set_cons_succ]
      rw [e13, e14]
      clear hF hW hWW e13 e14 hT9 HHW hadd1 hadd2 hadd3 hAd HDR HTK
      obtain ⟨w9, hw9⟩ : ∃ w9 : World, w9 = W := ⟨_, rfl⟩
      rw [← hw9] at HT9 HT10 HC9 HR9 ⊢
      clear hw9
      by_cases h504 : S.size < 504
      · have h504I : (S.size : Int) < 504 := by omega
        obtain ⟨p1, p2⟩ := HPT.out (by rw [← HSL.out]; exact h504)
        rw [p1] at HT9
        rw [p2]
        obtain rfl : n9 = n6 := by rw [← HT9.out.len, ← HT10.out.len]
        clear p1 p2
        go_wp2_with (go_at_call 20
                     with_reducible refine (toks_same HT9.out HT10.out).mono ?_
                     rintro e wa ⟨rfl, hca⟩
                     have HRA := Lib.hid (HR9.out.trans hca)
                     clear hca)
        go_roundw
        case rel => exact ⟨k + 1, by go_num, by omega, HRA⟩
        case measure => simp [intOf]; omega
      · have h504I : ¬ (S.size : Int) < 504 := by omega
        generalize tokErr S2 = te
        go_wp2_with fail
        go_roundw
        case rel => exact ⟨k + 1, by go_num, by omega, HR9⟩
        case measure => simp [intOf]; omega
    · have hkI : ¬ (k : Int) < (fn : Int) := by omega
      go_wp2_with (go_at_call 15
                   with_reducible refine (gl_known (HP.out.here (HC2.out.trans HCr.out))).mono ?_
                   rintro e wb ⟨rfl, hcb⟩
                   have HCB := Lib.hid ((HC2.out.trans HCr.out).trans hcb)
                   clear hcb)
      go_ret
      exact ⟨rfl, HCB.out⟩
end
end Go.Proofs.YtodbeeodhekpeaaDoor
