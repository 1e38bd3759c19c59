/-
  PB: UText.
-/
import Derived.Test.YtbkfhndmeljlcaaGreatDoorZPB31
import Derived.Test.YtbkfhndmeljlcaaGreatDoorZPB32
import Derived.Test.YtbkfhndmeljlcaaGreatDoorZPB33
namespace Go.Proofs.YtbkfhndmeljlcaaGreatDoor
open Go.RowKit
open Go.Lib (decDigits encodeRune)
theorem OwnM.bs {w : World} {B n : Nat} {v : Value} {out : List UInt8} (h : OwnM w B v n out) : ∃ g c, v = .slice (some ⟨g, 0, none⟩) n c ∧ Bs w (some ⟨g, 0, none⟩) n c out := by
  have hl := h.len
  have hlt : ∃ g cap, v = .slice (some ⟨g, 0, none⟩) n cap ∧ g < w.heap.size := by
    obtain ⟨_, g, cap, cur, fz, e, hB, hg, _⟩ := h
    exact ⟨g, cap, e, (Array.getElem?_eq_some_iff.1 hg).1⟩
  obtain ⟨g0, cap0, e0, hlt⟩ := hlt
  obtain ⟨g, c, e, hc, hn, hm⟩ := h.cells
  rw [e0] at e
  injection e with e1 e2 e3
  injection e1 with e1
  injection e1 with e1
  subst e1
  exact ⟨g0, c, by rw [e0, e3], hl, fun _ => ⟨_, rfl, hlt, hc⟩, hn, by unfold maxLen at hm; omega, fun _ ad e => by injection e with e; subst e; rfl⟩
def omF (B : Nat) (out : List UInt8) : Fact := fun v W => OwnM W B v out.length out
theorem keeps_om (B : Nat) (out : List UInt8) : Keeps (Chg []) (omF B out) := fun _ _ _ h hc => h.keep hc
theorem bytes_om (w : World) (l : List UInt8) (hl : l.length ≤ 1000000) : ∃ v w', (convert 9 33 (.string (strOf l))).run Tryz.prog w = .ok v w' ∧ OwnM w' w.heap.size v l.length l ∧ Chg [] w w' := by
  have h := run_bytes_of_string (P := Tryz.prog) w 9 33 5 (strOf l) Tryz.underlying9 Tryz.underlying33 Tryz.underlying5
  have hge := grownCap_ge w (strOf l).size 0 5
  have hle := grownCap_le_maxLen w (strOf l).size 0 5 (by rw [strOf_len]; unfold maxLen; omega)
  generalize grownCap w (strOf l).size 0 5 = cap at h hge hle
  have hsz := strOf_len l
  refine ⟨_, _, h, ⟨rfl, w.heap.size, cap, _, _, by rw [hsz], Nat.le_refl _, heap_alloc_new w.drew _, .inr rfl, by omega, hle, ?_, ?_⟩, (Chg.refl [] w).drew.alloc _⟩
  · unfold bytesRow
    rw [Array.size_append, Array.size_map, Array.size_replicate]
    have : (strOf l).data.size = (strOf l).size := rfl
    omega
  · unfold bytesRow
    have e : (Array.map (fun b => Value.int .u8 (b.toNat : Int)) (strOf l).data).toList = bts l := by simp [strOf, bts, B8]
    rw [Array.toList_append, e, List.take_left' (by simp [bts])]
theorem OwnM.less {w : World} {B B' n : Nat} {v : Value} {out : List UInt8} (h : OwnM w B v n out) (hB : B' ≤ B) : OwnM w B' v n out := by
  obtain ⟨hl, g, cap, cur, fz, e, hb, rest⟩ := h
  exact ⟨hl, g, cap, cur, fz, e, Nat.le_trans hB hb, rest⟩
def UTextPost (o : List UInt8) (r : Int) (w : World) (e : Ending) (w' : World) : Prop := e = .returned (.tuple #[.string (strOf o), .int .i64 r]) ∧ Chg [] w w'
theorem itoa_any (m : Nat) (hm : m < 100) (w : World) : Calls Tryz.prog 57 #[.int .i64 (m : Int)] w fun e w' => e = .returned (.string (strOf (decDigits m))) ∧ w' = w := Tryz.strconv_Itoa_small m hm w
theorem dig_two (m : Nat) (hm : m < 100) : (decDigits m).length ≤ 2 := by
  by_cases h : 10 ≤ m
  · rw [decDigits, dif_neg (by omega), List.length_append, Lib.decDigits_one (by omega)]; simp
  · rw [Lib.decDigits_one (by omega)]; simp
theorem utF_len {f : FnV} {ts : List TkV} (ht : tokR f.code = some ts) (ha : f.args ≤ 4) : (utF f).length ≤ 600 ∧ (txC f.code).length ≤ 512 := by
  have h1 := (tok_plain ht).2
  have h2 : ¬ 512 < f.code.size := by
    intro hh
    unfold tokR at ht
    rw [if_pos hh] at ht
    cases ht
  have h3 := dig_two f.args.toNat (by omega)
  have h4 := enc_le4 f.name
  refine ⟨?_, by omega⟩
  unfold utF
  simp only [List.length_append, List.length_cons, List.length_nil]
  omega
theorem src_str (w : World) (l : List UInt8) : Go.Src Tryz.prog 1 9 (.string (strOf l)) l.length (bts l) w := by
  have h := Go.Src.ofString (P := Tryz.prog) w Tryz.underlying9 (strOf l)
  rw [strOf_len] at h
  have e : Go.byteCells (strOf l) = bts l := by simp [Go.byteCells, strOf, bts, B8]
  rw [e] at h
  exact h
theorem toks_rng {s : ByteArray} {ts : List TkV} (h : tokR s = some ts) : ∀ t ∈ ts, TkRng t := by
  have hs : ¬ 512 < s.size := by
    intro hh
    unfold tokR at h
    rw [if_pos hh] at h
    cases h
  have hr := gRun_is s hs
  rw [h] at hr
  exact fun t ht => (gRun_tk _ hr.symm (fun t ht => by simp at ht) trivial t ht).rng
theorem Tks.own_at {W : World} {B n c : Nat} {A : Option Addr} {l : List TkV} (h : W.ownsRow B 110 3 (.slice A n c) n (tkCs l)) (hm : n ≤ 100000) : Tks W A n c l := by
  obtain ⟨A', c', e, hT⟩ := Tks.of_own h hm
  injection e with e1 e2 e3
  subst e1; subst e3
  exact hT
theorem tokPost_own {s : ByteArray} {ts : List TkV} {w w' : World} {e : Ending} (ht : tokR s = some ts) (h : TokPost s w e w') : ∃ A c, e = .returned (.tuple #[.slice A ts.length c, .int .i64 0]) ∧ ts.length ≤ 512 ∧ w'.ownsRow w.heap.size 110 3 (.slice A ts.length c) ts.length (tkCs ts) ∧ Chg [] w w' := by
  obtain ⟨hc, ⟨ts', v, h1, h2, rfl, h4⟩ | ⟨h1, _⟩⟩ := h
  · rw [ht] at h1
    injection h1 with h1
    subst h1
    obtain ⟨A, c, rfl, _⟩ := Tks.of_own h4 (by omega)
    exact ⟨A, c, rfl, h2, h4, hc⟩
  · rw [ht] at h1; cases h1
section
variable {W : World} {A : Option Addr} {n c : Nat} {l : List FnV} {pages most : Int}
set_option maxHeartbeats 8000000 in
set_option maxRecDepth 100000 in
theorem utext_any (h : Fnr W A n c l) (hsm : ∀ f ∈ l, f.code.size ≤ 9223372036854775807) (hP : PowB W.heap.size W) : Calls Tryz.prog 31 #[unitV pages most A n c] W (UTextPost (rText pages most l).1 (rText pages most l).2 W) := by
  have HRI := Lib.hid (fun (w : World) (hc : Chg [] W w) => uright_any (pages := pages) (most := most) (h.keep hc) hsm)
  by_cases hR : rRight pages most l = 0
  · have HF := rRight_ok.1 hR
    obtain ⟨p, rfl⟩ : ∃ p : Nat, pages = (p : Int) := ⟨pages.toNat, by have := HF.p0; omega⟩
    obtain ⟨m, rfl⟩ : ∃ m : Nat, most = (m : Int) := ⟨most.toNat, by have := HF.p0; have := HF.pm; omega⟩
    have hp64 : p ≤ 64 := by have := HF.pm; have := HF.m64; omega
    have hm64 : m ≤ 64 := by have := HF.m64; omega
    have hn32 : n ≤ 32 := by have := HF.few; have := h.len; omega
    rw [hR] at HRI
    have H := Lib.hid h
    have HP := Lib.hid hP
    have HFF := Lib.hid HF
    have HSM := Lib.hid hsm
    have HLN := Lib.hid h.len
    have HPO := Lib.hid (show ∀ (e : Ending) (w' : World), UTextPost (if 2048 < (utx (p : Int) (m : Int) l).length then ([] : List UInt8) else utx (p : Int) (m : Int) l) (if 2048 < (utx (p : Int) (m : Int) l).length then 3 else 0) W e w' → UTextPost (rText (p : Int) (m : Int) l).1 (rText (p : Int) (m : Int) l).2 W e w' from fun e w' hq => by
      unfold rText
      rw [if_pos hR]
      by_cases h2 : 2048 < (utx (p : Int) (m : Int) l).length
      · rw [if_pos h2] at hq ⊢
        rw [if_pos h2] at hq
        exact hq
      · rw [if_neg h2] at hq ⊢
        rw [if_neg h2] at hq
        exact hq)
    clear h hP hsm HF hR
    refine Calls.mono ?_ HPO.out
    clear HPO
    obtain ⟨U, hU⟩ : ∃ U, U = utx (p : Int) (m : Int) l := ⟨_, rfl⟩
    rw [← hU]
    obtain ⟨O, hO⟩ : ∃ O, O = (if 2048 < U.length then ([] : List UInt8) else U) := ⟨_, rfl⟩
    obtain ⟨RO, hRO⟩ : ∃ O : Int, O = (if 2048 < U.length then 3 else 0) := ⟨_, rfl⟩
    rw [← hO, ← hRO]
    have HOO := Lib.hid hO
    have HRO := Lib.hid hRO
    clear hO hRO
    obtain ⟨D1, hD1⟩ : ∃ D, D = decDigits p := ⟨_, rfl⟩
    obtain ⟨D2, hD2⟩ : ∃ D, D = decDigits m := ⟨_, rfl⟩
    have HI1 := Lib.hid (fun w => itoa_any p (by omega) w)
    have HI2 := Lib.hid (fun w => itoa_any m (by omega) w)
    rw [← hD1] at HI1
    rw [← hD2] at HI2
    have hL1 : D1.length ≤ 2 := by rw [hD1]; exact dig_two _ (by omega)
    have hL2 : D2.length ≤ 2 := by rw [hD2]; exact dig_two _ (by omega)
    have HU0 := Lib.hid (show ([117, 110, 105, 116, 32] ++ D1 ++ [32] ++ D2) ++ [10] ++ utFs (l.drop 0) = U from by rw [hU, utx, List.drop_zero, hD1, hD2]; simp)
    clear hU hD1 hD2
    have HH := Lib.hid (show ([117, 110, 105, 116, 32] ++ D1 ++ [32] ++ D2).length ≤ 50 from by simp; omega)
    have hadd1 := fun W => str_add [117, 110, 105, 116, 32] D1 (by simp; omega) W
    have hadd2 := fun W => str_add ([117, 110, 105, 116, 32] ++ D1) [32] (by simp; omega) W
    have hadd3 := fun W => str_add ([117, 110, 105, 116, 32] ++ D1 ++ [32]) D2 (by simp; omega) W
    obtain ⟨HD, hHD⟩ : ∃ X, X = [117, 110, 105, 116, 32] ++ D1 ++ [32] ++ D2 := ⟨_, rfl⟩
    rw [← hHD] at HU0 HH hadd3
    have HBY := Lib.hid (fun w => bytes_om w HD (by have := HH.out; omega))
    have k1 : strOf [117, 110, 105, 116, 32] = ⟨#[117, 110, 105, 116, 32]⟩ := rfl
    have k2 : strOf [32] = ⟨#[32]⟩ := rfl
    rw [k1] at hadd1
    rw [k2] at hadd2
    generalize strOf ([117, 110, 105, 116, 32] ++ D1) = Z1 at hadd1 hadd2
    generalize strOf ([117, 110, 105, 116, 32] ++ D1 ++ [32]) = Z2 at hadd2 hadd3
    obtain ⟨Z3, hZ3⟩ : ∃ Z, Z = strOf HD := ⟨_, rfl⟩
    rw [← hZ3] at hadd3 HBY
    obtain ⟨S1, hS1⟩ : ∃ Z, Z = strOf D1 := ⟨_, rfl⟩
    obtain ⟨S2, hS2⟩ : ∃ Z, Z = strOf D2 := ⟨_, rfl⟩
    rw [← hS1] at hadd1 HI1
    rw [← hS2] at hadd3 HI2
    clear hHD hZ3 hS1 hS2 k1 k2 hL1 hL2
    unfold unitV at HRI ⊢
    go_enter Tryz.func31, Tryz.ntmps31
    go_upto_region 1 with fail
    have hN := Whole.new W 24 [.int .i64 (p : Int), .int .i64 (m : Int), .slice A n c]
    have hal : Chg [] W (W.alloc (.cells #[.int .i64 (p : Int), .int .i64 (m : Int), .slice A n c] 24)) := (Chg.refl [] W).alloc _
    obtain ⟨g, hg⟩ : ∃ g, g = W.heap.size := ⟨_, rfl⟩
    rw [← hg] at hN ⊢
    have HU := Lib.hid hN
    have HC := Lib.hid hal
    generalize W.alloc (.cells #[.int .i64 (p : Int), .int .i64 (m : Int), .slice A n c] 24) = w1 at HU HC ⊢
    clear hN hal hg
    have u0 := HU.out.cell 0
    have u1 := HU.out.cell 1
    have u2 := HU.out.cell 2
    go_upto_region 4 with (go_at_call 54
                           refine (HRI.out _ HC.out).mono ?_
                           rintro e w2 ⟨rfl, hc2⟩
                           have HU2 := Lib.hid (HU.out.keep hc2)
                           have HC2 := Lib.hid (HC.out.trans hc2)
                           clear hc2)
    have HHW := Lib.hid (fun (Wx : World) (h : Chg [] w2.drew Wx) => (show Chg [] w2 Wx from (Chg.refl [] w2).drew.trans h))
    refine wp_flow (by kernel_rfl) plainT plainT_ok (by kernel_rfl) ?_
    refine flow1 (r := .pointer (some ⟨g, 0, none⟩)) plainT_ok rfl (.out rfl rfl) rfl (fun ev W he e1 => by go_simp) ?_
    refine flow1h (r := .int .i64 (p : Int)) plainT_ok rfl (.inn rfl) rfl (fun ev Wx he hW e1 => by have r0 := (HU2.out.keep (HHW.out Wx hW)).cell 0; clear hW; go_simp) ?_
    refine flow_callv (.string S1) (by kernel_rfl) rfl (.cons (.inn rfl) .nil) (fun Wx hW => (HI1.out Wx).mono ?_) ?_
    · rintro e w' ⟨rfl, rfl⟩
      rw [plain_by]
      exact ⟨rfl, Chg.refl [] _⟩
    refine flow2 (r := .string Z1) plainT_ok rfl (.const _) (.inn rfl) rfl (fun ev W he e1 e2 => by have q := hadd1 W; go_simp) ?_
    refine flow2 (r := .string Z2) plainT_ok rfl (.inn rfl) (.const _) rfl (fun ev W he e1 e2 => by have q := hadd2 W; go_simp) ?_
    refine flow1 (r := .pointer (some ⟨g, 1, none⟩)) plainT_ok rfl (.out rfl rfl) rfl (fun ev W he e1 => by go_simp) ?_
    refine flow1h (r := .int .i64 (m : Int)) plainT_ok rfl (.inn rfl) rfl (fun ev Wx he hW e1 => by have r0 := (HU2.out.keep (HHW.out Wx hW)).cell 1; clear hW; go_simp) ?_
    refine flow_callv (.string S2) (by kernel_rfl) rfl (.cons (.inn rfl) .nil) (fun Wx hW => (HI2.out Wx).mono ?_) ?_
    · rintro e w' ⟨rfl, rfl⟩
      rw [plain_by]
      exact ⟨rfl, Chg.refl [] _⟩
    refine flow2 (r := .string Z3) plainT_ok rfl (.inn rfl) (.inn rfl) rfl (fun ev W he e1 e2 => by have q := hadd3 W; go_simp) ?_
    refine flow_op (omF W.heap.size HD) (keeps_om _ _) (.inr (keeps_om _ _)) rfl (fun ev Wx he hW hf => ?_) ?_
    · have e1 : ev (.tmp 23) = .string Z3 := hf.1
      obtain ⟨v, w', hr, ho, hc⟩ := HBY.out Wx
      simp only [execOp, e1, Sem.run_bind, hr, Result.andThen_ok, Sem.run_pure]
      exact ⟨by rw [plain_by]; exact hc, ho.less (Nat.le_trans HC2.out.size (HHW.out Wx hW).size)⟩
    refine flow_assign plainT_ok rfl (keeps_om _ _) (.inr (keeps_om _ _)) rfl ?_
    intro vs Wx hW hF
    have e10 : omF W.heap.size HD (vs 5) Wx := hF 5 _ rfl rfl
    have HO := Lib.hid e10
    have HU3 := Lib.hid (HU2.out.keep (HHW.out Wx hW))
    have HC3 := Lib.hid (HC2.out.trans (HHW.out Wx hW))
    simp only [putAll, Act.put, List.setIfInBounds_toArray, List.set_cons_zero, List.set_cons_succ]
    generalize vs 5 = vb at HO e10 ⊢
    clear hF hW e10 HHW hadd1 hadd2 hadd3 HBY HI1 HI2 HU2 HC2 u0 u1 u2
    have hlenH := HH.out
    obtain ⟨nb, hnb⟩ : ∃ q, q = HD.length := ⟨_, rfl⟩
    unfold omF at HO
    rw [← hnb] at HO hlenH
    have HNB := Lib.hid hnb
    clear hnb
    obtain ⟨w3, hw3⟩ : ∃ w3 : World, w3 = Wx := ⟨_, rfl⟩
    rw [← hw3] at HO HU3 HC3 ⊢
    clear hw3
    have u2 := HU3.out.cell 2
    have HB3 := Lib.hid (show W.heap.size ≤ w3.heap.size from HC3.out.size)
    go_wp2_with (at_builtin
                 refine wpList_appM _ rfl _ _ _ rfl rfl (HO.out.keep ((Chg.refl [] w3).alloc (.cells #[.int .u8 10] 5))) (.slice (some ⟨w3.heap.size, 0, none⟩) 1 1) 1 [10] rfl (src_row w3 [.int .u8 10] 1 (by simp [Value.oneCell']) rfl) (by have := HB3.out; simp; omega) (by omega) ?_
                 intro v4 w4 ho4 hg4
                 have HF4 := Lib.hid ((Fr.of_chg (B := W.heap.size) (TS := u8T) ((Chg.refl [] w3).alloc (.cells #[.int .u8 10] 5))).trans ((HO.out.keep ((Chg.refl [] w3).alloc (.cells #[.int .u8 10] 5))).fr hg4))
                 have HO4 := Lib.hid ho4
                 have u2b := (HF4.out.whole HU3.out (by decide)).cell 2
                 clear ho4 hg4)
    have HFW := Lib.hid ((Fr.of_chg (B := W.heap.size) (TS := u8T) HC3.out).trans HF4.out)
    go_loopw [5, 31] (fun b i wr => ∃ (k : Nat) (out : List UInt8) (no : Nat), i = .int .i64 (k : Int) ∧ k ≤ n ∧ Hid (no = out.length) ∧ no ≤ 100 + 600 * k ∧ Hid (OwnM wr W.heap.size b no out) ∧ Hid (out ++ utFs (l.drop k) = U) ∧ Hid (Fr W.heap.size u8T W wr)) (fun _ i _ => n - (intOf i).toNat)
    case atStart => exact ⟨0, HD ++ [10], nb + 1, rfl, by omega, Lib.hid (by rw [List.length_append, ← HNB.out]; rfl), by omega, HO4, HU0, HFW⟩
    case round =>
      obtain ⟨k, out, no, rfl, hk, HNO, hno, HO5, HX, HF5⟩ := hrel
      by_cases hkn : k < n
      · have hkI : (k : Int) < (n : Int) := by omega
        obtain ⟨t, htk⟩ : ∃ t, l[k]? = some t := ⟨l[k]'(by rw [HLN.out]; exact hkn), by simp⟩
        have hmem := List.mem_of_getElem? htk
        obtain ⟨ts, hts⟩ := HFF.out.tok hmem
        obtain ⟨hnm, _, ha0, ha4⟩ := HFF.out.fn htk
        have HSZ := Lib.hid (HSM.out t hmem)
        obtain ⟨hl600, hl512⟩ := utF_len hts ha4
        have HUL := Lib.hid hl600
        have HTL := Lib.hid hl512
        have HTS := Lib.hid hts
        have HNM := Lib.hid hnm
        obtain ⟨fb, fo, rfl, hfbl, e0, e1, e2⟩ := (H.out.keep (HF5.out.chg (Nat.le_refl _))).cell htk
        have HSt := Lib.hid (show out ++ (utF t ++ utFs (l.drop (k + 1))) = U from by
          rw [← HX.out, show l.drop k = t :: l.drop (k + 1) from List.drop_eq_getElem?_toList_append.trans (by rw [htk]; rfl), utFs])
        clear hnm hts hl600 hl512 hmem htk
        obtain ⟨tn, ta, tc⟩ := t
        simp only at e0 e1 e2 ha0 ha4 HSZ HTL HTS HNM
        obtain ⟨q, rfl⟩ : ∃ q : Nat, ta = (q : Int) := ⟨ta.toNat, by omega⟩
        have hq4 : q ≤ 4 := by omega
        have HIQ := Lib.hid (fun w => itoa_any q (by omega) w)
        have HTX : txC tc = txB false ts := by unfold txC toksOf; rw [HTS.out]; rfl
        obtain ⟨D, hD⟩ : ∃ D, D = decDigits q := ⟨_, rfl⟩
        obtain ⟨TX, hTX⟩ : ∃ D, D = txB false ts := ⟨_, rfl⟩
        have hDl : D.length ≤ 2 := by rw [hD]; exact dig_two _ (by omega)
        have hTl : TX.length ≤ 512 := by rw [hTX, ← HTX]; exact HTL.out
        have HUE := Lib.hid (show utF ⟨tn, (q : Int), tc⟩ = encodeRune tn ++ ((D ++ [32] ++ TX) ++ [10]) from by
          unfold utF
          simp only
          rw [HTX, hD, hTX]
          simp)
        rw [← hD] at HIQ
        have HGX := Lib.hid (fun (w : World) (Aq : Option Addr) (nq cq : Nat) (hT : Tks w Aq nq cq ts) (hn : nq ≤ 1000) (hp : PowB w.heap.size w) => gtext_any hT (toks_rng HTS.out) hn hp)
        rw [← hTX] at HGX
        have hadd4 := fun W => str_add D [32] (by simp; omega) W
        have hadd5 := fun W => str_add (D ++ [32]) TX (by simp; omega) W
        rw [show strOf [32] = ⟨#[32]⟩ from rfl] at hadd4
        have hlen3 : (D ++ [32] ++ TX).length ≤ 520 := by simp; omega
        obtain ⟨TA, hTA⟩ : ∃ X, X = D ++ [32] ++ TX := ⟨_, rfl⟩
        rw [← hTA] at hadd5 hlen3 HUE
        have HTA := Lib.hid (fun w => src_str w TA)
        obtain ⟨nt, hnt⟩ : ∃ q, q = TA.length := ⟨_, rfl⟩
        have HNT := Lib.hid hnt
        rw [← hnt] at hlen3 HTA
        generalize strOf TA = ZA at hadd5 HTA
        generalize strOf (D ++ [32]) = ZD at hadd4 hadd5
        generalize strOf D = ZQ at hadd4 HIQ
        obtain ⟨ZT, hZT⟩ : ∃ Z, Z = strOf TX := ⟨_, rfl⟩
        unfold StrPost at HGX
        rw [← hZT] at hadd5 HGX
        have HRN := Lib.hid (show no + 600 ≤ 30000 by omega)
        have HE4 := Lib.hid (enc_le4 tn)
        clear hD hTX hDl hTl hTA hnt hZT HTX ha0 ha4
        go_upto_region 9 with fail
        have hX := Whole.new wr 58 [.int .i32 tn, .int .i64 (q : Int), .string tc]
        have hc2 := (Chg.refl [] wr).alloc (.cells #[.int .i32 tn, .int .i64 (q : Int), .string tc] 58)
        have HX2 := Lib.hid hX
        have HF6 := Lib.hid (HF5.out.new hc2)
        have HO6 := Lib.hid (HO5.out.keep hc2)
        have HB6 := Lib.hid (show W.heap.size ≤ (wr.alloc (.cells #[.int .i32 tn, .int .i64 (q : Int), .string tc] 58)).heap.size from HF6.out.size)
        generalize wr.heap.size = gx at HX2 ⊢
        generalize wr.alloc (.cells #[.int .i32 tn, .int .i64 (q : Int), .string tc] 58) = w6 at HX2 HF6 HO6 HB6 ⊢
        clear hX e0 e1 e2 hfbl hc2
        have x2 := HX2.out.cell 2
        go_wp2_with (first
          | (go_at_call 58
             refine (gtokens_any tc HSZ.out).mono ?_
             intro e w7 hq
             obtain ⟨A7, c7, rfl, hl7, ho7, hc7⟩ := tokPost_own HTS.out hq
             have HT7 := Lib.hid ho7
             have HL7 := Lib.hid hl7
             have HF7 := Lib.hid (HF6.out.new hc7)
             have HO7 := Lib.hid (HO6.out.keep hc7)
             have HX7 := Lib.hid (HX2.out.keep hc7)
             have y0 := HX7.out.cell 0
             clear hc7 hl7 ho7 hq)
          | (go_at_call 59
             refine (marune_any tn HNM.out HO7.out HF7.out.size (by omega)).mono ?_
             rintro e w8 ⟨v8, n8, rfl, hn8, ho8, hf8⟩
             have HF8 := Lib.hid (HF7.out.trans hf8)
             have HO8 := Lib.hid ho8
             have HX8 := Lib.hid (hf8.whole HX7.out (by decide))
             have HT8 := Lib.hid (Tks.own_at (hf8.own HT7.out (by decide)) (by have := HL7.out; omega))
             have hn8b : n8 ≤ no + 4 := by rw [hn8, List.length_append, ← HNO.out]; have := HE4.out; omega
             have z1 := HX8.out.cell 1
             clear hn8 ho8 hf8)
          | (go_at_call 57
             refine (HIQ.out _).mono ?_
             rintro e w9 ⟨rfl, rfl⟩)
          | (go_at_call 60
             refine (HGX.out _ _ _ _ HT8.out (by have := HL7.out; omega) (HP.out.here (HF8.out.chg (Nat.le_refl _)))).mono ?_
             rintro e w10 ⟨rfl, hc10⟩
             have HF10 := Lib.hid (HF8.out.new hc10)
             have HO10 := Lib.hid (HO8.out.keep hc10)
             clear hc10)
          | (at_builtin
             refine wpList_appM _ rfl _ _ _ rfl rfl HO10.out (.string ZA) nt TA rfl (HTA.out _) HF10.out.size (by have := HRN.out; omega) ?_
             intro v11 w11 ho11 hg11
             have HF11 := Lib.hid (HF10.out.trans (HO10.out.fr hg11))
             have HO11 := Lib.hid ho11
             clear ho11 hg11)
          | (at_builtin
             refine wpList_appM _ rfl _ _ _ rfl rfl (HO11.out.keep ((Chg.refl [] w11).alloc (.cells #[.int .u8 10] 5))) (.slice (some ⟨w11.heap.size, 0, none⟩) 1 1) 1 [10] rfl (src_row w11 [.int .u8 10] 1 (by simp [Value.oneCell']) rfl) (by have := HF11.out.size; simp; omega) (by have := HRN.out; omega) ?_
             intro v12 w12 ho12 hg12
             have HF12 := Lib.hid ((HF11.out.new ((Chg.refl [] w11).alloc (.cells #[.int .u8 10] 5))).trans ((HO11.out.keep ((Chg.refl [] w11).alloc (.cells #[.int .u8 10] 5))).fr hg12))
             have HO12 := Lib.hid ho12
             clear ho12 hg12))
        go_roundw
        case rel =>
          refine ⟨k + 1, out ++ encodeRune tn ++ TA ++ [10], n8 + nt + 1, by go_num, by omega, Lib.hid HO12.out.len.symm, by omega, HO12, Lib.hid ?_, HF12⟩
          rw [← HSt.out, HUE.out]
          simp only [List.append_assoc]
        case measure => simp [intOf]; omega
      · have hkI : ¬ (k : Int) < (n : Int) := by omega
        have HXE := Lib.hid (show out = U from by
          have := HX.out
          rw [List.drop_eq_nil_of_le (by rw [HLN.out]; omega), show utFs [] = [] from rfl, List.append_nil] at this
          exact this)
        obtain ⟨gb, cb, rfl, hbs⟩ := HO5.out.bs
        have HSTR := Lib.hid (hbs.str 33 5 9 Tryz.underlying33 Tryz.underlying5 Tryz.underlying9)
        have hstr := HSTR.out
        by_cases h2 : 2048 < no
        · have h2I : (2048 : Int) < (no : Int) := by omega
          have HQ := Lib.hid (show 2048 < U.length by rw [← HXE.out, ← HNO.out]; exact h2)
          have HPP := Lib.hid (show UTextPost O RO W (.returned (.tuple #[.string ⟨#[]⟩, .int .i64 3])) wr from by
            rw [HOO.out, HRO.out, if_pos HQ.out, if_pos HQ.out]; exact ⟨rfl, HF5.out.chg (Nat.le_refl _)⟩)
          clear h2
          go_wp2_with fail
          go_ret2
          exact HPP.out
        · have h2I : ¬ (2048 : Int) < (no : Int) := by omega
          have HQ := Lib.hid (show ¬ 2048 < U.length by rw [← HXE.out, ← HNO.out]; exact h2)
          have HPP := Lib.hid (show UTextPost O RO W (.returned (.tuple #[.string (strOf out), .int .i64 0])) wr from by
            rw [HOO.out, HRO.out, if_neg HQ.out, if_neg HQ.out, HXE.out]; exact ⟨rfl, HF5.out.chg (Nat.le_refl _)⟩)
          clear h2
          go_wp2_with fail
          go_ret2
          exact HPP.out
  · obtain ⟨R, hRR⟩ : ∃ R, R = rRight pages most l := ⟨_, rfl⟩
    have hT : rText pages most l = ([], R) := by unfold rText; rw [if_neg hR, hRR]
    rw [hT]
    rw [← hRR] at HRI hR
    have hd : (R == 0) = false := by simpa using hR
    have HPO := Lib.hid (show ∀ w', Chg [] W w' → UTextPost [] R W (.returned (.tuple #[.string ⟨#[]⟩, .int .i64 R])) w' from fun w' hc => ⟨rfl, hc⟩)
    clear h hsm hP hT hRR
    unfold unitV at HRI ⊢
    simp only
    go_enter Tryz.func31, Tryz.ntmps31
    go_upto_region 1 with fail
    have hal : Chg [] W (W.alloc (.cells #[.int .i64 pages, .int .i64 most, .slice A n c] 24)) := (Chg.refl [] W).alloc _
    have HC := Lib.hid hal
    have hN := Whole.new W 24 [.int .i64 pages, .int .i64 most, .slice A n c]
    obtain ⟨g, hg⟩ : ∃ g, g = W.heap.size := ⟨_, rfl⟩
    rw [← hg] at hN ⊢
    generalize W.alloc (.cells #[.int .i64 pages, .int .i64 most, .slice A n c] 24) = w1 at HC hN ⊢
    have u0 := hN.cell 0
    have u1 := hN.cell 1
    have u2 := hN.cell 2
    clear hal hN hg
    go_wp2_with (go_at_call 54
                 refine (HRI.out _ HC.out).mono ?_
                 rintro e w2 ⟨rfl, hc2⟩
                 have HC2 := Lib.hid (HC.out.trans hc2)
                 clear hc2)
    go_ret2
    exact HPO.out _ HC2.out
end
end Go.Proofs.YtbkfhndmeljlcaaGreatDoor
