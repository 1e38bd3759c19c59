import Derived.Test.YtbkfhndmeljlcaaGreatDoorZB12
set_option maxRecDepth 100000
set_option maxHeartbeats 16000000
namespace Go.Proofs.YtbkfhndmeljlcaaGreatDoor
open Go.RowKit
def yV_ (W : World) (r : Int) (e : Ending) (w' : World) : Prop:=e = .returned (.int .i64 r) ∧ Chg [] W w'
section
variable {W : World} {A : Option Addr} {n c : Nat} {l : List FnV} {pages most : Int}
theorem uK_ (hn : n > 32) (hn2 : n ≤ 9223372036854775807) (R : Int) (hR : R = if pages < 0 ∨ most < pages ∨ 64 < most then 25 else 3) : Calls Tryz.prog 54 #[.agg #[.int .i64 pages,.int .i64 most,.slice A n c]] W (yV_ W R):=by
 have HRR:=hQ_ hR
 clear hR
 go_enter Tryz.func54,Tryz.ntmps54
 go_upto_region 1 with fail
 have hN:=zb_.new W 24 [.int .i64 pages,.int .i64 most,.slice A n c]
 have hal : Chg [] W (W.alloc (.cells #[.int .i64 pages,.int .i64 most,.slice A n c] 24)):=(Chg.refl [] W).alloc _
 obtain ⟨g,hg⟩ : ∃ g,g = W.heap.size:=⟨_,rfl⟩
 rw [← hg] at hN ⊢
 have HU:=hQ_ hN
 have HC:=hQ_ hal
 generalize W.alloc (.cells #[.int .i64 pages,.int .i64 most,.slice A n c] 24) = w1 at HU HC ⊢
 clear hN hal hg
 have u0:=HU.out.cell 0
 have u1:=HU.out.cell 1
 have u2:=HU.out.cell 2
 have b4 : decide (32 < (n : Int)) = true:=by simp; omega
 by_cases h0 : pages < 0
 · have hE:=hQ_ (show R = 25 from by rw [HRR.out,if_pos (.inl h0)])
   have b1 : decide (pages < 0) = true:=by simpa using h0
   clear h0
   go_wp2_with fail
   go_ret
   exact ⟨by rw [hE.out]; rfl,HC.out⟩
 · have b1 : decide (pages < 0) = false:=by simpa using h0
   by_cases h1 : most < pages
   · have hE:=hQ_ (show R = 25 from by rw [HRR.out,if_pos (.inr (.inl h1))])
     have b2 : decide (most < pages) = true:=by simpa using h1
     clear h0 h1
     go_wp2_with fail
     go_ret
     exact ⟨by rw [hE.out]; rfl,HC.out⟩
   · have b2 : decide (most < pages) = false:=by simpa using h1
     by_cases h2 : 64 < most
     · have hE:=hQ_ (show R = 25 from by rw [HRR.out,if_pos (.inr (.inr h2))])
       have b3 : decide (64 < most) = true:=by simpa using h2
       clear h0 h1 h2
       go_wp2_with fail
       go_ret
       exact ⟨by rw [hE.out]; rfl,HC.out⟩
     · have hE:=hQ_ (show R = 3 from by rw [HRR.out,if_neg (by omega)])
       have b3 : decide (64 < most) = false:=by simpa using h2
       clear h0 h1 h2
       go_wp2_with fail
       go_ret
       exact ⟨by rw [hE.out]; rfl,HC.out⟩
theorem vS_ (h : Fnr W A n c l) (hsm : ∀ f ∈ l,f.code.size ≤ 9223372036854775807) : Calls Tryz.prog 54 #[z2_ pages most A n c] W (yV_ W (zJ_ pages most l)):=by
 by_cases hn32 : 32 < n
 · have e : zJ_ pages most l = (if pages < 0 ∨ most < pages ∨ 64 < most then (25 : Int) else 3):=by
    unfold zJ_
    have hq : 32 < l.length:=by rw [h.len]; exact hn32
    rw [if_pos hq]
   unfold z2_
   exact uK_ hn32 (by have:=h.max; omega) _ e
 have H:=hQ_ h
 have hmx:=h.max
 have HCF:=hQ_ (fun (w : World) (hc : Chg [] W w) (k : Int) => zcm (pages:=pages) (most:=most) (h.keep hc) hsm k)
 have HFI:=hQ_ (fun (w : World) (hc : Chg [] W w) (nm : Int) => j3_ (pages:=pages) (most:=most) (h.keep hc) nm)
 have HLN:=hQ_ h.len
 obtain ⟨R,hR⟩ : ∃ R,R = zJ_ pages most l:=⟨_,rfl⟩
 rw [← hR]
 unfold z2_ at HCF HFI ⊢
 clear h hsm
 have b4 : decide (32 < (n : Int)) = false:=by simp; omega
 go_enter Tryz.func54,Tryz.ntmps54
 go_upto_region 1 with fail
 have hN:=zb_.new W 24 [.int .i64 pages,.int .i64 most,.slice A n c]
 have hal : Chg [] W (W.alloc (.cells #[.int .i64 pages,.int .i64 most,.slice A n c] 24)):=(Chg.refl [] W).alloc _
 obtain ⟨g,hg⟩ : ∃ g,g = W.heap.size:=⟨_,rfl⟩
 rw [← hg] at hN ⊢
 have HU:=hQ_ hN
 have HC:=hQ_ hal
 generalize W.alloc (.cells #[.int .i64 pages,.int .i64 most,.slice A n c] 24) = w1 at HU HC ⊢
 clear hN hal hg
 have u0:=HU.out.cell 0
 have u1:=HU.out.cell 1
 have u2:=HU.out.cell 2
 by_cases h0 : pages < 0
 · have hE:=hQ_ (show R = 25 from by rw [hR]; unfold zJ_; rw [if_pos (.inl h0)])
   have b1 : decide (pages < 0) = true:=by simpa using h0
   clear h0 hR
   go_wp2_with fail
   go_ret
   exact ⟨by rw [hE.out]; rfl,HC.out⟩
 have b1 : decide (pages < 0) = false:=by simpa using h0
 by_cases h1 : most < pages
 · have hE:=hQ_ (show R = 25 from by rw [hR]; unfold zJ_; rw [if_pos (.inr (.inl h1))])
   have b2 : decide (most < pages) = true:=by simpa using h1
   clear h0 h1 hR
   go_wp2_with fail
   go_ret
   exact ⟨by rw [hE.out]; rfl,HC.out⟩
 have b2 : decide (most < pages) = false:=by simpa using h1
 by_cases h2 : 64 < most
 · have hE:=hQ_ (show R = 25 from by rw [hR]; unfold zJ_; rw [if_pos (.inr (.inr h2))])
   have b3 : decide (64 < most) = true:=by simpa using h2
   clear h0 h1 h2 hR
   go_wp2_with fail
   go_ret
   exact ⟨by rw [hE.out]; rfl,HC.out⟩
 have b3 : decide (64 < most) = false:=by simpa using h2
 have HRE:=hQ_ (show R = if x0_ l (l.drop 0) 0 = true then xd_ l l.length 0 else 12 from by rw [hR]; unfold zJ_; rw [if_neg (by omega),if_neg (by rw [HLN.out]; omega)]; rfl)
 clear h0 h1 h2 hR
 go_wp2_with fail
 go_loopw [30] (fun i wr => ∃ k : Nat,i = .int .i64 (k : Int) ∧ k ≤ n ∧ Hid (Chg [] w1 wr) ∧ Hid (R = if x0_ l (l.drop k) k = true then xd_ l l.length 0 else 12)) (fun i _ => n - (intOf i).toNat)
 case atStart => exact ⟨0,rfl,by omega,hQ_ (Chg.refl [] _),HRE⟩
 case round =>
  obtain ⟨k,rfl,hk,HCr,HRk⟩:=hrel
  have HUr:=hQ_ (HU.out.keep HCr.out)
  by_cases hkn : k < n
  · have hkI : (k : Int) < (n : Int):=by omega
    obtain ⟨t,htk⟩ : ∃ t,l[k]? = some t:=⟨l[k]'(by rw [H.out.len]; exact hkn),by simp⟩
    have HSt:=hQ_ (show R = if ((zU_ t.name && (xC_ l t.name == (k : Int)) && decide (0 ≤ t.args) && decide (t.args ≤ 4)) && x0_ l (l.drop (k + 1)) (k + 1)) = true then xd_ l l.length 0 else 12 from by
     rw [HRk.out,show l.drop k = t :: l.drop (k + 1) from List.drop_eq_getElem?_toList_append.trans (by rw [htk]; rfl),x0_])
    obtain ⟨fb,fo,rfl,hfbl,e0,e1,e2⟩:=(H.out.keep (HC.out.new HCr.out)).cell htk
    obtain ⟨tn,ta,tc⟩:=t
    simp only at e0 e1 e2
    clear htk
    go_upto_region 8 with fail
    have hX:=zb_.new wr 58 [.int .i32 tn,.int .i64 ta,.string tc]
    have hc2:=(Chg.refl [] wr).alloc (.cells #[.int .i32 tn,.int .i64 ta,.string tc] 58)
    have HX2:=hQ_ hX
    have HC2:=hQ_ (HCr.out.new hc2)
    have HU2:=hQ_ (HUr.out.keep hc2)
    generalize wr.heap.size = gx at HX2 ⊢
    generalize wr.alloc (.cells #[.int .i32 tn,.int .i64 ta,.string tc] 58) = w3 at HX2 HC2 HU2 ⊢
    clear hX e0 e1 e2 hfbl hc2
    have x0:=HX2.out.cell 0
    have x1:=HX2.out.cell 1
    have v0:=HU2.out.cell 0
    have v1:=HU2.out.cell 1
    have v2:=HU2.out.cell 2
    have HNM:=hQ_ (fun w => u8_ tn w)
    have HFX:=hQ_ (HFI.out w3 (HC.out.new HC2.out) tn)
    by_cases hnm : zU_ tn = true
    · rw [hnm] at HNM
      by_cases hfi : xC_ l tn = (k : Int)
      · rw [hfi] at HFX
        by_cases ha0 : ta < 0
        · have q1 : decide (ta < 0) = true:=by simpa using ha0
          have HE:=hQ_ (show R = 12 from by rw [HSt.out,if_neg]; simp; omega)
          clear hnm hfi ha0
          go_wp2_with (first
           | (go_at_call 81
              refine (HNM.out _).mono ?_
              rintro e w4 ⟨rfl,rfl⟩)
           | (go_at_call 82
              refine HFX.out.mono ?_
              rintro e w5 ⟨rfl,hc5⟩
              have y1:=zf_ (by simpa using x1 : w3.cell? ⟨gx,1,none⟩ = some (.int .i64 ta)) hc5
              have HC5:=hQ_ (HC2.out.new hc5)
              clear hc5))
          go_ret
          exact ⟨by rw [HE.out]; rfl,HC.out.new HC5.out⟩
        · have q1 : decide (ta < 0) = false:=by simpa using ha0
          by_cases ha4 : 4 < ta
          · have q2 : decide (4 < ta) = true:=by simpa using ha4
            have HE:=hQ_ (show R = 12 from by rw [HSt.out,if_neg]; simp; omega)
            clear hnm hfi ha0 ha4
            go_wp2_with (first
             | (go_at_call 81
                refine (HNM.out _).mono ?_
                rintro e w4 ⟨rfl,rfl⟩)
             | (go_at_call 82
                refine HFX.out.mono ?_
                rintro e w5 ⟨rfl,hc5⟩
                have y1:=zf_ (by simpa using x1 : w3.cell? ⟨gx,1,none⟩ = some (.int .i64 ta)) hc5
                have HC5:=hQ_ (HC2.out.new hc5)
                clear hc5))
            go_ret
            exact ⟨by rw [HE.out]; rfl,HC.out.new HC5.out⟩
          · have q2 : decide (4 < ta) = false:=by simpa using ha4
            have HE:=hQ_ (show R = if x0_ l (l.drop (k + 1)) (k + 1) = true then xd_ l l.length 0 else 12 from by
             rw [HSt.out]
             simp only [hnm,hfi,beq_self_eq_true,Bool.true_and,decide_eq_true (show 0 ≤ ta by omega),decide_eq_true (show ta ≤ 4 by omega)])
            clear hnm hfi ha0 ha4
            go_wp2_with (first
             | (go_at_call 81
                refine (HNM.out _).mono ?_
                rintro e w4 ⟨rfl,rfl⟩)
             | (go_at_call 82
                refine HFX.out.mono ?_
                rintro e w5 ⟨rfl,hc5⟩
                have y1:=zf_ (by simpa using x1 : w3.cell? ⟨gx,1,none⟩ = some (.int .i64 ta)) hc5
                have HC5:=hQ_ (HC2.out.new hc5)
                clear hc5))
            exact ⟨⟨k + 1,by simp,by omega,HC5,HE⟩,by simp [intOf]; omega⟩
      · have HE:=hQ_ (show R = 12 from by rw [HSt.out,if_neg]; simp [hfi])
        obtain ⟨fi,hfe⟩ : ∃ fi,fi = xC_ l tn:=⟨_,rfl⟩
        rw [← hfe] at HFX hfi
        have qf : (fi != (k : Int)) = true:=by simpa using hfi
        clear hnm hfi hfe
        go_wp2_with (first
         | (go_at_call 81
            refine (HNM.out _).mono ?_
            rintro e w4 ⟨rfl,rfl⟩)
         | (go_at_call 82
            refine HFX.out.mono ?_
            rintro e w5 ⟨rfl,hc5⟩
            have y1:=zf_ (by simpa using x1 : w3.cell? ⟨gx,1,none⟩ = some (.int .i64 ta)) hc5
            have HC5:=hQ_ (HC2.out.new hc5)
            clear hc5))
        go_ret
        exact ⟨by rw [HE.out]; rfl,HC.out.new HC5.out⟩
    · have hnf : zU_ tn = false:=by simpa using hnm
      rw [hnf] at HNM
      have HE:=hQ_ (show R = 12 from by rw [HSt.out,if_neg]; simp [hnf])
      clear hnm hnf
      go_wp2_with (first
       | (go_at_call 81
          refine (HNM.out _).mono ?_
          rintro e w4 ⟨rfl,rfl⟩)
       | (go_at_call 82
          refine HFX.out.mono ?_
          rintro e w5 ⟨rfl,hc5⟩
          have y1:=zf_ (by simpa using x1 : w3.cell? ⟨gx,1,none⟩ = some (.int .i64 ta)) hc5
          have HC5:=hQ_ (HC2.out.new hc5)
          clear hc5))
      go_ret
      exact ⟨by rw [HE.out]; rfl,HC.out.new HC2.out⟩
  · have hkI : (n : Int) ≤ (k : Int):=by omega
    have HRF:=hQ_ (show R = xd_ l (n - 0) 0 from by
     rw [HRk.out,List.drop_eq_nil_of_le (by rw [HLN.out]; omega),x0_,if_pos rfl,HLN.out,Nat.sub_zero])
    have v0:=HUr.out.cell 0
    have v1:=HUr.out.cell 1
    have v2:=HUr.out.cell 2
    go_wp2_with fail
    go_loopw [61] (fun i ws => ∃ k : Nat,i = .int .i64 (k : Int) ∧ k ≤ n ∧ Hid (Chg [] w1 ws) ∧ Hid (R = xd_ l (n - k) k)) (fun i _ => n - (intOf i).toNat)
    case atStart => exact ⟨0,rfl,by omega,HCr,HRF⟩
    case round =>
     obtain ⟨j,rfl,hj,HCs,HRj⟩:=hrel
     have HUs:=hQ_ (HU.out.keep HCs.out)
     by_cases hjn : j < n
     · have hjI : (j : Int) < (n : Int):=by omega
       have s0:=HUs.out.cell 0
       have s1:=HUs.out.cell 1
       have s2:=HUs.out.cell 2
       have HFN:=hQ_ (HCF.out wr (HC.out.new HCs.out) (j : Int))
       have HST:=hQ_ (show R = if (rFn l (j : Int)).1 = 0 then xd_ l (n - (j + 1)) (j + 1) else (rFn l (j : Int)).1 from by
        rw [HRj.out,show n - j = (n - (j + 1)) + 1 from by omega,xd_])
       generalize rFn l (j : Int) = Q at HFN HST
       go_wp2_with fail
       refine HFN.out.mono ?_
       rintro e w5 ⟨v,rfl,ho,hc5⟩
       have HC5:=hQ_ (HCs.out.new hc5)
       obtain ⟨Av,cv,rfl,_⟩:=zp_ ho
       clear ho hc5
       obtain ⟨q1,q2⟩:=Q
       simp only at HST ⊢
       by_cases hq : q1 = 0
       · subst hq
         have HR2:=hQ_ (HST.out.trans (if_pos rfl))
         go_wp2_with fail
         go_roundw
         case rel => exact ⟨j + 1,by go_num,by omega,HC5,HR2⟩
         case measure => simp [intOf]; omega
       · have hqd : (q1 != 0) = true:=by simpa using hq
         have HR2:=hQ_ (HST.out.trans (if_neg hq))
         clear hq
         go_wp2_with fail
         go_ret
         exact ⟨by rw [HR2.out]; rfl,HC.out.new HC5.out⟩
     · have hjI : (n : Int) ≤ (j : Int):=by omega
       have HR2:=hQ_ (show R = 0 from by rw [HRj.out,show n - j = 0 from by omega,xd_])
       go_wp2_with fail
       go_ret
       exact ⟨by rw [HR2.out]; rfl,HC.out.new HCs.out⟩
theorem uX_ (hn : n > 32) (hn2 : n ≤ 9223372036854775807) (R : Int) (hR : R = if pages < 0 ∨ most < pages ∨ 64 < most then 25 else 3) : Calls Tryz.prog 52 #[.agg #[.int .i64 pages,.int .i64 most,.slice A n c]] W (yV_ W R):=by
 have HRR:=hQ_ hR
 clear hR
 go_enter Tryz.func52,Tryz.ntmps52
 go_upto_region 1 with fail
 have hN:=zb_.new W 24 [.int .i64 pages,.int .i64 most,.slice A n c]
 have hal : Chg [] W (W.alloc (.cells #[.int .i64 pages,.int .i64 most,.slice A n c] 24)):=(Chg.refl [] W).alloc _
 obtain ⟨g,hg⟩ : ∃ g,g = W.heap.size:=⟨_,rfl⟩
 rw [← hg] at hN ⊢
 have HU:=hQ_ hN
 have HC:=hQ_ hal
 generalize W.alloc (.cells #[.int .i64 pages,.int .i64 most,.slice A n c] 24) = w1 at HU HC ⊢
 clear hN hal hg
 have u0:=HU.out.cell 0
 have u1:=HU.out.cell 1
 have u2:=HU.out.cell 2
 have b4 : decide (32 < (n : Int)) = true:=by simp; omega
 by_cases h0 : pages < 0
 · have hE:=hQ_ (show R = 25 from by rw [HRR.out,if_pos (.inl h0)])
   have b1 : decide (pages < 0) = true:=by simpa using h0
   clear h0
   go_wp2_with fail
   go_ret
   exact ⟨by rw [hE.out]; rfl,HC.out⟩
 · have b1 : decide (pages < 0) = false:=by simpa using h0
   by_cases h1 : most < pages
   · have hE:=hQ_ (show R = 25 from by rw [HRR.out,if_pos (.inr (.inl h1))])
     have b2 : decide (most < pages) = true:=by simpa using h1
     clear h0 h1
     go_wp2_with fail
     go_ret
     exact ⟨by rw [hE.out]; rfl,HC.out⟩
   · have b2 : decide (most < pages) = false:=by simpa using h1
     by_cases h2 : 64 < most
     · have hE:=hQ_ (show R = 25 from by rw [HRR.out,if_pos (.inr (.inr h2))])
       have b3 : decide (64 < most) = true:=by simpa using h2
       clear h0 h1 h2
       go_wp2_with fail
       go_ret
       exact ⟨by rw [hE.out]; rfl,HC.out⟩
     · have hE:=hQ_ (show R = 3 from by rw [HRR.out,if_neg (by omega)])
       have b3 : decide (64 < most) = false:=by simpa using h2
       clear h0 h1 h2
       go_wp2_with fail
       go_ret
       exact ⟨by rw [hE.out]; rfl,HC.out⟩
theorem vW_ (h : Fnr W A n c l) (hsm : ∀ f ∈ l,f.code.size ≤ 9223372036854775807) : Calls Tryz.prog 52 #[z2_ pages most A n c] W (yV_ W (zJ_ pages most l)):=by
 by_cases hn32 : 32 < n
 · have e : zJ_ pages most l = (if pages < 0 ∨ most < pages ∨ 64 < most then (25 : Int) else 3):=by
    unfold zJ_
    have hq : 32 < l.length:=by rw [h.len]; exact hn32
    rw [if_pos hq]
   unfold z2_
   exact uX_ hn32 (by have:=h.max; omega) _ e
 have H:=hQ_ h
 have hmx:=h.max
 have HCF:=hQ_ (fun (w : World) (hc : Chg [] W w) (k : Int) => jz_ (pages:=pages) (most:=most) (h.keep hc) hsm k)
 have HFI:=hQ_ (fun (w : World) (hc : Chg [] W w) (nm : Int) => ge_ (pages:=pages) (most:=most) (h.keep hc) nm)
 have HLN:=hQ_ h.len
 obtain ⟨R,hR⟩ : ∃ R,R = zJ_ pages most l:=⟨_,rfl⟩
 rw [← hR]
 unfold z2_ at HCF HFI ⊢
 clear h hsm
 have b4 : decide (32 < (n : Int)) = false:=by simp; omega
 go_enter Tryz.func52,Tryz.ntmps52
 go_upto_region 1 with fail
 have hN:=zb_.new W 24 [.int .i64 pages,.int .i64 most,.slice A n c]
 have hal : Chg [] W (W.alloc (.cells #[.int .i64 pages,.int .i64 most,.slice A n c] 24)):=(Chg.refl [] W).alloc _
 obtain ⟨g,hg⟩ : ∃ g,g = W.heap.size:=⟨_,rfl⟩
 rw [← hg] at hN ⊢
 have HU:=hQ_ hN
 have HC:=hQ_ hal
 generalize W.alloc (.cells #[.int .i64 pages,.int .i64 most,.slice A n c] 24) = w1 at HU HC ⊢
 clear hN hal hg
 have u0:=HU.out.cell 0
 have u1:=HU.out.cell 1
 have u2:=HU.out.cell 2
 by_cases h0 : pages < 0
 · have hE:=hQ_ (show R = 25 from by rw [hR]; unfold zJ_; rw [if_pos (.inl h0)])
   have b1 : decide (pages < 0) = true:=by simpa using h0
   clear h0 hR
   go_wp2_with fail
   go_ret
   exact ⟨by rw [hE.out]; rfl,HC.out⟩
 have b1 : decide (pages < 0) = false:=by simpa using h0
 by_cases h1 : most < pages
 · have hE:=hQ_ (show R = 25 from by rw [hR]; unfold zJ_; rw [if_pos (.inr (.inl h1))])
   have b2 : decide (most < pages) = true:=by simpa using h1
   clear h0 h1 hR
   go_wp2_with fail
   go_ret
   exact ⟨by rw [hE.out]; rfl,HC.out⟩
 have b2 : decide (most < pages) = false:=by simpa using h1
 by_cases h2 : 64 < most
 · have hE:=hQ_ (show R = 25 from by rw [hR]; unfold zJ_; rw [if_pos (.inr (.inr h2))])
   have b3 : decide (64 < most) = true:=by simpa using h2
   clear h0 h1 h2 hR
   go_wp2_with fail
   go_ret
   exact ⟨by rw [hE.out]; rfl,HC.out⟩
 have b3 : decide (64 < most) = false:=by simpa using h2
 have HRE:=hQ_ (show R = if x0_ l (l.drop 0) 0 = true then xd_ l l.length 0 else 12 from by rw [hR]; unfold zJ_; rw [if_neg (by omega),if_neg (by rw [HLN.out]; omega)]; rfl)
 clear h0 h1 h2 hR
 go_wp2_with fail
 go_loopw [30] (fun i wr => ∃ k : Nat,i = .int .i64 (k : Int) ∧ k ≤ n ∧ Hid (Chg [] w1 wr) ∧ Hid (R = if x0_ l (l.drop k) k = true then xd_ l l.length 0 else 12)) (fun i _ => n - (intOf i).toNat)
 case atStart => exact ⟨0,rfl,by omega,hQ_ (Chg.refl [] _),HRE⟩
 case round =>
  obtain ⟨k,rfl,hk,HCr,HRk⟩:=hrel
  have HUr:=hQ_ (HU.out.keep HCr.out)
  by_cases hkn : k < n
  · have hkI : (k : Int) < (n : Int):=by omega
    obtain ⟨t,htk⟩ : ∃ t,l[k]? = some t:=⟨l[k]'(by rw [H.out.len]; exact hkn),by simp⟩
    have HSt:=hQ_ (show R = if ((zU_ t.name && (xC_ l t.name == (k : Int)) && decide (0 ≤ t.args) && decide (t.args ≤ 4)) && x0_ l (l.drop (k + 1)) (k + 1)) = true then xd_ l l.length 0 else 12 from by
     rw [HRk.out,show l.drop k = t :: l.drop (k + 1) from List.drop_eq_getElem?_toList_append.trans (by rw [htk]; rfl),x0_])
    obtain ⟨fb,fo,rfl,hfbl,e0,e1,e2⟩:=(H.out.keep (HC.out.new HCr.out)).cell htk
    obtain ⟨tn,ta,tc⟩:=t
    simp only at e0 e1 e2
    clear htk
    go_upto_region 8 with fail
    have hX:=zb_.new wr 58 [.int .i32 tn,.int .i64 ta,.string tc]
    have hc2:=(Chg.refl [] wr).alloc (.cells #[.int .i32 tn,.int .i64 ta,.string tc] 58)
    have HX2:=hQ_ hX
    have HC2:=hQ_ (HCr.out.new hc2)
    have HU2:=hQ_ (HUr.out.keep hc2)
    generalize wr.heap.size = gx at HX2 ⊢
    generalize wr.alloc (.cells #[.int .i32 tn,.int .i64 ta,.string tc] 58) = w3 at HX2 HC2 HU2 ⊢
    clear hX e0 e1 e2 hfbl hc2
    have x0:=HX2.out.cell 0
    have x1:=HX2.out.cell 1
    have v0:=HU2.out.cell 0
    have v1:=HU2.out.cell 1
    have v2:=HU2.out.cell 2
    have HNM:=hQ_ (fun w => uz_ tn w)
    have HFX:=hQ_ (HFI.out w3 (HC.out.new HC2.out) tn)
    by_cases hnm : zU_ tn = true
    · rw [hnm] at HNM
      by_cases hfi : xC_ l tn = (k : Int)
      · rw [hfi] at HFX
        by_cases ha0 : ta < 0
        · have q1 : decide (ta < 0) = true:=by simpa using ha0
          have HE:=hQ_ (show R = 12 from by rw [HSt.out,if_neg]; simp; omega)
          clear hnm hfi ha0
          go_wp2_with (first
           | (go_at_call 77
              refine (HNM.out _).mono ?_
              rintro e w4 ⟨rfl,rfl⟩)
           | (go_at_call 80
              refine HFX.out.mono ?_
              rintro e w5 ⟨rfl,hc5⟩
              have y1:=zf_ (by simpa using x1 : w3.cell? ⟨gx,1,none⟩ = some (.int .i64 ta)) hc5
              have HC5:=hQ_ (HC2.out.new hc5)
              clear hc5))
          go_ret
          exact ⟨by rw [HE.out]; rfl,HC.out.new HC5.out⟩
        · have q1 : decide (ta < 0) = false:=by simpa using ha0
          by_cases ha4 : 4 < ta
          · have q2 : decide (4 < ta) = true:=by simpa using ha4
            have HE:=hQ_ (show R = 12 from by rw [HSt.out,if_neg]; simp; omega)
            clear hnm hfi ha0 ha4
            go_wp2_with (first
             | (go_at_call 77
                refine (HNM.out _).mono ?_
                rintro e w4 ⟨rfl,rfl⟩)
             | (go_at_call 80
                refine HFX.out.mono ?_
                rintro e w5 ⟨rfl,hc5⟩
                have y1:=zf_ (by simpa using x1 : w3.cell? ⟨gx,1,none⟩ = some (.int .i64 ta)) hc5
                have HC5:=hQ_ (HC2.out.new hc5)
                clear hc5))
            go_ret
            exact ⟨by rw [HE.out]; rfl,HC.out.new HC5.out⟩
          · have q2 : decide (4 < ta) = false:=by simpa using ha4
            have HE:=hQ_ (show R = if x0_ l (l.drop (k + 1)) (k + 1) = true then xd_ l l.length 0 else 12 from by
             rw [HSt.out]
             simp only [hnm,hfi,beq_self_eq_true,Bool.true_and,decide_eq_true (show 0 ≤ ta by omega),decide_eq_true (show ta ≤ 4 by omega)])
            clear hnm hfi ha0 ha4
            go_wp2_with (first
             | (go_at_call 77
                refine (HNM.out _).mono ?_
                rintro e w4 ⟨rfl,rfl⟩)
             | (go_at_call 80
                refine HFX.out.mono ?_
                rintro e w5 ⟨rfl,hc5⟩
                have y1:=zf_ (by simpa using x1 : w3.cell? ⟨gx,1,none⟩ = some (.int .i64 ta)) hc5
                have HC5:=hQ_ (HC2.out.new hc5)
                clear hc5))
            exact ⟨⟨k + 1,by simp,by omega,HC5,HE⟩,by simp [intOf]; omega⟩
      · have HE:=hQ_ (show R = 12 from by rw [HSt.out,if_neg]; simp [hfi])
        obtain ⟨fi,hfe⟩ : ∃ fi,fi = xC_ l tn:=⟨_,rfl⟩
        rw [← hfe] at HFX hfi
        have qf : (fi != (k : Int)) = true:=by simpa using hfi
        clear hnm hfi hfe
        go_wp2_with (first
         | (go_at_call 77
            refine (HNM.out _).mono ?_
            rintro e w4 ⟨rfl,rfl⟩)
         | (go_at_call 80
            refine HFX.out.mono ?_
            rintro e w5 ⟨rfl,hc5⟩
            have y1:=zf_ (by simpa using x1 : w3.cell? ⟨gx,1,none⟩ = some (.int .i64 ta)) hc5
            have HC5:=hQ_ (HC2.out.new hc5)
            clear hc5))
        go_ret
        exact ⟨by rw [HE.out]; rfl,HC.out.new HC5.out⟩
    · have hnf : zU_ tn = false:=by simpa using hnm
      rw [hnf] at HNM
      have HE:=hQ_ (show R = 12 from by rw [HSt.out,if_neg]; simp [hnf])
      clear hnm hnf
      go_wp2_with (first
       | (go_at_call 77
          refine (HNM.out _).mono ?_
          rintro e w4 ⟨rfl,rfl⟩)
       | (go_at_call 80
          refine HFX.out.mono ?_
          rintro e w5 ⟨rfl,hc5⟩
          have y1:=zf_ (by simpa using x1 : w3.cell? ⟨gx,1,none⟩ = some (.int .i64 ta)) hc5
          have HC5:=hQ_ (HC2.out.new hc5)
          clear hc5))
      go_ret
      exact ⟨by rw [HE.out]; rfl,HC.out.new HC2.out⟩
  · have hkI : (n : Int) ≤ (k : Int):=by omega
    have HRF:=hQ_ (show R = xd_ l (n - 0) 0 from by
     rw [HRk.out,List.drop_eq_nil_of_le (by rw [HLN.out]; omega),x0_,if_pos rfl,HLN.out,Nat.sub_zero])
    have v0:=HUr.out.cell 0
    have v1:=HUr.out.cell 1
    have v2:=HUr.out.cell 2
    go_wp2_with fail
    go_loopw [61] (fun i ws => ∃ k : Nat,i = .int .i64 (k : Int) ∧ k ≤ n ∧ Hid (Chg [] w1 ws) ∧ Hid (R = xd_ l (n - k) k)) (fun i _ => n - (intOf i).toNat)
    case atStart => exact ⟨0,rfl,by omega,HCr,HRF⟩
    case round =>
     obtain ⟨j,rfl,hj,HCs,HRj⟩:=hrel
     have HUs:=hQ_ (HU.out.keep HCs.out)
     by_cases hjn : j < n
     · have hjI : (j : Int) < (n : Int):=by omega
       have s0:=HUs.out.cell 0
       have s1:=HUs.out.cell 1
       have s2:=HUs.out.cell 2
       have HFN:=hQ_ (HCF.out wr (HC.out.new HCs.out) (j : Int))
       have HST:=hQ_ (show R = if (rFn l (j : Int)).1 = 0 then xd_ l (n - (j + 1)) (j + 1) else (rFn l (j : Int)).1 from by
        rw [HRj.out,show n - j = (n - (j + 1)) + 1 from by omega,xd_])
       generalize rFn l (j : Int) = Q at HFN HST
       go_wp2_with fail
       refine HFN.out.mono ?_
       rintro e w5 ⟨v,rfl,ho,hc5⟩
       have HC5:=hQ_ (HCs.out.new hc5)
       obtain ⟨Av,cv,rfl,_⟩:=zp_ ho
       clear ho hc5
       obtain ⟨q1,q2⟩:=Q
       simp only at HST ⊢
       by_cases hq : q1 = 0
       · subst hq
         have HR2:=hQ_ (HST.out.trans (if_pos rfl))
         go_wp2_with fail
         go_roundw
         case rel => exact ⟨j + 1,by go_num,by omega,HC5,HR2⟩
         case measure => simp [intOf]; omega
       · have hqd : (q1 != 0) = true:=by simpa using hq
         have HR2:=hQ_ (HST.out.trans (if_neg hq))
         clear hq
         go_wp2_with fail
         go_ret
         exact ⟨by rw [HR2.out]; rfl,HC.out.new HC5.out⟩
     · have hjI : (n : Int) ≤ (j : Int):=by omega
       have HR2:=hQ_ (show R = 0 from by rw [HRj.out,show n - j = 0 from by omega,xd_])
       go_wp2_with fail
       go_ret
       exact ⟨by rw [HR2.out]; rfl,HC.out.new HCs.out⟩
end
theorem ze_ {fn : Func} {p u : Tmp} {ty : TypeId} (h : fn.results = #[.cell p ty,.tmp u]) (tmps : Array Value) (w : World) (g : Nat) (t : TypeId) (cs : List Value) (fs : Array Field)
    (hp : tmps.getD p undef = .pointer (some ⟨g,0,none⟩)) (hg : zb_ w g t cs) (hu : Tryz.prog.underlying ty = some (.struct fs)) (hi : (Tryz.prog.info? ty).map (·.size) = some cs.toArray.size) :
    (results fn tmps).run Tryz.prog w = .ok (.tuple #[.agg cs.toArray,tmps.getD u undef]) w:=by
      have hp' : tmps[p]?.getD undef = .pointer (some ⟨g,0,none⟩):=by simpa using hp
      rw [results_cell_tmp h]
      simp [hp',asAddr,run_loadVar_row w g t ty cs.toArray (0,0) (.struct fs) hg hu rfl hi]
def ua_ (l : List UInt8) : List UInt8 × List UInt8:=match xv_ l with | some p => p | none => (l,[])
theorem zfy (l : List UInt8) : zdI l = .tuple #[.string (zc_ (ua_ l).1),.string (zc_ (ua_ l).2),.bool (xv_ l).isSome]:=by
 unfold zdI ua_
 cases xv_ l with
 | none => rfl
 | some p => rfl
theorem gh_ (l : List UInt8) : (ua_ l).1.length ≤ l.length ∧ (ua_ l).2.length ≤ l.length:=by
 unfold ua_
 cases h : xv_ l with
 | none => simp
 | some p =>
   obtain ⟨a,b⟩:=p
   obtain ⟨h1,h2,h3⟩:=uE_ h
   simp only
   refine ⟨by omega,?_⟩
   rw [h2,List.length_drop]; omega
def qd_ : List UInt8:=[117,110,105,116]
theorem zaL (l : List UInt8) : xO_ l = (if (ua_ l).1 = qd_ then (match us_ (ua_ (ua_ l).2).1,us_ (ua_ (ua_ l).2).2 with | some x,some y => some (x,y) | _,_ => none) else none):=by
 have hnil : us_ [] = none:=rfl
 unfold xO_
 by_cases h5 : l.take 5 = [117,110,105,116,32]
 · have hl : l = qd_ ++ 32 :: l.drop 5:=by
    have:=List.take_append_drop 5 l
    rw [h5] at this
    rw [← this]
    rfl
   have hc : ua_ l = (qd_,l.drop 5):=by
    unfold ua_
    rw [hl,j1_ _ _ (by decide)]
    rfl
   rw [if_pos h5,hc]
   simp only [if_true]
   unfold ua_
   cases xv_ (l.drop 5) with
   | none =>
     simp only
     rw [hnil]
     cases us_ (l.drop 5) <;> rfl
   | some p => rfl
 · rw [if_neg h5]
   by_cases hu : (ua_ l).1 = qd_
   · rw [if_pos hu]
     unfold ua_ at hu ⊢
     cases hc : xv_ l with
     | none =>
       rw [hc] at hu
       simp only at hu ⊢
       rw [show xv_ ([] : List UInt8) = none from rfl]
       simp only
       rw [hnil]
     | some p =>
       obtain ⟨a,b⟩:=p
       rw [hc] at hu
       simp only at hu
       subst hu
       exfalso
       obtain ⟨h1,h2,h3⟩:=uE_ hc
       have hl : xv_ l = some (qd_,b):=hc
       have key : ∀ (a l b : List UInt8),xv_ l = some (a,b) → l = a ++ 32 :: b:=by
        intro a
        induction a with
        | nil =>
          intro l b h
          cases l with
          | nil => simp [xv_] at h
          | cons x l =>
            rw [xv_] at h
            by_cases hx : x = 32
            · rw [if_pos hx] at h
              simp at h
              rw [hx,h]
              rfl
            · rw [if_neg hx] at h
              cases hc : xv_ l with
              | none => rw [hc] at h; simp at h
              | some p => rw [hc] at h; simp at h
        | cons y a ih =>
          intro l b h
          cases l with
          | nil => simp [xv_] at h
          | cons x l =>
            rw [xv_] at h
            by_cases hx : x = 32
            · rw [if_pos hx] at h
              simp at h
            · rw [if_neg hx] at h
              cases hc : xv_ l with
              | none => rw [hc] at h; simp at h
              | some p =>
                obtain ⟨q,r⟩:=p
                rw [hc] at h
                simp at h
                obtain ⟨⟨rfl,rfl⟩,rfl⟩:=h
                rw [ih l r hc]
                rfl
       rw [key _ _ _ hl] at h5
       exact h5 rfl
   · rw [if_neg hu]
def zcF (l : List UInt8) : Value:=match xO_ l with
  | some (p,m) => .tuple #[.agg #[.int .i64 (p : Int),.int .i64 (m : Int),.slice none 0 0],.bool true]
  | none => .tuple #[.agg #[.int .i64 0,.int .i64 0,.slice none 0 0],.bool false]
def kh_ (l : List UInt8) (w : World) (e : Ending) (w' : World) : Prop:=e = .returned (zcF l) ∧ Chg [] w w'
section
variable {w : World}
theorem gE_ (l : List UInt8) (hl : l.length ≤ 1000000) : Calls Tryz.prog 94 #[.string (zc_ l)] w (kh_ l w):=by
 have hcl:=gh_ l
 have hcl2:=gh_ (ua_ l).2
 have HC1:=hQ_ (fun (W : World) => qB_ (w:=W) l hl)
 have HC2:=hQ_ (fun (W : World) => qB_ (w:=W) (ua_ l).2 (by omega))
 have HN1:=hQ_ (fun (W : World) => uL_ (w:=W) (ua_ (ua_ l).2).1 (by omega))
 have HN2:=hQ_ (fun (W : World) => uL_ (w:=W) (ua_ (ua_ l).2).2 (by omega))
 obtain ⟨V,hV⟩ : ∃ V,V = zcF l:=⟨_,rfl⟩
 unfold kh_
 rw [← hV]
 unfold zcF at hV
 rw [zaL] at hV
 unfold ud_ at HC1 HC2
 rw [zfy] at HC1 HC2
 unfold jj_ zcB at HN1 HN2
 have HV:=hQ_ hV
 clear hV hcl hcl2
 generalize (xv_ l).isSome = b1 at HC1
 generalize (xv_ (ua_ l).2).isSome = b2 at HC2
 generalize hF : (ua_ l).1 = F1 at HC1 HV
 generalize (ua_ l).2 = R1 at *
 generalize (ua_ R1).1 = S1 at *
 generalize (ua_ R1).2 = S2 at *
 have hP1 : ∀ m,us_ S1 = some m → m ≤ 9223372036854775807:=fun m h => zdO h
 clear hF hP1
 generalize us_ S1 = o1 at *
 generalize us_ S2 = o2 at *
 by_cases hF : F1 = qd_
 · subst hF
   rw [if_pos rfl] at HV
   have e4 : zc_ qd_ = ⟨#[117,110,105,116]⟩:=rfl
   rw [e4] at HC1
   cases o1 with
   | none =>
     simp only at HV HN1
     cases o2 with
     | none =>
       simp only at HN2
       go_enter Tryz.func94,Tryz.ntmps94
       go_upto_region 1 with fail
       have hN:=zb_.new w 24 [.int .i64 0,.int .i64 0,.slice none 0 0]
       have hal:=(Chg.refl [] w).alloc (.cells #[.int .i64 0,.int .i64 0,.slice none 0 0] 24)
       obtain ⟨g,hg⟩ : ∃ g,g = w.heap.size:=⟨_,rfl⟩
       rw [← hg] at hN ⊢
       have HG:=hQ_ hN
       have HW1:=hQ_ hal
       have HGS:=hQ_ hg
       generalize w.alloc (.cells #[.int .i64 0,.int .i64 0,.slice none 0 0] 24) = w1 at HG HW1 ⊢
       clear hN hal hg
       go_wp2_with (first
        | (go_at_call 115
           with_reducible refine (HC1.out _).mono ?_
           rintro e w2 ⟨rfl,hc2⟩
           have HQ2:=hQ_ (HW1.out.trans hc2)
           have HG2:=hQ_ (HG.out.keep hc2)
           clear hc2)
        | (go_at_call 115
           with_reducible refine (HC2.out _).mono ?_
           rintro e w3 ⟨rfl,hc3⟩
           have HQ3:=hQ_ (HQ2.out.trans hc3)
           have HG3:=hQ_ (HG2.out.keep hc3)
           clear hc3)
        | (go_at_call 116
           with_reducible refine (HN1.out _).mono ?_
           rintro e w4 ⟨rfl,hc4⟩
           have HQ4:=hQ_ (HQ3.out.trans hc4)
           have HG4:=hQ_ (HG3.out.keep hc4)
           clear hc4)
        | (go_at_call 116
           with_reducible refine (HN2.out _).mono ?_
           rintro e w5 ⟨rfl,hc5⟩
           have HQ5:=hQ_ (HQ4.out.trans hc5)
           have HG5:=hQ_ (HG4.out.keep hc5)
           have z0:=HG5.out.cell 0
           have z1:=HG5.out.cell 1
           have z2:=HG5.out.cell 2
           have f0:=HG5.out.frozen 0
           have f1:=HG5.out.frozen 1
           have f2:=HG5.out.frozen 2
           clear hc5))
       have hnl : ¬ g < w.heap.size:=by have:=HGS.out; omega
       have HC:=((HQ5.out.setCell (p:=⟨g,0,none⟩) (fun h => absurd h hnl) (.int .i64 0)).setCell (p:=⟨g,1,none⟩) (fun h => absurd h hnl) (.int .i64 0)).setCell (p:=⟨g,2,none⟩) (fun h => absurd h hnl) (.slice none 0 0)
       have HS:=((HG5.out.set_ 0 (.int .i64 0)).set_ 1 (.int .i64 0)).set_ 2 (.slice none 0 0)
       refine bodyPost_ret_by (ze_ rfl _ _ g 24 [(.int .i64 0),(.int .i64 0),.slice none 0 0] _ rfl HS Tryz.underlying24 (by kernel_rfl)) rfl ⟨by rw [HV.out]; rfl,HC⟩
     | some y =>
       simp only at HN2
       go_enter Tryz.func94,Tryz.ntmps94
       go_upto_region 1 with fail
       have hN:=zb_.new w 24 [.int .i64 0,.int .i64 0,.slice none 0 0]
       have hal:=(Chg.refl [] w).alloc (.cells #[.int .i64 0,.int .i64 0,.slice none 0 0] 24)
       obtain ⟨g,hg⟩ : ∃ g,g = w.heap.size:=⟨_,rfl⟩
       rw [← hg] at hN ⊢
       have HG:=hQ_ hN
       have HW1:=hQ_ hal
       have HGS:=hQ_ hg
       generalize w.alloc (.cells #[.int .i64 0,.int .i64 0,.slice none 0 0] 24) = w1 at HG HW1 ⊢
       clear hN hal hg
       go_wp2_with (first
        | (go_at_call 115
           with_reducible refine (HC1.out _).mono ?_
           rintro e w2 ⟨rfl,hc2⟩
           have HQ2:=hQ_ (HW1.out.trans hc2)
           have HG2:=hQ_ (HG.out.keep hc2)
           clear hc2)
        | (go_at_call 115
           with_reducible refine (HC2.out _).mono ?_
           rintro e w3 ⟨rfl,hc3⟩
           have HQ3:=hQ_ (HQ2.out.trans hc3)
           have HG3:=hQ_ (HG2.out.keep hc3)
           clear hc3)
        | (go_at_call 116
           with_reducible refine (HN1.out _).mono ?_
           rintro e w4 ⟨rfl,hc4⟩
           have HQ4:=hQ_ (HQ3.out.trans hc4)
           have HG4:=hQ_ (HG3.out.keep hc4)
           clear hc4)
        | (go_at_call 116
           with_reducible refine (HN2.out _).mono ?_
           rintro e w5 ⟨rfl,hc5⟩
           have HQ5:=hQ_ (HQ4.out.trans hc5)
           have HG5:=hQ_ (HG4.out.keep hc5)
           have z0:=HG5.out.cell 0
           have z1:=HG5.out.cell 1
           have z2:=HG5.out.cell 2
           have f0:=HG5.out.frozen 0
           have f1:=HG5.out.frozen 1
           have f2:=HG5.out.frozen 2
           clear hc5))
       have hnl : ¬ g < w.heap.size:=by have:=HGS.out; omega
       have HC:=((HQ5.out.setCell (p:=⟨g,0,none⟩) (fun h => absurd h hnl) (.int .i64 0)).setCell (p:=⟨g,1,none⟩) (fun h => absurd h hnl) (.int .i64 0)).setCell (p:=⟨g,2,none⟩) (fun h => absurd h hnl) (.slice none 0 0)
       have HS:=((HG5.out.set_ 0 (.int .i64 0)).set_ 1 (.int .i64 0)).set_ 2 (.slice none 0 0)
       refine bodyPost_ret_by (ze_ rfl _ _ g 24 [(.int .i64 0),(.int .i64 0),.slice none 0 0] _ rfl HS Tryz.underlying24 (by kernel_rfl)) rfl ⟨by rw [HV.out]; rfl,HC⟩
   | some x => cases o2 with
     | none =>
       simp only at HV HN1 HN2
       go_enter Tryz.func94,Tryz.ntmps94
       go_upto_region 1 with fail
       have hN:=zb_.new w 24 [.int .i64 0,.int .i64 0,.slice none 0 0]
       have hal:=(Chg.refl [] w).alloc (.cells #[.int .i64 0,.int .i64 0,.slice none 0 0] 24)
       obtain ⟨g,hg⟩ : ∃ g,g = w.heap.size:=⟨_,rfl⟩
       rw [← hg] at hN ⊢
       have HG:=hQ_ hN
       have HW1:=hQ_ hal
       have HGS:=hQ_ hg
       generalize w.alloc (.cells #[.int .i64 0,.int .i64 0,.slice none 0 0] 24) = w1 at HG HW1 ⊢
       clear hN hal hg
       go_wp2_with (first
        | (go_at_call 115
           with_reducible refine (HC1.out _).mono ?_
           rintro e w2 ⟨rfl,hc2⟩
           have HQ2:=hQ_ (HW1.out.trans hc2)
           have HG2:=hQ_ (HG.out.keep hc2)
           clear hc2)
        | (go_at_call 115
           with_reducible refine (HC2.out _).mono ?_
           rintro e w3 ⟨rfl,hc3⟩
           have HQ3:=hQ_ (HQ2.out.trans hc3)
           have HG3:=hQ_ (HG2.out.keep hc3)
           clear hc3)
        | (go_at_call 116
           with_reducible refine (HN1.out _).mono ?_
           rintro e w4 ⟨rfl,hc4⟩
           have HQ4:=hQ_ (HQ3.out.trans hc4)
           have HG4:=hQ_ (HG3.out.keep hc4)
           clear hc4)
        | (go_at_call 116
           with_reducible refine (HN2.out _).mono ?_
           rintro e w5 ⟨rfl,hc5⟩
           have HQ5:=hQ_ (HQ4.out.trans hc5)
           have HG5:=hQ_ (HG4.out.keep hc5)
           have z0:=HG5.out.cell 0
           have z1:=HG5.out.cell 1
           have z2:=HG5.out.cell 2
           have f0:=HG5.out.frozen 0
           have f1:=HG5.out.frozen 1
           have f2:=HG5.out.frozen 2
           clear hc5))
       have hnl : ¬ g < w.heap.size:=by have:=HGS.out; omega
       have HC:=((HQ5.out.setCell (p:=⟨g,0,none⟩) (fun h => absurd h hnl) (.int .i64 0)).setCell (p:=⟨g,1,none⟩) (fun h => absurd h hnl) (.int .i64 0)).setCell (p:=⟨g,2,none⟩) (fun h => absurd h hnl) (.slice none 0 0)
       have HS:=((HG5.out.set_ 0 (.int .i64 0)).set_ 1 (.int .i64 0)).set_ 2 (.slice none 0 0)
       refine bodyPost_ret_by (ze_ rfl _ _ g 24 [(.int .i64 0),(.int .i64 0),.slice none 0 0] _ rfl HS Tryz.underlying24 (by kernel_rfl)) rfl ⟨by rw [HV.out]; rfl,HC⟩
     | some y =>
       simp only at HV HN1 HN2
       go_enter Tryz.func94,Tryz.ntmps94
       go_upto_region 1 with fail
       have hN:=zb_.new w 24 [.int .i64 0,.int .i64 0,.slice none 0 0]
       have hal:=(Chg.refl [] w).alloc (.cells #[.int .i64 0,.int .i64 0,.slice none 0 0] 24)
       obtain ⟨g,hg⟩ : ∃ g,g = w.heap.size:=⟨_,rfl⟩
       rw [← hg] at hN ⊢
       have HG:=hQ_ hN
       have HW1:=hQ_ hal
       have HGS:=hQ_ hg
       generalize w.alloc (.cells #[.int .i64 0,.int .i64 0,.slice none 0 0] 24) = w1 at HG HW1 ⊢
       clear hN hal hg
       go_wp2_with (first
        | (go_at_call 115
           with_reducible refine (HC1.out _).mono ?_
           rintro e w2 ⟨rfl,hc2⟩
           have HQ2:=hQ_ (HW1.out.trans hc2)
           have HG2:=hQ_ (HG.out.keep hc2)
           clear hc2)
        | (go_at_call 115
           with_reducible refine (HC2.out _).mono ?_
           rintro e w3 ⟨rfl,hc3⟩
           have HQ3:=hQ_ (HQ2.out.trans hc3)
           have HG3:=hQ_ (HG2.out.keep hc3)
           clear hc3)
        | (go_at_call 116
           with_reducible refine (HN1.out _).mono ?_
           rintro e w4 ⟨rfl,hc4⟩
           have HQ4:=hQ_ (HQ3.out.trans hc4)
           have HG4:=hQ_ (HG3.out.keep hc4)
           clear hc4)
        | (go_at_call 116
           with_reducible refine (HN2.out _).mono ?_
           rintro e w5 ⟨rfl,hc5⟩
           have HQ5:=hQ_ (HQ4.out.trans hc5)
           have HG5:=hQ_ (HG4.out.keep hc5)
           have z0:=HG5.out.cell 0
           have z1:=HG5.out.cell 1
           have z2:=HG5.out.cell 2
           have f0:=HG5.out.frozen 0
           have f1:=HG5.out.frozen 1
           have f2:=HG5.out.frozen 2
           clear hc5))
       have hnl : ¬ g < w.heap.size:=by have:=HGS.out; omega
       have HC:=((HQ5.out.setCell (p:=⟨g,0,none⟩) (fun h => absurd h hnl) (.int .i64 (x : Int))).setCell (p:=⟨g,1,none⟩) (fun h => absurd h hnl) (.int .i64 (y : Int))).setCell (p:=⟨g,2,none⟩) (fun h => absurd h hnl) (.slice none 0 0)
       have HS:=((HG5.out.set_ 0 (.int .i64 (x : Int))).set_ 1 (.int .i64 (y : Int))).set_ 2 (.slice none 0 0)
       refine bodyPost_ret_by (ze_ rfl _ _ g 24 [(.int .i64 (x : Int)),(.int .i64 (y : Int)),.slice none 0 0] _ rfl HS Tryz.underlying24 (by kernel_rfl)) rfl ⟨by rw [HV.out]; rfl,HC⟩
 · rw [if_neg hF] at HV
   have hne : ¬ (zc_ F1).toList = [117,110,105,116]:=by
    rw [ByteArray.toList_eq,ye_]
    exact hF
   cases o1 with
   | none =>
     simp only at HV HN1
     cases o2 with
     | none =>
       simp only at HN2
       go_enter Tryz.func94,Tryz.ntmps94
       go_upto_region 1 with fail
       have hN:=zb_.new w 24 [.int .i64 0,.int .i64 0,.slice none 0 0]
       have hal:=(Chg.refl [] w).alloc (.cells #[.int .i64 0,.int .i64 0,.slice none 0 0] 24)
       obtain ⟨g,hg⟩ : ∃ g,g = w.heap.size:=⟨_,rfl⟩
       rw [← hg] at hN ⊢
       have HG:=hQ_ hN
       have HW1:=hQ_ hal
       have HGS:=hQ_ hg
       generalize w.alloc (.cells #[.int .i64 0,.int .i64 0,.slice none 0 0] 24) = w1 at HG HW1 ⊢
       clear hN hal hg
       go_wp2_with (first
        | (go_at_call 115
           with_reducible refine (HC1.out _).mono ?_
           rintro e w2 ⟨rfl,hc2⟩
           have HQ2:=hQ_ (HW1.out.trans hc2)
           have HG2:=hQ_ (HG.out.keep hc2)
           clear hc2)
        | (go_at_call 115
           with_reducible refine (HC2.out _).mono ?_
           rintro e w3 ⟨rfl,hc3⟩
           have HQ3:=hQ_ (HQ2.out.trans hc3)
           have HG3:=hQ_ (HG2.out.keep hc3)
           clear hc3)
        | (go_at_call 116
           with_reducible refine (HN1.out _).mono ?_
           rintro e w4 ⟨rfl,hc4⟩
           have HQ4:=hQ_ (HQ3.out.trans hc4)
           have HG4:=hQ_ (HG3.out.keep hc4)
           clear hc4)
        | (go_at_call 116
           with_reducible refine (HN2.out _).mono ?_
           rintro e w5 ⟨rfl,hc5⟩
           have HQ5:=hQ_ (HQ4.out.trans hc5)
           have HG5:=hQ_ (HG4.out.keep hc5)
           have z0:=HG5.out.cell 0
           have z1:=HG5.out.cell 1
           have z2:=HG5.out.cell 2
           have f0:=HG5.out.frozen 0
           have f1:=HG5.out.frozen 1
           have f2:=HG5.out.frozen 2
           clear hc5))
       have hnl : ¬ g < w.heap.size:=by have:=HGS.out; omega
       have HC:=((HQ5.out.setCell (p:=⟨g,0,none⟩) (fun h => absurd h hnl) (.int .i64 0)).setCell (p:=⟨g,1,none⟩) (fun h => absurd h hnl) (.int .i64 0)).setCell (p:=⟨g,2,none⟩) (fun h => absurd h hnl) (.slice none 0 0)
       have HS:=((HG5.out.set_ 0 (.int .i64 0)).set_ 1 (.int .i64 0)).set_ 2 (.slice none 0 0)
       refine bodyPost_ret_by (ze_ rfl _ _ g 24 [(.int .i64 0),(.int .i64 0),.slice none 0 0] _ rfl HS Tryz.underlying24 (by kernel_rfl)) rfl ⟨by rw [HV.out]; rfl,HC⟩
     | some y =>
       simp only at HN2
       go_enter Tryz.func94,Tryz.ntmps94
       go_upto_region 1 with fail
       have hN:=zb_.new w 24 [.int .i64 0,.int .i64 0,.slice none 0 0]
       have hal:=(Chg.refl [] w).alloc (.cells #[.int .i64 0,.int .i64 0,.slice none 0 0] 24)
       obtain ⟨g,hg⟩ : ∃ g,g = w.heap.size:=⟨_,rfl⟩
       rw [← hg] at hN ⊢
       have HG:=hQ_ hN
       have HW1:=hQ_ hal
       have HGS:=hQ_ hg
       generalize w.alloc (.cells #[.int .i64 0,.int .i64 0,.slice none 0 0] 24) = w1 at HG HW1 ⊢
       clear hN hal hg
       go_wp2_with (first
        | (go_at_call 115
           with_reducible refine (HC1.out _).mono ?_
           rintro e w2 ⟨rfl,hc2⟩
           have HQ2:=hQ_ (HW1.out.trans hc2)
           have HG2:=hQ_ (HG.out.keep hc2)
           clear hc2)
        | (go_at_call 115
           with_reducible refine (HC2.out _).mono ?_
           rintro e w3 ⟨rfl,hc3⟩
           have HQ3:=hQ_ (HQ2.out.trans hc3)
           have HG3:=hQ_ (HG2.out.keep hc3)
           clear hc3)
        | (go_at_call 116
           with_reducible refine (HN1.out _).mono ?_
           rintro e w4 ⟨rfl,hc4⟩
           have HQ4:=hQ_ (HQ3.out.trans hc4)
           have HG4:=hQ_ (HG3.out.keep hc4)
           clear hc4)
        | (go_at_call 116
           with_reducible refine (HN2.out _).mono ?_
           rintro e w5 ⟨rfl,hc5⟩
           have HQ5:=hQ_ (HQ4.out.trans hc5)
           have HG5:=hQ_ (HG4.out.keep hc5)
           have z0:=HG5.out.cell 0
           have z1:=HG5.out.cell 1
           have z2:=HG5.out.cell 2
           have f0:=HG5.out.frozen 0
           have f1:=HG5.out.frozen 1
           have f2:=HG5.out.frozen 2
           clear hc5))
       have hnl : ¬ g < w.heap.size:=by have:=HGS.out; omega
       have HC:=((HQ5.out.setCell (p:=⟨g,0,none⟩) (fun h => absurd h hnl) (.int .i64 0)).setCell (p:=⟨g,1,none⟩) (fun h => absurd h hnl) (.int .i64 0)).setCell (p:=⟨g,2,none⟩) (fun h => absurd h hnl) (.slice none 0 0)
       have HS:=((HG5.out.set_ 0 (.int .i64 0)).set_ 1 (.int .i64 0)).set_ 2 (.slice none 0 0)
       refine bodyPost_ret_by (ze_ rfl _ _ g 24 [(.int .i64 0),(.int .i64 0),.slice none 0 0] _ rfl HS Tryz.underlying24 (by kernel_rfl)) rfl ⟨by rw [HV.out]; rfl,HC⟩
   | some x => cases o2 with
     | none =>
       simp only at HV HN1 HN2
       go_enter Tryz.func94,Tryz.ntmps94
       go_upto_region 1 with fail
       have hN:=zb_.new w 24 [.int .i64 0,.int .i64 0,.slice none 0 0]
       have hal:=(Chg.refl [] w).alloc (.cells #[.int .i64 0,.int .i64 0,.slice none 0 0] 24)
       obtain ⟨g,hg⟩ : ∃ g,g = w.heap.size:=⟨_,rfl⟩
       rw [← hg] at hN ⊢
       have HG:=hQ_ hN
       have HW1:=hQ_ hal
       have HGS:=hQ_ hg
       generalize w.alloc (.cells #[.int .i64 0,.int .i64 0,.slice none 0 0] 24) = w1 at HG HW1 ⊢
       clear hN hal hg
       go_wp2_with (first
        | (go_at_call 115
           with_reducible refine (HC1.out _).mono ?_
           rintro e w2 ⟨rfl,hc2⟩
           have HQ2:=hQ_ (HW1.out.trans hc2)
           have HG2:=hQ_ (HG.out.keep hc2)
           clear hc2)
        | (go_at_call 115
           with_reducible refine (HC2.out _).mono ?_
           rintro e w3 ⟨rfl,hc3⟩
           have HQ3:=hQ_ (HQ2.out.trans hc3)
           have HG3:=hQ_ (HG2.out.keep hc3)
           clear hc3)
        | (go_at_call 116
           with_reducible refine (HN1.out _).mono ?_
           rintro e w4 ⟨rfl,hc4⟩
           have HQ4:=hQ_ (HQ3.out.trans hc4)
           have HG4:=hQ_ (HG3.out.keep hc4)
           clear hc4)
        | (go_at_call 116
           with_reducible refine (HN2.out _).mono ?_
           rintro e w5 ⟨rfl,hc5⟩
           have HQ5:=hQ_ (HQ4.out.trans hc5)
           have HG5:=hQ_ (HG4.out.keep hc5)
           have z0:=HG5.out.cell 0
           have z1:=HG5.out.cell 1
           have z2:=HG5.out.cell 2
           have f0:=HG5.out.frozen 0
           have f1:=HG5.out.frozen 1
           have f2:=HG5.out.frozen 2
           clear hc5))
       have hnl : ¬ g < w.heap.size:=by have:=HGS.out; omega
       have HC:=((HQ5.out.setCell (p:=⟨g,0,none⟩) (fun h => absurd h hnl) (.int .i64 0)).setCell (p:=⟨g,1,none⟩) (fun h => absurd h hnl) (.int .i64 0)).setCell (p:=⟨g,2,none⟩) (fun h => absurd h hnl) (.slice none 0 0)
       have HS:=((HG5.out.set_ 0 (.int .i64 0)).set_ 1 (.int .i64 0)).set_ 2 (.slice none 0 0)
       refine bodyPost_ret_by (ze_ rfl _ _ g 24 [(.int .i64 0),(.int .i64 0),.slice none 0 0] _ rfl HS Tryz.underlying24 (by kernel_rfl)) rfl ⟨by rw [HV.out]; rfl,HC⟩
     | some y =>
       simp only at HV HN1 HN2
       go_enter Tryz.func94,Tryz.ntmps94
       go_upto_region 1 with fail
       have hN:=zb_.new w 24 [.int .i64 0,.int .i64 0,.slice none 0 0]
       have hal:=(Chg.refl [] w).alloc (.cells #[.int .i64 0,.int .i64 0,.slice none 0 0] 24)
       obtain ⟨g,hg⟩ : ∃ g,g = w.heap.size:=⟨_,rfl⟩
       rw [← hg] at hN ⊢
       have HG:=hQ_ hN
       have HW1:=hQ_ hal
       have HGS:=hQ_ hg
       generalize w.alloc (.cells #[.int .i64 0,.int .i64 0,.slice none 0 0] 24) = w1 at HG HW1 ⊢
       clear hN hal hg
       go_wp2_with (first
        | (go_at_call 115
           with_reducible refine (HC1.out _).mono ?_
           rintro e w2 ⟨rfl,hc2⟩
           have HQ2:=hQ_ (HW1.out.trans hc2)
           have HG2:=hQ_ (HG.out.keep hc2)
           clear hc2)
        | (go_at_call 115
           with_reducible refine (HC2.out _).mono ?_
           rintro e w3 ⟨rfl,hc3⟩
           have HQ3:=hQ_ (HQ2.out.trans hc3)
           have HG3:=hQ_ (HG2.out.keep hc3)
           clear hc3)
        | (go_at_call 116
           with_reducible refine (HN1.out _).mono ?_
           rintro e w4 ⟨rfl,hc4⟩
           have HQ4:=hQ_ (HQ3.out.trans hc4)
           have HG4:=hQ_ (HG3.out.keep hc4)
           clear hc4)
        | (go_at_call 116
           with_reducible refine (HN2.out _).mono ?_
           rintro e w5 ⟨rfl,hc5⟩
           have HQ5:=hQ_ (HQ4.out.trans hc5)
           have HG5:=hQ_ (HG4.out.keep hc5)
           have z0:=HG5.out.cell 0
           have z1:=HG5.out.cell 1
           have z2:=HG5.out.cell 2
           have f0:=HG5.out.frozen 0
           have f1:=HG5.out.frozen 1
           have f2:=HG5.out.frozen 2
           clear hc5))
       have hnl : ¬ g < w.heap.size:=by have:=HGS.out; omega
       have HC:=((HQ5.out.setCell (p:=⟨g,0,none⟩) (fun h => absurd h hnl) (.int .i64 0)).setCell (p:=⟨g,1,none⟩) (fun h => absurd h hnl) (.int .i64 0)).setCell (p:=⟨g,2,none⟩) (fun h => absurd h hnl) (.slice none 0 0)
       have HS:=((HG5.out.set_ 0 (.int .i64 0)).set_ 1 (.int .i64 0)).set_ 2 (.slice none 0 0)
       refine bodyPost_ret_by (ze_ rfl _ _ g 24 [(.int .i64 0),(.int .i64 0),.slice none 0 0] _ rfl HS Tryz.underlying24 (by kernel_rfl)) rfl ⟨by rw [HV.out]; rfl,HC⟩
end
end Go.Proofs.YtbkfhndmeljlcaaGreatDoor
