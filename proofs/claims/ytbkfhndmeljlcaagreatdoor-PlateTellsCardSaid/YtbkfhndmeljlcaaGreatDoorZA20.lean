import Derived.Test.YtbkfhndmeljlcaaGreatDoorZA19
set_option maxRecDepth 100000
set_option maxHeartbeats 16000000
namespace Go.Proofs.YtbkfhndmeljlcaaGreatDoor
open Go.RowKit
def ue_ (L : List UInt8) : Nat → List (Nat × List UInt8)
  | 0 => []
  | k + 1 => ue_ L k ++ [(1 + k,pg L k)]
theorem x6_ (L : List UInt8) : ∀ k,(ue_ L k).length = k
  | 0 => rfl
  | k + 1 => by rw [ue_,List.length_append,x6_ L k]; rfl
theorem gu_ (L : List UInt8) : ∀ k i,i < k → (ue_ L k)[i]? = some (1 + i,pg L i)
  | 0,i,h => by omega
  | k + 1,i,h => by
    rw [ue_]
    rcases Nat.lt_or_ge i k with hk | hk
    · rw [List.getElem?_append_left (by rw [x6_]; exact hk)]; exact gu_ L k i hk
    · obtain rfl : i = k:=by omega
      rw [List.getElem?_append_right (by rw [x6_]; exact Nat.le_refl _),x6_,Nat.sub_self]; rfl
theorem zeM (T : List UInt8) (m i : Nat) (h1 : i * 64 ≤ T.length) (h2 : (i + 1) * 64 ≤ T.length + m) : pg (T ++ zt_ m) i = pgT T i:=by
 unfold pg pgT
 rw [List.drop_append_of_le_length h1,List.take_append,List.length_take,List.length_drop]
 congr 1
 unfold zt_
 rw [List.take_replicate]
 congr 1
 omega
theorem zeK (T : List UInt8) (m i : Nat) (h1 : T.length ≤ i * 64) (h2 : (i + 1) * 64 ≤ T.length + m) : pg (T ++ zt_ m) i = zt_ 64:=by
 unfold pg
 rw [List.drop_append,List.drop_of_length_le h1,List.nil_append]
 unfold zt_
 rw [List.drop_replicate,List.take_replicate]
 congr 1
 omega
theorem zdS (T : List UInt8) (p : Nat) : ue_ (T ++ zt_ (zs_ T.length * 64 - T.length + p * 64)) (zs_ T.length + p) = plT T (zs_ T.length) ++ plM (1 + zs_ T.length) p:=by
 have hle : T.length ≤ zs_ T.length * 64:=by unfold zs_; omega
 apply List.ext_getElem?
 intro i
 rcases Nat.lt_or_ge i (zs_ T.length + p) with hi | hi
 · rw [gu_ _ _ _ hi]
   rcases Nat.lt_or_ge i (zs_ T.length) with hk | hk
   · rw [List.getElem?_append_left (by rw [yR_]; exact hk),zbC _ _ _ hk,zeM T _ i (by unfold zs_ at hk; omega) (by omega)]
   · rw [List.getElem?_append_right (by rw [yR_]; exact hk),yR_,zbD _ _ _ (by omega),zeK T _ i (by omega) (by omega)]
     congr 2
     omega
 · rw [List.getElem?_eq_none (by rw [x6_]; exact hi),List.getElem?_eq_none (by rw [List.length_append,yR_,vw_]; exact hi)]
theorem OwnM.grown {w w' : World} {B B2 n m : Nat} {v v2 : Value} {out : List UInt8} {ys : List Value} (h : OwnM w B v n out) (h2 : w.ownsRow B2 44 2 v2 m ys) (hg : w.grownBy w' v2.ownBlock) : OwnM w' B v n out:=by
 obtain ⟨hl,g,cap,cur,fz,e,hB,hgg,rest⟩:=h
 refine ⟨hl,g,cap,cur,fz,e,hB,?_,rest⟩
 rw [hg.block g (Array.getElem?_eq_some_iff.1 hgg).1 (fun hc => ?_),hgg]
 rcases h2.2 with ⟨rfl,_⟩ | ⟨g',cap',cur',rfl,_,hg',_⟩
 · cases hc
 · injection hc with hc
   simp only at hc
   subst hc
   rw [hgg] at hg'
   injection hg' with hg'
   injection hg' with _ h5
   revert h5
   decide
theorem OwnM.bs_at {w : World} {B n g c : Nat} {out : List UInt8} (h : OwnM w B (.slice (some ⟨g,0,none⟩) n c) n out) : Bs w (some ⟨g,0,none⟩) n c out:=by
 obtain ⟨g',c',e,hb⟩:=h.bs
 injection e with e1 _ e2
 injection e1 with e1
 injection e1 with e1
 subst e1; subst e2
 exact hb
section
variable {w : World} {pg ms : Int} {A : Option Addr} {n c : Nat} {E : Int} {T : List UInt8}
theorem kN_ (hT : zaI w pg ms A n c T E) (hTl : T.length ≤ 2048) (hms : E = 0 → 0 ≤ pg ∧ pg ≤ ms ∧ ms ≤ 64) (pages : Int) : Calls Tryz.prog 40 #[.agg #[.int .i64 pg,.int .i64 ms,.slice A n c],.int .i64 pages] w (xm_ w (ut_ T E pg ms pages).1 (ut_ T E pg ms pages).2):=by
 obtain ⟨i0,hi,hz0,hz1,hz2⟩:=info_parts kd_
 have HT:=hQ_ hT
 have HND:=hQ_ (fun (W : World) (hc : Chg [] w W) => vH_ (hT.keep hc) hTl (fun h => ⟨by have:=hms h; omega,(hms h).2.2⟩))
 have HNO:=hQ_ (show ∀ (r : Int) (wr : World),ut_ T E pg ms pages = ([],r) → Chg [] w wr → xm_ w (ut_ T E pg ms pages).1 (ut_ T E pg ms pages).2 (.returned (.tuple #[.slice none 0 0,.int .i64 r])) wr from fun r wr h hc => by rw [h]; exact xm_.no hc)
 have HYES:=hQ_ (show ∀ (v : Value) (ls : List ChV) (wr : World) (B : Nat),ut_ T E pg ms pages = (v3_ T pg.toNat,0) → w.heap.size ≤ B → wr.ownsRow B 44 2 v ls.length (vS_ ls) → (∀ a ∈ ls,RMade wr B a) → ku_ ls (v3_ T pg.toNat) → Chg [] w wr → xm_ w (ut_ T E pg ms pages).1 (ut_ T E pg ms pages).2 (.returned (.tuple #[v,.int .i64 0])) wr from fun v ls wr B h hB h1 h2 h3 h4 => by rw [h]; exact ⟨v,ls,rfl,jJ_ h1 hB,fun a ha => (h2 a ha).more hB,h3,h4⟩)
 have HDEF:=hQ_ (show ut_ T E pg ms pages = if E ≠ 0 then ([],E) else if pages < yn_ T E ms ∨ 64 < pages then ([],25) else (v3_ T pg.toNat,0) from rfl)
 clear hT
 generalize ut_ T E pg ms pages = RP at HNO HYES HDEF ⊢
 generalize xm_ w RP.1 RP.2 = PO at HNO HYES ⊢
 unfold zaI zG_ at HT
 go_enter Tryz.func40,Tryz.ntmps40
 go_upto_region 1 with fail
 have hN:=zb_.new w 24 [.int .i64 pg,.int .i64 ms,.slice A n c]
 have hal:=(Chg.refl [] w).alloc (.cells #[.int .i64 pg,.int .i64 ms,.slice A n c] 24)
 have HU1:=hQ_ hN
 have HC1:=hQ_ hal
 clear hN hal
 have HGW:=hQ_ (Nat.le_refl w.heap.size)
 obtain ⟨gu,hgu⟩ : ∃ gu,gu = w.heap.size:=⟨_,rfl⟩
 rw [← hgu] at HU1 ⊢
 clear hgu
 generalize w.alloc (.cells #[.int .i64 pg,.int .i64 ms,.slice A n c] 24) = w1 at HU1 HC1 ⊢
 have u0:=HU1.out.cell 0
 have u1:=HU1.out.cell 1
 have u2:=HU1.out.cell 2
 by_cases hE : E = 0
 · subst hE
   obtain ⟨hp0,hpm,hm1⟩:=hms rfl
   obtain ⟨p,rfl⟩ : ∃ p : Nat,pg = (p : Int):=⟨pg.toNat,by omega⟩
   have hp64 : p ≤ 64:=by omega
   have hnz : yn_ T 0 ms = 1 + (zs_ T.length : Int) + ms:=by unfold yn_; rw [if_pos rfl]
   by_cases hbad : pages < yn_ T 0 ms ∨ 64 < pages
   · have HR:=hQ_ (show RP = ([],25) from by rw [HDEF.out,if_neg (by simp),if_pos hbad])
     generalize yn_ T 0 ms = N at HND hbad
     clear hnz HDEF hTl hms
     generalize zc_ T = S at HT
     by_cases hb1 : pages < N
     · clear hbad
       go_wp2_with (first
        | (go_at_call 26
           refine (HT.out _ HC1.out).mono ?_
           rintro e w2 ⟨rfl,hc2⟩
           have HC2:=hQ_ (HC1.out.trans hc2)
           have HU2:=hQ_ (HU1.out.keep hc2)
           have v0:=HU2.out.cell 0
           have v1:=HU2.out.cell 1
           have v2:=HU2.out.cell 2
           clear hc2)
        | (go_at_call 12
           refine (HND.out _ HC2.out).mono ?_
           rintro e w3 ⟨rfl,hc3⟩
           have HC3:=hQ_ (HC2.out.trans hc3)
           clear hc3))
       exact HNO.out 25 _ HR.out HC3.out
     · have hb2 : 64 < pages:=by omega
       clear hbad
       go_wp2_with (first
        | (go_at_call 26
           refine (HT.out _ HC1.out).mono ?_
           rintro e w2 ⟨rfl,hc2⟩
           have HC2:=hQ_ (HC1.out.trans hc2)
           have HU2:=hQ_ (HU1.out.keep hc2)
           have v0:=HU2.out.cell 0
           have v1:=HU2.out.cell 1
           have v2:=HU2.out.cell 2
           clear hc2)
        | (go_at_call 12
           refine (HND.out _ HC2.out).mono ?_
           rintro e w3 ⟨rfl,hc3⟩
           have HC3:=hQ_ (HC2.out.trans hc3)
           clear hc3))
       exact HNO.out 25 _ HR.out HC3.out
   · have HR:=hQ_ (show RP = (v3_ T p,0) from by rw [HDEF.out,if_neg (by simp),if_neg hbad]; rfl)
     obtain ⟨hb1,hb2⟩ : ¬ pages < yn_ T 0 ms ∧ ¬ 64 < pages:=by omega
     obtain ⟨h,hh⟩ : ∃ h,h = zs_ T.length:=⟨_,rfl⟩
     have hh33 : h ≤ 33:=by rw [hh]; unfold zs_; omega
     have HPG:=hQ_ (fun (W : World) => kK_ T (by omega) W)
     have HCS:=hQ_ (show v3_ T p = [(0,zT_ T.length p)] ++ ue_ (T ++ zt_ (h * 64 - T.length + p * 64)) (h + p) from by rw [hh,zdS,← List.append_assoc]; rfl)
     have HHT:=hQ_ (show T.length ≤ h * 64 ∧ (0 < h → (h - 1) * 64 ≤ T.length) from by rw [hh]; unfold zs_; omega)
     rw [← hh] at HPG
     clear hh hbad HDEF hnz hms
     generalize yn_ T 0 ms = N at HND hb1
     have HMT:=hQ_ (fun (W : World) => jL_ (w:=W) T.length p (by omega) (by omega))
     have hsz : (zc_ T).size = T.length:=zy_ T
     obtain ⟨S,hS⟩ : ∃ S,S = zc_ T:=⟨_,rfl⟩
     rw [← hS] at HT hsz HPG
     have HS:=hQ_ hS
     clear hS
     obtain ⟨nT,hnT⟩ : ∃ nT,nT = T.length:=⟨_,rfl⟩
     have HNT:=hQ_ hnT
     rw [← hnT] at hsz hTl HMT HCS HHT
     clear hnT
     -- the Meta
     go_upto_region 7 with (first
      | (go_at_call 26
         refine (HT.out _ HC1.out).mono ?_
         rintro e w2 ⟨rfl,hc2⟩
         have HC2:=hQ_ (HC1.out.trans hc2)
         have HU2:=hQ_ (HU1.out.keep hc2)
         have v0:=HU2.out.cell 0
         have v1:=HU2.out.cell 1
         have v2:=HU2.out.cell 2
         clear hc2)
      | (go_at_call 12
         refine (HND.out _ HC2.out).mono ?_
         rintro e w3 ⟨rfl,hc3⟩
         have HC3:=hQ_ (HC2.out.trans hc3)
         have HU3:=hQ_ (HU2.out.keep hc3)
         have x0:=HU3.out.cell 0
         clear hc3)
      | (go_at_call 66
         refine (HMT.out _).mono ?_
         rintro e w4 ⟨v4,rfl,ho4,hc4⟩
         rw [yW_] at ho4
         obtain ⟨g4,r4,rfl,hg4,hW4,hm4⟩:=xf_ ho4 (by omega)
         have HW4:=hQ_ hW4
         have HM4:=hQ_ hm4
         have HG4:=hQ_ (Nat.le_trans HC3.out.size hg4)
         have HC4:=hQ_ (HC3.out.trans hc4)
         have HU4:=hQ_ (HU3.out.keep hc4)
         clear hc4 ho4 hW4 hm4 hg4))
     clear u0 u1 u2 v0 v1 v2 x0
     obtain ⟨c4,hc4⟩ : ∃ c4,c4 = 64 + r4.length:=⟨_,rfl⟩
     have HC4C:=hQ_ hc4
     rw [← hc4] at HM4 ⊢
     clear hc4
     have hal:=(Chg.refl [] w4).alloc (.cells #[.int .i64 0,.slice (some ⟨g4,0,none⟩) 64 c4] 44)
     have HOA:=hQ_ (kQ_ w4 w.heap.size HC4.out.size ⟨0,some ⟨g4,0,none⟩,64,c4,zT_ nT p⟩)
     have HRA:=hQ_ (show ∀ a ∈ [(⟨0,some ⟨g4,0,none⟩,64,c4,zT_ nT p⟩ : ChV)],RMade (w4.alloc (.cells #[.int .i64 0,.slice (some ⟨g4,0,none⟩) 64 c4] 44)) w.heap.size a from fun a ha => by
      rw [List.mem_singleton] at ha; subst ha
      have hm:=HM4.out
      unfold maxLen at hm
      exact ⟨⟨g4,r4,rfl,HG4.out,HW4.out.keep hal,HC4C.out,by rw [← HC4C.out]; exact hm⟩,yW_ _ _,rfl,by simp only; omega⟩)
     have HU5:=hQ_ (HU4.out.keep hal)
     have HC5:=hQ_ (HC4.out.trans hal)
     clear hal
     generalize w4.heap.size = g5 at HOA ⊢
     generalize w4.alloc (.cells #[.int .i64 0,.slice (some ⟨g4,0,none⟩) 64 c4] 44) = w5 at HOA HRA HU5 HC5 ⊢
     have HS0:=hQ_ (show ku_ [(⟨0,some ⟨g4,0,none⟩,64,c4,zT_ nT p⟩ : ChV)] ([(0,zT_ nT p)] ++ ue_ [] 0) from rfl)
     generalize [(⟨0,some ⟨g4,0,none⟩,64,c4,zT_ nT p⟩ : ChV)] = ls0 at HOA HRA HS0
     have hl0 : ls0.length = 1:=by have:=HS0.out.len; simpa [ue_] using this
     have HL0:=hQ_ hl0
     clear hl0 HW4 HM4 HG4 HC4C HC4 HU4 HC3 HC2 HU2 HU3
     obtain ⟨h64,hh64⟩ : ∃ h64,h64 = h * 64:=⟨_,rfl⟩
     obtain ⟨p64,hp64⟩ : ∃ p64,p64 = p * 64:=⟨_,rfl⟩
     obtain ⟨m1,hm1⟩ : ∃ m1,m1 = h64 - nT:=⟨_,rfl⟩
     obtain ⟨m2,hm2⟩ : ∃ m2,m2 = m1 + p64:=⟨_,rfl⟩
     have hTle : nT ≤ h64:=by have:=HHT.out.1; omega
     have HA1:=hQ_ (show IntKind.i64.wrap ((h : Int) * 64) = (h64 : Int) from by rw [IntWalk.i64_in _ (by omega)]; omega)
     have HA2:=hQ_ (show IntKind.i64.wrap ((h64 : Int) - (S.size : Int)) = (m1 : Int) from by rw [IntWalk.i64_in _ (by omega)]; omega)
     have HA3:=hQ_ (show IntKind.i64.wrap ((p : Int) * 64) = (p64 : Int) from by rw [IntWalk.i64_in _ (by omega)]; omega)
     have HA4:=hQ_ (show IntKind.i64.wrap ((m1 : Int) + (p64 : Int)) = (m2 : Int) from by rw [IntWalk.i64_in _ (by omega)]; omega)
     have HTL:=hQ_ (show T.length + m2 ≤ 1000000 from by rw [← HNT.out]; omega)
     have HLL:=hQ_ (show (T ++ zt_ m2).length = (h + p) * 64 from by rw [List.length_append,zI_,← HNT.out]; omega)
     have HCS2:=hQ_ (show v3_ T p = [(0,zT_ nT p)] ++ ue_ (T ++ zt_ m2) (h + p) from by rw [HCS.out,hm2,hm1,hh64,hp64])
     have TOK:=zeY w5.heap.size [12] [1,12,13]
     have HU5W:=hQ_ (fun (W : World) (hW : Low w5.heap.size w5.drew W) => (show zb_ W gu 24 [.int .i64 (p : Int),.int .i64 ms,.slice A n c] from (hW.block gu HU5.out.lt HU5.out.lt).trans (show zb_ w5.drew gu 24 _ from HU5.out)))
     clear hh64 hp64 hm1 hm2
     refine wp_flow (by kernel_rfl) (zfJ w5.heap.size [12] [1,12,13]) TOK (by kernel_rfl) ?_
     refine flow_move_out TOK rfl rfl rfl ?_
     refine flow_op (zfG w5.heap.size T) (kb_ _ _) (.inl rfl) rfl (fun ev W he hW hf => ?_) ?_
     · have e1 : ev (.tmp 34) = .string S:=hf.1
       have hWs : w5.heap.size ≤ W.heap.size:=hW.size
       obtain ⟨v',w',hrun,ho,hc⟩:=gw_ W T (by have:=HTL.out; omega)
       rw [← HS.out] at hrun
       clear hf hW
       go_simp
       exact ⟨zeh _ hc,ho.less hWs⟩
     refine flow_move_out TOK rfl rfl rfl ?_
     refine zF_ (.int .i64 (h : Int)) (by kernel_rfl) rfl (.cons (.inn rfl) .nil) (fun W hW => (HPG.out W).mono ?_) ?_
     · rintro e w' ⟨rfl,rfl⟩
       exact ⟨rfl,zeh _ (Chg.refl _ _)⟩
     refine flow2 (r:=.int .i64 (h64 : Int)) TOK rfl (.inn rfl) (.const _) rfl (fun ev W he e1 e2 => by have q:=HA1.out; go_simp) ?_
     refine flow_move_out TOK rfl rfl rfl ?_
     refine qc_ (s:=S) TOK (.inn rfl) Tryz.underlying9 rfl ?_
     refine flow2 (r:=.int .i64 (m1 : Int)) TOK rfl (.inn rfl) (.inn rfl) rfl (fun ev W he e1 e2 => by
      have q:=HA2.out
      clear hsz
      go_simp) ?_
     refine flow1 (r:=.pointer (some ⟨gu,0,none⟩)) TOK rfl (.out rfl rfl) rfl (fun ev W he e1 => by go_simp) ?_
     refine flow1h (r:=.int .i64 (p : Int)) TOK rfl (.inn rfl) rfl (fun ev W he hW e1 => by
      have q0:=(HU5W.out W hW).cell 0
      clear hW
      go_simp) ?_
     refine flow2 (r:=.int .i64 (p64 : Int)) TOK rfl (.inn rfl) (.const _) rfl (fun ev W he e1 e2 => by have q:=HA3.out; go_simp) ?_
     refine flow2 (r:=.int .i64 (m2 : Int)) TOK rfl (.inn rfl) (.inn rfl) rfl (fun ev W he e1 e2 => by have q:=HA4.out; go_simp) ?_
     refine flow_op (zfG w5.heap.size (T ++ zt_ m2)) (kb_ _ _) (.inl rfl) rfl (fun ev W he hW hf => ?_) ?_
     · have ho : zfG w5.heap.size T (ev (.tmp 35)) W:=hf.1
       have e2 : ev (.tmp 45) = .int .i64 (m2 : Int):=hf.2.1
       have hWs : w5.heap.size ≤ W.heap.size:=hW.size
       obtain ⟨v',w',hrun,ho2,hg⟩:=g7_ W ho hWs m2 HTL.out
       have hr : ∀ pos af g,(execOp ev ⟨some 46,.call { callee:=.builtin .append,args:=#[.tmp 35,.tmp 45],argTypes:=#[33,3] },33,pos,af,g⟩).run Tryz.prog W = .ok (.value v') w':=fun pos af g => by
        unfold execOp
        simp only [resolve,invoke,builtin,Sem.run_bind,Sem.run_pure,Result.andThen_ok,List.map_toArray,List.map_cons,List.map_nil,e2,hrun]
       rw [hr]
       refine ⟨zdC rfl (zfI ho hg),?_⟩
       show OwnM w' _ v' (T ++ zt_ m2).length _
       rw [List.length_append,zI_]
       exact ho2
     refine flow_assign TOK rfl (kb_ _ _) (.inl rfl) rfl ?_
     intro vs W hW hF
     have h9 : zfG w5.heap.size (T ++ zt_ m2) (vs 9) W:=hF 9 _ rfl rfl
     obtain ⟨g9,c9,e9,_⟩:=OwnM.bs h9
     have hb9 : OwnM W w5.heap.size (vs 9) _ (T ++ zt_ m2):=h9
     rw [e9] at hb9
     have hcw : Chg [] w5 W:=(Chg.refl [] w5).drew.trans (Low.chg hW (Nat.le_refl _))
     have HB9:=hQ_ hb9
     have HOW:=hQ_ (z3_ HOA.out hcw (by simp))
     have HRW:=hQ_ (show ∀ a ∈ ls0,RMade W w.heap.size a from fun a ha => (HRA.out a ha).chg hcw (by simp))
     have HCW:=hQ_ (HC5.out.trans hcw)
     simp only [z2_,Act.put,List.setIfInBounds_toArray,List.set_cons_zero,List.set_cons_succ]
     rw [e9,HLL.out]
     rw [HLL.out] at HB9
     clear hF hW h9 hb9 hcw e9 TOK HU5W
     obtain ⟨w6,hw6⟩ : ∃ wz : World,wz = W:=⟨_,rfl⟩
     rw [← hw6] at HB9 HOW HRW HCW ⊢
     clear hw6
     obtain ⟨L,hL⟩ : ∃ L,L = T ++ zt_ m2:=⟨_,rfl⟩
     rw [← hL] at HB9 HLL HCS2
     clear hL HOA HRA HC5 HU5 HA1 HA2 HA3 HA4 HTL HPG HMT HND HT hsz
     obtain ⟨q,hq⟩ : ∃ q,q = h + p:=⟨_,rfl⟩
     rw [← hq] at HB9 HLL HCS2 ⊢
     have hq97 : q ≤ 97:=by omega
     clear hq
     obtain ⟨n9,hn9⟩ : ∃ n9,n9 = q * 64:=⟨_,rfl⟩
     rw [← hn9] at HB9 HLL ⊢
     have HN9:=hQ_ hn9
     have hc9:=HB9.out.bs_at.cap
     have hHS1:=HS0.out
     have HS1:=hQ_ (show ku_ ls0 ([(0,zT_ nT p)] ++ ue_ L 0) from hHS1)
     clear hHS1 hn9
     obtain ⟨i8,hi8,hz8,h81,h82⟩:=info_parts v9_
     go_wp2_with fail
     go_loopw [8,10] (fun v i wr => ∃ (k : Nat) (ls : List ChV) (A' : Option Addr) (c' : Nat),k ≤ q ∧ i = .int .i64 (k : Int) ∧ v = .slice A' (1 + k) c' ∧ Hid (ls.length = 1 + k) ∧ Hid (wr.ownsRow w.heap.size 44 2 (.slice A' (1 + k) c') (1 + k) (vS_ ls)) ∧ Hid (∀ a ∈ ls,RMade wr w.heap.size a) ∧ Hid (ku_ ls ([(0,zT_ nT p)] ++ ue_ L k)) ∧ Hid (OwnM wr w5.heap.size (.slice (some ⟨g9,0,none⟩) n9 c9) n9 L) ∧ Hid (Chg [] w wr)) (fun _ i _ => q - (intOf i).toNat)
     case atStart => exact ⟨0,ls0,some ⟨g5,0,none⟩,1,by omega,rfl,rfl,HL0,HOW,HRW,HS1,HB9,HCW⟩
     case round =>
      clear HL0 HOW HRW HS1 HB9 HCW HS0
      obtain ⟨k,ls,A',c',hk,rfl,rfl,HLS,HOR,HRR,HSR,HBr,HCr⟩:=hrel
      by_cases hkq : k < q
      · have hkk : k * 64 < n9 ∧ (k + 1) * 64 ≤ n9:=by have:=HN9.out; omega
        have hkI : (k : Int) * 64 < (n9 : Int):=by omega
        have hk1I : ((k : Int) + 1) * 64 ≤ (c9 : Int):=by omega
        have hk2I : (k : Int) * 64 ≤ (c9 : Int):=by omega
        have hne : ¬ c9 = k * 64:=by omega
        have hcut:=HBr.out.bs_at.cut (lo:=k * 64) (hi:=(k + 1) * 64) (by omega) hkk.2
        have e64 : (k + 1) * 64 - k * 64 = 64:=by omega
        rw [e64,if_neg hne,Option.map_some,zj_,Nat.zero_add] at hcut
        have HCU:=hQ_ (show Bs wr (some ⟨g9,k * 64,none⟩) 64 (c9 - k * 64) (pg L k) from hcut)
        have H64:=hQ_ e64
        clear hcut e64
        have hN:=zb_.new wr 5 []
        have hal:=(Chg.refl [] wr).alloc (.cells #[] 5)
        have hws : w.heap.size ≤ wr.heap.size:=HCr.out.size
        obtain ⟨v',w7,hrun,ho7,hc7⟩:=yw_ (P:=Tryz.prog) (wr.alloc (.cells #[] 5)) w.heap.size 33 33 5 i8 _ 1 Tryz.underlying33 hi8 hz8 h81 h82 rfl wr.heap.size hN hws (by simp; omega) (some ⟨g9,k * 64,none⟩) 64 (c9 - k * 64) (bts (pg L k)) (by rw [zA_,HCU.out.len]) (HCU.out.src.keep hal) (by omega) (by unfold maxLen; omega)
        obtain ⟨g7,r7,rfl,hg7,hW7,hm7⟩:=xf_ ho7 (by omega)
        have HRN:=hQ_ hrun
        have HK7:=hQ_ (hal.trans hc7)
        have HW7:=hQ_ hW7
        have HG7:=hQ_ hg7
        have HM7:=hQ_ hm7
        obtain ⟨d7,hd7⟩ : ∃ d7,d7 = 64 + r7.length:=⟨_,rfl⟩
        rw [← hd7] at HRN HM7
        have HD7:=hQ_ hd7
        have HRN2:=hQ_ (show (Builtin.append_ #[33,33] 33 #[.slice (some ⟨wr.heap.size,0,none⟩) 0 0,.slice (some ⟨g9,k * 64,none⟩) ((k + 1) * 64 - k * 64) (c9 - k * 64)]).run Tryz.prog (wr.alloc (.cells #[] 5)) = .ok (.slice (some ⟨g7,0,none⟩) 64 d7) w7 from by rw [H64.out]; exact HRN.out)
        clear hN hal hrun ho7 hc7 hg7 hW7 hm7 hd7
        have HC7:=hQ_ (HCr.out.trans HK7.out)
        have HO7:=hQ_ (z3_ HOR.out HK7.out (by simp))
        have HR7:=hQ_ (show ∀ a ∈ ls,RMade w7 w.heap.size a from fun a ha => (HRR.out a ha).chg HK7.out (by simp))
        have HB7:=hQ_ (HBr.out.keep HK7.out)
        have hws7 : w.heap.size ≤ w7.heap.size:=HC7.out.size
        have HALX:=hQ_ ((Chg.refl [] w7).alloc (.cells #[.int .i64 (1 + (k : Int)),.slice (some ⟨g7,0,none⟩) 64 d7] 44))
        have HOX:=hQ_ (z3_ HO7.out HALX.out (by simp))
        go_wp2_with (first
         | (at_builtin
            refine Lib.wpList_append_run (wr.alloc (.cells #[] 5)) rfl (.tmp 57) (.tmp 64) 33 33 rfl _ _ rfl rfl _ _ HRN2.out ?_)
         | (at_builtin
            refine wpList_append_own _ rfl (.tmp 54) (.tmp 67) _ rfl w.heap.size 44 i0 _ 2 32 Tryz.underlying39 hi hz0 hz1 hz2 rfl (by decide) (.slice A' (1 + k) c') (1 + k) (vS_ ls) rfl HOX.out ⟨w7.heap.size,0,none⟩ 1 1 [.int .i64 (1 + (k : Int)),.slice (some ⟨g7,0,none⟩) 64 d7] rfl rfl ?c1 ?c2 ?c3 ?c4 ?c5 ?_
            case c1 => exact zo_ _ _ _
            case c2 => simp [Value.oneCell']
            case c3 => simp only [maxLen]; omega
            case c4 => omega
            case c5 => simp; omega
            intro v' w8 hown' hg' _))
        obtain ⟨A8,c8,rfl,_⟩:=zl_ hown'
        have HO8:=hQ_ hown'
        have HB8:=hQ_ ((HB7.out.keep HALX.out).grown HOX.out hg')
        have HC8:=hQ_ (kj_ (HC7.out.trans HALX.out) hg' (fun g hg => (HOX.out.lt g hg).1))
        have HR8:=hQ_ (show ∀ a ∈ ls ++ [(⟨((1 + k : Nat) : Int),some ⟨g7,0,none⟩,64,d7,pg L k⟩ : ChV)],RMade w8 w.heap.size a from fun a ha => by
         rcases List.mem_append.1 ha with h | h
         · exact ((HR7.out a h).chg HALX.out (by simp)).grown HOX.out hg'
         · simp only [List.mem_cons,List.not_mem_nil,or_false] at h
           subst h
           have hm:=HM7.out
           unfold maxLen at hm
           have hn : RMade w7 w.heap.size (⟨((1 + k : Nat) : Int),some ⟨g7,0,none⟩,64,d7,pg L k⟩ : ChV):=⟨⟨g7,r7,rfl,HG7.out,HW7.out,HD7.out,by rw [← HD7.out]; exact hm⟩,HCU.out.len,rfl,by simp only; omega⟩
           exact (hn.chg HALX.out (by simp)).grown HOX.out hg')
        clear hown' hg'
        go_roundw
        case rel =>
         refine ⟨k + 1,ls ++ [(⟨((1 + k : Nat) : Int),some ⟨g7,0,none⟩,64,d7,pg L k⟩ : ChV)],A8,c8,by omega,by go_num,rfl,hQ_ (by rw [List.length_append,HLS.out]; rfl),hQ_ ?_,HR8,hQ_ ?_,HB8,HC8⟩
         · rw [uM_,jr_]
           have:=HO8.out
           rw [show (1 : Int) + (k : Int) = ((1 + k : Nat) : Int) by omega] at this
           exact this
         · rw [ue_,← List.append_assoc]
           exact HSR.out.snoc (a:=⟨((1 + k : Nat) : Int),some ⟨g7,0,none⟩,64,d7,pg L k⟩) rfl
        case measure => simp [intOf]; omega
      · have hkI : ¬ (k : Int) * 64 < (n9 : Int):=by have:=HN9.out; omega
        obtain rfl : q = k:=by omega
        have HF:=hQ_ (HYES.out (.slice A' (1 + q) c') ls wr w.heap.size (by rw [HR.out]; rfl) (Nat.le_refl _) (by rw [HLS.out]; exact HOR.out) HRR.out (by
         show ku_ ls (v3_ T p)
         rw [HCS2.out]; exact HSR.out) HCr.out)
        go_wp2_with fail
        exact HF.out
 · have hd : (E == 0) = false:=by simpa using hE
   have HR:=hQ_ (show RP = ([],E) from by rw [HDEF.out,if_pos hE])
   generalize zc_ T = S at HT
   clear hE HDEF hms hTl
   go_wp2_with (
    go_at_call 26
    refine (HT.out _ HC1.out).mono ?_
    rintro e w2 ⟨rfl,hc2⟩
    have HC2:=hQ_ (HC1.out.trans hc2)
    clear hc2)
   exact HNO.out E _ HR.out HC2.out
end
def jz_ (a : ChV) : Int × List UInt8:=(a.page,a.B)
def u0_ (l m : List ChV) : Bool:=decide (l.map jz_ = m.map jz_)
theorem zbj {l m : List ChV} (h : l.length ≠ m.length) : u0_ l m = false:=by
 unfold u0_
 rw [decide_eq_false_iff_not]
 intro e
 have:=congrArg List.length e
 simp at this
 exact h this
theorem zdk {l m : List ChV} {k : Nat} {a b : ChV} (ha : l[k]? = some a) (hb : m[k]? = some b) (h : jz_ a ≠ jz_ b) : u0_ l m = false:=by
 unfold u0_
 rw [decide_eq_false_iff_not]
 intro e
 have:=congrArg (fun (x : List (Int × List UInt8)) => x[k]?) e
 simp [ha,hb] at this
 exact h this
theorem zbk {l m : List ChV} (hl : l.length = m.length) (h : ∀ (i : Nat) (a b : ChV),l[i]? = some a → m[i]? = some b → jz_ a = jz_ b) : u0_ l m = true:=by
 unfold u0_
 rw [decide_eq_true_iff]
 apply List.ext_getElem?
 intro i
 simp only [List.getElem?_map]
 rcases Nat.lt_or_ge i l.length with hi | hi
 · have hj : i < m.length:=by omega
   rw [List.getElem?_eq_getElem hi,List.getElem?_eq_getElem hj]
   simp only [Option.map_some]
   rw [h i _ _ (List.getElem?_eq_getElem hi) (List.getElem?_eq_getElem hj)]
 · rw [List.getElem?_eq_none hi,List.getElem?_eq_none (by omega)]
section
variable {w : World} {A A2 : Option Addr} {n c n2 c2 : Nat}
theorem zbw {l m : List ChV} (h : Chs w A l) (hl : l.length = n) (h2 : Chs w A2 m) (hl2 : m.length = n2) (hn : n ≤ 9223372036854775807) (hn2 : n2 ≤ 9223372036854775807) :
    Calls Tryz.prog 41 #[.slice A n c,.slice A2 n2 c2] w (zz_ (u0_ l m) w):=by
 have H:=hQ_ h
 have H2:=hQ_ h2
 have HL:=hQ_ hl
 have HL2:=hQ_ hl2
 clear h h2 hl hl2
 by_cases hnn : n = n2
 · subst hnn
   go_enter Tryz.func41,Tryz.ntmps41
   go_wp2_with fail
   go_loopw [13] (fun i wr => ∃ k : Nat,k ≤ n ∧ i = .int .i64 (k : Int) ∧ Hid (∀ (j : Nat) (a b : ChV),j < k → l[j]? = some a → m[j]? = some b → jz_ a = jz_ b) ∧ Chg [] w wr) (fun i _ => n - (intOf i).toNat)
   case atStart => exact ⟨0,Nat.zero_le _,rfl,hQ_ (fun j a b h => absurd h (by omega)),Chg.refl _ _⟩
   case round =>
    obtain ⟨k,hk,rfl,HK,hcr⟩:=hrel
    by_cases hlt : k < n
    · obtain ⟨a,ha⟩ : ∃ a,l[k]? = some a:=⟨_,List.getElem?_eq_getElem (by have:=HL.out; omega)⟩
      obtain ⟨b,hb⟩ : ∃ b,m[k]? = some b:=⟨_,List.getElem?_eq_getElem (by have:=HL2.out; omega)⟩
      have hba:=((H.out.keep hcr).ok a (List.mem_of_getElem? ha)).bs
      have hbb:=((H2.out.keep hcr).ok b (List.mem_of_getElem? hb)).bs
      obtain ⟨g,o,rfl,hg,hce⟩:=(H.out.keep hcr).cells (by have:=HL.out; omega)
      obtain ⟨g2,o2,rfl,hg2,hce2⟩:=(H2.out.keep hcr).cells (by have:=HL2.out; omega)
      obtain ⟨c0,c1⟩:=hce k a ha
      obtain ⟨d0,d1⟩:=hce2 k b hb
      have HKN:=hQ_ (fun (e : jz_ a = jz_ b) => (show ∀ (j : Nat) (x y : ChV),j < k + 1 → l[j]? = some x → m[j]? = some y → jz_ x = jz_ y from fun j x y hj hx hy => by
       rcases Nat.lt_or_ge j k with hjk | hjk
       · exact HK.out j x y hjk hx hy
       · obtain rfl : j = k:=by omega
         rw [ha] at hx
         rw [hb] at hy
         injection hx with hx
         injection hy with hy
         subst hx
         subst hy
         exact e))
      have HNE:=hQ_ (fun (e : jz_ a ≠ jz_ b) => zdk ha hb e)
      have HC:=hQ_ hcr
      clear hce hce2 ha hb hcr
      obtain ⟨page,bA,bn,bc,Bb⟩:=a
      obtain ⟨page2,bA2,bn2,bc2,Bb2⟩:=b
      simp only at c0 c1 d0 d1 hba hbb
      have hkI : (k : Int) < (n : Int):=by omega
      by_cases hp : page = page2
      · subst hp
        have HPP:=hQ_ (show Bb = Bb2 → jz_ ⟨page,bA,bn,bc,Bb⟩ = jz_ ⟨page,bA2,bn2,bc2,Bb2⟩ from fun e => by subst e; rfl)
        have HPN:=hQ_ (show Bb ≠ Bb2 → jz_ ⟨page,bA,bn,bc,Bb⟩ ≠ jz_ ⟨page,bA2,bn2,bc2,Bb2⟩ from fun e h => by injection h with _ h; exact e h)
        have v1 : ∀ k,(convert 33 9 (.slice bA bn bc)).run Tryz.prog (wr.drewN k) = .ok (.string (zc_ Bb)) (wr.drewN k):=fun k => (hba.keep ((Chg.refl [] wr).drewN k)).str (P:=Tryz.prog) 33 5 9 Tryz.underlying33 Tryz.underlying5 Tryz.underlying9
        have v2 : ∀ k,(convert 33 9 (.slice bA2 bn2 bc2)).run Tryz.prog (wr.drewN k) = .ok (.string (zc_ Bb2)) (wr.drewN k):=fun k => (hbb.keep ((Chg.refl [] wr).drewN k)).str (P:=Tryz.prog) 33 5 9 Tryz.underlying33 Tryz.underlying5 Tryz.underlying9
        clear hba hbb
        by_cases hB : Bb = Bb2
        · have HR:=hQ_ (HKN.out (HPP.out hB))
          subst hB
          go_wp2_with fail
          go_quiet (fail)
          go_wp2_with fail
          go_roundw
          case rel => exact ⟨k + 1,by omega,by go_num,HR,HC.out.drewN _⟩
          case measure => simp [intOf]; omega
        · have HF:=hQ_ (HNE.out (HPN.out hB))
          have hs1 : ((zc_ Bb).toList == (zc_ Bb2).toList) = false:=by rw [zea]; simpa using hB
          have hs2 : (!((zc_ Bb).toList == (zc_ Bb2).toList)) = true:=by rw [hs1]; rfl
          clear hB
          go_wp2_with fail
          go_quiet (fail)
          go_wp2_with fail
          go_ret
          exact ⟨by rw [HF.out]; rfl,HC.out.drewN _⟩
      · have hpb : (page == page2) = false:=by simpa using hp
        have hpb2 : (!(page == page2)) = true:=by simpa using hp
        have HF:=hQ_ (HNE.out (fun e => by injection e with e; exact hp e))
        clear hba hbb
        go_wp2_with fail
        go_quiet (fail)
        go_wp2_with fail
        go_ret
        exact ⟨by rw [HF.out]; rfl,HC.out.drewN _⟩
    · have HF:=hQ_ (show u0_ l m = true from zbk (by rw [HL.out,HL2.out]) fun i a b ha hb => HK.out i a b (by have:=(List.getElem?_eq_some_iff.1 ha).1; have:=HL.out; omega) ha hb)
      have hkI : (n : Int) ≤ (k : Int):=by omega
      go_wp2_with fail
      go_ret
      exact ⟨by rw [HF.out]; rfl,hcr⟩
 · have HF:=hQ_ (show u0_ l m = false from zbj (by rw [HL.out,HL2.out]; exact hnn))
   have hb1 : ((n : Int) == (n2 : Int)) = false:=by simp; omega
   have hb2 : (!((n : Int) == (n2 : Int))) = true:=by simp; omega
   have hb3 : (n == n2) = false:=by simpa using hnn
   go_enter Tryz.func41,Tryz.ntmps41
   go_wp2_with fail
   go_ret
   exact ⟨by rw [HF.out]; rfl,Chg.refl _ _⟩
end
theorem zbi {ls ls2 : List ChV} {cs : List (Nat × List UInt8)} (h : ku_ ls cs) (h2 : ku_ ls2 cs) : u0_ ls ls2 = true:=by
 unfold u0_
 rw [decide_eq_true_iff]
 exact h.trans h2.symm
section
variable {w : World} {pg ms : Int} {A : Option Addr} {n c : Nat} {E : Int} {T : List UInt8}
theorem zdu (hT : zaJ w pg ms A n c T E) (hR : zaI w pg ms A n c T E) (hTl : T.length ≤ 2048) (hms : E = 0 → 0 ≤ pg ∧ pg ≤ ms ∧ ms ≤ 64) (pages : Int) (hP : xq_ w.heap.size w) : Calls Tryz.prog 13 #[.agg #[.int .i64 pg,.int .i64 ms,.slice A n c],.int .i64 pages] w (zz_ true w):=by
 have HP:=hQ_ hP
 have HU:=hQ_ (fun (W : World) (hc : Chg [] w W) (hp : xq_ W.heap.size W) => jR_ (hT.keep hc) hTl hms pages hp)
 have HR:=hQ_ (fun (W : World) (hc : Chg [] w W) => kN_ (hR.keep hc) hTl hms pages)
 have HN:=hQ_ (fun (W : World) (hc : Chg [] w W) (hp : xq_ W.heap.size W) => ve_ (hT.keep hc) hTl (fun h => ⟨by have:=hms h; omega,(hms h).2.2⟩) hp)
 have HM:=hQ_ (fun (W : World) (hc : Chg [] w W) => vH_ (hR.keep hc) hTl (fun h => ⟨by have:=hms h; omega,(hms h).2.2⟩))
 clear hT hR hTl hms hP
 generalize yn_ T E ms = N at HN HM
 unfold xm_ at HU HR
 generalize ut_ T E pg ms pages = X at HU HR
 obtain ⟨cs,r⟩:=X
 simp only at HU HR
 unfold zz_
 go_enter Tryz.func13,Tryz.ntmps13
 go_upto_region 1 with fail
 have hN:=zb_.new w 24 [.int .i64 pg,.int .i64 ms,.slice A n c]
 have hal:=(Chg.refl [] w).alloc (.cells #[.int .i64 pg,.int .i64 ms,.slice A n c] 24)
 have HU1:=hQ_ hN
 have HC1:=hQ_ hal
 clear hN hal
 generalize w.heap.size = gu at HU1 ⊢
 generalize w.alloc (.cells #[.int .i64 pg,.int .i64 ms,.slice A n c] 24) = w1 at HU1 HC1 ⊢
 have u0:=HU1.out.cell 0
 have u1:=HU1.out.cell 1
 have u2:=HU1.out.cell 2
 go_upto_region 3 with (first
  | (go_at_call 20
     refine (HU.out _ HC1.out (HP.out.here HC1.out)).mono ?_
     rintro e w2 ⟨v2,ls2,rfl,ho2,hr2,hs2,hc2⟩
     obtain ⟨A2,c2,rfl,_,hch2,hm2,_,_⟩:=uL_ ho2 (fun a ha => (hr2 a ha).ok)
     have HCH2:=hQ_ hch2
     have HS2:=hQ_ hs2
     have HC2:=hQ_ (HC1.out.trans hc2)
     have HU2:=hQ_ (HU1.out.keep hc2)
     have v0:=HU2.out.cell 0
     have v1:=HU2.out.cell 1
     have v2:=HU2.out.cell 2
     clear hc2 ho2 hr2 hs2 hch2)
  | (go_at_call 40
     refine (HR.out _ HC2.out).mono ?_
     rintro e w3 ⟨v3,ls3,rfl,ho3,hr3,hs3,hc3⟩
     obtain ⟨A3,c3,rfl,_,hch3,hm3,_,_⟩:=uL_ ho3 (fun a ha => (hr3 a ha).ok)
     have HCH3:=hQ_ hch3
     have HS3:=hQ_ hs3
     have HK3:=hQ_ hc3
     have HC3:=hQ_ (HC2.out.trans hc3)
     have HU3:=hQ_ (HU2.out.keep hc3)
     clear hc3 ho3 hr3 hs3 hch3))
 clear u0 u1 u2 v0 v1 v2
 have HHW:=hQ_ (fun (W : World) (h : Chg [] w3.drew W) => (show Chg [] w3 W from (Chg.refl [] w3).drew.trans h))
 have HSM:=hQ_ (fun (W : World) (h : Chg [] w3 W) => zbw (c:=c2) (c2:=c3) (HCH2.out.keep (HK3.out.trans h)) rfl (HCH3.out.keep h) rfl hm2 hm3)
 rw [zbi HS2.out HS3.out] at HSM
 unfold zz_ at HSM
 generalize ls2.length = n2 at HSM ⊢
 generalize ls3.length = n3 at HSM ⊢
 clear hm2 hm3 HU HR HS2 HS3 HCH2 HCH3 HU1 HU2 HC1 HC2 HK3
 refine wp_flow (by kernel_rfl) yt_ za_ (by kernel_rfl) ?_
 refine flow_move_out za_ rfl rfl rfl ?_
 refine flow_move_out za_ rfl rfl rfl ?_
 refine vQ_ za_ (.inn rfl) (.inn rfl) (fun ev W he e1 e2 => by go_simp) rfl ?_
 refine zL_ za_ rfl (zd_ _) (.inr (zd_ _)) rfl ?_
 refine flow_move_out za_ rfl rfl rfl ?_
 refine flow_move_out za_ rfl rfl rfl ?_
 refine zF_ (.bool true) (by kernel_rfl) rfl (.cons (.inn rfl) (.cons (.inn rfl) .nil)) (fun W hW => (HSM.out W (HHW.out W hW)).mono ?_) ?_
 · rintro e w' ⟨rfl,hc⟩
   rw [zE_]
   exact ⟨rfl,hc⟩
 refine jm_ za_ rfl rfl rfl ?_
 refine zL_ za_ rfl (zd_ _) (.inr (zd_ _)) rfl ?_
 refine flow1h (r:=.agg #[.int .i64 pg,.int .i64 ms,.slice A n c]) za_ rfl (.out rfl rfl) rfl (fun ev W he hW e1 => by
  have hk:=HU3.out.keep (HHW.out W hW)
  have q0:=hk.cell 0
  have q1:=hk.cell 1
  have q2:=hk.cell 2
  clear hW hk
  go_simp) ?_
 refine zF_ (.int .i64 N) (by kernel_rfl) rfl (.cons (.inn rfl) .nil) (fun W hW => (HN.out W (HC3.out.trans (HHW.out W hW)) (HP.out.here (HC3.out.trans (HHW.out W hW)))).mono ?_) ?_
 · rintro e w' ⟨rfl,hc⟩
   rw [zE_]
   exact ⟨rfl,hc⟩
 refine flow1h (r:=.agg #[.int .i64 pg,.int .i64 ms,.slice A n c]) za_ rfl (.out rfl rfl) rfl (fun ev W he hW e1 => by
  have hk:=HU3.out.keep (HHW.out W hW)
  have q0:=hk.cell 0
  have q1:=hk.cell 1
  have q2:=hk.cell 2
  clear hW hk
  go_simp) ?_
 refine zF_ (.int .i64 N) (by kernel_rfl) rfl (.cons (.inn rfl) .nil) (fun W hW => (HM.out W (HC3.out.trans (HHW.out W hW))).mono ?_) ?_
 · rintro e w' ⟨rfl,hc⟩
   rw [zE_]
   exact ⟨rfl,hc⟩
 refine vQ_ za_ (.inn rfl) (.inn rfl) (fun ev W he e1 e2 => by go_simp) rfl ?_
 refine jm_ za_ rfl rfl rfl ?_
 refine flow_assign za_ rfl (zd_ _) (.inr (zd_ _)) rfl ?_
 intro vs W hW hF
 have e4 : vs 4 = .bool true:=hF 4 _ rfl rfl
 have HCW:=hQ_ (HC3.out.trans (HHW.out W hW))
 simp only [z2_,Act.put,List.setIfInBounds_toArray,List.set_cons_zero,List.set_cons_succ]
 rw [e4]
 clear hF hW e4
 obtain ⟨wz,hwz⟩ : ∃ wz : World,wz = W:=⟨_,rfl⟩
 rw [← hwz] at HCW ⊢
 clear hwz
 go_wp2_with fail
 go_ret
 exact ⟨rfl,HCW.out⟩
end
def y2_ (zs : List (List UInt8)) (T : List UInt8) (p : Nat) : Prop :=
 (∀ z ∈ zs,z.length = 64) ∧ ∃ z r,zs = z :: r ∧ xp_ z ∧ xK_ z 8 = p ∧ 1 + zs_ (xK_ z 4) ≤ zs.length ∧ T = ((r.take (zs_ (xK_ z 4))).flatten).take (xK_ z 4) ∧ (∀ b ∈ ((r.take (zs_ (xK_ z 4))).flatten).drop (xK_ z 4),b = 0)
def ql_ (zs : List (List UInt8)) (w : World) (e : Ending) (w' : World) : Prop :=
 (∃ T p,y2_ zs T p ∧ e = .returned (.tuple #[.string (zc_ T),.int .i64 ((p : Nat) : Int),.bool true]) ∧ Chg [] w w') ∨
 ((¬ ∃ T p,y2_ zs T p) ∧ e = .returned (.tuple #[.string ⟨#[]⟩,.int .i64 0,.bool false]) ∧ Chg [] w w')
theorem vT_ {x : UInt8} : ((x.toNat : Int) = 0) ↔ x = 0:=by
 constructor
 · intro h
   apply UInt8.toNat_inj.1
   have : x.toNat = 0:=by omega
   rw [this]; rfl
 · intro h; subst h; rfl
section
variable {w : World} {A : Option Addr} {n c : Nat} {ys : List Value} {zs : List (List UInt8)}
theorem zae (h : Pgs w A n c ys zs) (hn : n ≤ 100000) : Calls Tryz.prog 47 #[.slice A n c] w (ql_ zs w):=by
 have HPG:=hQ_ h
 have HZL:=hQ_ h.zlen
 have hcap:=h.cap
 have HNO:=hQ_ (show ∀ w',(¬ ∃ T p,y2_ zs T p) → Chg [] w w' → ql_ zs w (.returned (.tuple #[.string ⟨#[]⟩,.int .i64 0,.bool false])) w' from fun w' h1 hc => .inr ⟨h1,rfl,hc⟩)
 have HYES:=hQ_ (show ∀ w' (T : List UInt8) (p : Nat),y2_ zs T p → Chg [] w w' → ql_ zs w (.returned (.tuple #[.string (zc_ T),.int .i64 ((p : Nat) : Int),.bool true])) w' from fun w' T p h1 hc => .inl ⟨T,p,h1,rfl,hc⟩)
 generalize ql_ zs w = PO at HNO HYES ⊢
 clear h
 go_enter Tryz.func47,Tryz.ntmps47
 go_wp2_with fail
 go_loopw [15] (fun i wr => ∃ k : Nat,i = .int .i64 (k : Int) ∧ k ≤ n ∧ Hid (∀ z ∈ zs.take k,z.length = 64) ∧ wr = w) (fun i _ => n - (intOf i).toNat)
 case atStart => exact ⟨0,rfl,by omega,hQ_ (by simp),rfl⟩
 case round =>
  obtain ⟨k,rfl,hk,HZ,hwr⟩:=hrel
  subst hwr
  by_cases hkn : k < n
  · have hkI : (k : Int) < (n : Int):=by omega
    obtain ⟨z,hz⟩ : ∃ z,zs[k]? = some z:=⟨zs[k]'(by rw [HZL.out]; exact hkn),by simp⟩
    obtain ⟨y,B,m,d,hy,rfl,hB⟩:=HPG.out.at_ hz
    obtain ⟨b,o,rfl,_,hx⟩:=HPG.out.form (by omega)
    have y0:=hx k _ hy
    have HM:=hQ_ hB.len
    clear hx hy hB
    by_cases hm : m = 64
    · subst hm
      go_wp2_with fail
      go_roundw
      case rel => exact ⟨k + 1,by go_num,by omega,hQ_ (fun x hx => by
       rw [List.take_add_one,hz] at hx
       rcases List.mem_append.1 hx with hx | hx
       · exact HZ.out x hx
       · simp at hx; subst hx; exact HM.out),by first | rfl | trivial⟩
      case measure => simp [intOf]; omega
    · have hmI : ¬ (m : Int) = 64:=by omega
      have hmd : ((m : Int) == 64) = false:=by simpa using hmI
      have HN:=hQ_ (show ¬ ∃ T p,y2_ zs T p from fun ⟨T,p,h1,_⟩ => hm (by rw [← HM.out]; exact h1 z (List.mem_of_getElem? hz)))
      go_wp2_with fail
      go_ret3
      exact HNO.out _ HN.out (Chg.refl [] _)
  · have hkI : ¬ (k : Int) < (n : Int):=by omega
    obtain rfl : n = k:=by omega
    have H64:=hQ_ (show ∀ z ∈ zs,z.length = 64 from fun z hz => HZ.out z (by rw [List.take_of_length_le (by rw [HZL.out]; exact Nat.le_refl _)]; exact hz))
    clear HZ hkI hkn hk
    by_cases hn0 : n = 0
    · subst hn0
      have HN:=hQ_ (show ¬ ∃ T p,y2_ zs T p from fun ⟨T,p,_,z,r,hz,_⟩ => by have:=HZL.out; rw [hz] at this; simp at this)
      go_wp2_with fail
      go_ret3
      exact HNO.out _ HN.out (Chg.refl [] _)
    · have hnI : ¬ (n : Int) = 0:=by omega
      have hnd : ((n : Int) == 0) = false:=by simpa using hnI
      have hnp : (0 : Int) < (n : Int):=by omega
      obtain ⟨z,r,hzr⟩ : ∃ z r,zs = z :: r:=by
       cases hc : zs with
       | nil => have:=HZL.out; rw [hc] at this; simp at this; omega
       | cons z r => exact ⟨z,r,rfl⟩
      obtain ⟨y,B,m,d,hy,rfl,hB⟩:=HPG.out.at_ (i:=0) (z:=z) (by rw [hzr]; rfl)
      obtain ⟨b,o,rfl,_,hx⟩:=HPG.out.form (by omega)
      have y0:=hx 0 _ hy
      rw [Nat.add_zero] at y0
      have HSR:=hQ_ (kF_ hB)
      have HZR:=hQ_ hzr
      clear hx hy hB hzr
      go_upto_region 10 with (
       go_at_call 73
       refine HSR.out.mono ?_
       intro e w2 hq
       have HQ:=hQ_ hq
       rcases hq with ⟨hm,rfl,hc2⟩ | ⟨hm,rfl,hc2⟩)
      · have HMT:=hQ_ hm
        have HC2:=hQ_ hc2
        have hp64:=hm.2.1
        have ht:=hm.1
        clear hm hc2 HQ HSR y0
        obtain ⟨t,htt⟩ : ∃ t,t = xK_ z 4:=⟨_,rfl⟩
        obtain ⟨p,hpp⟩ : ∃ p,p = xK_ z 8:=⟨_,rfl⟩
        rw [← htt] at ht ⊢
        rw [← hpp] at hp64 ⊢
        have HTT:=hQ_ htt
        have HPP:=hQ_ hpp
        clear htt hpp
        have HHD:=hQ_ (fun (W : World) => kP_ t (by omega) W)
        obtain ⟨q,hq⟩ : ∃ q,q = zs_ t:=⟨_,rfl⟩
        rw [← hq] at HHD
        have hq33 : q ≤ 32:=by rw [hq]; unfold zs_; omega
        have HTQ:=hQ_ (show t ≤ q * 64 ∧ (q = 0 → t = 0) from by rw [hq]; unfold zs_; omega)
        have HQQ:=hQ_ hq
        clear hq
        have HDEC:=hQ_ (show ∀ T p',y2_ zs T p' ↔ (p = p' ∧ 1 + q ≤ n ∧ T = ((r.take q).flatten).take t ∧ (∀ b ∈ ((r.take q).flatten).drop t,b = 0)) from fun T p' => by
         constructor
         · rintro ⟨_,z',r',e1,h2,h3,h4,h5,h6⟩
           rw [HZR.out] at e1
           injection e1 with e1 e2
           subst e1; subst e2
           rw [← HTT.out,← HQQ.out] at h4 h5 h6
           exact ⟨by rw [HPP.out]; exact h3,by rw [← HZL.out]; exact h4,h5,h6⟩
         · rintro ⟨h3,h4,h5,h6⟩
           refine ⟨H64.out,z,r,HZR.out,HMT.out,by rw [← HPP.out]; exact h3,?_,?_,?_⟩
           · rw [← HTT.out,← HQQ.out,HZL.out]; exact h4
           · rw [← HTT.out,← HQQ.out]; exact h5
           · rw [← HTT.out,← HQQ.out]; exact h6)
        by_cases hqn : 1 + q ≤ n
        · have hqnI : ¬ (n : Int) < 1 + (q : Int):=by omega
          have hFL : ((r.take q).flatten).length = 64 * q:=by
           have h1:=(v6_ (r.take q) (fun x hx => H64.out x (by rw [HZR.out]; exact List.mem_cons_of_mem _ (List.mem_of_mem_take hx)))).2
           rw [h1,List.length_take]
           have h2 : zs.length = r.length + 1:=by rw [HZR.out]; rfl
           have:=HZL.out
           omega
          have HPT:=hQ_ ((HPG.out.keep HC2.out).part (lo:=1) (k:=q) (by omega) (by omega))
          have hJ:=fun (W : World) (hc : Chg [] w2 W) => kO_ (HPT.out.keep hc) (fun x hx => H64.out x (by rw [HZR.out]; exact List.mem_cons_of_mem _ (List.mem_of_mem_take (List.mem_of_mem_drop (i:=0) (by simpa [HZR.out] using hx))))) (by omega)
          have HJ:=hQ_ hJ
          clear hJ
          rw [show (zs.drop 1).take q = r.take q from by rw [HZR.out]; rfl] at HJ
          unfold zen at HJ
          obtain ⟨FL,hFLe⟩ : ∃ FL,FL = (r.take q).flatten:=⟨_,rfl⟩
          rw [← hFLe] at HJ hFL
          have HFQ:=hQ_ (show (r.take q).flatten = FL from hFLe.symm)
          clear hFLe HPT
          rw [hFL] at HJ
          have hq0c : 1 + q ≤ c:=by omega
          by_cases hq0 : q = 0
          · subst hq0
            obtain rfl : t = 0:=HTQ.out.2 rfl
            have HJ0:=hQ_ (fun (W : World) (A : Option Addr) (c : Nat) => (Tryz.bytes_Join_none A c (.slice none 0 0) W).mono (R':=fun e w' => ∃ A' c',e = .returned (.slice A' 0 c') ∧ Chg [] W w') (by
             rintro e w' ⟨rfl,rfl⟩
             exact ⟨_,_,rfl,(Chg.refl [] W).alloc _⟩))
            obtain rfl : FL = []:=List.length_eq_zero_iff.1 hFL
            have HY:=hQ_ (show y2_ zs [] p from (HDEC.out _ _).2 ⟨rfl,hqn,by rw [HFQ.out]; rfl,fun x hx => by rw [HFQ.out] at hx; simp at hx⟩)
            clear HJ hFL hqnI
            have hst:=fun (A : Option Addr) (c : Nat) (W : World) => qW_ (P:=Tryz.prog) 33 5 9 Tryz.underlying33 Tryz.underlying5 Tryz.underlying9 A c W
            by_cases hc1 : c = 1
            · subst hc1
              go_wp2_with (first
               | (go_at_call 70
                  refine (HHD.out _).mono ?_
                  rintro e wh ⟨rfl,rfl⟩)
               | (go_at_call 49
                  refine (HJ0.out _ _ _).mono ?_
                  rintro e w3 ⟨A3,c3,rfl,hc3⟩
                  have HCQ:=hQ_ (HC2.out.trans hc3)
                  clear hc3))
              all_goals
                go_loopw [54] (fun i wr => i = .int .i64 0 ∧ wr = w3) (fun _ _ => 0)
                case atStart => exact ⟨rfl,rfl⟩
                case round =>
                 obtain ⟨rfl,rfl⟩:=hrel
                 go_wp2_with fail
                 go_ret3
                 exact HYES.out _ _ _ HY.out HCQ.out
            · have hc1I : ¬ (c : Int) = 1:=by omega
              go_wp2_with (first
               | (go_at_call 70
                  refine (HHD.out _).mono ?_
                  rintro e wh ⟨rfl,rfl⟩)
               | (go_at_call 49
                  refine (HJ0.out _ _ _).mono ?_
                  rintro e w3 ⟨A3,c3,rfl,hc3⟩
                  have HCQ:=hQ_ (HC2.out.trans hc3)
                  clear hc3))
              all_goals
                go_loopw [54] (fun i wr => i = .int .i64 0 ∧ wr = w3) (fun _ _ => 0)
                case atStart => exact ⟨rfl,rfl⟩
                case round =>
                 obtain ⟨rfl,rfl⟩:=hrel
                 go_wp2_with fail
                 go_ret3
                 exact HYES.out _ _ _ HY.out HCQ.out
          · have hc1 : ¬ c = 1:=by omega
            have hqc : q ≤ c - 1:=by omega
            go_upto_region 13 with (first
             | (go_at_call 70
                refine (HHD.out _).mono ?_
                rintro e wh ⟨rfl,rfl⟩)
             | (go_at_call 49
                refine (HJ.out _ (Chg.refl [] _)).mono ?_
                rintro e w3 ⟨A3,c3,rfl,hB3,hc3,_⟩
                have HB3:=hQ_ hB3
                have HCQ:=hQ_ (HC2.out.trans hc3)
                clear hc3 hB3))
            obtain ⟨g3,o3,rfl⟩ : ∃ g o,A3 = some ⟨g,o,none⟩:=by
             obtain ⟨⟨g,o,s⟩,e,_,_⟩:=HB3.out.src (by rw [zA_,hFL]; omega)
             obtain rfl : s = none:=HB3.out.spot (by omega) _ e
             exact ⟨g,o,e⟩
            have hc3:=HB3.out.cap
            have htq:=HTQ.out.1
            have hcut:=HB3.out.cut (lo:=t) (hi:=64 * q) (by omega) (Nat.le_refl _)
            have HBT:=hQ_ (HB3.out.take (m:=t) (by omega))
            rw [List.take_of_length_le (by rw [List.length_drop,hFL]; exact Nat.le_refl _)] at hcut
            obtain ⟨m2,hm2⟩ : ∃ m2,m2 = 64 * q - t:=⟨_,rfl⟩
            rw [← hm2] at hcut
            have HM2:=hQ_ hm2
            obtain ⟨q64,hq64⟩ : ∃ q64,q64 = 64 * q:=⟨_,rfl⟩
            have HQ64:=hQ_ hq64
            rw [← hq64] at HB3 hc3 hm2 ⊢
            have htq2 : t ≤ q64:=by omega
            have hm2b : m2 ≤ 2048:=by omega
            have hmI : (q64 : Int) - (t : Int) = (m2 : Int):=by omega
            have htqI : (t : Int) ≤ (q64 : Int):=by omega
            have htcI : (t : Int) ≤ (c3 : Int):=by omega
            clear hq64
            by_cases hct : c3 = t
            · have hct' : t = c3:=hct.symm
              have hm0 : m2 = 0:=by omega
              have hqe : q64 = c3:=by omega
              clear hmI htqI htcI hm2 hct
              subst hct'
              subst hqe
              rw [if_pos rfl] at hcut
              have HBC:=hQ_ hcut
              clear hcut
              subst hm0
              have HY:=hQ_ (show y2_ zs (FL.take q64) p from (HDEC.out _ _).2 ⟨rfl,hqn,by rw [HFQ.out],fun x hx => by rw [HFQ.out,List.length_eq_zero_iff.1 HBC.out.len] at hx; simp at hx⟩)
              have hst:=(HBT.out).str (P:=Tryz.prog) 33 5 9 Tryz.underlying33 Tryz.underlying5 Tryz.underlying9
              go_wp2_with fail
              go_loopw [54] (fun i wr => i = .int .i64 0 ∧ wr = w3) (fun _ _ => 0)
              case atStart => exact ⟨rfl,rfl⟩
              case round =>
               obtain ⟨rfl,rfl⟩:=hrel
               go_wp2_with fail
               go_ret3
               exact HYES.out _ _ _ HY.out HCQ.out
            · rw [if_neg hct,Option.map_some,zj_] at hcut
              have HBC:=hQ_ hcut
              have hctI : ¬ (c3 : Int) = (t : Int):=by omega
              clear hcut
              go_wp2_with fail
              go_loopw [54] (fun i wr => ∃ k : Nat,i = .int .i64 (k : Int) ∧ k ≤ m2 ∧ Hid (∀ x ∈ (FL.drop t).take k,x = 0) ∧ wr = w3) (fun i _ => m2 - (intOf i).toNat)
              case atStart => exact ⟨0,rfl,by omega,hQ_ (by simp),rfl⟩
              case round =>
               obtain ⟨k,rfl,hk,HZZ,hwr⟩:=hrel
               subst hwr
               by_cases hkm : k < m2
               · have hkI : (k : Int) < (m2 : Int):=by omega
                 obtain ⟨x,hx⟩ : ∃ x,(FL.drop t)[k]? = some x:=⟨(FL.drop t)[k]'(by rw [HBC.out.len]; exact hkm),by simp⟩
                 have y1:=(show wr.cell? ⟨g3,o3 + t + k,none⟩ = some (.int .u8 (x.toNat : Int)) from by
                  obtain ⟨ad,e,_,hcc⟩:=HBC.out.src (by rw [zA_,HBC.out.len]; omega)
                  injection e with e
                  subst e
                  have:=hcc k (B8 x) (by unfold bts; rw [List.getElem?_map,hx]; rfl)
                  rwa [zj_] at this)
                 by_cases hx0 : x = 0
                 · have hxI : (x.toNat : Int) = 0:=vT_.2 hx0
                   rw [hxI] at y1
                   have HX:=hQ_ hx
                   have HX0:=hQ_ hx0
                   clear hxI hx hx0
                   go_wp2_with fail
                   go_roundw
                   case rel => exact ⟨k + 1,by go_num,by omega,hQ_ (fun u hu => by
                    rw [List.take_add_one,HX.out] at hu
                    rcases List.mem_append.1 hu with hu | hu
                    · exact HZZ.out u hu
                    · simp at hu; rw [hu]; exact HX0.out),by first | rfl | trivial⟩
                   case measure => simp [intOf]; omega
                 · have hxI : ¬ (x.toNat : Int) = 0:=fun h => hx0 (vT_.1 h)
                   have hxd : ((x.toNat : Int) == 0) = false:=by simpa using hxI
                   have HN:=hQ_ (show ¬ ∃ T p,y2_ zs T p from fun ⟨T,p',h⟩ => hx0 (((HDEC.out T p').1 h).2.2.2 x (List.mem_of_getElem? (by rw [HFQ.out]; exact hx))))
                   obtain ⟨xi,hxi⟩ : ∃ xi,xi = (x.toNat : Int):=⟨_,rfl⟩
                   rw [← hxi] at y1 hxI hxd
                   clear hx hx0 hxi
                   go_wp2_with fail
                   go_ret3
                   exact HNO.out _ HN.out HCQ.out
               · have hkI : ¬ (k : Int) < (m2 : Int):=by omega
                 have HY:=hQ_ (show y2_ zs (FL.take t) p from (HDEC.out _ _).2 ⟨rfl,hqn,by rw [HFQ.out],fun x hx => HZZ.out x (by rw [List.take_of_length_le (by rw [HBC.out.len]; omega)]; rw [HFQ.out] at hx; exact hx)⟩)
                 have hst:=(HBT.out).str (P:=Tryz.prog) 33 5 9 Tryz.underlying33 Tryz.underlying5 Tryz.underlying9
                 clear hkm hk
                 go_wp2_with fail
                 go_ret3
                 exact HYES.out _ _ _ HY.out HCQ.out
        · have hqnI : (n : Int) < 1 + (q : Int):=by omega
          have HN:=hQ_ (show ¬ ∃ T p,y2_ zs T p from fun ⟨T,p',h⟩ => hqn ((HDEC.out T p').1 h).2.1)
          go_wp2_with (
           go_at_call 70
           refine (HHD.out _).mono ?_
           rintro e w3 ⟨rfl,rfl⟩)
          go_ret3
          exact HNO.out _ HN.out HC2.out
      · have HN:=hQ_ (show ¬ ∃ T p,y2_ zs T p from fun ⟨T,p,_,z',r',hz,h1,_⟩ => by
         rw [HZR.out] at hz
         injection hz with e1 e2
         subst e1
         exact hm h1)
        have HC2:=hQ_ hc2
        clear hm hc2 HQ HSR
        go_wp2_with fail
        go_ret3
        exact HNO.out _ HN.out HC2.out
end
end Go.Proofs.YtbkfhndmeljlcaaGreatDoor
