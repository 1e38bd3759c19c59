import Derived.Test.YtcbcfcdmdedefaaGreatDoorZTA24
set_option maxRecDepth 100000
set_option maxHeartbeats 16000000
namespace Go.Proofs.YtcbcfcdmdedefaaGreatDoor
section
open Go.RowKit
abbrev zms (W:World)(g:Nat)(u0 u1 u2 u3:Value):World:=(((W.setCell ⟨g,0,none⟩ u0).setCell ⟨g,1,none⟩ u1).setCell ⟨g,2,none⟩ u2).setCell ⟨g,3,none⟩ u3
theorem xY_ {W:World}{g t:Nat}{a b c d u0 u1 u2 u3:Value}(h:zb_ W g t [a,b,c,d]):zb_ (zms W g u0 u1 u2 u3) g t [u0,u1,u2,u3]:=by
 have hS:=(((h.set_ 0 u0).set_ 1 u1).set_ 2 u2).set_ 3 u3;simp only[List.set_cons_succ,List.set_cons_zero]at hS;exact hS
theorem v5_ (W:World)(g:Nat)(u0 u1 u2 u3:Value):Chg [g] W (zms W g u0 u1 u2 u3) :=
 ((((Chg.refl [g] W).setCell (p:=⟨g,0,none⟩) (fun _=>by simp) _).setCell (p:=⟨g,1,none⟩) (fun _=>by simp) _).setCell (p:=⟨g,2,none⟩) (fun _=>by simp) _).setCell (p:=⟨g,3,none⟩) (fun _=>by simp) _
theorem jh_ {W W':World}{v:Value}{qs:List (Int×Int)}{g:Nat}{cs:List Value}(h:QSl W v qs)(hg:zb_ W g 32 cs)(hc:Chg [g] W W'):QSl W' v qs:=by
 obtain⟨A,c,e,h1,h2,h3,h4⟩:=h;have hne:0<qs.length->∀ad,A=some ad->ad.block∉[g]:=fun h0 ad e hm=>by
  simp only[List.mem_cons,List.not_mem_nil,or_false]at hm;obtain⟨cs',fz,hb⟩:=h4 h0 ad e;rw[hm]at hb;unfold zb_ at hg;rw[hg]at hb;injection hb with hb;injection hb with _ hb _;exact absurd hb (by decide)
 refine⟨A,c,e,h1,h2.chg hc (fun h0=>hne (by rw[uA_]at h0;omega)),h3,fun h0 ad e=>?_⟩;obtain⟨cs',fz,hb⟩:=h4 h0 ad e;refine⟨cs',fz,?_⟩;have hlt:ad.block<W.heap.size:=by
  obtain⟨ad',e',hb',_⟩:=h2 (by rw[uA_];omega);rw[e]at e';injection e' with e';subst e';exact hb'
 rw[hc.block _ hlt (hne h0 ad e)];exact hb
theorem znA {W W':World}{v:Value}{qs:List (Int×Int)}{T:List Nat}(h:QSl W v qs)(hT:∀i∈T,∃t cs,zb_ W i t cs/\t≠267)(hc:Chg T W W'):QSl W' v qs:=by
 obtain⟨A,c,e,h1,h2,h3,h4⟩:=h;have hne:0<qs.length->∀ad,A=some ad->ad.block∉T:=fun h0 ad e hm=>by
  obtain⟨cs',fz,hb⟩:=h4 h0 ad e;obtain⟨t,cs,hW,hn⟩:=hT _ hm;unfold zb_ at hW;rw[hW]at hb;injection hb with hb;injection hb with _ hb _;exact hn hb
 refine⟨A,c,e,h1,h2.chg hc (fun h0=>hne (by rw[uA_]at h0;omega)),h3,fun h0 ad e=>?_⟩;obtain⟨cs',fz,hb⟩:=h4 h0 ad e;refine⟨cs',fz,?_⟩;have hlt:ad.block<W.heap.size:=by
  obtain⟨ad',e',hb',_⟩:=h2 (by rw[uA_];omega);rw[e]at e';injection e' with e';subst e';exact hb'
 rw[hc.block _ hlt (hne h0 ad e)];exact hb
theorem gF_ {w:World}{k:SK}{s:St}{x:SV}{j:HK}{y:HV}(h:Ho w k s x j y):∀i∈j.h::k.W,∃t cs,zb_ w i t cs/\t≠267:=by
 obtain⟨vP,hs⟩:=h.sto;intro i hi;simp only[SK.W,List.mem_cons,List.not_mem_nil,or_false]at hi;rcases hi with rfl|rfl|rfl|rfl|rfl|rfl
 · exact⟨_,_,h.rec_,by decide⟩
 · exact⟨_,_,hs.dsk.last,by decide⟩
 · exact⟨_,_,hs.dsk.seen,by decide⟩
 · exact⟨_,_,hs.dsk.wait,by decide⟩
 · exact⟨_,_,hs.rec_,by decide⟩
 · exact⟨_,_,hs.nm,by decide⟩
section
variable {w:World} {k:SK} {s:St} {x:SV} {j:HK} {y:HV} {AR AA:Option Addr} {nR cR nA cA fuel:Nat} {vR vA:List Value} {rR:List (Option Int)} {ns:List Int} {name:Int}
def qr_ (w:World) (k:SK) (s:St) (x:SV) (j:HK) (y:HV) (val trap:Int) (s':EgV) (e:Ending) (w':World):Prop :=
 (∃ A m c,e=.returned (.tuple #[.agg #[.int .i64 val,.int .i64 trap,.int .i64 (s'.fuel:Int),.slice A m c],.int .i64 0])/\QSl w' (.slice A m c) s'.qs /\
   ((trap≠0/\Chg [] w w') \/
    (trap=0/\vT_ y.L s'.L y.f s'.V.length=[]/\Chg [] w w') \/
    (trap=0/\∃ls j',zjV ls (vT_ y.L s'.L y.f s'.V.length)/\ls≠[]/\zF_ x.P ls=true/\yD_ x.L x.used ls.length=true/\j'.h=j.h/\Ho w' k (k4_ s x ls) (zbL x ls) j' (zqd y s'.L s'.V)/\Chg (j.h::k.W) w w'))) \/
 (∃ls r,trap=0/\zjV ls (vT_ y.L s'.L y.f s'.V.length)/\ls≠[]/\(zF_ x.P ls=false\/yD_ x.L x.used ls.length=false)/\(r=1\/r=24)/\e=.returned (.tuple #[.agg #[.int .i64 0,.int .i64 0,.int .i64 0,.slice none 0 0],.int .i64 r])/\Chg [] w w')
theorem zkF {val:Int} {s':EgV} {w6 w7:World} {gr q2 gC gD m c:Nat} {A:Option Addr} {r0 r1 r2 r3:Value} {e:Ending} (h:Ho w k s x j y) (hgr:gr=w.heap.size) (hC6:Chg [] w w6) (hR6:zb_ w6 gr 32 [r0,r1,r2,r3])
    (hQ:QSl w6 (.slice A m c) s'.qs) (hcom:un_ w6 (k.more gr) s x j y q2 gC gD s'.L s'.V e w7) :
    ∃ r:Int,e=.returned (.int .i64 r)/\Chg (j.h::k.W) w6 w7/\((r=0/\qr_ w k s x j y val 0 s' (.returned (.tuple #[.agg #[.int .i64 val,.int .i64 0,.int .i64 (s'.fuel:Int),.slice A m c],.int .i64 0])) (zms w7 gr (.int .i64 val) (.int .i64 0) (.int .i64 (s'.fuel:Int)) (.slice A m c))) \/
      ((r=1\/r=24)/\qr_ w k s x j y val 0 s' (.returned (.tuple #[.agg #[.int .i64 0,.int .i64 0,.int .i64 0,.slice none 0 0],.int .i64 r])) (zms w7 gr (.int .i64 0) (.int .i64 0) (.int .i64 0) (.slice none 0 0)))):=by
         have hnil:∀{T:List Nat},Chg [] w6 w7->Chg T w6 w7:=fun h=>h.sub (fun _ h=>by cases h);have hins:∀(u0 u1 u2 u3:Value){T:List Nat},Chg T w w7->(∀i∈T,i<w.heap.size)->Chg T w (zms w7 gr u0 u1 u2 u3):=fun u0 u1 u2 u3 T hc _ =>
          hc.then_ (v5_ w7 gr u0 u1 u2 u3) (fun i hi hl=>by rw[List.mem_singleton.1 hi,hgr]at hl;omega);obtain⟨vP,hs⟩:=h.sto;have hjlt:j.h<w.heap.size:=h.rec_.lt;have hlts:=hs.lts;have hW:∀i∈j.h::k.W,i<w.heap.size:=fun i hi=>by
          rcases List.mem_cons.1 hi with rfl|hi
          · exact hjlt
          · refine hlts i ?_;simp only[SK.W,SK.D,List.mem_cons,List.not_mem_nil,or_false]at hi⊢;rcases hi with h|h|h|h|h<;>simp[h]
         have hgT:gr∉j.h::k.W:=fun hm=>(by have:=hW _ hm;omega);have hQ7:Chg (j.h::k.W) w6 w7->∀u0 u1 u2 u3,QSl (zms w7 gr u0 u1 u2 u3) (.slice A m c) s'.qs:=fun hc u0 u1 u2 u3 =>
          jh_ (znA hQ (gF_ (h.keep hC6)) hc) (hR6.chg hc hgT) (v5_ w7 gr u0 u1 u2 u3);obtain⟨ls,hc2,⟨h0,rfl,hc⟩|⟨h0,hb,he,hc⟩|⟨h0,hr,hf,rfl,hH,hc⟩⟩:=hcom
         · refine⟨0,rfl,hnil hc,.inl ⟨rfl,.inl ⟨A,m,c,rfl,hQ7 (hnil hc) _ _ _ _,.inr (.inl ⟨rfl,?_,hins _ _ _ _ (hC6.trans hc) (fun _ h=>by cases h)⟩)⟩⟩⟩;exact List.eq_nil_of_length_eq_zero (by rw[<-hc2.1.len,h0];rfl)
         · rcases he with rfl|rfl
           · exact⟨1,rfl,hnil hc,.inr ⟨.inl rfl,.inr ⟨ls,1,rfl,hc2,h0,hb,.inl rfl,rfl,hins _ _ _ _ (hC6.trans hc) (fun _ h=>by cases h)⟩⟩⟩
           · exact⟨24,rfl,hnil hc,.inr ⟨.inr rfl,.inr ⟨ls,24,rfl,hc2,h0,hb,.inr rfl,rfl,hins _ _ _ _ (hC6.trans hc) (fun _ h=>by cases h)⟩⟩⟩
         · refine⟨0,rfl,hc,.inl ⟨rfl,.inl ⟨A,m,c,rfl,hQ7 hc _ _ _ _,.inr (.inr ⟨rfl,ls,comJ j q2 gC gD,hc2,h0,hr,hf,rfl,?_,hins _ _ _ _ ((hC6.sub (fun _ h=>by cases h)).trans hc) hW⟩)⟩⟩⟩;exact hH.past (v5_ w7 gr _ _ _ _) (by show j.h≠gr;omega) (fun i hi=>by
            have:=hlts i (by simp only[List.mem_cons,List.not_mem_nil,or_false]at hi;simp only[SK.D,List.mem_cons];rcases hi with h|h|h|h|h|h<;>simp[h]);omega)
theorem zil {kk:Nat} {f:FnV} {val trap:Int} {s':EgV} {mR:Nat} (h:Ho w k s x j y) (hU:RightU y.pg y.ms y.fs) (hk:yY_ y.fs name=(kk:Int)) (hf:y.fs[kk]?=some f) (hfa:f.args=(ns.length:Int)) (hfu:fuel<=1048576)
    (hmq:(mR:Int)=min (nR:Int) 64) (hdo:eDo y.fs (rR.take mR) y.most kk fuel ns y.L (zK_ y.V.length) []=some (val,trap,s')) (hgr:s'.V.length=y.V.length) (hcs:y.calls<=1000000)
    (hNR:jb_ vR rR) (hsR:Src w AR vR) (hAR:∀ad,AR=some ad->ad.spot=none) (hnR:vR.length=nR) (hcR:nR<=cR)
    (hNA:jb_ vA (ns.map some)) (hsA:Src w AA vA) (hAA:∀ad,AA=some ad->ad.spot=none) (hnA:vA.length=nA) (hmA:nA<=1000000) :
    Calls Tryz.prog 9 #[.pointer (some ⟨j.h,0,none⟩),.int .i32 name,.int .i64 (fuel:Int),.slice AR nR cR,.slice AA nA cA] w (qr_ w k s x j y val trap s'):=by
 have HH:=hQ_ h;have HF1:=hQ_ (show ∀(A:Option Addr) (m c:Nat) (W:World),QSl W (.slice A m c) s'.qs->trap≠0->Chg [] w W->qr_ w k s x j y val trap s' (.returned (.tuple #[.agg #[.int .i64 val,.int .i64 trap,.int .i64 (s'.fuel:Int),.slice A m c],.int .i64 0])) W from fun A m c W h1 h2 h3=>.inl ⟨A,m,c,rfl,h1,.inl ⟨h2,h3⟩⟩);have HF2:=hQ_ (show trap=0->∀(gr q2 gC gD m c:Nat) (A:Option Addr) (r0 r1 r2 r3:Value) (w1 w6:World) (X' Y':List Value),gr=w.heap.size->Chg [] w w1->gr<w1.heap.size->Chg [] w1 w6->zb_ w6 gr 32 [r0,r1,r2,r3]->QSl w6 (.slice A m c) s'.qs->Mm w6 q2 gC gD s'.L X' s'.V Y' y.most->w1.heap.size<=q2/\w1.heap.size<=gC/\w1.heap.size<=gD ->
     Calls Tryz.prog 27 #[.pointer (some ⟨j.h,0,none⟩),.pointer (some ⟨q2,0,none⟩)] w6 (fun e w7=>∃r:Int,e=.returned (.int .i64 r)/\Chg (j.h::k.W) w6 w7/\((r=0/\qr_ w k s x j y val trap s' (.returned (.tuple #[.agg #[.int .i64 val,.int .i64 0,.int .i64 (s'.fuel:Int),.slice A m c],.int .i64 0])) (zms w7 gr (.int .i64 val) (.int .i64 0) (.int .i64 (s'.fuel:Int)) (.slice A m c))) \/
     ((r=1\/r=24)/\qr_ w k s x j y val trap s' (.returned (.tuple #[.agg #[.int .i64 0,.int .i64 0,.int .i64 0,.slice none 0 0],.int .i64 r])) (zms w7 gr (.int .i64 0) (.int .i64 0) (.int .i64 0) (.slice none 0 0))))) from fun ht gr q2 gC gD m c A r0 r1 r2 r3 w1 w6 X' Y' hg hc1 hg1 hc6 hR hQ hM hq=>by
        subst ht;obtain⟨vP,hs⟩:=h.sto;have hD:∀{i:Nat},w1.heap.size<=i->i∉(k.more gr).D:=fun hi hm=>by
         rcases SK.more_in.1 hm with h|h
         · omega
         · have h1:=hs.lts _ h;have h2:=hc1.size;omega
        exact(zct ((h.more hc1 (by omega) hg1).keep hc6) hM hgr ⟨hD hq.1,hD hq.2.1,hD hq.2.2⟩ hcs).mono fun e w7 hcom=>zkF h hg (hc1.trans hc6) hR hQ hcom);generalize qr_ w k s x j y val trap s'=PO at HF1 HF2⊢;have HAL:=hQ_ (fun (W:World)(hc:Chg [] w W)=>zjE (c:=cA) hNA (hsA.keep hc) hAA hnA hmA);unfold zjR at HAL;have HRN:=hQ_ (fun (W:World)(hc:Chg [] w W)=>gq_ (c:=cR) hNR (hsR.keep hc) hAR hnR hcR mR hmq);unfold zoK at HRN;have HCP:=hQ_ (fun (W:World)(hc:Chg [] w W)=>(show Calls Tryz.prog 24 #[.pointer (some ⟨j.pm,0,none⟩)] W (xU_ W y.L y.V.length y.most) from by
  obtain⟨X,Y,hM⟩:=(h.keep hc).mm;exact zaP hM));unfold xU_ at HCP;have HRU:=hQ_ (fun (wb W:World)(p gC gD rp:Nat)(av:Value)(A2:Option Addr)(c2:Nat)(hb:Chg [] w wb)(hW:Chg [] wb W)(hM:Mm W p gC gD y.L [] (zK_ y.V.length) [] y.most)(hn:wb.heap.size<=p/\wb.heap.size<=gC/\wb.heap.size<=gD)(hR:Rq W rp (rR.take mR) [] av (.slice none 0 0))(hrp:wb.heap.size<=rp)(hS:Src W A2 (nms ns)) =>
  znn (c2:=c2) (fuel:=fuel) (m2:=ns.length) hW hM hn hR hrp (h.fn.keep hb) hU hk hf hfa hfu rfl hS hdo);unfold zmR yH_ at HRU;clear h hU hk hf hfa hfu hNR hsR hAR hnR hcR hNA hsA hAA hnA hmA hmq hdo;go_enter Tryz.func9,Tryz.ntmps9;go_upto_region 1 with fail;have hal:=(Chg.refl [] w).alloc (.cells #[.int .i64 0,.int .i64 0,.int .i64 0,.slice none 0 0] 32);have HR1:=hQ_ (zb_.new w 32 [.int .i64 0,.int .i64 0,.int .i64 0,.slice none 0 0]);have HC1:=hQ_ hal;clear hal;obtain⟨gr,hgr⟩:∃gr,gr=w.heap.size:=⟨_,rfl⟩;have HGR:=hQ_ hgr;rw[<-hgr]at HR1⊢;clear hgr;generalize w.alloc (.cells #[.int .i64 0,.int .i64 0,.int .i64 0,.slice none 0 0] 32)=w1 at HR1 HC1⊢;go_upto_region 4 with(
  go_at_call 23;with_reducible refine(HAL.o w1 HC1.o).mono ?_
  rintro e w2 ⟨v,rfl,ho,hc⟩;obtain⟨A2,c2,rfl,_,_,hs2,_⟩:=zr_ ho;have HSA:=hQ_ hs2;have HS12:=hQ_ hc;have HC2:=hQ_ (HC1.o.trans hc);have HR2:=hQ_ (HR1.o.keep hc);clear ho hc hs2);obtain⟨_,_,_,_,c4,_⟩:=(HH.o.keep HC2.o).cells;go_upto_region 5 with(
  go_at_call 24;with_reducible refine(HCP.o w2 HC2.o).mono ?_
  rintro e w3 ⟨q2,gC2,gD2,rfl,hM3,hq1,hq2,hq3,hc⟩;have HM3:=hQ_ hM3;have HN3:=hQ_ (show w.heap.size<=q2/\w.heap.size<=gC2/\w.heap.size<=gD2 from by have:=HC2.o.size;omega);have HSA3:=hQ_ (HSA.o.keep hc);have HQN:=hQ_ (show w1.heap.size<=q2/\w1.heap.size<=gC2/\w1.heap.size<=gD2 from by have:=HS12.o.size;omega);have HC31:=hQ_ (HS12.o.trans hc);have HC3:=hQ_ (HC2.o.trans hc);have HR3:=hQ_ (HR2.o.keep hc);clear hc hM3 hq1 hq2 hq3);clear c4;generalize (s'.fuel:Int)=fu at HRU HF1 HF2;go_cut [15,16] (fun v15 v16 wx=>∃g15 A' m' c',v15=.pointer (some ⟨g15,0,none⟩)/\v16=.int .i64 0/\Hid (zb_ wx g15 32 [.int .i64 val,.int .i64 trap,.int .i64 fu,.slice A' m' c'])/\Hid (QSl wx (.slice A' m' c') s'.qs) /\
   Hid (∃gC' gD' X' Y',Mm wx q2 gC' gD' s'.L X' s'.V Y' y.most/\w1.heap.size<=gC'/\w1.heap.size<=gD')/\Hid (w3.heap.size<=g15)/\Hid (Chg [q2,gC2,gD2] w3 wx));case first =>
  have HLD:=hQ_ (fun (W:World) (hc:Chg [] w3 W)=>(HH.o.keep (HC3.o.trans hc)).cells);obtain⟨_,d1,d2,d3,_⟩:=HLD.o w3.drew (Chg.refl [] w3).drew;obtain⟨_,b1,b2,b3,_⟩:=HLD.o (w3.alloc (.cells #[.int .i64 0,.int .i64 0,.int .i64 0,.slice none 0 0] 32)).drew ((Chg.refl [] w3).alloc _).drew;have hl3:j.h<w3.drew.heap.size:=(HH.o.keep HC3.o).rec_.lt;have hw3:w1.heap.size<=w3.heap.size:=HC31.o.size;have HLT:=hQ_ (show q2<w3.heap.size/\gC2<w3.heap.size/\gD2<w3.heap.size from⟨HM3.o.rec_.lt,HM3.o.cel.lt,HM3.o.dir.lt⟩);have HSZ:=hQ_ (show(w3.alloc (.cells #[.int .i64 0,.int .i64 0,.int .i64 0,.slice none 0 0] 32)).drew.heap.size=w3.heap.size+1 from Array.size_push _);go_region_with (first
   | (go_at_call 26;(with_reducible refine(HRN.o _ (HC3.o.trans (by repeat (first|exact Chg.refl _ _|refine Chg.drew ?_|refine Chg.alloc ?_ _)))).mono ?_);rintro e w4 ⟨rp,av,rfl,hR,hrp,hc4⟩;have hA4:Chg [] w3 w4:=Chg.trans (by repeat (first|exact Chg.refl _ _|refine Chg.drew ?_|refine Chg.alloc ?_ _)) hc4;have hrp3:w3.heap.size<=rp:=Nat.le_trans (Chg.size (T:=[]) (by repeat (first|exact Chg.refl _ _|refine Chg.drew ?_|refine Chg.alloc ?_ _))) hrp;obtain⟨_,e1,e2,e3,_⟩:=HLD.o w4 hA4;obtain⟨_,p1,p2,p3,_⟩:=HLD.o (w4.alloc (.cells #[.int .i64 0,.int .i64 0,.int .i64 0,.slice none 0 0] 32)) (hA4.alloc _);have hl4:j.h<w4.heap.size:=(HH.o.keep (HC3.o.trans hA4)).rec_.lt;have hrl:rp<w4.heap.size:=hR.rec_.lt;try (
       have q4:=(zb_.new w3 32 [.int .i64 0,.int .i64 0,.int .i64 0,.slice none 0 0]).drew.keep hc4;have hrq:w3.heap.size<rp:=by have h1:=HSZ.o;have h2:(w3.alloc (.cells #[.int .i64 0,.int .i64 0,.int .i64 0,.slice none 0 0] 32)).drew.heap.size<=rp:=hrp;omega))
   | (go_at_call 25;(with_reducible refine(HRU.o w1 _ q2 gC2 gD2 rp av A2 c2 HC1.o (HC31.o.trans (hA4.trans (by repeat (first|exact Chg.refl _ _|refine Chg.drew ?_|refine Chg.alloc ?_ _)))) (HM3.o.keep (hA4.trans (by repeat (first|exact Chg.refl _ _|refine Chg.drew ?_|refine Chg.alloc ?_ _)))) HQN.o (hR.keep (by repeat (first|exact Chg.refl _ _|refine Chg.drew ?_|refine Chg.alloc ?_ _))) (Nat.le_trans hw3 hrp3) (HSA3.o.keep (hA4.trans (by repeat (first|exact Chg.refl _ _|refine Chg.drew ?_|refine Chg.alloc ?_ _))))).mono ?_);rintro e w5 ⟨A',m',c',rfl,hq5,⟨gC5,gD5,X5,Y5,hM5,hg5,hg6⟩,hcT,hc5⟩;have hT5:Chg [q2,gC2,gD2] w3 w5:=(hA4.sub (fun _ h=>by cases h)).then_ (Chg.then_ (T':=[q2,gC2,gD2,rp]) (by repeat (first|exact Chg.refl _ _|refine Chg.drew ?_|refine Chg.alloc ?_ _)) hcT (fun i hi _=>hi)) (fun i hi hlt=>by simp only[List.mem_cons,List.not_mem_nil,or_false]at hi⊢;omega);try (
       have q5:=(zb_.new w4 32 [.int .i64 0,.int .i64 0,.int .i64 0,.slice none 0 0]).chg hcT (by
        have h1:=HLT.o;have h2:=hA4.size;simp only[List.mem_cons,List.not_mem_nil,or_false];omega);have z0:=q5.cell 0;have z1:=q5.cell 1;have z2:=q5.cell 2;have z3:=q5.cell 3;have y0:=q5.frozen 0;have y1:=q5.frozen 1;have y2:=q5.frozen 2;have y3:=q5.frozen 3)
      try (
       have q5:=q4.chg hcT (by
        have h1:=HLT.o;simp only[List.mem_cons,List.not_mem_nil,or_false];omega);have z0:=q5.cell 0;have z1:=q5.cell 1;have z2:=q5.cell 2;have z3:=q5.cell 3;have y0:=q5.frozen 0;have y1:=q5.frozen 1;have y2:=q5.frozen 2;have y3:=q5.frozen 3)));all_goals
    have hs4:=hA4.size;go_wp2_with fail;go_meet;first
      | exact⟨_,A',m',c',rfl,rfl,hQ_ (zb_.new w5 _ _),hQ_ (hq5.keep ((Chg.refl [] w5).alloc _)),hQ_ ⟨gC5,gD5,X5,Y5,hM5.keep ((Chg.refl [] w5).alloc _),hg5,hg6⟩,hQ_ hT5.size,hQ_ (hT5.alloc _)⟩
      | (have hg15:w3.heap.size<=w4.heap.size:=hs4;have hcs:=v5_ w5 w4.heap.size (.int .i64 val) (.int .i64 trap) (.int .i64 fu) (.slice A' m' c');exact⟨_,A',m',c',rfl,rfl,hQ_ (xY_ q5),hQ_ (jh_ hq5 q5 hcs),hQ_ ⟨gC5,gD5,X5,Y5,hM5.away hcs (by simpa using hM5.rec_.ne_ q5 (by decide)) (by simpa using hM5.cel.ne_ q5 (by decide)) (by simpa using hM5.dir.ne_ q5 (by decide)),hg5,hg6⟩,hQ_ hg15,hQ_ (hT5.then_ hcs (fun i hi hlt=>by simp only[List.mem_cons,List.not_mem_nil,or_false]at hi;omega))⟩)
      | (have hcs:=v5_ w5 w3.heap.size (.int .i64 val) (.int .i64 trap) (.int .i64 fu) (.slice A' m' c');exact⟨_,A',m',c',rfl,rfl,hQ_ (xY_ q5),hQ_ (jh_ hq5 q5 hcs),hQ_ ⟨gC5,gD5,X5,Y5,hM5.away hcs (by simpa using hM5.rec_.ne_ q5 (by decide)) (by simpa using hM5.cel.ne_ q5 (by decide)) (by simpa using hM5.dir.ne_ q5 (by decide)),hg5,hg6⟩,hQ_ (Nat.le_refl _),hQ_ (hT5.then_ hcs (fun i hi hlt=>by simp only[List.mem_cons,List.not_mem_nil,or_false]at hi;omega))⟩)
 case rest =>
  obtain⟨g15,A',m',c',rfl,rfl,HX,HQ,HME,HG15,HCX⟩:=hcut;obtain⟨w6,rfl⟩:∃w6:World,w6=wc:=⟨_,rfl⟩;have HC6:=hQ_ (show Chg [] w w6 from HC3.o.then_ HCX.o (fun i hi hlt=>by
   have h:=HN3.o;simp only[List.mem_cons,List.not_mem_nil,or_false]at hi;omega));have HR6:=hQ_ (HR3.o.chg HCX.o (by
   have h:=HR1.o.lt;have h2:=HQN.o;simp only[List.mem_cons,List.not_mem_nil,or_false];omega));have x0:=HX.o.cell 0;have x1:=HX.o.cell 1;have x2:=HX.o.cell 2;have x3:=HX.o.cell 3;have r0:=HR6.o.cell 0;have r1:=HR6.o.cell 1;have r2:=HR6.o.cell 2;have r3:=HR6.o.cell 3;have f0:=HR6.o.frozen 0;have f1:=HR6.o.frozen 1;have f2:=HR6.o.frozen 2;have f3:=HR6.o.frozen 3;by_cases htr:trap=0
  · obtain⟨gC6,gD6,X6,Y6,hM6,hg6,hg7⟩:=HME.o;have HCM:=hQ_ (HF2.o htr gr q2 gC6 gD6 m' c' A' _ _ _ _ w1 w6 X6 Y6 HGR.o HC1.o HR1.o.lt (HC31.o.then_ HCX.o (fun i hi hlt=>by
     have h:=HQN.o;simp only[List.mem_cons,List.not_mem_nil,or_false]at hi;omega)) HR6.o HQ.o hM6 ⟨HQN.o.1,hg6,hg7⟩);have HTY:=hQ_ (gF_ (HH.o.keep HC6.o));have HJW:=hQ_ (show ∀i∈j.h::k.W,i<w.heap.size from fun i hi=>by
     obtain⟨t,cs,hW,_⟩:=gF_ HH.o i hi;exact hW.lt);subst htr;clear hM6 hg6 hg7 x0 x1 x2 x3 r0 r1 r2 r3 f0 f1 f2 f3;have HNG:=hQ_ (show g15∉j.h::k.W/\gr∉j.h::k.W from⟨fun hm=>by have h1:=HJW.o _ hm;have h2:=HG15.o;have h3:=HC3.o.size;omega,fun hm=>by have h1:=HJW.o _ hm;have h2:=HGR.o;omega⟩);have x1:=HX.o.cell 1;go_upto_region 9 with(
     go_at_call 27;(with_reducible refine HCM.o.mono ?_);rintro e w7 ⟨r,rfl,hc7,h7⟩;have HX7:=hQ_ (HX.o.chg hc7 HNG.o.1);have HR7:=hQ_ (HR6.o.chg hc7 HNG.o.2);have H7:=hQ_ h7;clear hc7 h7);clear x1;have x0:=HX7.o.cell 0;have x1:=HX7.o.cell 1;have x2:=HX7.o.cell 2;have x3:=HX7.o.cell 3;have r0:=HR7.o.cell 0;have r1:=HR7.o.cell 1;have r2:=HR7.o.cell 2;have r3:=HR7.o.cell 3;have f0:=HR7.o.frozen 0;have f1:=HR7.o.frozen 1;have f2:=HR7.o.frozen 2;have f3:=HR7.o.frozen 3;obtain⟨rfl,hF⟩|⟨hr,hF⟩:=H7.o
    · have HF:=hQ_ hF;clear hF;go_wp2_with fail;exact bodyPost_ret (zf_ (p:=10) (u:=11) (ty:=32) rfl _ _ gr 32 [.int .i64 val,.int .i64 0,.int .i64 fu,.slice A' m' c'] _ rfl (xY_ HR7.o) Tryz.underlying32 (by kernel_rfl)) rfl HF.o
    · have HF:=hQ_ hF;clear hF;have hr0:(r != 0)=true:=by rcases hr with rfl|rfl<;>rfl
      clear hr;go_wp2_with fail;exact bodyPost_ret (zf_ (p:=10) (u:=11) (ty:=32) rfl _ _ gr 32 [.int .i64 0,.int .i64 0,.int .i64 0,.slice none 0 0] _ rfl (xY_ HR7.o) Tryz.underlying32 (by kernel_rfl)) rfl HF.o
  · go_wp2_with fail;have hcs:=v5_ w6 gr (.int .i64 val) (.int .i64 trap) (.int .i64 fu) (.slice A' m' c');have hP:=HF1.o A' m' c' _ (jh_ HQ.o HR6.o hcs) htr (HC6.o.then_ hcs (fun i hi hlt=>by
     have h:=HGR.o;simp only[List.mem_cons,List.not_mem_nil,or_false]at hi;omega));exact bodyPost_ret (zf_ (p:=10) (u:=11) (ty:=32) rfl _ _ gr 32 [.int .i64 val,.int .i64 trap,.int .i64 fu,.slice A' m' c'] _ rfl (xY_ HR6.o) Tryz.underlying32 (by kernel_rfl)) rfl hP
end
end
section
open Go.RowKit
theorem zcI (L M:List UInt8)(f:Nat):∀k,∀c∈vT_ L M f k,f<=c.1/\c.1<f+k
  | 0,c,h=>by cases h
  | k+1,c,h=>by
    rw[vT_,List.mem_append]at h;rcases h with h|h
    · have:=zcI L M f k c h;omega
    · split at h
      · cases h
      · rw[List.mem_singleton.1 h];simp only;omega
theorem zbp (L M:List UInt8)(f:Nat):∀k,(vT_ L M f k).Pairwise (fun a b=>a.1<b.1)
  | 0=>List.Pairwise.nil
  | k+1=>by
    rw[vT_,List.pairwise_append];refine⟨zbp L M f k,by split<;>simp,fun a ha b hb=>?_⟩;have:=zcI L M f k a ha;split at hb
    · cases hb
    · rw[List.mem_singleton.1 hb];simp only;omega
theorem jQ_ {P:Int}:∀(l:List ChV)(last:Int),(∀a∈l,last<a.page/\a.page<P/\a.bn=64)->l.Pairwise (fun a b=>a.page<b.page)->yJ_ last P l=true
  | [],_,_,_=>rfl
  | a::l,last,h,hp=>by
    obtain⟨h1,h2,h3⟩:=h a (List.mem_cons_self ..);rw[List.pairwise_cons]at hp;rw[yJ_,decide_eq_false (show ¬a.page<=last by omega),decide_eq_false (show ¬P<=a.page by omega),decide_eq_false (show ¬a.bn≠64 from fun h=>h h3),Bool.or_false,Bool.or_false,Bool.not_false,Bool.true_and];exact jQ_ l a.page (fun b hb=>⟨hp.1 b hb,(h b (List.mem_cons_of_mem _ hb)).2⟩) hp.2
theorem zjr {ls:List ChV}{cs:List (Nat×List UInt8)}(h:zjV ls cs):∀a∈ls,∃c∈cs,a.page=(c.1:Int):=fun a ha=>by
 have h1:(a.page,a.B)∈ls.map (fun a=>(a.page,a.B)):=List.mem_map_of_mem ha;rw[h.1]at h1;obtain⟨c,hc,he⟩:=List.mem_map.1 h1;exact⟨c,hc,(congrArg Prod.fst he).symm⟩
theorem zfR {ls:List ChV}{L M:List UInt8}{f k P:Nat}(h:zjV ls (vT_ L M f k))(hP:f+k<=P)(h64:P<=64):zF_ (P:Int) ls=true:=by
 unfold zF_;rw[decide_eq_true (show(P:Int)<=64 by omega),Bool.true_and];refine jQ_ ls (-1) (fun a ha=>?_) ?_
 · obtain⟨c,hc,e⟩:=zjr h a ha;have:=zcI L M f k c hc;exact⟨by omega,by omega,(h.2 a ha).2.1⟩
 · have h1:(ls.map (fun a=>(a.page,a.B))).Pairwise (fun a b=>a.1<b.1):=(by
    rw[h.1,List.pairwise_map];exact(zbp L M f k).imp (fun {a b} hab=>by simp only;omega));rw[List.pairwise_map]at h1;exact h1
theorem zob {L u n:Nat}(h1:1<=L)(h2:L<=64)(hn:n<=64)(h:u+18+66*n<=64*L):yD_ (L:Int) (u:Int) (n:Int)=true:=by
 unfold yD_ zcm ux_ kw_;rw[Bool.and_eq_true];constructor<;>rw[decide_eq_true_iff]<;>repeat' split;all_goals omega
theorem zmx {L M:List UInt8}:∀(k:Nat),L.length=64*k->M.length=64*k->(∀i,i<k->pg L i=pg M i)->L=M
  | 0,h1,h2,_=>by rw[List.eq_nil_of_length_eq_zero (by omega:L.length=0),List.eq_nil_of_length_eq_zero (by omega:M.length=0)]
  | k+1,h1,h2,h=>by
    have e0:=h 0 (by omega);unfold pg at e0;simp only[Nat.zero_mul,List.drop_zero]at e0;rw[<-List.take_append_drop 64 L,<-List.take_append_drop 64 M,e0,zmx k (L:=L.drop 64) (M:=M.drop 64) (by rw[List.length_drop];omega) (by rw[List.length_drop];omega) (fun i hi=>by
     have:=h (i+1) (by omega);unfold pg at this⊢;rw[List.drop_drop,List.drop_drop,show 64+i*64=(i+1)*64 by omega];exact this)]
theorem zdX {L M:List UInt8}{f:Nat}:∀{k:Nat},vT_ L M f k=[]->∀i,i<k->go_ L M i=true
  | 0,_,i,hi=>by omega
  | k+1,h,i,hi=>by
    rw[vT_,List.append_eq_nil_iff]at h;rcases Nat.lt_or_ge i k with h1|h1
    · exact zdX h.1 i h1
    · obtain rfl:i=k:=(by omega);by_cases hs:go_ L M i=true
      · exact hs
      · rw[if_neg hs]at h;exact absurd h.2 (by simp)
theorem zjo {L M:List UInt8}{f k:Nat}(h1:L.length=64*k)(h2:M.length=64*k)(h:vT_ L M f k=[]):L=M :=
 zmx k h1 h2 fun i hi=>by
  have:=zdX h i hi;unfold go_ at this;exact(decide_eq_true_iff.1 this).2
theorem zbq {L:List UInt8}{f:Nat}:∀{k:Nat},k<=L.length/64->vT_ L L f k=[]
  | 0,_=>rfl
  | k+1,h=>by
    rw[vT_,zbq (by omega)];have:go_ L L k=true:=(by unfold go_;exact decide_eq_true ⟨by omega,rfl⟩);rw[this];rfl
end
section
open Go.RowKit
section
variable {w:World} {k:SK} {s:St} {x:SV} {j:HK} {y:HV} {AR AA:Option Addr} {nR cR nA cA fuel:Nat} {vR vA:List Value} {rR:List (Option Int)} {ns:List Int} {name:Int}
def zmQ (w:World) (k:SK) (s:St) (x:SV) (j:HK) (y:HV) (val:Int) (s':EgV) (e:Ending) (w':World):Prop :=
 ∃ A m c,e=.returned (.tuple #[.agg #[.int .i64 val,.int .i64 0,.int .i64 (s'.fuel:Int),.slice A m c],.int .i64 0])/\QSl w' (.slice A m c) s'.qs /\
   ((y.L=s'.L/\Chg [] w w') \/
    (y.L≠s'.L/\∃ls j',zjV ls (vT_ y.L s'.L y.f y.V.length)/\ls≠[]/\zF_ x.P ls=true/\yD_ x.L x.used ls.length=true/\j'.h=j.h/\Ho w' k (k4_ s x ls) (zbL x ls) j' (zqd y s'.L s'.V)/\Chg (j.h::k.W) w w'))
theorem zdE {kk:Nat}{f:FnV}{val:Int}{s':EgV}{mR:Nat}(h:Ho w k s x j y)(hU:RightU y.pg y.ms y.fs)(hk:yY_ y.fs name=(kk:Int))(hf:y.fs[kk]?=some f)(hfa:f.args=(ns.length:Int))(hfu:fuel<=1048576)
    (hmq:(mR:Int)=min (nR:Int) 64) (hdo:eDo y.fs (rR.take mR) y.most kk fuel ns y.L (zK_ y.V.length) []=some (val,0,s')) (hgr:s'.V.length=y.V.length) (hcs:y.calls<=1000000) (hL:s'.L.length=64*y.V.length)
    (hP:y.f+y.V.length<=x.P) (hR:x.used+18+66*y.V.length<=64*x.L)
    (hNR:jb_ vR rR) (hsR:Src w AR vR) (hAR:∀ad,AR=some ad->ad.spot=none) (hnR:vR.length=nR) (hcR:nR<=cR)
    (hNA:jb_ vA (ns.map some)) (hsA:Src w AA vA) (hAA:∀ad,AA=some ad->ad.spot=none) (hnA:vA.length=nA) (hmA:nA<=1000000) :
    Calls Tryz.prog 9 #[.pointer (some ⟨j.h,0,none⟩),.int .i32 name,.int .i64 (fuel:Int),.slice AR nR cR,.slice AA nA cA] w (zmQ w k s x j y val s'):=by
 obtain⟨X,Y,hM⟩:=h.mm;obtain⟨vP,hs⟩:=h.sto;have hrt:=zj_.1 hs.rt;refine(zil h hU hk hf hfa hfu hmq hdo hgr hcs hNR hsR hAR hnR hcR hNA hsA hAA hnA hmA).mono fun e w' hr=>?_;rcases hr with⟨A,m,c,he,hq,h0|⟨_,h1,h2⟩|⟨_,ls,j',h1,h2,h3,h4,h5,h6,h7⟩⟩|⟨ls,r,_,hc,h1,hbad,_⟩
 · exact absurd rfl h0.1
 · exact⟨A,m,c,he,hq,.inl ⟨zjo hM.len hL (by rw[<-hgr];exact h1),h2⟩⟩
 · refine⟨A,m,c,he,hq,.inr ⟨fun he=>?_,ls,j',by rw[<-hgr];exact h1,h2,h3,h4,h5,h6,h7⟩⟩;rw[<-he,zbq (by rw[hgr,hM.len];omega)]at h1;exact h2 (List.eq_nil_of_length_eq_zero h1.1.len)
 · exfalso;rw[hgr]at hc;have hlen:ls.length<=y.V.length:=(by rw[hc.1.len];exact gV_ _ _ _ _);have hV:=hM.le;have hV2:=hM.top;rcases hbad with hb|hb
   · rw[zfR hc hP (by omega)]at hb;cases hb
   · rw[zob (by omega) (by omega) (by omega) (by omega)]at hb;cases hb
end
end
section
open Go.RowKit
open Go.Lib
theorem zik {w:World}{K:SK}{s:St}{x:SV}{j:HK}{y:HV}{h:Nat}(hj:j.h=h)(hH:Ho w K s x j y):∀i∈h::K.W,i<w.heap.size:=fun i hi=>by
 obtain⟨vP,hs⟩:=hH.sto;rcases List.mem_cons.1 hi with rfl|hi
 · rw[<-hj];exact hH.rec_.lt
 · refine hs.lts i ?_;simp only[SK.W,SK.D,List.mem_cons,List.not_mem_nil,or_false]at hi⊢;rcases hi with h|h|h|h|h<;>simp[h]
def qD_ (wr:World)(K:SK)(h t kk:Nat)(c:Int):Prop :=
 ∃s x j V calls,j.h=h/\Ho wr K s x j ⟨1,1,kO_,t,2,calls,js_ c,V,1⟩/\V.length=1/\x.L=40/\x.P=50/\x.used<=84*kk/\calls<=kk
theorem qD_.keep {w w':World}{K:SK}{h t kk:Nat}{c:Int}(hA:qD_ w K h t kk c)(hc:Chg [] w w'):qD_ w' K h t kk c:=by
 obtain⟨s,x,j,V,calls,h1,h2,h3⟩:=hA;exact⟨s,x,j,V,calls,h1,h2.keep hc,h3⟩
theorem zeg {w w':World}{K:SK}{h t kk fu:Nat}{s:St}{x:SV}{j:HK}{V:List Bool}{calls:Nat}{c n val:Int}{s':EgV}{e:Ending}(hj:j.h=h)(hH:Ho w K s x j ⟨1,1,kO_,t,2,calls,js_ c,V,1⟩)(hV:V.length=1)(hL:x.L=40)(hPP:x.P=50)(hu:x.used<=84*kk)(hcs:calls<=kk)(hs:s'.L=js_ n)(hsV:s'.V.length=1)(hsf:s'.fuel=fu)
    (hr:zmQ w K s x j ⟨1,1,kO_,t,2,calls,js_ c,V,1⟩ val s' e w') :
    ∃A m d,e=.returned (.tuple #[.agg #[.int .i64 val,.int .i64 0,.int .i64 (fu:Int),.slice A m d],.int .i64 0])/\qD_ w' K h t (kk+1) n/\Chg (h::K.W) w w':=by
 obtain⟨A,m,d,he,_,⟨h1,h2⟩|⟨_,ls,j',h1,h2,h3,h4,h5,h6,h7⟩⟩:=hr
 · have h1:js_ c=s'.L:=h1;rw[hs]at h1;refine⟨A,m,d,by rw[he,hsf],⟨s,x,j,V,calls,hj,by rw[<-h1];exact hH.keep h2,hV,hL,hPP,by omega,by omega⟩,h2.sub (fun _ h=>by cases h)⟩
 · have hl:ls.length<=1:=(by
    have h8:ls.length=(vT_ (js_ c) s'.L 2 V.length).length:=h1.1.len;have:=gV_ (js_ c) s'.L 2 V.length;omega);have h6:Ho w' K (k4_ s x ls) (zbL x ls) j' ⟨1,1,kO_,t,2,calls+1,s'.L,s'.V,1⟩:=h6;rw[hs]at h6;refine⟨A,m,d,by rw[he,hsf],⟨_,_,j',s'.V,calls+1,by rw[h5,hj],h6,hsV,hL,hPP,?_,by omega⟩,by rw[<-hj];exact h7⟩;show x.used+(18+66*ls.length)<=84*(kk+1);omega
section
variable {w:World} {K:SK} {h t kk:Nat} {c:Int}
theorem zoA (hA:qD_ w K h t kk c)(hk:kk<=10)(n:Int)(g:Nat)(hg:zb_ w g 20 [.iface 2 (.int .i64 n)]) :
    Calls Tryz.prog 9 #[.pointer (some ⟨h,0,none⟩),.int .i32 115,.int .i64 30,.slice none 0 0,.slice (some ⟨g,0,none⟩) 1 1] w (fun e w'=>∃A m d,e=.returned (.tuple #[.agg #[.int .i64 1,.int .i64 0,.int .i64 24,.slice A m d],.int .i64 0])/\qD_ w' K h t (kk+1) n/\Chg (h::K.W) w w'):=by
 obtain⟨s,x,j,V,calls,rfl,hH,hV,hL,hP,hu,hcs⟩:=hA;have hdo:eDo kO_ (([]:List (Option Int)).take 0) 1 0 30 [n] (js_ c) (zK_ V.length) []=some (1,0,⟨24,[],[],js_ n,[true],[]⟩):=by rw[hV];exact alo_s c n
 exact(zdE (fuel:=30) (nR:=0) (nA:=1) (vR:=[]) (rR:=[]) (vA:=[.iface 2 (.int .i64 n)]) (ns:=[n]) hH zbC rfl rfl rfl (by omega) rfl hdo hV.symm (by show calls<=1000000;omega) (by show(js_ n).length=64*V.length;rw[zjD,hV]) (by show 2+V.length<=x.P;omega) (by show x.used+18+66*V.length<=64*x.L;omega)
   jb_.nil (fun h=>absurd h (by simp)) (fun ad e=>by cases e) rfl (Nat.le_refl _) (jb_.cons (.i64 n) jb_.nil) (Src.of_all hg) (fun ad e=>by injection e with e;subst e;rfl) rfl (by omega)).mono fun e w' hr=>zeg (fu:=24) rfl hH hV hL hP hu hcs rfl rfl rfl hr
theorem zoB (hA:qD_ w K h t kk c)(hk:kk<=10)(hc:zmo c) :
    Calls Tryz.prog 9 #[.pointer (some ⟨h,0,none⟩),.int .i32 103,.int .i64 30,.slice none 0 0,.slice none 0 0] w (fun e w'=>∃A m d,e=.returned (.tuple #[.agg #[.int .i64 c,.int .i64 0,.int .i64 26,.slice A m d],.int .i64 0])/\qD_ w' K h t (kk+1) c/\Chg (h::K.W) w w'):=by
 obtain⟨s,x,j,V,calls,rfl,hH,hV,hL,hP,hu,hcs⟩:=hA;have hdo:eDo kO_ (([]:List (Option Int)).take 0) 1 1 30 [] (js_ c) (zK_ V.length) []=some (c,0,⟨26,[],[],js_ c,[false],[]⟩):=by rw[hV];exact alo_g c hc
 exact(zdE (fuel:=30) (nR:=0) (nA:=0) (vR:=[]) (rR:=[]) (vA:=[]) (ns:=[]) hH zbC rfl rfl rfl (by omega) rfl hdo hV.symm (by show calls<=1000000;omega) (by show(js_ c).length=64*V.length;rw[zjD,hV]) (by show 2+V.length<=x.P;omega) (by show x.used+18+66*V.length<=64*x.L;omega)
   jb_.nil (fun h=>absurd h (by simp)) (fun ad e=>by cases e) rfl (Nat.le_refl _) jb_.nil (fun h=>absurd h (by simp)) (fun ad e=>by cases e) rfl (by omega)).mono fun e w' hr=>zeg (fu:=26) rfl hH hV hL hP hu hcs rfl rfl rfl hr
end
section
variable {w:World}
theorem zam (a b:Int)(ha:zmo a)(hb:zmo b)(hP:vF_ w.heap.size w):Calls Tryz.prog 4 #[.int .i64 a,.int .i64 b] w (vz_ w):=by
 have HP:=hQ_ hP;have HAB:=hQ_ (And.intro ha hb);have HFIN:=hQ_ (show ∀W,Chg [] w W->vz_ w (.returned (.bool true)) W from fun W h=>⟨rfl,h⟩);have HAW:=hQ_ (fun (W:World)=>(show Calls Tryz.prog 13 #[] W (fun e w'=>e=.returned (.bool true)/\Chg [] W w') from zbx));generalize vz_ w=PO at HFIN⊢;clear hP ha hb;go_enter Tryz.func4,Tryz.ntmps4;go_upto_region 2 with fail;have HF1:=hQ_ (zb_.new w 44 (xM_ kO_));have HC0:=hQ_ ((Chg.refl [] w).alloc (.cells #[.int .i32 115,.int .i64 1,.string ⟨#[56,97,36,97,90,49]⟩,.int .i32 103,.int .i64 0,.string ⟨#[56,64,122,43]⟩] 44));have hsz:(w.alloc (.cells #[.int .i32 115,.int .i64 1,.string ⟨#[56,97,36,97,90,49]⟩,.int .i32 103,.int .i64 0,.string ⟨#[56,64,122,43]⟩] 44)).heap.size=w.heap.size+1:=Array.size_push _;rw[<-hsz];obtain⟨gf,hgf⟩:∃gf,gf=w.heap.size:=⟨_,rfl⟩;have HGF:=hQ_ hgf;rw[<-hgf]at HF1⊢;clear hgf hsz;simp only[kO_,xM_]at HF1;simp only[fnC,List.cons_append,List.nil_append,List.append_nil]at HF1;generalize w.alloc (.cells #[.int .i32 115,.int .i64 1,.string ⟨#[56,97,36,97,90,49]⟩,.int .i32 103,.int .i64 0,.string ⟨#[56,64,122,43]⟩] 44)=w0 at HF1 HC0⊢;have HN:=hQ_ (zb_.new w0 25 [.int .i64 1,.int .i64 1,.slice (some ⟨gf,0,none⟩) 2 2]);have HC1:=hQ_ (HC0.o.alloc (.cells #[.int .i64 1,.int .i64 1,.slice (some ⟨gf,0,none⟩) 2 2] 25));have HF2:=hQ_ (HF1.o.keep ((Chg.refl [] w0).alloc (.cells #[.int .i64 1,.int .i64 1,.slice (some ⟨gf,0,none⟩) 2 2] 25)));generalize w0.heap.size=gu at HN⊢;generalize w0.alloc (.cells #[.int .i64 1,.int .i64 1,.slice (some ⟨gf,0,none⟩) 2 2] 25)=w1 at HN HC1 HF2⊢;have u0:=HN.o.cell 0;have u1:=HN.o.cell 1;have u2:=HN.o.cell 2;have HKP:=hQ_ (show Calls Tryz.prog 8 #[.agg #[.int .i64 1,.int .i64 1,.slice (some ⟨gf,0,none⟩) 2 2],.int .i64 40] w1 (vA_ w1 1 1 kO_ 40) from
   zdB (L:=40) (l:=kO_) ⟨rfl,Src.of_all HF2.o,Nat.le_refl _,by omega,fun _ ad e=>by injection e with e;subst e;rfl,fun f hf=>zmk f hf⟩ (fun f hf=>zmi f hf) (fun _ ad e=>by injection e with e;subst e;exact HF2.o.lt) ⟨by omega,by omega⟩ (jW_ HP.o HC1.o) zoC);unfold vA_ zjP at HKP;rw[zjC,zmj]at HKP;go_upto_region 3 with(
  go_at_call 8;with_reducible refine HKP.o.mono ?_
  rintro e w2 ⟨p,h,rfl,bL,bS,bW,g,gN,j,s2,x2,hj,b1,b2,b3,b4,b5,b6,b7,hH,x1,x3,_,x4,_,hc⟩;have HB:=hQ_ (show ∀i∈h::SK.W ⟨p,bL,bS,bW,g,gN,[h]⟩,w1.heap.size<=i from fun i hi=>by
   simp only[SK.W,List.mem_cons,List.not_mem_nil,or_false]at hi;omega);have HIN:=hQ_ (show qD_ w2 ⟨p,bL,bS,bW,g,gN,[h]⟩ h (zH_ 1 1 kO_).1.length 0 0 from⟨s2,x2,j,zK_ 1,0,hj,by rw[zmh];exact hH,rfl,x1,x3,by omega,by omega⟩);have HC2:=hQ_ (HC1.o.trans hc);clear hj b1 b2 b3 b4 b5 b6 b7 hH x1 x3 x4 hc);clear u0 u1 u2;generalize (zH_ 1 1 kO_).1.length=t at HIN;have HB2:=hQ_ (show ∀i∈h::SK.W ⟨p,bL,bS,bW,g,gN,[h]⟩,w.heap.size<=i/\i<w2.heap.size from fun i hi=>by
  have h1:=HB.o i hi;have h2:=HC1.o.size;obtain⟨s,x,j,V,calls,hj,hH,_⟩:=HIN.o;have h3:=zik hj hH i hi;omega);generalize (⟨p,bL,bS,bW,g,gN,[h]⟩:SK)=K at HIN HB HB2;go_wp2_with fail;have HRW:=hQ_ (zb_.new w2 2 [.int .i64 a,.int .i64 b,.int .i64 a]);have HC3:=hQ_ (HC2.o.alloc (.cells #[.int .i64 a,.int .i64 b,.int .i64 a] 2));have HI3:=hQ_ (HIN.o.keep ((Chg.refl [] w2).alloc (.cells #[.int .i64 a,.int .i64 b,.int .i64 a] 2)));obtain⟨gr,hgr⟩:∃gr,gr=w2.heap.size:=⟨_,rfl⟩;have HT:=hQ_ (show gr∉h::K.W from fun hm=>by
  have:=(HB2.o _ hm).2;omega);have HTW:=hQ_ (show ∀i∈h::K.W,w.heap.size<=i from fun i hi=>(HB2.o i hi).1);rw[<-hgr]at HRW⊢;clear hgr;generalize w2.alloc (.cells #[.int .i64 a,.int .i64 b,.int .i64 a] 2)=w3 at HRW HC3 HI3⊢;go_loopw [30] (fun i wr=>∃k:Nat,i=.int .i64 (k:Int)/\k<=3/\Hid (∃c,zmo c/\qD_ wr K h t (2*k) c)/\Hid (zb_ wr gr 2 [.int .i64 a,.int .i64 b,.int .i64 a])/\Hid (Chg [] w wr)) (fun i _=>3-(RowKit.intOf i).toNat);case atStart=>exact⟨0,rfl,by omega,hQ_ ⟨0,by unfold zmo;omega,HI3.o⟩,HRW,HC3⟩
 case round =>
  obtain⟨k,rfl,hk,HI,HR,HCr⟩:=hrel;by_cases hlt:k<3;rotate_left
  · have hkI:¬(k:Int)<3:=(by omega);clear hlt hk;go_wp2_with fail;refine(HAW.o wr).mono ?_;rintro e wk ⟨rfl,hck⟩;have HCk:=hQ_ (HCr.o.new hck);clear hck;go_wp2_with fail;exact HFIN.o _ HCk.o
  have hkI:(k:Int)<3:=by omega
  have hk0:(0:Int)<=(k:Int):=by omega
  have hwk:IntKind.i64.wrap ((k:Int)+1)=(k:Int)+1:=IntWalk.i64_in _ (by omega);obtain⟨n,hn,hn64⟩:∃n,([.int .i64 a,.int .i64 b,.int .i64 a]:List Value)[k]?=some (.int .i64 n)/\zmo n:=by
   rcases k with _|_|_|k
   · exact⟨a,rfl,HAB.o.1⟩
   · exact⟨b,rfl,HAB.o.2⟩
   · exact⟨a,rfl,HAB.o.1⟩
   · omega
  have HN64:=hQ_ hn64;have r0:wr.cell? ⟨gr,k,none⟩=some (.int .i64 n):=(HR.o.cell k).trans hn;obtain⟨c,hc,hA⟩:=HI.o;have HA:=hQ_ hA;have HKK:=hQ_ (show k<=2 from by omega);clear hn hn64 hlt hc hA;go_wp2_with fail;have hal:=(Chg.refl [] wr).alloc (.cells #[.iface 2 (.int .i64 n)] 20);have HA4:=hQ_ (HA.o.keep hal);have HR4:=hQ_ (HR.o.keep hal);have HC4:=hQ_ (HCr.o.new hal);have HG4:=hQ_ (zb_.new wr 20 [.iface 2 (.int .i64 n)]);generalize wr.heap.size=g4 at HG4⊢;generalize wr.alloc (.cells #[.iface 2 (.int .i64 n)] 20)=w4 at HA4 HR4 HC4 HG4⊢;clear hal r0;refine(zoA HA4.o (by have:=HKK.o;omega) n g4 HG4.o).mono ?_;rintro e w5 ⟨A5,m5,d5,rfl,hA5,hc5⟩;have HA5:=hQ_ hA5;have HR5:=hQ_ (HR4.o.chg hc5 HT.o);have HC5:=hQ_ (uH_ HC4.o hc5 HTW.o);clear hA5 hc5;go_upto_region 9 with fail;have HA6:=hQ_ (HA5.o.keep ((Chg.refl [] w5).alloc (.cells #[.int .i64 1,.int .i64 0,.int .i64 24,.slice A5 m5 d5] 32)));have HR6:=hQ_ (HR5.o.keep ((Chg.refl [] w5).alloc (.cells #[.int .i64 1,.int .i64 0,.int .i64 24,.slice A5 m5 d5] 32)));have HC6:=hQ_ (HC5.o.new ((Chg.refl [] w5).alloc (.cells #[.int .i64 1,.int .i64 0,.int .i64 24,.slice A5 m5 d5] 32)));have HX6:=hQ_ (zb_.new w5 32 [.int .i64 1,.int .i64 0,.int .i64 24,.slice A5 m5 d5]);have HX5:=hQ_ (show w5.heap.size∉h::K.W from fun hm=>by
   obtain⟨s,x,j,V,calls,hj,hH,_⟩:=HA5.o;have h1:=(HB2.o _ hm).2;have h2:=HR5.o.lt;have h3:=zik hj hH _ hm;omega);generalize w5.heap.size=g6 at HX6 HX5⊢;generalize w5.alloc (.cells #[.int .i64 1,.int .i64 0,.int .i64 24,.slice A5 m5 d5] 32)=w6 at HA6 HR6 HC6 HX6⊢;go_wp2_with fail;refine(zoB HA6.o (by have:=HKK.o;omega) HN64.o).mono ?_;rintro e w7 ⟨A7,m7,d7,rfl,hA7,hc7⟩;have HA7:=hQ_ hA7;have HR7:=hQ_ (HR6.o.chg hc7 HT.o);have HC7:=hQ_ (uH_ HC6.o hc7 HTW.o);have HX7:=hQ_ (HX6.o.chg hc7 HX5.o);clear hA7 hc7;go_upto_region 10 with fail;have hal:=(Chg.refl [] w7).alloc (.cells #[.int .i64 n,.int .i64 0,.int .i64 26,.slice A7 m7 d7] 32);have HA8:=hQ_ (HA7.o.keep hal);have HR8:=hQ_ (HR7.o.keep hal);have HC8:=hQ_ (HC7.o.new hal);have x0:=(HX7.o.keep hal).cell 0;have y0:=(zb_.new w7 32 [.int .i64 n,.int .i64 0,.int .i64 26,.slice A7 m7 d7]).cell 0;generalize w7.heap.size=g8 at y0⊢;generalize w7.alloc (.cells #[.int .i64 n,.int .i64 0,.int .i64 26,.slice A7 m7 d7] 32)=w8 at HA8 HR8 HC8 x0 y0⊢;clear hal;go_wp2_with fail;go_roundw;case rel=>exact⟨k+1,by go_num,by have:=HKK.o;omega,hQ_ ⟨n,HN64.o,by rw[show 2*(k+1)=2*k+1+1 by omega];exact HA8.o⟩,HR8,HC8⟩
  case measure=>simp[RowKit.intOf];omega
end
end
end Go.Proofs.YtcbcfcdmdedefaaGreatDoor
