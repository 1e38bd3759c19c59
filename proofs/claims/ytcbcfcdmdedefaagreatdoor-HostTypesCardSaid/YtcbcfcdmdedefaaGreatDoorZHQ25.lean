import Derived.Test.YtcbcfcdmdedefaaGreatDoorZHQ24
set_option maxRecDepth 100000
set_option maxHeartbeats 16000000
namespace Go.Proofs.YtcbcfcdmdedefaaGreatDoor
section
open Go.RowKit
section
variable {w W:World} {p gC gD rp mm n c kk fuel m2 c2:Nat} {L:List UInt8} {V:List Bool} {X Y:List Value} {rs:List (Option Int)} {av:Value} {A A2:Option Addr} {l:List FnV} {pages most name val trap:Int} {args:List Int} {f:FnV} {s':EgV}
def zmJ (w W:World)(p gC gD rp mm:Nat)(val trap:Int)(s':EgV)(e:Ending)(w':World):Prop :=
 ∃ A' m' c',e=.returned (.tuple #[.agg #[.int .i64 val,.int .i64 trap,.int .i64 (s'.fuel:Int),.slice A' m' c'],.int .i64 0])/\QSl w' (.slice A' m' c') s'.qs /\
   (∃gC' gD' X' Y',Mm w' p gC' gD' s'.L X' s'.V Y' mm/\w.heap.size<=gC'/\w.heap.size<=gD')/\Chg [p,gC,gD,rp] W w'/\Chg [] w w'
theorem znl (hW:Chg [] w W)(hM:Mm W p gC gD L X V Y mm)(hn:w.heap.size<=p/\w.heap.size<=gC/\w.heap.size<=gD)(hR:Rq W rp rs [] av (.slice none 0 0))(hrp:w.heap.size<=rp)(hF:Fnr w A n c l)(hU:RightU pages most l)
    (hk:yQ_ l name=(kk:Int)) (hf:l[kk]?=some f) (hfa:f.args=(args.length:Int)) (hfu:fuel<=1048576) (hm2:m2=args.length) (hS:Src W A2 (nms args))
    (hdo:eDo l rs mm kk fuel args L V []=some (val,trap,s')) :
    Calls Tryz.prog 25 #[yC_ pages most A n c,.pointer (some ⟨p,0,none⟩),.pointer (some ⟨rp,0,none⟩),.int .i32 name,.int .i64 (fuel:Int),.slice A2 m2 c2] W (zmJ w W p gC gD rp mm val trap s'):=by
 have hA:∀ad,A=some ad->ad.block<w.heap.size:=fun ad e=>by
  obtain⟨ad',e',hb,_⟩:=hF.src (by
   have h1:=(List.getElem?_eq_some_iff.1 hf).1;rw[y6_];omega);rw[e]at e';injection e' with e';subst e';exact hb
 have hlt:=hW.size;refine(zfM (T:=[p,gC,gD,rp]) (c2:=c2) hM hR (hF.keep hW) hU (by simp) (by simp) (by simp) (by simp) (fun i hi=>by simp[Value.ownBlock]at hi) (fun ad e=>⟨Nat.lt_of_lt_of_le (hA ad e) hlt,fun hm=>by
  have:=hA ad e;simp only[List.mem_cons,List.not_mem_nil,or_false]at hm;omega⟩) hk hf hfa hfu (by simp) hm2 hS hdo).mono ?_;rintro e w' ⟨v,rfl,⟨A',c',rfl,hq⟩,⟨gC',gD',X',Y',hM',h1,h2⟩,_,hc⟩;have hnew:∀i∈[p,gC,gD,rp],w.heap.size<=i:=fun i hi=>by
  simp only[List.mem_cons,List.not_mem_nil,or_false]at hi;omega
 refine⟨A',_,c',rfl,⟨A',c',rfl,hq⟩,⟨gC',gD',X',Y',hM',?_,?_⟩,hc,hW.then_ hc fun i hi hl=>by have:=hnew i hi;omega⟩
 · rcases h1 with h|h
   · omega
   · exact hnew _ h
 · rcases h2 with h|h
   · omega
   · exact hnew _ h
end
end
section
open Go.RowKit
abbrev zmk (W:World)(g:Nat)(u0 u1 u2 u3:Value):World:=(((W.setCell ⟨g,0,none⟩ u0).setCell ⟨g,1,none⟩ u1).setCell ⟨g,2,none⟩ u2).setCell ⟨g,3,none⟩ u3
theorem x1_ {W:World}{g t:Nat}{a b c d u0 u1 u2 u3:Value}(h:zb_ W g t [a,b,c,d]):zb_ (zmk W g u0 u1 u2 u3) g t [u0,u1,u2,u3]:=by
 have hS:=(((h.set_ 0 u0).set_ 1 u1).set_ 2 u2).set_ 3 u3;simp only[List.set_cons_succ,List.set_cons_zero]at hS;exact hS
theorem v5_ (W:World)(g:Nat)(u0 u1 u2 u3:Value):Chg [g] W (zmk W g u0 u1 u2 u3) :=
 ((((Chg.refl [g] W).setCell (p:=⟨g,0,none⟩) (fun _=>by simp) _).setCell (p:=⟨g,1,none⟩) (fun _=>by simp) _).setCell (p:=⟨g,2,none⟩) (fun _=>by simp) _).setCell (p:=⟨g,3,none⟩) (fun _=>by simp) _
theorem jj_ {W W':World}{v:Value}{qs:List (Int×Int)}{g:Nat}{cs:List Value}(h:QSl W v qs)(hg:zb_ W g 32 cs)(hc:Chg [g] W W'):QSl W' v qs:=by
 obtain⟨A,c,e,h1,h2,h3,h4⟩:=h;have hne:0<qs.length->∀ad,A=some ad->ad.block∉[g]:=fun h0 ad e hm=>by
  simp only[List.mem_cons,List.not_mem_nil,or_false]at hm;obtain⟨cs',fz,hb⟩:=h4 h0 ad e;rw[hm]at hb;unfold zb_ at hg;rw[hg]at hb;injection hb with hb;injection hb with _ hb _;exact absurd hb (by decide)
 refine⟨A,c,e,h1,h2.chg hc (fun h0=>hne (by rw[uC_]at h0;omega)),h3,fun h0 ad e=>?_⟩;obtain⟨cs',fz,hb⟩:=h4 h0 ad e;refine⟨cs',fz,?_⟩;have hlt:ad.block<W.heap.size:=by
  obtain⟨ad',e',hb',_⟩:=h2 (by rw[uC_];omega);rw[e]at e';injection e' with e';subst e';exact hb'
 rw[hc.block _ hlt (hne h0 ad e)];exact hb
theorem znG {W W':World}{v:Value}{qs:List (Int×Int)}{T:List Nat}(h:QSl W v qs)(hT:∀i∈T,∃t cs,zb_ W i t cs/\t≠267)(hc:Chg T W W'):QSl W' v qs:=by
 obtain⟨A,c,e,h1,h2,h3,h4⟩:=h;have hne:0<qs.length->∀ad,A=some ad->ad.block∉T:=fun h0 ad e hm=>by
  obtain⟨cs',fz,hb⟩:=h4 h0 ad e;obtain⟨t,cs,hW,hn⟩:=hT _ hm;unfold zb_ at hW;rw[hW]at hb;injection hb with hb;injection hb with _ hb _;exact hn hb
 refine⟨A,c,e,h1,h2.chg hc (fun h0=>hne (by rw[uC_]at h0;omega)),h3,fun h0 ad e=>?_⟩;obtain⟨cs',fz,hb⟩:=h4 h0 ad e;refine⟨cs',fz,?_⟩;have hlt:ad.block<W.heap.size:=by
  obtain⟨ad',e',hb',_⟩:=h2 (by rw[uC_];omega);rw[e]at e';injection e' with e';subst e';exact hb'
 rw[hc.block _ hlt (hne h0 ad e)];exact hb
theorem gL_ {w:World}{k:SK}{s:St}{x:SV}{j:HK}{y:HV}(h:Ho w k s x j y):∀i∈j.h::k.W,∃t cs,zb_ w i t cs/\t≠267:=by
 obtain⟨vP,hs⟩:=h.sto;intro i hi;simp only[SK.W,List.mem_cons,List.not_mem_nil,or_false]at hi;rcases hi with rfl|rfl|rfl|rfl|rfl|rfl
 · exact⟨_,_,h.rec_,by decide⟩
 · exact⟨_,_,hs.dsk.last,by decide⟩
 · exact⟨_,_,hs.dsk.seen,by decide⟩
 · exact⟨_,_,hs.dsk.wait,by decide⟩
 · exact⟨_,_,hs.rec_,by decide⟩
 · exact⟨_,_,hs.nm,by decide⟩
section
variable {w:World} {k:SK} {s:St} {x:SV} {j:HK} {y:HV} {AR AA:Option Addr} {nR cR nA cA fuel:Nat} {vR vA:List Value} {rR:List (Option Int)} {ns:List Int} {name:Int}
def qt_ (w:World) (k:SK) (s:St) (x:SV) (j:HK) (y:HV) (val trap:Int) (s':EgV) (e:Ending) (w':World):Prop :=
 (∃ A m c,e=.returned (.tuple #[.agg #[.int .i64 val,.int .i64 trap,.int .i64 (s'.fuel:Int),.slice A m c],.int .i64 0])/\QSl w' (.slice A m c) s'.qs /\
   ((trap≠0/\Chg [] w w') \/
    (trap=0/\vl_ y.L s'.L y.f s'.V.length=[]/\Chg [] w w') \/
    (trap=0/\∃ls j',zjO ls (vl_ y.L s'.L y.f s'.V.length)/\ls≠[]/\zF_ x.P ls=true/\yI_ x.L x.used ls.length=true/\j'.h=j.h/\Ho w' k (k6_ s x ls) (zbS x ls) j' (zqn y s'.L s'.V)/\Chg (j.h::k.W) w w'))) \/
 (∃ls r,trap=0/\zjO ls (vl_ y.L s'.L y.f s'.V.length)/\ls≠[]/\(zF_ x.P ls=false\/yI_ x.L x.used ls.length=false)/\(r=1\/r=24)/\e=.returned (.tuple #[.agg #[.int .i64 0,.int .i64 0,.int .i64 0,.slice none 0 0],.int .i64 r])/\Chg [] w w')
theorem zkx {val:Int} {s':EgV} {w6 w7:World} {gr q2 gC gD m c:Nat} {A:Option Addr} {r0 r1 r2 r3:Value} {e:Ending} (h:Ho w k s x j y) (hgr:gr=w.heap.size) (hC6:Chg [] w w6) (hR6:zb_ w6 gr 32 [r0,r1,r2,r3])
    (hQ:QSl w6 (.slice A m c) s'.qs) (hcom:up_ w6 (k.more gr) s x j y q2 gC gD s'.L s'.V e w7) :
    ∃ r:Int,e=.returned (.int .i64 r)/\Chg (j.h::k.W) w6 w7/\((r=0/\qt_ w k s x j y val 0 s' (.returned (.tuple #[.agg #[.int .i64 val,.int .i64 0,.int .i64 (s'.fuel:Int),.slice A m c],.int .i64 0])) (zmk w7 gr (.int .i64 val) (.int .i64 0) (.int .i64 (s'.fuel:Int)) (.slice A m c))) \/
      ((r=1\/r=24)/\qt_ w k s x j y val 0 s' (.returned (.tuple #[.agg #[.int .i64 0,.int .i64 0,.int .i64 0,.slice none 0 0],.int .i64 r])) (zmk w7 gr (.int .i64 0) (.int .i64 0) (.int .i64 0) (.slice none 0 0)))):=by
         have hnil:∀{T:List Nat},Chg [] w6 w7->Chg T w6 w7:=fun h=>h.sub (fun _ h=>by cases h);have hins:∀(u0 u1 u2 u3:Value){T:List Nat},Chg T w w7->(∀i∈T,i<w.heap.size)->Chg T w (zmk w7 gr u0 u1 u2 u3):=fun u0 u1 u2 u3 T hc _ =>
          hc.then_ (v5_ w7 gr u0 u1 u2 u3) (fun i hi hl=>by rw[List.mem_singleton.1 hi,hgr]at hl;omega);obtain⟨vP,hs⟩:=h.sto;have hjlt:j.h<w.heap.size:=h.rec_.lt;have hlts:=hs.lts;have hW:∀i∈j.h::k.W,i<w.heap.size:=fun i hi=>by
          rcases List.mem_cons.1 hi with rfl|hi
          · exact hjlt
          · refine hlts i ?_;simp only[SK.W,SK.D,List.mem_cons,List.not_mem_nil,or_false]at hi⊢;rcases hi with h|h|h|h|h<;>simp[h]
         have hgT:gr∉j.h::k.W:=fun hm=>(by have:=hW _ hm;omega);have hQ7:Chg (j.h::k.W) w6 w7->∀u0 u1 u2 u3,QSl (zmk w7 gr u0 u1 u2 u3) (.slice A m c) s'.qs:=fun hc u0 u1 u2 u3 =>
          jj_ (znG hQ (gL_ (h.keep hC6)) hc) (hR6.chg hc hgT) (v5_ w7 gr u0 u1 u2 u3);obtain⟨ls,hc2,⟨h0,rfl,hc⟩|⟨h0,hb,he,hc⟩|⟨h0,hr,hf,rfl,hH,hc⟩⟩:=hcom
         · refine⟨0,rfl,hnil hc,.inl ⟨rfl,.inl ⟨A,m,c,rfl,hQ7 (hnil hc) _ _ _ _,.inr (.inl ⟨rfl,?_,hins _ _ _ _ (hC6.trans hc) (fun _ h=>by cases h)⟩)⟩⟩⟩;exact List.eq_nil_of_length_eq_zero (by rw[<-hc2.1.len,h0];rfl)
         · rcases he with rfl|rfl
           · exact⟨1,rfl,hnil hc,.inr ⟨.inl rfl,.inr ⟨ls,1,rfl,hc2,h0,hb,.inl rfl,rfl,hins _ _ _ _ (hC6.trans hc) (fun _ h=>by cases h)⟩⟩⟩
           · exact⟨24,rfl,hnil hc,.inr ⟨.inr rfl,.inr ⟨ls,24,rfl,hc2,h0,hb,.inr rfl,rfl,hins _ _ _ _ (hC6.trans hc) (fun _ h=>by cases h)⟩⟩⟩
         · refine⟨0,rfl,hc,.inl ⟨rfl,.inl ⟨A,m,c,rfl,hQ7 hc _ _ _ _,.inr (.inr ⟨rfl,ls,comJ j q2 gC gD,hc2,h0,hr,hf,rfl,?_,hins _ _ _ _ ((hC6.sub (fun _ h=>by cases h)).trans hc) hW⟩)⟩⟩⟩;exact hH.past (v5_ w7 gr _ _ _ _) (by show j.h≠gr;omega) (fun i hi=>by
            have:=hlts i (by simp only[List.mem_cons,List.not_mem_nil,or_false]at hi;simp only[SK.D,List.mem_cons];rcases hi with h|h|h|h|h|h<;>simp[h]);omega)
theorem zbi {kk:Nat} {f:FnV} {val trap:Int} {s':EgV} {mR:Nat} (h:Ho w k s x j y) (hU:RightU y.pg y.ms y.fs) (hk:yQ_ y.fs name=(kk:Int)) (hf:y.fs[kk]?=some f) (hfa:f.args=(ns.length:Int)) (hfu:fuel<=1048576)
    (hmq:(mR:Int)=min (nR:Int) 64) (hdo:eDo y.fs (rR.take mR) y.most kk fuel ns y.L (zH_ y.V.length) []=some (val,trap,s')) (hgr:s'.V.length=y.V.length) (hcs:y.calls<=1000000)
    (hNR:xo_ vR rR) (hsR:Src w AR vR) (hAR:∀ad,AR=some ad->ad.spot=none) (hnR:vR.length=nR) (hcR:nR<=cR)
    (hNA:xo_ vA (ns.map some)) (hsA:Src w AA vA) (hAA:∀ad,AA=some ad->ad.spot=none) (hnA:vA.length=nA) (hmA:nA<=1000000) :
    Calls Tryz.prog 9 #[.pointer (some ⟨j.h,0,none⟩),.int .i32 name,.int .i64 (fuel:Int),.slice AR nR cR,.slice AA nA cA] w (qt_ w k s x j y val trap s'):=by
 have HH:=hQ_ h;have HF1:=hQ_ (show ∀(A:Option Addr) (m c:Nat) (W:World),QSl W (.slice A m c) s'.qs->trap≠0->Chg [] w W->qt_ w k s x j y val trap s' (.returned (.tuple #[.agg #[.int .i64 val,.int .i64 trap,.int .i64 (s'.fuel:Int),.slice A m c],.int .i64 0])) W from fun A m c W h1 h2 h3=>.inl ⟨A,m,c,rfl,h1,.inl ⟨h2,h3⟩⟩);have HF2:=hQ_ (show trap=0->∀(gr q2 gC gD m c:Nat) (A:Option Addr) (r0 r1 r2 r3:Value) (w1 w6:World) (X' Y':List Value),gr=w.heap.size->Chg [] w w1->gr<w1.heap.size->Chg [] w1 w6->zb_ w6 gr 32 [r0,r1,r2,r3]->QSl w6 (.slice A m c) s'.qs->Mm w6 q2 gC gD s'.L X' s'.V Y' y.most->w1.heap.size<=q2/\w1.heap.size<=gC/\w1.heap.size<=gD ->
     Calls Tryz.prog 27 #[.pointer (some ⟨j.h,0,none⟩),.pointer (some ⟨q2,0,none⟩)] w6 (fun e w7=>∃r:Int,e=.returned (.int .i64 r)/\Chg (j.h::k.W) w6 w7/\((r=0/\qt_ w k s x j y val trap s' (.returned (.tuple #[.agg #[.int .i64 val,.int .i64 0,.int .i64 (s'.fuel:Int),.slice A m c],.int .i64 0])) (zmk w7 gr (.int .i64 val) (.int .i64 0) (.int .i64 (s'.fuel:Int)) (.slice A m c))) \/
     ((r=1\/r=24)/\qt_ w k s x j y val trap s' (.returned (.tuple #[.agg #[.int .i64 0,.int .i64 0,.int .i64 0,.slice none 0 0],.int .i64 r])) (zmk w7 gr (.int .i64 0) (.int .i64 0) (.int .i64 0) (.slice none 0 0))))) from fun ht gr q2 gC gD m c A r0 r1 r2 r3 w1 w6 X' Y' hg hc1 hg1 hc6 hR hQ hM hq=>by
        subst ht;obtain⟨vP,hs⟩:=h.sto;have hD:∀{i:Nat},w1.heap.size<=i->i∉(k.more gr).D:=fun hi hm=>by
         rcases SK.more_in.1 hm with h|h
         · omega
         · have h1:=hs.lts _ h;have h2:=hc1.size;omega
        exact(zcy ((h.more hc1 (by omega) hg1).keep hc6) hM hgr ⟨hD hq.1,hD hq.2.1,hD hq.2.2⟩ hcs).mono fun e w7 hcom=>zkx h hg (hc1.trans hc6) hR hQ hcom);generalize qt_ w k s x j y val trap s'=PO at HF1 HF2⊢;have HAL:=hQ_ (fun (W:World)(hc:Chg [] w W)=>zjB (c:=cA) hNA (hsA.keep hc) hAA hnA hmA);unfold zjK at HAL;have HRN:=hQ_ (fun (W:World)(hc:Chg [] w W)=>zdj (c:=cR) hNR (hsR.keep hc) hAR hnR hcR mR hmq);unfold zoQ at HRN;have HCP:=hQ_ (fun (W:World)(hc:Chg [] w W)=>(show Calls Tryz.prog 24 #[.pointer (some ⟨j.pm,0,none⟩)] W (xW_ W y.L y.V.length y.most) from by
  obtain⟨X,Y,hM⟩:=(h.keep hc).mm;exact zaU hM));unfold xW_ at HCP;have HRU:=hQ_ (fun (wb W:World)(p gC gD rp:Nat)(av:Value)(A2:Option Addr)(c2:Nat)(hb:Chg [] w wb)(hW:Chg [] wb W)(hM:Mm W p gC gD y.L [] (zH_ y.V.length) [] y.most)(hn:wb.heap.size<=p/\wb.heap.size<=gC/\wb.heap.size<=gD)(hR:Rq W rp (rR.take mR) [] av (.slice none 0 0))(hrp:wb.heap.size<=rp)(hS:Src W A2 (nms ns)) =>
  znl (c2:=c2) (fuel:=fuel) (m2:=ns.length) hW hM hn hR hrp (h.fn.keep hb) hU hk hf hfa hfu rfl hS hdo);unfold zmJ yC_ at HRU;clear h hU hk hf hfa hfu hNR hsR hAR hnR hcR hNA hsA hAA hnA hmA hmq hdo;go_enter Tryz.func9,Tryz.ntmps9;go_upto_region 1 with fail;have hal:=(Chg.refl [] w).alloc (.cells #[.int .i64 0,.int .i64 0,.int .i64 0,.slice none 0 0] 32);have HR1:=hQ_ (zb_.new w 32 [.int .i64 0,.int .i64 0,.int .i64 0,.slice none 0 0]);have HC1:=hQ_ hal;clear hal;obtain⟨gr,hgr⟩:∃gr,gr=w.heap.size:=⟨_,rfl⟩;have HGR:=hQ_ hgr;rw[<-hgr]at HR1⊢;clear hgr;generalize w.alloc (.cells #[.int .i64 0,.int .i64 0,.int .i64 0,.slice none 0 0] 32)=w1 at HR1 HC1⊢;go_upto_region 4 with(
  go_at_call 23;with_reducible refine(HAL.o w1 HC1.o).mono ?_
  rintro e w2 ⟨v,rfl,ho,hc⟩;obtain⟨A2,c2,rfl,_,_,hs2,_⟩:=zr_ ho;have HSA:=hQ_ hs2;have HS12:=hQ_ hc;have HC2:=hQ_ (HC1.o.trans hc);have HR2:=hQ_ (HR1.o.keep hc);clear ho hc hs2);obtain⟨_,_,_,_,c4,_⟩:=(HH.o.keep HC2.o).cells;go_upto_region 5 with(
  go_at_call 24;with_reducible refine(HCP.o w2 HC2.o).mono ?_
  rintro e w3 ⟨q2,gC2,gD2,rfl,hM3,hq1,hq2,hq3,hc⟩;have HM3:=hQ_ hM3;have HN3:=hQ_ (show w.heap.size<=q2/\w.heap.size<=gC2/\w.heap.size<=gD2 from by have:=HC2.o.size;omega);have HSA3:=hQ_ (HSA.o.keep hc);have HQN:=hQ_ (show w1.heap.size<=q2/\w1.heap.size<=gC2/\w1.heap.size<=gD2 from by have:=HS12.o.size;omega);have HC31:=hQ_ (HS12.o.trans hc);have HC3:=hQ_ (HC2.o.trans hc);have HR3:=hQ_ (HR2.o.keep hc);clear hc hM3 hq1 hq2 hq3);clear c4;generalize (s'.fuel:Int)=fu at HRU HF1 HF2;go_cut [15,16] (fun v15 v16 wx=>∃g15 A' m' c',v15=.pointer (some ⟨g15,0,none⟩)/\v16=.int .i64 0/\Hid (zb_ wx g15 32 [.int .i64 val,.int .i64 trap,.int .i64 fu,.slice A' m' c'])/\Hid (QSl wx (.slice A' m' c') s'.qs) /\
   Hid (∃gC' gD' X' Y',Mm wx q2 gC' gD' s'.L X' s'.V Y' y.most/\w1.heap.size<=gC'/\w1.heap.size<=gD')/\Hid (w3.heap.size<=g15)/\Hid (Chg [q2,gC2,gD2] w3 wx));case first =>
  have HLD:=hQ_ (fun (W:World) (hc:Chg [] w3 W)=>(HH.o.keep (HC3.o.trans hc)).cells);obtain⟨_,d1,d2,d3,_⟩:=HLD.o w3.drew (Chg.refl [] w3).drew;obtain⟨_,b1,b2,b3,_⟩:=HLD.o (w3.alloc (.cells #[.int .i64 0,.int .i64 0,.int .i64 0,.slice none 0 0] 32)).drew ((Chg.refl [] w3).alloc _).drew;have hl3:j.h<w3.drew.heap.size:=(HH.o.keep HC3.o).rec_.lt;have hw3:w1.heap.size<=w3.heap.size:=HC31.o.size;have HLT:=hQ_ (show q2<w3.heap.size/\gC2<w3.heap.size/\gD2<w3.heap.size from⟨HM3.o.rec_.lt,HM3.o.cel.lt,HM3.o.dir.lt⟩);have HSZ:=hQ_ (show(w3.alloc (.cells #[.int .i64 0,.int .i64 0,.int .i64 0,.slice none 0 0] 32)).drew.heap.size=w3.heap.size+1 from Array.size_push _);go_region_with (first
   | (go_at_call 26;(with_reducible refine(HRN.o _ (HC3.o.trans (by repeat (first|exact Chg.refl _ _|refine Chg.drew ?_|refine Chg.alloc ?_ _)))).mono ?_);rintro e w4 ⟨rp,av,rfl,hR,hrp,hc4⟩;have hA4:Chg [] w3 w4:=Chg.trans (by repeat (first|exact Chg.refl _ _|refine Chg.drew ?_|refine Chg.alloc ?_ _)) hc4;have hrp3:w3.heap.size<=rp:=Nat.le_trans (Chg.size (T:=[]) (by repeat (first|exact Chg.refl _ _|refine Chg.drew ?_|refine Chg.alloc ?_ _))) hrp;obtain⟨_,e1,e2,e3,_⟩:=HLD.o w4 hA4;obtain⟨_,p1,p2,p3,_⟩:=HLD.o (w4.alloc (.cells #[.int .i64 0,.int .i64 0,.int .i64 0,.slice none 0 0] 32)) (hA4.alloc _);have hl4:j.h<w4.heap.size:=(HH.o.keep (HC3.o.trans hA4)).rec_.lt;have hrl:rp<w4.heap.size:=hR.rec_.lt;try (
       have q4:=(zb_.new w3 32 [.int .i64 0,.int .i64 0,.int .i64 0,.slice none 0 0]).drew.keep hc4;have hrq:w3.heap.size<rp:=by have h1:=HSZ.o;have h2:(w3.alloc (.cells #[.int .i64 0,.int .i64 0,.int .i64 0,.slice none 0 0] 32)).drew.heap.size<=rp:=hrp;omega))
   | (go_at_call 25;(with_reducible refine(HRU.o w1 _ q2 gC2 gD2 rp av A2 c2 HC1.o (HC31.o.trans (hA4.trans (by repeat (first|exact Chg.refl _ _|refine Chg.drew ?_|refine Chg.alloc ?_ _)))) (HM3.o.keep (hA4.trans (by repeat (first|exact Chg.refl _ _|refine Chg.drew ?_|refine Chg.alloc ?_ _)))) HQN.o (hR.keep (by repeat (first|exact Chg.refl _ _|refine Chg.drew ?_|refine Chg.alloc ?_ _))) (Nat.le_trans hw3 hrp3) (HSA3.o.keep (hA4.trans (by repeat (first|exact Chg.refl _ _|refine Chg.drew ?_|refine Chg.alloc ?_ _))))).mono ?_);rintro e w5 ⟨A',m',c',rfl,hq5,⟨gC5,gD5,X5,Y5,hM5,hg5,hg6⟩,hcT,hc5⟩;have hT5:Chg [q2,gC2,gD2] w3 w5:=(hA4.sub (fun _ h=>by cases h)).then_ (Chg.then_ (T':=[q2,gC2,gD2,rp]) (by repeat (first|exact Chg.refl _ _|refine Chg.drew ?_|refine Chg.alloc ?_ _)) hcT (fun i hi _=>hi)) (fun i hi hlt=>by simp only[List.mem_cons,List.not_mem_nil,or_false]at hi⊢;omega);try (
       have q5:=(zb_.new w4 32 [.int .i64 0,.int .i64 0,.int .i64 0,.slice none 0 0]).chg hcT (by
        have h1:=HLT.o;have h2:=hA4.size;simp only[List.mem_cons,List.not_mem_nil,or_false];omega);have z0:=q5.cell 0;have z1:=q5.cell 1;have z2:=q5.cell 2;have z3:=q5.cell 3;have y0:=q5.frozen 0;have y1:=q5.frozen 1;have y2:=q5.frozen 2;have y3:=q5.frozen 3)
      try (
       have q5:=q4.chg hcT (by
        have h1:=HLT.o;simp only[List.mem_cons,List.not_mem_nil,or_false];omega);have z0:=q5.cell 0;have z1:=q5.cell 1;have z2:=q5.cell 2;have z3:=q5.cell 3;have y0:=q5.frozen 0;have y1:=q5.frozen 1;have y2:=q5.frozen 2;have y3:=q5.frozen 3)));all_goals
    have hs4:=hA4.size;go_wp2_with fail;go_meet;first
      | exact⟨_,A',m',c',rfl,rfl,hQ_ (zb_.new w5 _ _),hQ_ (hq5.keep ((Chg.refl [] w5).alloc _)),hQ_ ⟨gC5,gD5,X5,Y5,hM5.keep ((Chg.refl [] w5).alloc _),hg5,hg6⟩,hQ_ hT5.size,hQ_ (hT5.alloc _)⟩
      | (have hg15:w3.heap.size<=w4.heap.size:=hs4;have hcs:=v5_ w5 w4.heap.size (.int .i64 val) (.int .i64 trap) (.int .i64 fu) (.slice A' m' c');exact⟨_,A',m',c',rfl,rfl,hQ_ (x1_ q5),hQ_ (jj_ hq5 q5 hcs),hQ_ ⟨gC5,gD5,X5,Y5,hM5.away hcs (by simpa using hM5.rec_.ne_ q5 (by decide)) (by simpa using hM5.cel.ne_ q5 (by decide)) (by simpa using hM5.dir.ne_ q5 (by decide)),hg5,hg6⟩,hQ_ hg15,hQ_ (hT5.then_ hcs (fun i hi hlt=>by simp only[List.mem_cons,List.not_mem_nil,or_false]at hi;omega))⟩)
      | (have hcs:=v5_ w5 w3.heap.size (.int .i64 val) (.int .i64 trap) (.int .i64 fu) (.slice A' m' c');exact⟨_,A',m',c',rfl,rfl,hQ_ (x1_ q5),hQ_ (jj_ hq5 q5 hcs),hQ_ ⟨gC5,gD5,X5,Y5,hM5.away hcs (by simpa using hM5.rec_.ne_ q5 (by decide)) (by simpa using hM5.cel.ne_ q5 (by decide)) (by simpa using hM5.dir.ne_ q5 (by decide)),hg5,hg6⟩,hQ_ (Nat.le_refl _),hQ_ (hT5.then_ hcs (fun i hi hlt=>by simp only[List.mem_cons,List.not_mem_nil,or_false]at hi;omega))⟩)
 case rest =>
  obtain⟨g15,A',m',c',rfl,rfl,HX,HQ,HME,HG15,HCX⟩:=hcut;obtain⟨w6,rfl⟩:∃w6:World,w6=wc:=⟨_,rfl⟩;have HC6:=hQ_ (show Chg [] w w6 from HC3.o.then_ HCX.o (fun i hi hlt=>by
   have h:=HN3.o;simp only[List.mem_cons,List.not_mem_nil,or_false]at hi;omega));have HR6:=hQ_ (HR3.o.chg HCX.o (by
   have h:=HR1.o.lt;have h2:=HQN.o;simp only[List.mem_cons,List.not_mem_nil,or_false];omega));have x0:=HX.o.cell 0;have x1:=HX.o.cell 1;have x2:=HX.o.cell 2;have x3:=HX.o.cell 3;have r0:=HR6.o.cell 0;have r1:=HR6.o.cell 1;have r2:=HR6.o.cell 2;have r3:=HR6.o.cell 3;have f0:=HR6.o.frozen 0;have f1:=HR6.o.frozen 1;have f2:=HR6.o.frozen 2;have f3:=HR6.o.frozen 3;by_cases htr:trap=0
  · obtain⟨gC6,gD6,X6,Y6,hM6,hg6,hg7⟩:=HME.o;have HCM:=hQ_ (HF2.o htr gr q2 gC6 gD6 m' c' A' _ _ _ _ w1 w6 X6 Y6 HGR.o HC1.o HR1.o.lt (HC31.o.then_ HCX.o (fun i hi hlt=>by
     have h:=HQN.o;simp only[List.mem_cons,List.not_mem_nil,or_false]at hi;omega)) HR6.o HQ.o hM6 ⟨HQN.o.1,hg6,hg7⟩);have HTY:=hQ_ (gL_ (HH.o.keep HC6.o));have HJW:=hQ_ (show ∀i∈j.h::k.W,i<w.heap.size from fun i hi=>by
     obtain⟨t,cs,hW,_⟩:=gL_ HH.o i hi;exact hW.lt);subst htr;clear hM6 hg6 hg7 x0 x1 x2 x3 r0 r1 r2 r3 f0 f1 f2 f3;have HNG:=hQ_ (show g15∉j.h::k.W/\gr∉j.h::k.W from⟨fun hm=>by have h1:=HJW.o _ hm;have h2:=HG15.o;have h3:=HC3.o.size;omega,fun hm=>by have h1:=HJW.o _ hm;have h2:=HGR.o;omega⟩);have x1:=HX.o.cell 1;go_upto_region 9 with(
     go_at_call 27;(with_reducible refine HCM.o.mono ?_);rintro e w7 ⟨r,rfl,hc7,h7⟩;have HX7:=hQ_ (HX.o.chg hc7 HNG.o.1);have HR7:=hQ_ (HR6.o.chg hc7 HNG.o.2);have H7:=hQ_ h7;clear hc7 h7);clear x1;have x0:=HX7.o.cell 0;have x1:=HX7.o.cell 1;have x2:=HX7.o.cell 2;have x3:=HX7.o.cell 3;have r0:=HR7.o.cell 0;have r1:=HR7.o.cell 1;have r2:=HR7.o.cell 2;have r3:=HR7.o.cell 3;have f0:=HR7.o.frozen 0;have f1:=HR7.o.frozen 1;have f2:=HR7.o.frozen 2;have f3:=HR7.o.frozen 3;obtain⟨rfl,hF⟩|⟨hr,hF⟩:=H7.o
    · have HF:=hQ_ hF;clear hF;go_wp2_with fail;exact bodyPost_ret (ze_ (p:=10) (u:=11) (ty:=32) rfl _ _ gr 32 [.int .i64 val,.int .i64 0,.int .i64 fu,.slice A' m' c'] _ rfl (x1_ HR7.o) Tryz.underlying32 (by kernel_rfl)) rfl HF.o
    · have HF:=hQ_ hF;clear hF;have hr0:(r != 0)=true:=by rcases hr with rfl|rfl<;>rfl
      clear hr;go_wp2_with fail;exact bodyPost_ret (ze_ (p:=10) (u:=11) (ty:=32) rfl _ _ gr 32 [.int .i64 0,.int .i64 0,.int .i64 0,.slice none 0 0] _ rfl (x1_ HR7.o) Tryz.underlying32 (by kernel_rfl)) rfl HF.o
  · go_wp2_with fail;have hcs:=v5_ w6 gr (.int .i64 val) (.int .i64 trap) (.int .i64 fu) (.slice A' m' c');have hP:=HF1.o A' m' c' _ (jj_ HQ.o HR6.o hcs) htr (HC6.o.then_ hcs (fun i hi hlt=>by
     have h:=HGR.o;simp only[List.mem_cons,List.not_mem_nil,or_false]at hi;omega));exact bodyPost_ret (ze_ (p:=10) (u:=11) (ty:=32) rfl _ _ gr 32 [.int .i64 val,.int .i64 trap,.int .i64 fu,.slice A' m' c'] _ rfl (x1_ HR6.o) Tryz.underlying32 (by kernel_rfl)) rfl hP
end
end
section
open Go.RowKit
theorem zcO (L M:List UInt8)(f:Nat):∀k,∀c∈vl_ L M f k,f<=c.1/\c.1<f+k
  | 0,c,h=>by cases h
  | k+1,c,h=>by
    rw[vl_,List.mem_append]at h;rcases h with h|h
    · have:=zcO L M f k c h;omega
    · split at h
      · cases h
      · rw[List.mem_singleton.1 h];simp only;omega
theorem zby (L M:List UInt8)(f:Nat):∀k,(vl_ L M f k).Pairwise (fun a b=>a.1<b.1)
  | 0=>List.Pairwise.nil
  | k+1=>by
    rw[vl_,List.pairwise_append];refine⟨zby L M f k,by split<;>simp,fun a ha b hb=>?_⟩;have:=zcO L M f k a ha;split at hb
    · cases hb
    · rw[List.mem_singleton.1 hb];simp only;omega
theorem jO_ {P:Int}:∀(l:List ChV)(last:Int),(∀a∈l,last<a.page/\a.page<P/\a.bn=64)->l.Pairwise (fun a b=>a.page<b.page)->yK_ last P l=true
  | [],_,_,_=>rfl
  | a::l,last,h,hp=>by
    obtain⟨h1,h2,h3⟩:=h a (List.mem_cons_self ..);rw[List.pairwise_cons]at hp;rw[yK_,decide_eq_false (show ¬a.page<=last by omega),decide_eq_false (show ¬P<=a.page by omega),decide_eq_false (show ¬a.bn≠64 from fun h=>h h3),Bool.or_false,Bool.or_false,Bool.not_false,Bool.true_and];exact jO_ l a.page (fun b hb=>⟨hp.1 b hb,(h b (List.mem_cons_of_mem _ hb)).2⟩) hp.2
theorem zjq {ls:List ChV}{cs:List (Nat×List UInt8)}(h:zjO ls cs):∀a∈ls,∃c∈cs,a.page=(c.1:Int):=fun a ha=>by
 have h1:(a.page,a.B)∈ls.map (fun a=>(a.page,a.B)):=List.mem_map_of_mem ha;rw[h.1]at h1;obtain⟨c,hc,he⟩:=List.mem_map.1 h1;exact⟨c,hc,(congrArg Prod.fst he).symm⟩
theorem zfX {ls:List ChV}{L M:List UInt8}{f k P:Nat}(h:zjO ls (vl_ L M f k))(hP:f+k<=P)(h64:P<=64):zF_ (P:Int) ls=true:=by
 unfold zF_;rw[decide_eq_true (show(P:Int)<=64 by omega),Bool.true_and];refine jO_ ls (-1) (fun a ha=>?_) ?_
 · obtain⟨c,hc,e⟩:=zjq h a ha;have:=zcO L M f k c hc;exact⟨by omega,by omega,(h.2 a ha).2.1⟩
 · have h1:(ls.map (fun a=>(a.page,a.B))).Pairwise (fun a b=>a.1<b.1):=(by
    rw[h.1,List.pairwise_map];exact(zby L M f k).imp (fun {a b} hab=>by simp only;omega));rw[List.pairwise_map]at h1;exact h1
theorem zoo {L u n:Nat}(h1:1<=L)(h2:L<=64)(hn:n<=64)(h:u+18+66*n<=64*L):yI_ (L:Int) (u:Int) (n:Int)=true:=by
 unfold yI_ zcs uz_ kz_;rw[Bool.and_eq_true];constructor<;>rw[decide_eq_true_iff]<;>repeat' split;all_goals omega
theorem zmr {L M:List UInt8}:∀(k:Nat),L.length=64*k->M.length=64*k->(∀i,i<k->pg L i=pg M i)->L=M
  | 0,h1,h2,_=>by rw[List.eq_nil_of_length_eq_zero (by omega:L.length=0),List.eq_nil_of_length_eq_zero (by omega:M.length=0)]
  | k+1,h1,h2,h=>by
    have e0:=h 0 (by omega);unfold pg at e0;simp only[Nat.zero_mul,List.drop_zero]at e0;rw[<-List.take_append_drop 64 L,<-List.take_append_drop 64 M,e0,zmr k (L:=L.drop 64) (M:=M.drop 64) (by rw[List.length_drop];omega) (by rw[List.length_drop];omega) (fun i hi=>by
     have:=h (i+1) (by omega);unfold pg at this⊢;rw[List.drop_drop,List.drop_drop,show 64+i*64=(i+1)*64 by omega];exact this)]
theorem zef {L M:List UInt8}{f:Nat}:∀{k:Nat},vl_ L M f k=[]->∀i,i<k->ku_ L M i=true
  | 0,_,i,hi=>by omega
  | k+1,h,i,hi=>by
    rw[vl_,List.append_eq_nil_iff]at h;rcases Nat.lt_or_ge i k with h1|h1
    · exact zef h.1 i h1
    · obtain rfl:i=k:=(by omega);by_cases hs:ku_ L M i=true
      · exact hs
      · rw[if_neg hs]at h;exact absurd h.2 (by simp)
theorem zjn {L M:List UInt8}{f k:Nat}(h1:L.length=64*k)(h2:M.length=64*k)(h:vl_ L M f k=[]):L=M :=
 zmr k h1 h2 fun i hi=>by
  have:=zef h i hi;unfold ku_ at this;exact(decide_eq_true_iff.1 this).2
theorem zbz {L:List UInt8}{f:Nat}:∀{k:Nat},k<=L.length/64->vl_ L L f k=[]
  | 0,_=>rfl
  | k+1,h=>by
    rw[vl_,zbz (by omega)];have:ku_ L L k=true:=(by unfold ku_;exact decide_eq_true ⟨by omega,rfl⟩);rw[this];rfl
end
section
open Go.RowKit
section
variable {w:World} {k:SK} {s:St} {x:SV} {j:HK} {y:HV} {AR AA:Option Addr} {nR cR nA cA fuel:Nat} {vR vA:List Value} {rR:List (Option Int)} {ns:List Int} {name:Int}
def zqg (w:World) (k:SK) (s:St) (x:SV) (j:HK) (y:HV) (val:Int) (s':EgV) (e:Ending) (w':World):Prop :=
 ∃ A m c,e=.returned (.tuple #[.agg #[.int .i64 val,.int .i64 0,.int .i64 (s'.fuel:Int),.slice A m c],.int .i64 0])/\QSl w' (.slice A m c) s'.qs /\
   ((y.L=s'.L/\Chg [] w w') \/
    (y.L≠s'.L/\∃ls j',zjO ls (vl_ y.L s'.L y.f y.V.length)/\ls≠[]/\zF_ x.P ls=true/\yI_ x.L x.used ls.length=true/\j'.h=j.h/\Ho w' k (k6_ s x ls) (zbS x ls) j' (zqn y s'.L s'.V)/\Chg (j.h::k.W) w w'))
theorem gN_ {kk:Nat}{f:FnV}{val:Int}{s':EgV}{mR:Nat}(h:Ho w k s x j y)(hU:RightU y.pg y.ms y.fs)(hk:yQ_ y.fs name=(kk:Int))(hf:y.fs[kk]?=some f)(hfa:f.args=(ns.length:Int))(hfu:fuel<=1048576)
    (hmq:(mR:Int)=min (nR:Int) 64) (hdo:eDo y.fs (rR.take mR) y.most kk fuel ns y.L (zH_ y.V.length) []=some (val,0,s')) (hgr:s'.V.length=y.V.length) (hcs:y.calls<=1000000) (hL:s'.L.length=64*y.V.length)
    (hP:y.f+y.V.length<=x.P) (hR:x.used+18+66*y.V.length<=64*x.L)
    (hNR:xo_ vR rR) (hsR:Src w AR vR) (hAR:∀ad,AR=some ad->ad.spot=none) (hnR:vR.length=nR) (hcR:nR<=cR)
    (hNA:xo_ vA (ns.map some)) (hsA:Src w AA vA) (hAA:∀ad,AA=some ad->ad.spot=none) (hnA:vA.length=nA) (hmA:nA<=1000000) :
    Calls Tryz.prog 9 #[.pointer (some ⟨j.h,0,none⟩),.int .i32 name,.int .i64 (fuel:Int),.slice AR nR cR,.slice AA nA cA] w (zqg w k s x j y val s'):=by
 obtain⟨X,Y,hM⟩:=h.mm;obtain⟨vP,hs⟩:=h.sto;have hrt:=zi_.1 hs.rt;refine(zbi h hU hk hf hfa hfu hmq hdo hgr hcs hNR hsR hAR hnR hcR hNA hsA hAA hnA hmA).mono fun e w' hr=>?_;rcases hr with⟨A,m,c,he,hq,h0|⟨_,h1,h2⟩|⟨_,ls,j',h1,h2,h3,h4,h5,h6,h7⟩⟩|⟨ls,r,_,hc,h1,hbad,_⟩
 · exact absurd rfl h0.1
 · exact⟨A,m,c,he,hq,.inl ⟨zjn hM.len hL (by rw[<-hgr];exact h1),h2⟩⟩
 · refine⟨A,m,c,he,hq,.inr ⟨fun he=>?_,ls,j',by rw[<-hgr];exact h1,h2,h3,h4,h5,h6,h7⟩⟩;rw[<-he,zbz (by rw[hgr,hM.len];omega)]at h1;exact h2 (List.eq_nil_of_length_eq_zero h1.1.len)
 · exfalso;rw[hgr]at hc;have hlen:ls.length<=y.V.length:=(by rw[hc.1.len];exact g2_ _ _ _ _);have hV:=hM.le;have hV2:=hM.top;rcases hbad with hb|hb
   · rw[zfX hc hP (by omega)]at hb;cases hb
   · rw[zoo (by omega) (by omega) (by omega) (by omega)]at hb;cases hb
theorem zfq {kk:Nat}{f:FnV}{val trap:Int}{s':EgV}{mR:Nat}(htr:trap≠0)(h:Ho w k s x j y)(hU:RightU y.pg y.ms y.fs)(hk:yQ_ y.fs name=(kk:Int))(hf:y.fs[kk]?=some f)(hfa:f.args=(ns.length:Int))(hfu:fuel<=1048576)
    (hmq:(mR:Int)=min (nR:Int) 64) (hdo:eDo y.fs (rR.take mR) y.most kk fuel ns y.L (zH_ y.V.length) []=some (val,trap,s')) (hgr:s'.V.length=y.V.length) (hcs:y.calls<=1000000)
    (hNR:xo_ vR rR) (hsR:Src w AR vR) (hAR:∀ad,AR=some ad->ad.spot=none) (hnR:vR.length=nR) (hcR:nR<=cR)
    (hNA:xo_ vA (ns.map some)) (hsA:Src w AA vA) (hAA:∀ad,AA=some ad->ad.spot=none) (hnA:vA.length=nA) (hmA:nA<=1000000) :
    Calls Tryz.prog 9 #[.pointer (some ⟨j.h,0,none⟩),.int .i32 name,.int .i64 (fuel:Int),.slice AR nR cR,.slice AA nA cA] w (fun e w'=>∃A m c,e=.returned (.tuple #[.agg #[.int .i64 val,.int .i64 trap,.int .i64 (s'.fuel:Int),.slice A m c],.int .i64 0])/\QSl w' (.slice A m c) s'.qs/\Chg [] w w') :=
 (zbi h hU hk hf hfa hfu hmq hdo hgr hcs hNR hsR hAR hnR hcR hNA hsA hAA hnA hmA).mono fun e w' hr=>by
   rcases hr with⟨A,m,c,he,hq,⟨_,h0⟩|⟨h1,_⟩|⟨h1,_⟩⟩|⟨ls,r,h1,_⟩
   · exact⟨A,m,c,he,hq,h0⟩
   · exact absurd h1 htr
   · exact absurd h1 htr
   · exact absurd h1 htr
end
end
section
open Go.RowKit
theorem znZ {W:World}{g:Nat}(h:zb_ W g 44 [.int .i32 102,.int .i64 1,.string ⟨#[48,97,36,48,64]⟩,.int .i32 103,.int .i64 0,.string ⟨#[48,32,57,36,194,161]⟩]):Fnr W (some ⟨g,0,none⟩) 2 2 knF :=
 ⟨rfl,Src.of_all h,Nat.le_refl _,by omega,fun _ ad e=>by injection e with e;subst e;rfl,zof⟩
def zoR (wr:World)(K:SK)(h t calls:Nat)(c:Int):Prop :=
 ∃s x j V,j.h=h/\Ho wr K s x j ⟨1,2,knF,t,2,calls,knM c,V,2⟩/\V.length=1/\x.L=20/\x.P=8/\x.used<=84*calls
theorem zoR.keep {w w':World}{K:SK}{h t calls:Nat}{c:Int}(hA:zoR w K h t calls c)(hc:Chg [] w w'):zoR w' K h t calls c:=by
 obtain⟨s,x,j,V,h1,h2,h3⟩:=hA;exact⟨s,x,j,V,h1,h2.keep hc,h3⟩
section
variable {w:World} {K:SK} {h t:Nat} {A:Option Addr} {n c:Nat}
theorem zoe (hA:zoR w K h t 0 0)(g:Nat)(hg:zb_ w g 20 [.iface 3 (.int .i64 7)]) :
    Calls Tryz.prog 9 #[.pointer (some ⟨h,0,none⟩),.int .i32 102,.int .i64 99,.slice none 0 0,.slice (some ⟨g,0,none⟩) 1 1] w (fun e w'=>∃A m d,e=.returned (.tuple #[.agg #[.int .i64 7,.int .i64 0,.int .i64 94,.slice A m d],.int .i64 0])/\zoR w' K h t 1 7/\Chg (h::K.W) w w'):=by
 obtain⟨s,x,j,V,rfl,hH,hV,hL,hP,hu⟩:=hA;have hdo:eDo knF (([]:List (Option Int)).take 0) 2 0 99 [7] (knM 0) (zH_ V.length) []=some (7,0,⟨94,[],[],knM 7,[true],[]⟩):=by rw[hV];exact kn_f 0 7 (by unfold In64;omega)
 refine(gN_ (fuel:=99) (nR:=0) (nA:=1) (vR:=[]) (rR:=[]) (vA:=[.iface 3 (.int .i64 7)]) (ns:=[7]) hH zdI rfl rfl rfl (by omega) rfl hdo hV.symm (by show(0:Nat)<=1000000;omega) (by show(knM 7).length=64*V.length;rw[zic,hV]) (by show 2+V.length<=x.P;omega) (by show x.used+18+66*V.length<=64*x.L;omega)
   xo_.nil (fun h=>absurd h (by simp)) (fun ad e=>by cases e) rfl (Nat.le_refl _) (xo_.cons (.int 7 (by omega) (by omega)) xo_.nil) (Src.of_all hg) (fun ad e=>by injection e with e;subst e;rfl) rfl (by omega)).mono fun e w' hr=>?_;obtain⟨A,m,d,he,_,⟨h1,_⟩|⟨_,ls,j',h1,h2,h3,h4,h5,h6,h7⟩⟩:=hr
 · exact absurd (show knM 0=knM 7 from h1) (by decide +kernel)
 · have hl:ls.length<=1:=(by
    have h8:ls.length=(vl_ (knM 0) (knM 7) 2 V.length).length:=h1.1.len;have:=g2_ (knM 0) (knM 7) 2 V.length;omega);refine⟨A,m,d,he,⟨_,_,j',[true],h5,h6,rfl,hL,hP,?_⟩,h7⟩;show x.used+(18+66*ls.length)<=84*1;omega
theorem zod (hA:zoR w K h t 1 7) :
    Calls Tryz.prog 9 #[.pointer (some ⟨h,0,none⟩),.int .i32 103,.int .i64 99,.slice none 0 0,.slice none 0 0] w (fun e w'=>∃A m d,e=.returned (.tuple #[.agg #[.int .i64 0,.int .i64 2,.int .i64 95,.slice A m d],.int .i64 0])/\Chg [] w w'):=by
 obtain⟨s,x,j,V,rfl,hH,hV,hL,hP,hu⟩:=hA;have hdo:eDo knF (([]:List (Option Int)).take 0) 2 1 99 [] (knM 7) (zH_ V.length) []=some (0,2,⟨95,[],[⟨1,4,List.replicate 26 0⟩],knM 9,[true],[]⟩):=by rw[hV];exact kn_g 7
 refine(zfq (fuel:=99) (nR:=0) (nA:=0) (vR:=[]) (rR:=[]) (vA:=[]) (ns:=[]) (by omega) hH zdI rfl rfl rfl (by omega) rfl hdo hV.symm (by show(1:Nat)<=1000000;omega)
   xo_.nil (fun h=>absurd h (by simp)) (fun ad e=>by cases e) rfl (Nat.le_refl _) xo_.nil (fun h=>absurd h (by simp)) (fun ad e=>by cases e) rfl (by omega)).mono fun e w' hr=>?_;obtain⟨A,m,d,he,_,hc⟩:=hr;exact⟨A,m,d,he,hc⟩
end
section
variable {w:World}
theorem zib (hP:vG_ w.heap.size w):Calls Tryz.prog 19 #[] w (xX_ w):=by
 have HP:=hQ_ hP;have HFIN:=hQ_ (show ∀W,Chg [] w W->xX_ w (.returned (.bool true)) W from fun W h=>⟨rfl,h⟩);have hr:zp_ (20:Nat) (8:Nat) 1 ((40:Nat):Int)=true:=zi_.2 ⟨by omega,by omega,by omega,by omega,by omega,by omega⟩;have hr2:zp_ (20:Nat) (8:Nat) 1 (dk0 40).V.length=true:=by rw[qd_];exact hr
 have HNW:=hQ_ (fun (W:World)=>(show Calls Tryz.prog 14 #[.int .i64 40] W (fun e w'=>∃p bL bS bW,e=.returned (.pointer (some ⟨p,0,none⟩))/\z9_ w' p bL bS bW (dk0 40)/\W.heap.size<=p/\W.heap.size<=bL/\W.heap.size<=bS/\W.heap.size<=bW/\Chg [] W w') from zcL (w:=W) 40 (by omega) (by omega)));have HFM:=hQ_ (fun (W:World)(p bL bS bW:Nat)(hd:z9_ W p bL bS bW (dk0 40))=>(show Calls Tryz.prog 15 #[.pointer (some ⟨p,0,none⟩),.int .i64 20,.int .i64 8] W (fun e w'=>e=.returned (.int .i64 0)/\z9_ w' p bL bS bW (fmt (dk0 40) 20 8)/\Chg [bL,bS,bW] W w') from qa_ (L:=20) (P:=8) hd hr));have HOP:=hQ_ (fun (W:World)(p bL bS bW:Nat)(hc:Chg [] w W)(hd:z9_ W p bL bS bW (fmt (dk0 40) 20 8))(hn:∀i∈[bL,bS,bW],w.heap.size<=i)=>(show Calls Tryz.prog 17 #[.pointer (some ⟨p,0,none⟩)] W (fun e w'=>e=.returned (.tuple #[.pointer none,.int .i64 12])/\(∃s' x',z9_ w' p bL bS bW s'/\KeptZ s' x' []/\x'.L=20/\x'.P=8/\x'.E=2/\x'.pages=List.replicate 8 (zm_ 64)/\s'.V.length=40)/\Chg [bL,bS,bW] W w') from by
  refine(zbh (zs:=List.replicate 8 (zm_ 64)) (znM (jV_ (zjb 40) 20 8 hr2 hd)) (fun s' x' h=>h.1) (fun W' k=>vt_ hP (yc_ hc k hn)) ⟨(Dsk.last hd).lt,(Dsk.seen hd).lt,(Dsk.wait hd).lt⟩).mono fun e w' h=>?_;rcases h with⟨r,hno,he,⟨s',x',hd',h1,h2,h3,h4,h5,h6⟩,hc'⟩|⟨T,q,pg,ms,fs,j,g,gN,s',x',hy,_⟩
  · refine⟨by rw[he,zjw hno],⟨s',x',hd',h2,h3,h4,h5,h1,h6.trans (qd_ 40)⟩,hc'⟩
  · exact(zel 8 hy.1).elim));have HIN:=hQ_ (fun (W:World)(p bL bS bW gf:Nat)(s':St)(x':SV)(hc:Chg [] w W)(hd:z9_ W p bL bS bW s')(h2:KeptZ s' x' [])(h3:x'.L=20)(h4:x'.P=8)(h5:x'.E=2)(h1:x'.pages=List.replicate 8 (zm_ 64))(h6:s'.V.length=40)(hn:∀i∈[bL,bS,bW],w.heap.size<=i)(hf:zb_ W gf 44 [.int .i32 102,.int .i64 1,.string ⟨#[48,97,36,48,64]⟩,.int .i32 103,.int .i64 0,.string ⟨#[48,32,57,36,194,161]⟩]) =>
  zdL (pg:=1) (ms:=2) (L:=20) (P:=8) (nV:=s'.V.length) (E0:=3) (by rw[h6];exact hr) hd ⟨by omega,by omega⟩ (fun W2 hd2=>zck hd2 h2 h3 h4 h5 (by omega) h1) (znZ hf) zob (fun _ ad e hm=>by
   injection e with e;subst e;simp only[List.mem_cons,List.not_mem_nil,or_false]at hm;rcases hm with h|h|h
   · exact hf.ne_ (Dsk.last hd) (by decide) h
   · exact hf.ne_ (Dsk.seen hd) (by decide) h
   · exact hf.ne_ (Dsk.wait hd) (by decide) h) (fun W' k=>vt_ hP (yc_ hc k hn)) zmx);have HO2:=hQ_ (fun (W:World)(p bL bS bW:Nat)(hc:Chg [] w W)(hi:gh_ 3 p bL bS bW 20 8 1 2 knF W)(hn:∀i∈[bL,bS,bW],w.heap.size<=i)(hb2:bL<W.heap.size/\bS<W.heap.size/\bW<W.heap.size) =>
  zcl (by omega) hb2 hi (fun W' k=>vt_ hP (yc_ hc k hn)) zmx);rw[zlf,zoc]at HO2;generalize (zI_ 1 2 knF).1.length=t at HO2;have HINN:=hQ_ (fun (W:World)(u0 u1 u2:Value)=>zlj (w:=W) u0 u1 u2);generalize xX_ w=PO at HFIN⊢;clear hP hr hr2;go_enter Tryz.func19,Tryz.ntmps19;go_upto_region 2 with(
  go_at_call 14;with_reducible refine(HNW.o w).mono ?_
  rintro e w2 ⟨p,bL,bS,bW,rfl,hd,hp,hbL,hbS,hbW,hc⟩;have HD2:=hQ_ hd;have HNB:=hQ_ (show ∀i∈[bL,bS,bW],w.heap.size<=i from fun i hi=>by simp only[List.mem_cons,List.not_mem_nil,or_false]at hi;omega);have HBP:=hQ_ hp;have HC2:=hQ_ hc;clear hd hp hbL hbS hbW hc);go_upto_region 4 with(
  go_at_call 15;with_reducible refine(HFM.o w2 p bL bS bW HD2.o).mono ?_
  rintro e w3 ⟨rfl,hd,hc⟩;have HD3:=hQ_ hd;have HC3:=hQ_ (yc_ HC2.o hc HNB.o);clear hd hc);go_upto_region 5 with(
  go_at_call 17;with_reducible refine(HOP.o w3 p bL bS bW HC3.o HD3.o HNB.o).mono ?_
  rintro e w4 ⟨rfl,hx,hc⟩;have HX4:=hQ_ hx;have HC4:=hQ_ (yc_ HC3.o hc HNB.o);clear hx hc);go_upto_region 6 with fail;have HF1:=hQ_ (zb_.new w4 44 [.int .i32 102,.int .i64 1,.string ⟨#[48,97,36,48,64]⟩,.int .i32 103,.int .i64 0,.string ⟨#[48,32,57,36,194,161]⟩]);obtain⟨s4,x4,hd4,hk4,hL4,hP4,hE4,hpg4,hV4⟩:=HX4.o;have hal:=(Chg.refl [] w4).alloc (.cells #[.int .i32 102,.int .i64 1,.string ⟨#[48,97,36,48,64]⟩,.int .i32 103,.int .i64 0,.string ⟨#[48,32,57,36,194,161]⟩] 44);have hsz:(w4.alloc (.cells #[.int .i32 102,.int .i64 1,.string ⟨#[48,97,36,48,64]⟩,.int .i32 103,.int .i64 0,.string ⟨#[48,32,57,36,194,161]⟩] 44)).heap.size=w4.heap.size+1:=Array.size_push _;have HC5:=hQ_ (HC4.o.new hal);have HD5:=hQ_ (Dsk.keep hd4 hal);have HK4:=hQ_ (And.intro hk4 (And.intro hL4 (And.intro hP4 (And.intro hE4 (And.intro hpg4 hV4)))));rw[<-hsz];generalize w4.heap.size=gf at HF1 hsz⊢;clear hd4 hk4 hL4 hP4 hE4 hpg4 hV4 hal hsz HX4;generalize w4.alloc (.cells #[.int .i32 102,.int .i64 1,.string ⟨#[48,97,36,48,64]⟩,.int .i32 103,.int .i64 0,.string ⟨#[48,32,57,36,194,161]⟩] 44)=w5 at HF1 HC5 HD5⊢;have hal:=(Chg.refl [] w5).alloc (.cells #[.int .i64 1,.int .i64 2,.slice (some ⟨gf,0,none⟩) 2 2] 25);have HN:=hQ_ (zb_.new w5 25 [.int .i64 1,.int .i64 2,.slice (some ⟨gf,0,none⟩) 2 2]);have HC6:=hQ_ (HC5.o.new hal);have HD6:=hQ_ (Dsk.keep HD5.o hal);have HF6:=hQ_ (HF1.o.keep hal);generalize w5.heap.size=gu at HN⊢;generalize w5.alloc (.cells #[.int .i64 1,.int .i64 2,.slice (some ⟨gf,0,none⟩) 2 2] 25)=w6 at HN HC6 HD6 HF6⊢;clear hal;have u0:=HN.o.cell 0;have u1:=HN.o.cell 1;have u2:=HN.o.cell 2;have HI6:=hQ_ (HIN.o w6 p bL bS bW gf s4 x4 HC6.o HD6.o HK4.o.1 HK4.o.2.1 HK4.o.2.2.1 HK4.o.2.2.2.1 HK4.o.2.2.2.2.1 HK4.o.2.2.2.2.2 HNB.o HF6.o);have HUT:=hQ_ (show gu∉[bL,bS,bW] from by
  simp only[List.mem_cons,List.not_mem_nil,or_false];rintro(h|h|h)
  · exact HN.o.ne_ (Dsk.last HD6.o) (by decide) h
  · exact HN.o.ne_ (Dsk.seen HD6.o) (by decide) h
  · exact HN.o.ne_ (Dsk.wait HD6.o) (by decide) h);go_upto_region 7 with(
  go_at_call 16;with_reducible refine HI6.o.mono ?_
  rintro e w7 ⟨rfl,hi,hc⟩;have HI7:=hQ_ hi;have HC7:=hQ_ (yc_ HC6.o hc HNB.o);have HN7:=hQ_ (HN.o.chg hc HUT.o);have HB7:=hQ_ (show bL<w7.heap.size/\bS<w7.heap.size/\bW<w7.heap.size from by
   have h:=hc.size;have h1:=(Dsk.last HD6.o).lt;have h2:=(Dsk.seen HD6.o).lt;have h3:=(Dsk.wait HD6.o).lt;omega);clear hi hc);clear u0 u1 u2;go_upto_region 10 with(
  go_at_call 17;with_reducible refine(HO2.o w7 p bL bS bW HC7.o HI7.o HNB.o HB7.o).mono ?_
  rintro e w8 ⟨h,g,gN,j,s8,x8,hj,rfl,b1,b2,b3,hH,x1,x3,_,x4,_,hc⟩;have HB:=hQ_ (show ∀i∈h::SK.W ⟨p,bL,bS,bW,g,gN,[h]⟩,w.heap.size<=i from fun i hi=>by
   have h0:=HC7.o.size;have h1:=HNB.o bL (by simp);have h2:=HNB.o bS (by simp);have h3:=HNB.o bW (by simp);simp only[SK.W,List.mem_cons,List.not_mem_nil,or_false]at hi;omega);have HIN8:=hQ_ (show zoR w8 ⟨p,bL,bS,bW,g,gN,[h]⟩ h t 0 0 from⟨s8,x8,j,zH_ 1,hj,by rw[zoa];exact hH,rfl,x1,x3,by omega⟩);have HN8:=hQ_ (HN7.o.chg hc HUT.o);have HU8:=hQ_ (show gu∉h::SK.W ⟨p,bL,bS,bW,g,gN,[h]⟩ from fun hm=>by
   have h1:=HN7.o.lt;have h2:=HUT.o;simp only[SK.W,List.mem_cons,List.not_mem_nil,or_false]at hm h2;omega);have HC8:=hQ_ (yc_ HC7.o hc HNB.o);clear hj b1 b2 b3 hH x1 x3 x4 hc);generalize (⟨p,bL,bS,bW,g,gN,[h]⟩:SK)=K at HIN8 HB HU8;clear HNW HFM HOP HIN HO2 HD2 HD3 HNB HBP HC2 HC3 HC4 HC5 HD5 HD6 HK4 HF1 HF6 HN HC6 HI6 HUT HI7 HC7 HN7 HB7;go_wp2_with fail;have hal:=(Chg.refl [] w8).alloc (.cells #[.iface 3 (.int .i64 7)] 20);have HA9:=hQ_ (HIN8.o.keep hal);have HN9:=hQ_ (HN8.o.keep hal);have HC9:=hQ_ (HC8.o.new hal);have HG9:=hQ_ (zb_.new w8 20 [.iface 3 (.int .i64 7)]);generalize w8.heap.size=g9 at HG9⊢;generalize w8.alloc (.cells #[.iface 3 (.int .i64 7)] 20)=w9 at HA9 HN9 HC9 HG9⊢;clear hal HIN8 HN8 HC8;refine(zoe HA9.o g9 HG9.o).mono ?_;rintro e w10 ⟨A1,m1,d1,rfl,hA,hc⟩;have HA10:=hQ_ hA;have HN10:=hQ_ (HN9.o.chg hc HU8.o);have HC10:=hQ_ (yc_ HC9.o hc HB.o);clear hA hc;go_upto_region 11 with fail;have hal:=(Chg.refl [] w10).alloc (.cells #[.int .i64 7,.int .i64 0,.int .i64 94,.slice A1 m1 d1] 32);have HA11:=hQ_ (HA10.o.keep hal);have HN11:=hQ_ (HN10.o.keep hal);have HC11:=hQ_ (HC10.o.new hal);have HX11:=hQ_ (zb_.new w10 32 [.int .i64 7,.int .i64 0,.int .i64 94,.slice A1 m1 d1]);generalize w10.heap.size=gx at HX11⊢;generalize w10.alloc (.cells #[.int .i64 7,.int .i64 0,.int .i64 94,.slice A1 m1 d1] 32)=w11 at HA11 HN11 HC11 HX11⊢;clear hal;go_wp2_with fail;refine(zod HA11.o).mono ?_;rintro e w12 ⟨A2,m2,d2,rfl,hc⟩;have HA12:=hQ_ (HA11.o.keep hc);have HN12:=hQ_ (HN11.o.keep hc);have HX12:=hQ_ (HX11.o.keep hc);have HC12:=hQ_ (HC11.o.new hc);clear hc;go_upto_region 12 with fail;have hal:=(Chg.refl [] w12).alloc (.cells #[.int .i64 0,.int .i64 2,.int .i64 95,.slice A2 m2 d2] 32);have HA13:=hQ_ (HA12.o.keep hal);have HN13:=hQ_ (HN12.o.keep hal);have HX13:=hQ_ (HX12.o.keep hal);have HC13:=hQ_ (HC12.o.new hal);have HY13:=hQ_ (zb_.new w12 32 [.int .i64 0,.int .i64 2,.int .i64 95,.slice A2 m2 d2]);generalize w12.heap.size=gy at HY13⊢;generalize w12.alloc (.cells #[.int .i64 0,.int .i64 2,.int .i64 95,.slice A2 m2 d2] 32)=w13 at HA13 HN13 HX13 HC13 HY13⊢;clear hal;go_wp2_with fail;have hal:=(Chg.refl [] w13).alloc (.cells #[.iface 98 (.float .f64 4609434218613702656)] 20);have HC14:=hQ_ hal;have HG14:=hQ_ (zb_.new w13 20 [.iface 98 (.float .f64 4609434218613702656)]);generalize w13.heap.size=g14 at HG14⊢;generalize w13.alloc (.cells #[.iface 98 (.float .f64 4609434218613702656)] 20)=w14 at HC14 HG14⊢;clear hal;refine(q6_ (z:=0) (nA:=1) (vA:=[.iface 98 (.float .f64 4609434218613702656)]) (rs:=[none]) (xo_.cons (.other _ _ (by decide) (by decide) (by decide) (by decide) (by decide) (by decide)) xo_.nil) rfl (fun i hi=>by omega) (Src.of_all HG14.o) (fun ad e=>by injection e with e;subst e;rfl) rfl (by omega)).mono ?_;rintro e w15 ⟨rfl,hc⟩;have HC15:=hQ_ (HC14.o.trans hc);clear hc HC14 HG14;go_upto_region 13 with fail;have hal:=(Chg.refl [] w15).alloc (.cells #[.int .i64 0,.int .i64 0,.int .i64 0,.slice none 0 0] 32);have HC16:=hQ_ (HC15.o.trans hal);generalize w15.alloc (.cells #[.int .i64 0,.int .i64 0,.int .i64 0,.slice none 0 0] 32)=w16 at HC16⊢;clear hal HC15;obtain⟨s16,x16,j16,V16,hj16,hH16,_⟩:=HA13.o;have HH16:=hQ_ (hH16.keep HC16.o);have HME:=hQ_ (show Calls Tryz.prog 12 #[.pointer (some ⟨h,0,none⟩)] w16 (zoO w16 (knM 7)) from by rw[<-hj16];exact zlp HH16.o);have HCA:=hQ_ (fun (W:World)(hc:Chg [] w16 W)=>(show Calls Tryz.prog 18 #[.pointer (some ⟨h,0,none⟩)] W (fun e w'=>e=.returned (.int .i64 1)/\W=w') from by rw[<-hj16];exact kI_ (HH16.o.keep hc)));unfold zoO at HME;clear hj16 hH16;go_upto_region 14 with(
  go_at_call 12;with_reducible refine HME.o.mono ?_
  rintro e w17 ⟨v,rfl,ho,hc⟩;obtain⟨A17,c17,rfl,_,_,hs,hsp⟩:=zr_ ho;have HSP:=hQ_ hsp;have HS17:=hQ_ hs;have HC17:=hQ_ hc;clear ho hc hs hsp);have x0:=((HX13.o.keep HC16.o).keep HC17.o).cell 0;have y1:=((HY13.o.keep HC16.o).keep HC17.o).cell 1;have u0:=((HN13.o.keep HC16.o).keep HC17.o).cell 0;have u1:=((HN13.o.keep HC16.o).keep HC17.o).cell 1;have u2:=((HN13.o.keep HC16.o).keep HC17.o).cell 2;obtain⟨ad,rfl,_,hcell⟩:=HS17.o (by rw[zg_,zic];omega);obtain⟨g17,o17,s17⟩:=ad;obtain⟨e1,_,e2,_⟩:=HSP.o _ rfl;have e1:s17=none:=e1;have e2:o17=0:=e2;subst e1;subst e2;have hb0:w17.cell? ⟨g17,0,none⟩=some (.int .u8 7):=hcell 0 _ (by
  obtain⟨h0,h1⟩:=List.getElem?_eq_some_iff.1 zle;rw[qj_ _ _ h0,h1];rfl);rw[show(knM 7).length=64 from zic 7];clear hcell;go_wp2_with (first
  | (go_at_call 18;(with_reducible refine(HCA.o _ HC17.o).mono ?_);rintro e w18 ⟨rfl,rfl⟩)
  | (go_at_call 16;(with_reducible refine(HINN.o _ _ _ _).mono ?_);rintro e w19 ⟨rfl,hc⟩;have HC19:=hQ_ (HC13.o.new (HC16.o.trans (HC17.o.trans hc)));clear hc));exact HFIN.o _ HC19.o
end
end
section
open Go.RowKit
def qtF:List FnV:=[⟨102,1,⟨#[57,97,194,174,57,194,169]⟩⟩]
def qtM (b:UInt8):List UInt8:=(zm_ 128).set 9 b
theorem zkL:qtF.map z2_=qtF:=by kernel_rfl
theorem zkK:RightU 2 2 qtF:=by
 refine⟨by decide,by decide,by decide,by simp[qtF],fun k f hf=>?_,fun k hk=>?_,fun f hf=>?_⟩
 · rcases k with _|k
   · simp only[qtF,List.getElem?_cons_zero,Option.some.injEq]at hf;subst hf;exact⟨by decide,by decide,by decide,by decide⟩
   · simp[qtF]at hf
 · have hk2:k<1:=hk;obtain rfl:k=0:=(by omega);decide +kernel
 · simp only[qtF,List.mem_cons,List.not_mem_nil,or_false]at hf;subst hf;decide
theorem znF:∀f∈qtF,-9223372036854775808<=f.args/\f.args<=9223372036854775807:=by decide
theorem znB:∀f∈qtF,f.code.size<=9223372036854775807:=by decide
theorem zmm:Fit 2 2 qtF 60 9:=⟨by decide +kernel,by decide +kernel,by decide +kernel⟩
theorem znD:1+zs_ (zI_ 2 2 qtF).1.length=2:=by decide +kernel
theorem qt_f (b:UInt8)(n:Int):eDo qtF [] 2 0 30 [n] (qtM b) [false,false] []=some (((yp_ n 0).toNat:Int),0,⟨25,[],[],qtM (yp_ n 0),[true,false],[]⟩):=by
 have h:eDo qtF [] 2 0 30 [n] (qtM b) [false,false] []=some (ldI (qtM (yp_ n 0)) 9 1,0,⟨25,[],[],qtM (yp_ n 0),[true,false],[]⟩):=by kernel_rfl
 rw[h,znY (qtM (yp_ n 0)) 9 (yp_ n 0) rfl]
theorem znA:qtM 0=zm_ 128:=by decide +kernel
theorem zml (b:UInt8):(qtM b).length=128:=by unfold qtM;rw[List.length_set];rfl
theorem qt_at (b:UInt8):(qtM b)[9]?=some b:=rfl
theorem zpk {b c:UInt8}(h:qtM b=qtM c):b=c:=by
 have:=congrArg (fun l=>l[9]?) h;simp only[qt_at,Option.some.injEq]at this;exact this
theorem zpl {b c:UInt8}(f:Nat)(h:b≠c):(vl_ (qtM b) (qtM c) f 2).length=1:=by
 have h1:ku_ (qtM b) (qtM c) 1=true:=by
  unfold ku_;refine decide_eq_true ⟨by rw[zml];omega,rfl⟩
 have h0:ku_ (qtM b) (qtM c) 0=false:=by
  unfold ku_;refine decide_eq_false fun hh=>h ?_;have:=congrArg (fun l=>l[9]?) hh.2;have e:∀x:UInt8,(pg (qtM x) 0)[9]?=some x:=fun x=>rfl;simp only[e,Option.some.injEq]at this;exact this
 rw[vl_,vl_,vl_,h1,h0];rfl
theorem znC (n:Int):bits .and .i64 n 255=((yp_ n 0).toNat:Int):=by
 have h127:(BitVec.ofInt 64 255).toNat=2^8-1:=by decide
 have key:(BitVec.ofInt 64 n &&& BitVec.ofInt 64 255).toNat=(n%((2^64:Nat):Int)).toNat%2^8:=by
  rw[BitVec.toNat_and,BitVec.toNat_ofInt,h127,Nat.and_two_pow_sub_one_eq_mod]
 rw[qi_,show(2:Int)^(8*0)=1 from rfl,Int.ediv_one];show IntKind.i64.wrap ((BitVec.ofInt 64 n &&& BitVec.ofInt 64 255).toNat:Nat)=n%256;rw[key,IntKind.wrap_i64];omega
end
section
open Go.RowKit
def zcT (wr:World)(K:SK)(h t q:Nat)(b:UInt8):Prop :=
 ∃s x j V,j.h=h/\Ho wr K s x j ⟨2,2,qtF,t,2,q,qtM b,V,2⟩/\V.length=2/\x.L=60/\x.P=9/\x.used=84*q/\x.seq=q
theorem zcT.keep {w w':World}{K:SK}{h t q:Nat}{b:UInt8}(hA:zcT w K h t q b)(hc:Chg [] w w'):zcT w' K h t q b:=by
 obtain⟨s,x,j,V,h1,h2,h3⟩:=hA;exact⟨s,x,j,V,h1,h2.keep hc,h3⟩
theorem zmj {g:Nat}:∀ad,(some (⟨g,0,none⟩:Addr))=some ad->ad.spot=none:=fun ad e=>by injection e with e;subst e;rfl
section
variable {w:World} {K:SK} {h t q:Nat} {b:UInt8}
theorem znE (hA:zcT w K h t q b)(hq:q<=20)(n:Int)(g:Nat)(hg:zb_ w g 20 [.iface 2 (.int .i64 n)]) :
    Calls Tryz.prog 9 #[.pointer (some ⟨h,0,none⟩),.int .i32 102,.int .i64 30,.slice none 0 0,.slice (some ⟨g,0,none⟩) 1 1] w (fun e w'=>∃A m d,e=.returned (.tuple #[.agg #[.int .i64 ((yp_ n 0).toNat:Int),.int .i64 0,.int .i64 25,.slice A m d],.int .i64 0])/\zcT w' K h t (if b=yp_ n 0 then q else q+1) (yp_ n 0)/\Chg (h::K.W) w w'):=by
 obtain⟨s,x,j,V,rfl,hH,hV,hL,hP,hu,hs⟩:=hA;have hdo:eDo qtF (([]:List (Option Int)).take 0) 2 0 30 [n] (qtM b) (zH_ V.length) []=some (((yp_ n 0).toNat:Int),0,⟨25,[],[],qtM (yp_ n 0),[true,false],[]⟩):=by rw[hV];exact qt_f b n
 refine(gN_ (fuel:=30) (nR:=0) (nA:=1) (vR:=[]) (rR:=[]) (vA:=[.iface 2 (.int .i64 n)]) (ns:=[n]) hH zkK rfl rfl rfl (by omega) rfl hdo hV.symm (by show q<=1000000;omega) (by rw[hV];exact zml _) (by show 2+V.length<=x.P;omega) (by show x.used+18+66*V.length<=64*x.L;omega)
   xo_.nil (fun h=>absurd h (by simp)) (fun ad e=>by cases e) rfl (Nat.le_refl _) (xo_.cons (.i64 n) xo_.nil) (Src.of_all hg) zmj rfl (by omega)).mono fun e w' hr=>?_;obtain⟨A,m,d,he,_,⟨h1,h2⟩|⟨h0,ls,j',h1,h2,h3,h4,h5,h6,h7⟩⟩:=hr
 · have hb:b=yp_ n 0:=zpk h1;refine⟨A,m,d,he,⟨s,x,j,V,rfl,?_,hV,hL,hP,by rw[if_pos hb];exact hu,by rw[if_pos hb];exact hs⟩,h2.sub (fun _ h=>by cases h)⟩;rw[if_pos hb,<-hb];exact hH.keep h2
 · have hb:¬b=yp_ n 0:=fun e=>h0 (by show qtM b=qtM (yp_ n 0);rw[<-e]);have hl:ls.length=1:=(by
    have h8:ls.length=(vl_ (qtM b) (qtM (yp_ n 0)) 2 V.length).length:=h1.1.len;rw[hV,zpl 2 hb]at h8;exact h8);refine⟨A,m,d,he,⟨k6_ s x ls,zbS x ls,j',[true,false],h5,by rw[if_neg hb];exact h6,rfl,hL,hP,?_,?_⟩,h7⟩
   · rw[if_neg hb];show x.used+(18+66*ls.length)=84*(q+1);omega
   · rw[if_neg hb];show x.seq+1=q+1;omega
theorem zcT.store (hA:zcT w K h t q b):Calls Tryz.prog 20 #[.pointer (some ⟨h,0,none⟩)] w (fun e w'=>e=.returned (.pointer (some ⟨K.g,0,none⟩))/\w=w'):=by
 obtain⟨s,x,j,V,rfl,hH,_⟩:=hA;exact zfp hH
theorem zcT.used (hA:zcT w K h t q b):Calls Tryz.prog 21 #[.pointer (some ⟨K.g,0,none⟩)] w (fun e w'=>e=.returned (.int .i64 ((q:Int)*84))/\w=w'):=by
 obtain⟨s,x,j,V,rfl,hH,_,_,_,hu,_⟩:=hA;obtain⟨vP,hs⟩:=hH.sto;have c:w.cell? ⟨K.g,6,none⟩=some (.int .i64 ((q:Int)*84)):=by rw[show(q:Int)*84=(x.used:Int) by omega];exact hs.rec_.cell 6
 clear hu;go_enter Tryz.func21,Tryz.ntmps21;go_wp2_with fail;go_ret;exact⟨rfl,rfl⟩
theorem zcT.seq (hA:zcT w K h t q b):Calls Tryz.prog 22 #[.pointer (some ⟨K.g,0,none⟩)] w (fun e w'=>e=.returned (.int .u32 (q:Int))/\w=w'):=by
 obtain⟨s,x,j,V,rfl,hH,_,_,_,_,hq⟩:=hA;obtain⟨vP,hs⟩:=hH.sto;have c:w.cell? ⟨K.g,7,none⟩=some (.int .u32 (q:Int)):=by rw[<-hq];exact hs.rec_.cell 7
 clear hq;go_enter Tryz.func22,Tryz.ntmps22;go_wp2_with fail;go_ret;exact⟨rfl,rfl⟩
theorem zcT.calls (hA:zcT w K h t q b):Calls Tryz.prog 18 #[.pointer (some ⟨h,0,none⟩)] w (fun e w'=>e=.returned (.int .i64 (q:Int))/\w=w'):=by
 obtain⟨s,x,j,V,rfl,hH,_⟩:=hA;exact kI_ hH
end
theorem zqe (g o k:Nat):(⟨g,o,none⟩:Addr).add k=⟨g,o+k,none⟩:=by rcases k with _|k<;>rfl
theorem znz {W:World}{g:Nat}(h:zb_ W g 44 [.int .i32 102,.int .i64 1,.string ⟨#[57,97,194,174,57,194,169]⟩]):Fnr W (some ⟨g,0,none⟩) 1 1 qtF :=
 ⟨rfl,Src.of_all h,Nat.le_refl _,by omega,fun _=>zmj,znF⟩
section
variable {w:World} {A:Option Addr} {n c:Nat} {l:List Int}
theorem gJ_ (hn:l.length=n)(hS:Src w A (nms l))(hsp:0<n->∀ad,A=some ad->ad.spot=none)(hP:vG_ w.heap.size w):Calls Tryz.prog 6 #[.slice A n c] w (xX_ w):=by
 have HFIN:=hQ_ (show ∀W,Chg [] w W->xX_ w (.returned (.bool true)) W from fun W h=>⟨rfl,h⟩);have hr:zp_ (60:Nat) (9:Nat) 1 ((90:Nat):Int)=true:=zi_.2 ⟨by omega,by omega,by omega,by omega,by omega,by omega⟩;have hr2:zp_ (60:Nat) (9:Nat) 1 (dk0 90).V.length=true:=by rw[qd_];exact hr
 have HNW:=hQ_ (fun (W:World)=>(show Calls Tryz.prog 14 #[.int .i64 90] W (fun e w'=>∃p bL bS bW,e=.returned (.pointer (some ⟨p,0,none⟩))/\z9_ w' p bL bS bW (dk0 90)/\W.heap.size<=p/\W.heap.size<=bL/\W.heap.size<=bS/\W.heap.size<=bW/\Chg [] W w') from zcL (w:=W) 90 (by omega) (by omega)));have HFM:=hQ_ (fun (W:World) (p bL bS bW:Nat) (hd:z9_ W p bL bS bW (dk0 90))=>(show Calls Tryz.prog 15 #[.pointer (some ⟨p,0,none⟩),.int .i64 60,.int .i64 9] W (fun e w'=>e=.returned (.int .i64 0)/\z9_ w' p bL bS bW (fmt (dk0 90) 60 9)/\Chg [bL,bS,bW] W w') from qa_ (L:=60) (P:=9) hd hr));have HIN:=hQ_ (fun (W:World) (p bL bS bW gf:Nat) (hc:Chg [] w W) (hd:z9_ W p bL bS bW (fmt (dk0 90) 60 9)) (hn:∀i∈[bL,bS,bW],w.heap.size<=i) (hf:zb_ W gf 44 [.int .i32 102,.int .i64 1,.string ⟨#[57,97,194,174,57,194,169]⟩]) =>
  zii (pg:=2) (ms:=2) (L:=60) (P:=9) (zjb 90) hr2 hd (znz hf) znB (fun _ ad e hm=>by
   injection e with e;subst e;simp only[List.mem_cons,List.not_mem_nil,or_false]at hm;rcases hm with h|h|h
   · exact hf.ne_ (Dsk.last hd) (by decide) h
   · exact hf.ne_ (Dsk.seen hd) (by decide) h
   · exact hf.ne_ (Dsk.wait hd) (by decide) h) (fun W' k=>vt_ hP (yc_ hc k hn)) zmm);have HO2:=hQ_ (fun (W:World)(p bL bS bW:Nat)(hc:Chg [] w W)(hi:gh_ 2 p bL bS bW 60 9 2 2 qtF W)(hn:∀i∈[bL,bS,bW],w.heap.size<=i)(hb2:bL<W.heap.size/\bS<W.heap.size/\bW<W.heap.size) =>
  zcl (by omega) hb2 hi (fun W' k=>vt_ hP (yc_ hc k hn)) zmm);rw[zkL,znD]at HO2;generalize (zI_ 2 2 qtF).1.length=t at HO2;have HKN:=hQ_ (fun (W:World)(hc:Chg [] w W)=>(show Calls Tryz.prog 19 #[] W (fun e w'=>e=.returned (.bool true)/\Chg [] W w') from zib (vt_ hP hc)));have HL:=hQ_ (fun (W:World)(hc:Chg [] w W)=>hS.keep hc);have HSP:=hQ_ hsp;have HLN:=hQ_ hn;generalize xX_ w=PO at HFIN⊢;clear hP hr hr2 hS hsp hn;go_enter Tryz.func6,Tryz.ntmps6;go_upto_region 2 with(
  go_at_call 14;with_reducible refine(HNW.o w).mono ?_
  rintro e w2 ⟨p,bL,bS,bW,rfl,hd,hp,hbL,hbS,hbW,hc⟩;have HD2:=hQ_ hd;have HNB:=hQ_ (show ∀i∈[bL,bS,bW],w.heap.size<=i from fun i hi=>by simp only[List.mem_cons,List.not_mem_nil,or_false]at hi;omega);have HC2:=hQ_ hc;clear hd hp hbL hbS hbW hc);go_upto_region 3 with fail;have HF1:=hQ_ (zb_.new w2 44 [.int .i32 102,.int .i64 1,.string ⟨#[57,97,194,174,57,194,169]⟩]);have hal:=(Chg.refl [] w2).alloc (.cells #[.int .i32 102,.int .i64 1,.string ⟨#[57,97,194,174,57,194,169]⟩] 44);have hsz:(w2.alloc (.cells #[.int .i32 102,.int .i64 1,.string ⟨#[57,97,194,174,57,194,169]⟩] 44)).heap.size=w2.heap.size+1:=Array.size_push _;have HC3:=hQ_ (HC2.o.new hal);have HD3:=hQ_ (Dsk.keep HD2.o hal);rw[<-hsz];generalize w2.heap.size=gf at HF1 hsz⊢;clear hal hsz;generalize w2.alloc (.cells #[.int .i32 102,.int .i64 1,.string ⟨#[57,97,194,174,57,194,169]⟩] 44)=w3 at HF1 HC3 HD3⊢;have hal:=(Chg.refl [] w3).alloc (.cells #[.int .i64 2,.int .i64 2,.slice (some ⟨gf,0,none⟩) 1 1] 25);have HN:=hQ_ (zb_.new w3 25 [.int .i64 2,.int .i64 2,.slice (some ⟨gf,0,none⟩) 1 1]);have HC4:=hQ_ (HC3.o.new hal);have HD4:=hQ_ (show z9_ _ p bL bS bW (dk0 90) from Dsk.keep HD3.o hal);have HF4:=hQ_ (HF1.o.keep hal);generalize w3.heap.size=gu at HN⊢;generalize w3.alloc (.cells #[.int .i64 2,.int .i64 2,.slice (some ⟨gf,0,none⟩) 1 1] 25)=w4 at HN HC4 HD4 HF4⊢;clear hal;have HUT:=hQ_ (show gu∉[bL,bS,bW]/\gf∉[bL,bS,bW] from by
  simp only[List.mem_cons,List.not_mem_nil,or_false];constructor
  · rintro(h|h|h)
    · exact HN.o.ne_ (Dsk.last HD4.o) (by decide) h
    · exact HN.o.ne_ (Dsk.seen HD4.o) (by decide) h
    · exact HN.o.ne_ (Dsk.wait HD4.o) (by decide) h
  · rintro(h|h|h)
    · exact HF4.o.ne_ (Dsk.last HD4.o) (by decide) h
    · exact HF4.o.ne_ (Dsk.seen HD4.o) (by decide) h
    · exact HF4.o.ne_ (Dsk.wait HD4.o) (by decide) h);go_upto_region 5 with(first
  | (go_at_call 15;(with_reducible refine(HFM.o w4 p bL bS bW HD4.o).mono ?_);rintro e w5 ⟨rfl,hd,hc⟩;have HD5:=hQ_ hd;have HC5:=hQ_ (yc_ HC4.o hc HNB.o);have HF5:=hQ_ (HF4.o.chg hc HUT.o.2);have hn5:=HN.o.chg hc HUT.o.1;have u0:=hn5.cell 0;have u1:=hn5.cell 1;have u2:=hn5.cell 2;clear hd hc hn5)
  | (go_at_call 16;(with_reducible refine(HIN.o w5 p bL bS bW gf HC5.o HD5.o HNB.o HF5.o).mono ?_);rintro e w6 ⟨rfl,hi,hc⟩;have HI6:=hQ_ hi;have HC6:=hQ_ (yc_ HC5.o hc HNB.o);have HB6:=hQ_ (show bL<w6.heap.size/\bS<w6.heap.size/\bW<w6.heap.size from by
      have h:=hc.size;have h1:=(Dsk.last HD5.o).lt;have h2:=(Dsk.seen HD5.o).lt;have h3:=(Dsk.wait HD5.o).lt;omega);clear hi hc));clear u0 u1 u2;go_upto_region 6 with(
  go_at_call 17;with_reducible refine(HO2.o w6 p bL bS bW HC6.o HI6.o HNB.o HB6.o).mono ?_
  rintro e w7 ⟨h,g,gN,j,s7,x7,hj,rfl,b1,b2,b3,hH,x1,x3,_,x4,x5,hc⟩;have HB:=hQ_ (show ∀i∈h::SK.W ⟨p,bL,bS,bW,g,gN,[h]⟩,w.heap.size<=i from fun i hi=>by
   have h0:=HC6.o.size;have h1:=HNB.o bL (by simp);have h2:=HNB.o bS (by simp);have h3:=HNB.o bW (by simp);simp only[SK.W,List.mem_cons,List.not_mem_nil,or_false]at hi;omega);have HI7:=hQ_ (show zcT w7 ⟨p,bL,bS,bW,g,gN,[h]⟩ h t 0 0 from⟨s7,x7,j,zH_ 2,hj,by rw[znA];exact hH,rfl,x1,x3,x4,x5⟩);have HC7:=hQ_ (yc_ HC6.o hc HNB.o);clear hj b1 b2 b3 hH x1 x3 x4 x5 hc);generalize (⟨p,bL,bS,bW,g,gN,[h]⟩:SK)=K at HI7 HB;clear HNW HFM HIN HO2 HD2 HNB HC2 HC3 HD3 HC4 HD4 HF1 HF4 HN HUT HD5 HC5 HF5 HI6 HC6 HB6;go_wp2_with (
  go_at_call 20;with_reducible refine HI7.o.store.mono ?_
  rintro e w8 ⟨rfl,rfl⟩);go_loopw [7,8,9] (fun at_ cn i wr=>∃(k q:Nat)(b:UInt8),i=.int .i64 (k:Int)/\cn=.int .i64 (q:Int)/\at_=.int .i64 (b.toNat:Int)/\k<=20/\k<=n/\q<=k/\Hid (zcT wr K h t q b)/\Hid (Chg [] w wr)) (fun _ _ i _=>20-(RowKit.intOf i).toNat);case atStart=>exact⟨0,0,0,rfl,rfl,rfl,by omega,by omega,by omega,HI7,HC7⟩
 case round =>
  obtain⟨k,q,b,rfl,rfl,rfl,hk,hkn,hqk,HI,HCr⟩:=hrel;have HQK:=hQ_ (And.intro hqk (And.intro hk hkn));by_cases hlt:k<n;rotate_left
  · have hkI:¬(k:Int)<(n:Int):=(by omega);clear hlt hk hkn hqk;go_wp2_with fail;refine(HKN.o wr HCr.o).mono ?_;rintro e wk ⟨rfl,hck⟩;have HCk:=hQ_ (HCr.o.new hck);clear hck;go_wp2_with fail;exact HFIN.o _ HCk.o
  have hkI:(k:Int)<(n:Int):=by omega
  by_cases hl20:k<20;rotate_left
  · have hk2:¬(k:Int)<20:=(by omega);clear hlt hk hkn hqk hl20;go_wp2_with fail;refine(HKN.o wr HCr.o).mono ?_;rintro e wk ⟨rfl,hck⟩;have HCk:=hQ_ (HCr.o.new hck);clear hck;go_wp2_with fail;exact HFIN.o _ HCk.o
  have hk2:(k:Int)<20:=by omega
  have hk0:(0:Int)<=(k:Int):=by omega
  have HK20:=hQ_ hl20;obtain⟨v,hv⟩:∃v,l[k]?=some v:=⟨_,List.getElem?_eq_getElem (by rw[HLN.o];exact hlt)⟩;obtain⟨ad,rfl,_,_⟩:=HL.o wr HCr.o (by unfold nms;rw[List.length_map,HLN.o];omega);obtain⟨gA,oA,sA⟩:=ad;have hs0:sA=none:=HSP.o (by omega) _ rfl;subst hs0;have HV:=hQ_ (fun (W:World)(hc:Chg [] w W)=>show W.cell? ⟨gA,oA+k,none⟩=some (.int .i64 v) from by
   obtain⟨ad,e,_,hcell⟩:=HL.o W hc (by unfold nms;rw[List.length_map,HLN.o];omega);injection e with e;subst e;have h:=hcell k _ (by unfold nms;rw[List.getElem?_map,hv];rfl);rw[zqe]at h;exact h);have v0:=HV.o wr HCr.o;clear hlt hk hkn hqk hl20 hv;go_upto_region 13 with fail;go_wp2_with fail;have hal:=(Chg.refl [] wr).alloc (.cells #[.iface 2 (.int .i64 v)] 20);have HA4:=hQ_ (HI.o.keep hal);have HC4:=hQ_ (HCr.o.new hal);have HG4:=hQ_ (zb_.new wr 20 [.iface 2 (.int .i64 v)]);generalize wr.heap.size=g4 at HG4⊢;generalize wr.alloc (.cells #[.iface 2 (.int .i64 v)] 20)=w4' at HA4 HC4 HG4⊢;clear hal v0;refine(znE HA4.o (by have:=HQK.o;have:=HK20.o;omega) v g4 HG4.o).mono ?_;rintro e w5' ⟨A5,m5,d5,rfl,hA,hc⟩;have HC5:=hQ_ (yc_ HC4.o hc HB.o);obtain⟨q',hq'⟩:∃q',q'=if b=yp_ v 0 then q else q+1:=⟨_,rfl⟩;rw[<-hq']at hA;have HA5:=hQ_ hA;have HQ':=hQ_ hq';have hms:bits .and .i64 v 255=((yp_ v 0).toNat:Int):=znC v;obtain⟨b',hb'⟩:∃b',b'=yp_ v 0:=⟨_,rfl⟩;rw[<-hb']at HA5 HQ' hms⊢;have HB':=hQ_ hb';clear hA hc hq' hb';go_upto_region 14 with fail;have hal:=(Chg.refl [] w5').alloc (.cells #[.int .i64 (b'.toNat:Int),.int .i64 0,.int .i64 25,.slice A5 m5 d5] 32);have HA6:=hQ_ (HA5.o.keep hal);have HC6:=hQ_ (HC5.o.new hal);have HX6:=hQ_ (zb_.new w5' 32 [.int .i64 (b'.toNat:Int),.int .i64 0,.int .i64 25,.slice A5 m5 d5]);generalize w5'.heap.size=g6 at HX6⊢;generalize w5'.alloc (.cells #[.int .i64 (b'.toNat:Int),.int .i64 0,.int .i64 25,.slice A5 m5 d5] 32)=w6' at HA6 HC6 HX6⊢;clear hal;have x0:=HX6.o.cell 0;have v0:=HV.o w6' HC6.o;go_quiet (fail);obtain⟨w7',hw7⟩:∃w7',w7'=w6'.drewN nq:=⟨_,rfl⟩;have HD7:=hQ_ (show Chg [] w6' w7' from by rw[hw7];exact(Chg.refl [] w6').drewN nq);rw[<-hw7];have HA7:=hQ_ (HA6.o.keep HD7.o);have HC7':=hQ_ (HC6.o.new HD7.o);clear x0 v0 hms hw7;have x0:=(HX6.o.keep HD7.o).cell 0;have hbw:IntKind.i64.wrap ((k:Int)+1)=(k:Int)+1:=IntWalk.i64_in _ (by have:=HK20.o;omega);have hkb:q<=20:=by have:=HQK.o;omega
  by_cases hb:b=b'
  · have hqq:q'=q:=(by rw[HQ'.out,if_pos hb]);subst hb;have hne:((b.toNat:Int) != (b.toNat:Int))=false:=(by simp);subst hqq;go_upto_region 19 with fail;have HQL:=hQ_ (show q'<=21 from by omega);have hm84:IntKind.i64.wrap ((q':Int)*84)=(q':Int)*84:=IntWalk.i64_in _ (by have:=HQL.o;omega);have hu32:IntKind.u32.wrap (q':Int)=(q':Int):=(by have:=HQL.o;rw[IntKind.wrap_u32];omega);clear HQ' hkb;go_wp2_with (first
     | (go_at_call 18;(with_reducible refine HA7.o.calls.mono ?_);rintro e w8' ⟨rfl,rfl⟩)
     | (go_at_call 20;(with_reducible refine HA7.o.store.mono ?_);rintro e w8' ⟨rfl,rfl⟩)
     | (go_at_call 21;(with_reducible refine(HA7.o.used).mono ?_);rintro e w8' ⟨rfl,rfl⟩)
     | (go_at_call 22;(with_reducible refine(HA7.o.seq).mono ?_);rintro e w8' ⟨rfl,rfl⟩));go_roundw;(case rel=>exact⟨k+1,q',b,by go_num,rfl,rfl,by have:=HK20.o;omega,by have:=HQK.o;omega,by have:=HQK.o;omega,HA7,HC7'⟩);case measure=>simp[RowKit.intOf];have:=HK20.o;omega
  · have hqq:q'=q+1:=(by rw[HQ'.out,if_neg hb]);have hne:((b'.toNat:Int) != (b.toNat:Int))=true:=(by
     simp only[bne_iff_ne,ne_eq];intro h;exact hb (UInt8.toNat_inj.1 (by omega)));have hwq:IntKind.i64.wrap ((q:Int)+1)=(q':Int):=(by rw[IntWalk.i64_in _ (by omega)];omega);have HQQ:=hQ_ hqq;clear hqq;go_upto_region 19 with fail;have HQL:=hQ_ (show q'<=21 from by have:=HQQ.o;omega);have hm84:IntKind.i64.wrap ((q':Int)*84)=(q':Int)*84:=IntWalk.i64_in _ (by have:=HQL.o;omega);have hu32:IntKind.u32.wrap (q':Int)=(q':Int):=(by have:=HQL.o;rw[IntKind.wrap_u32];omega);clear HQ' hkb hwq hne hb;go_wp2_with (first
     | (go_at_call 18;(with_reducible refine HA7.o.calls.mono ?_);rintro e w8' ⟨rfl,rfl⟩)
     | (go_at_call 20;(with_reducible refine HA7.o.store.mono ?_);rintro e w8' ⟨rfl,rfl⟩)
     | (go_at_call 21;(with_reducible refine(HA7.o.used).mono ?_);rintro e w8' ⟨rfl,rfl⟩)
     | (go_at_call 22;(with_reducible refine(HA7.o.seq).mono ?_);rintro e w8' ⟨rfl,rfl⟩));go_roundw;(case rel=>exact⟨k+1,q',b',by go_num,rfl,rfl,by have:=HK20.o;omega,by have:=HQK.o;omega,by have:=HQK.o;have:=HQQ.o;omega,HA7,HC7'⟩);case measure=>simp[RowKit.intOf];have:=HK20.o;omega
end
end
section
open Go.RowKit
def tyF:List FnV:=[⟨102,3,⟨#[97,98,43,99,43]⟩⟩]
theorem zjV:tyF.map z2_=tyF:=by kernel_rfl
theorem gk_:RightU 0 0 tyF:=by
 refine⟨by decide,by decide,by decide,by simp[tyF],fun k f hf=>?_,fun k hk=>?_,fun f hf=>?_⟩
 · rcases k with _|k
   · simp only[tyF,List.getElem?_cons_zero,Option.some.injEq]at hf;subst hf;exact⟨by decide,by decide,by decide,by decide⟩
   · simp[tyF]at hf
 · have hk2:k<1:=hk;obtain rfl:k=0:=(by omega);decide +kernel
 · simp only[tyF,List.mem_cons,List.not_mem_nil,or_false]at hf;subst hf;decide
theorem zmW:∀f∈tyF,-9223372036854775808<=f.args/\f.args<=9223372036854775807:=by decide
theorem zmS:∀f∈tyF,f.code.size<=9223372036854775807:=by decide
theorem zmh:Fit 0 0 tyF 20 9:=⟨by decide +kernel,by decide +kernel,by decide +kernel⟩
theorem zmU:1+zs_ (zI_ 0 0 tyF).1.length=2:=by decide +kernel
theorem ty_f (a b c:Int):eDo tyF [] 0 0 30 [a,b,c] [] [] []=some (wrap64 (wrap64 (a+b)+c),0,⟨25,[],[],[],[],[]⟩):=by kernel_rfl
end
section
open Go.RowKit
open Go.Lib
theorem zdg {g:Nat}:∀ad,(some (⟨g,0,none⟩:Addr))=some ad->ad.spot=none:=fun ad e=>by injection e with e;subst e;rfl
def zmb (wr:World)(K:SK)(h t:Nat):Prop :=
 ∃s x j,j.h=h/\Ho wr K s x j ⟨0,0,tyF,t,2,0,[],[],0⟩/\x.L=20/\x.P=9/\x.used=0
theorem zmb.keep {w w':World}{K:SK}{h t:Nat}(hA:zmb w K h t)(hc:Chg [] w w'):zmb w' K h t:=by
 obtain⟨s,x,j,h1,h2,h3⟩:=hA;exact⟨s,x,j,h1,h2.keep hc,h3⟩
section
variable {w:World} {K:SK} {h t:Nat}
theorem zmV (hA:zmb w K h t)(n:Int)(S:ByteArray)(hS:S.size<=9223372036854775807)(b:Bool)(g:Nat)(hg:zb_ w g 20 [.iface 2 (.int .i64 n),.iface 9 (.string S),.iface 4 (.bool b)]) :
    Calls Tryz.prog 9 #[.pointer (some ⟨h,0,none⟩),.int .i32 102,.int .i64 30,.slice none 0 0,.slice (some ⟨g,0,none⟩) 3 3] w (fun e w'=>∃A m d,e=.returned (.tuple #[.agg #[.int .i64 (wrap64 (wrap64 (n+(x3_ S:Nat))+(if b then 1 else 0))),.int .i64 0,.int .i64 25,.slice A m d],.int .i64 0])/\Chg [] w w'):=by
 obtain⟨s,x,j,rfl,hH,hL,hP,hu⟩:=hA;have hdo:eDo tyF (([]:List (Option Int)).take 0) 0 0 30 [n,(x3_ S:Nat),(if b then 1 else 0)] [] (zH_ 0) []=some (wrap64 (wrap64 (n+(x3_ S:Nat))+(if b then 1 else 0)),0,⟨25,[],[],[],[],[]⟩):=ty_f _ _ _;refine(gN_ (fuel:=30) (nR:=0) (nA:=3) (vR:=[]) (rR:=[]) (vA:=[.iface 2 (.int .i64 n),.iface 9 (.string S),.iface 4 (.bool b)]) (ns:=[n,(x3_ S:Nat),(if b then 1 else 0)]) hH gk_ rfl rfl rfl (by omega) rfl hdo rfl (by show(0:Nat)<=1000000;omega) rfl (by show 2+0<=x.P;omega) (by show x.used+18+66*0<=64*x.L;omega)
   xo_.nil (fun h=>absurd h (by simp)) (fun ad e=>by cases e) rfl (Nat.le_refl _) (xo_.cons (.i64 n) (xo_.cons (.str S hS) (xo_.cons (.bool b) xo_.nil))) (Src.of_all hg) zdg rfl (by omega)).mono fun e w' hr=>?_;obtain⟨A,m,d,he,_,⟨_,h2⟩|⟨h0,_⟩⟩:=hr
 · exact⟨A,m,d,he,h2⟩
 · exact absurd rfl h0
theorem zpa (n:Int)(S:ByteArray)(hS:S.size<=9223372036854775807)(g:Nat)(hg:zb_ w g 20 [.iface 2 (.int .i64 n),.iface 9 (.string S),.nilIface]) :
    Calls Tryz.prog 9 #[.pointer (some ⟨h,0,none⟩),.int .i32 102,.int .i64 30,.slice none 0 0,.slice (some ⟨g,0,none⟩) 3 3] w (vj_ w 27) :=
 q6_ (z:=2) (nA:=3) (vA:=[.iface 2 (.int .i64 n),.iface 9 (.string S),.nilIface]) (rs:=[some n,some ((x3_ S:Nat):Int),none]) (xo_.cons (.i64 n) (xo_.cons (.str S hS) (xo_.cons .nil xo_.nil))) rfl (fun i hi=>by
  rcases i with _|_|i
  · exact⟨_,rfl⟩
  · exact⟨_,rfl⟩
  · omega) (Src.of_all hg) zdg rfl (by omega)
theorem zpb (hA:zmb w K h t)(n:Int)(S:ByteArray)(hS:S.size<=9223372036854775807)(g:Nat)(hg:zb_ w g 20 [.iface 2 (.int .i64 n),.iface 9 (.string S)]) :
    Calls Tryz.prog 9 #[.pointer (some ⟨h,0,none⟩),.int .i32 102,.int .i64 30,.slice none 0 0,.slice (some ⟨g,0,none⟩) 2 2] w (vj_ w 1):=by
 obtain⟨s,x,j,rfl,hH,_⟩:=hA;exact zim (fuel:=30) (nR:=0) (nA:=2) (vR:=[]) (rR:=[]) (vA:=[.iface 2 (.int .i64 n),.iface 9 (.string S)]) (ns:=[n,(x3_ S:Nat)]) (kk:=0) (f:=⟨102,3,⟨#[97,98,43,99,43]⟩⟩) hH gk_ rfl rfl (by show(3:Int)≠2;decide) (by omega)
   xo_.nil (fun h=>absurd h (by simp)) (fun ad e=>by cases e) rfl (Nat.le_refl _) (xo_.cons (.i64 n) (xo_.cons (.str S hS) xo_.nil)) (Src.of_all hg) zdg rfl (by omega)
theorem zmT (hA:zmb w K h t):Calls Tryz.prog 9 #[.pointer (some ⟨h,0,none⟩),.int .i32 113,.int .i64 30,.slice none 0 0,.slice none 0 0] w (vj_ w 22):=by
 obtain⟨s,x,j,rfl,hH,_⟩:=hA;exact zfr (fuel:=30) (nR:=0) (nA:=0) (vR:=[]) (rR:=[]) (vA:=[]) (ns:=[]) hH gk_ rfl (by omega) xo_.nil (fun h=>absurd h (by simp)) (fun ad e=>by cases e) rfl (Nat.le_refl _) xo_.nil (fun h=>absurd h (by simp)) (fun ad e=>by cases e) rfl (by omega)
theorem zmb.calls (hA:zmb w K h t):Calls Tryz.prog 18 #[.pointer (some ⟨h,0,none⟩)] w (fun e w'=>e=.returned (.int .i64 0)/\w=w'):=by
 obtain⟨s,x,j,rfl,hH,_⟩:=hA;exact kI_ hH
end
theorem zmR {W:World}{g:Nat}(h:zb_ W g 44 [.int .i32 102,.int .i64 3,.string ⟨#[97,98,43,99,43]⟩]):Fnr W (some ⟨g,0,none⟩) 1 1 tyF :=
 ⟨rfl,Src.of_all h,Nat.le_refl _,by omega,fun _=>zdg,zmW⟩
section
variable {w:World}
theorem gI_ (n:Int) (S0:ByteArray) (bo:Bool) (hS:S0.size<=9223372036854775807) (hP:vG_ w.heap.size w):Calls Tryz.prog 5 #[.int .i64 n,.string S0,.bool bo] w (xX_ w):=by
 have HFIN:=hQ_ (show ∀W,Chg [] w W->xX_ w (.returned (.bool true)) W from fun W h=>⟨rfl,h⟩);have hr:zp_ (20:Nat) (9:Nat) 1 ((60:Nat):Int)=true:=zi_.2 ⟨by omega,by omega,by omega,by omega,by omega,by omega⟩;have hr2:zp_ (20:Nat) (9:Nat) 1 (dk0 60).V.length=true:=by rw[qd_];exact hr
 have HNW:=hQ_ (fun (W:World)=>(show Calls Tryz.prog 14 #[.int .i64 60] W (fun e w'=>∃p bL bS bW,e=.returned (.pointer (some ⟨p,0,none⟩))/\z9_ w' p bL bS bW (dk0 60)/\W.heap.size<=p/\W.heap.size<=bL/\W.heap.size<=bS/\W.heap.size<=bW/\Chg [] W w') from zcL (w:=W) 60 (by omega) (by omega)));have HFM:=hQ_ (fun (W:World)(p bL bS bW:Nat)(hd:z9_ W p bL bS bW (dk0 60))=>(show Calls Tryz.prog 15 #[.pointer (some ⟨p,0,none⟩),.int .i64 20,.int .i64 9] W (fun e w'=>e=.returned (.int .i64 0)/\z9_ w' p bL bS bW (fmt (dk0 60) 20 9)/\Chg [bL,bS,bW] W w') from qa_ (L:=20) (P:=9) hd hr));have HIN:=hQ_ (fun (W:World)(p bL bS bW gf:Nat)(hc:Chg [] w W)(hd:z9_ W p bL bS bW (fmt (dk0 60) 20 9))(hn:∀i∈[bL,bS,bW],w.heap.size<=i)(hf:zb_ W gf 44 [.int .i32 102,.int .i64 3,.string ⟨#[97,98,43,99,43]⟩]) =>
  zii (pg:=0) (ms:=0) (L:=20) (P:=9) (zjb 60) hr2 hd (zmR hf) zmS (fun _ ad e hm=>by
   injection e with e;subst e;simp only[List.mem_cons,List.not_mem_nil,or_false]at hm;rcases hm with h|h|h
   · exact hf.ne_ (Dsk.last hd) (by decide) h
   · exact hf.ne_ (Dsk.seen hd) (by decide) h
   · exact hf.ne_ (Dsk.wait hd) (by decide) h) (fun W' k=>vt_ hP (yc_ hc k hn)) zmh);have HO2:=hQ_ (fun (W:World)(p bL bS bW:Nat)(hc:Chg [] w W)(hi:gh_ 2 p bL bS bW 20 9 0 0 tyF W)(hn:∀i∈[bL,bS,bW],w.heap.size<=i)(hb2:bL<W.heap.size/\bS<W.heap.size/\bW<W.heap.size) =>
  zcl (by omega) hb2 hi (fun W' k=>vt_ hP (yc_ hc k hn)) zmh);rw[zjV,zmU]at HO2;generalize (zI_ 0 0 tyF).1.length=t at HO2;have HKN:=hQ_ (fun (W:World)(hc:Chg [] w W)=>(show Calls Tryz.prog 19 #[] W (fun e w'=>e=.returned (.bool true)/\Chg [] W w') from zib (vt_ hP hc)));generalize xX_ w=PO at HFIN⊢;clear hP hr hr2;go_enter Tryz.func5,Tryz.ntmps5;go_upto_if 23 with fail;go_cut [1] (fun v wx=>∃S:ByteArray,v=.string S/\Hid (S.size<=40)/\wx=w);case first =>
  by_cases hlt:(40:Int)<(S0.size:Int)
  · have h40:(40:Int)<=(S0.size:Int):=(by omega);go_wp2_with fail;go_meet;exact⟨_,rfl,hQ_ (by simp only[ByteArray.size_extract];omega),rfl⟩
  · have h3:=hQ_ (show S0.size<=40 from by omega);go_wp2_with fail;go_meet;exact⟨_,rfl,h3,rfl⟩
 case rest =>
 obtain⟨S,rfl,HSS,hwx⟩:=hcut;have hwx:w=wc:=hwx.symm;subst hwx;go_upto_region 4 with(
  go_at_call 14;with_reducible refine(HNW.o w).mono ?_
  rintro e w2 ⟨p,bL,bS,bW,rfl,hd,hp,hbL,hbS,hbW,hc⟩;have HD2:=hQ_ hd;have HNB:=hQ_ (show ∀i∈[bL,bS,bW],w.heap.size<=i from fun i hi=>by simp only[List.mem_cons,List.not_mem_nil,or_false]at hi;omega);have HC2:=hQ_ hc;clear hd hp hbL hbS hbW hc);go_upto_region 5 with fail;have HF1:=hQ_ (zb_.new w2 44 [.int .i32 102,.int .i64 3,.string ⟨#[97,98,43,99,43]⟩]);have hal:=(Chg.refl [] w2).alloc (.cells #[.int .i32 102,.int .i64 3,.string ⟨#[97,98,43,99,43]⟩] 44);have hsz:(w2.alloc (.cells #[.int .i32 102,.int .i64 3,.string ⟨#[97,98,43,99,43]⟩] 44)).heap.size=w2.heap.size+1:=Array.size_push _;have HC3:=hQ_ (HC2.o.new hal);have HD3:=hQ_ (Dsk.keep HD2.o hal);rw[<-hsz];generalize w2.heap.size=gf at HF1 hsz⊢;clear hal hsz;generalize w2.alloc (.cells #[.int .i32 102,.int .i64 3,.string ⟨#[97,98,43,99,43]⟩] 44)=w3 at HF1 HC3 HD3⊢;have hal:=(Chg.refl [] w3).alloc (.cells #[.int .i64 0,.int .i64 0,.slice (some ⟨gf,0,none⟩) 1 1] 25);have HN:=hQ_ (zb_.new w3 25 [.int .i64 0,.int .i64 0,.slice (some ⟨gf,0,none⟩) 1 1]);have HC4:=hQ_ (HC3.o.new hal);have HD4:=hQ_ (show z9_ _ p bL bS bW (dk0 60) from Dsk.keep HD3.o hal);have HF4:=hQ_ (HF1.o.keep hal);generalize w3.heap.size=gu at HN⊢;generalize w3.alloc (.cells #[.int .i64 0,.int .i64 0,.slice (some ⟨gf,0,none⟩) 1 1] 25)=w4 at HN HC4 HD4 HF4⊢;clear hal;have HUT:=hQ_ (show gu∉[bL,bS,bW]/\gf∉[bL,bS,bW] from by
  simp only[List.mem_cons,List.not_mem_nil,or_false];constructor
  · rintro(h|h|h)
    · exact HN.o.ne_ (Dsk.last HD4.o) (by decide) h
    · exact HN.o.ne_ (Dsk.seen HD4.o) (by decide) h
    · exact HN.o.ne_ (Dsk.wait HD4.o) (by decide) h
  · rintro(h|h|h)
    · exact HF4.o.ne_ (Dsk.last HD4.o) (by decide) h
    · exact HF4.o.ne_ (Dsk.seen HD4.o) (by decide) h
    · exact HF4.o.ne_ (Dsk.wait HD4.o) (by decide) h);go_upto_region 7 with(first
  | (go_at_call 15;(with_reducible refine(HFM.o w4 p bL bS bW HD4.o).mono ?_);rintro e w5 ⟨rfl,hd,hc⟩;have HD5:=hQ_ hd;have HC5:=hQ_ (yc_ HC4.o hc HNB.o);have HF5:=hQ_ (HF4.o.chg hc HUT.o.2);have hn5:=HN.o.chg hc HUT.o.1;have u0:=hn5.cell 0;have u1:=hn5.cell 1;have u2:=hn5.cell 2;clear hd hc hn5)
  | (go_at_call 16;(with_reducible refine(HIN.o w5 p bL bS bW gf HC5.o HD5.o HNB.o HF5.o).mono ?_);rintro e w6 ⟨rfl,hi,hc⟩;have HI6:=hQ_ hi;have HC6:=hQ_ (yc_ HC5.o hc HNB.o);have HB6:=hQ_ (show bL<w6.heap.size/\bS<w6.heap.size/\bW<w6.heap.size from by
      have h:=hc.size;have h1:=(Dsk.last HD5.o).lt;have h2:=(Dsk.seen HD5.o).lt;have h3:=(Dsk.wait HD5.o).lt;omega);clear hi hc));clear u0 u1 u2;go_upto_region 10 with(
  go_at_call 17;with_reducible refine(HO2.o w6 p bL bS bW HC6.o HI6.o HNB.o HB6.o).mono ?_
  rintro e w7 ⟨h,g,gN,j,s7,x7,hj,rfl,b1,b2,b3,hH,x1,x3,_,x4,x5,hc⟩;have HB:=hQ_ (show ∀i∈h::SK.W ⟨p,bL,bS,bW,g,gN,[h]⟩,w.heap.size<=i from fun i hi=>by
   have h0:=HC6.o.size;have h1:=HNB.o bL (by simp);have h2:=HNB.o bS (by simp);have h3:=HNB.o bW (by simp);simp only[SK.W,List.mem_cons,List.not_mem_nil,or_false]at hi;omega);have HI7:=hQ_ (show zmb w7 ⟨p,bL,bS,bW,g,gN,[h]⟩ h t from⟨s7,x7,j,hj,hH,x1,x3,x4⟩);have HC7:=hQ_ (yc_ HC6.o hc HNB.o);clear hj b1 b2 b3 hH x1 x3 x4 x5 hc);generalize (⟨p,bL,bS,bW,g,gN,[h]⟩:SK)=K at HI7 HB;clear HNW HFM HIN HO2 HD2 HNB HC2 HC3 HD3 HC4 HD4 HF1 HF4 HN HUT HD5 HC5 HF5 HI6 HC6 HB6;have hss:=HSS.o;have HCN:=hQ_ (show ∀pos b,S.size<=pos+b->pos<S.size->∃c,b=c+1/\zji S b pos=zji S c (pos+(Utf8.decode S pos).2)+1 from fun pos b h1 h2=>zbx S b pos h2 h1);clear hss;go_wp2_with fail;go_loopw [11] (fun n wr=>∃(pos b acc:Nat),wr=w7.iter S pos/\n=.int .i64 (acc:Int)/\Hid (acc<=pos/\acc+zji S b pos=x3_ S/\S.size<=pos+b)) (fun _ wr=>S.size-wr.iterPos w7.heap.size);case atStart=>exact⟨0,S.size,0,rfl,rfl,hQ_ ⟨Nat.le_refl _,by unfold x3_;omega,by omega⟩⟩
 case round =>
  obtain⟨pos,b,acc,rfl,rfl,HI⟩:=hrel;by_cases hlt:pos<S.size
  · obtain⟨c,rfl,hn⟩:=HCN.o pos b HI.o.2.2 hlt;have hw:=qQ_ S pos hlt;have HN':=hQ_ hn;have hb:IntKind.i64.wrap ((acc:Int)+1)=(acc:Int)+1:=IntWalk.i64_in _ (by have:=HI.o;have:=HSS.o;omega);clear hn;have hnx:=run_next_any (P:=Tryz.prog) w7 S pos;go_wp2_with fail;go_roundw;(case rel=>exact⟨_,c,acc+1,rfl,by go_num,hQ_ ⟨by have:=HI.o;omega,by have:=HN'.out;have:=HI.o;omega,by have:=HI.o;omega⟩⟩);case measure=>simp;omega
  · have hne:=run_next_end (P:=Tryz.prog) w7 S pos;have HACC:=hQ_ (show acc=x3_ S from by
     have h1:=HI.o.2.1;rw[zee S b pos hlt]at h1;omega);have HC8:=hQ_ (HC7.o.new (g3_ w7 S pos));have HI8:=hQ_ (HI7.o.keep (g3_ w7 S pos));go_upto_region 14 with fail;generalize w7.iter S pos=w8 at HC8 HI8⊢;have HTC:=hQ_ (fun (W:World)(hc:Chg [] w8 W)(g:Nat)(hg:zb_ W g 20 [.iface 2 (.int .i64 n),.iface 9 (.string S),.iface 4 (.bool bo)])=>zmV (HI8.o.keep hc) n S (by have:=HSS.o;omega) bo g hg);have HTN:=hQ_ (fun (W:World)(g:Nat)(hg:zb_ W g 20 [.iface 2 (.int .i64 n),.iface 9 (.string S),.nilIface])=>zpa (h:=h) n S (by have:=HSS.o;omega) g hg);have HTF:=hQ_ (fun (W:World)(hc:Chg [] w8 W)(g:Nat)(hg:zb_ W g 20 [.iface 2 (.int .i64 n),.iface 9 (.string S)])=>zpb (HI8.o.keep hc) n S (by have:=HSS.o;omega) g hg);have HT0:=hQ_ (fun (W:World)(hc:Chg [] w8 W)=>zmT (HI8.o.keep hc));have HTK:=hQ_ (fun (W:World)(hc:Chg [] w8 W)=>(HI8.o.keep hc).calls);unfold vj_ at HTN HTF HT0;rw[<-HACC.o]at HTC;obtain⟨on,hon⟩:∃on:Int,on=if bo=true then 1 else 0:=⟨_,rfl⟩;rw[<-hon]at HTC;clear hne hlt HI HACC HI8 HCN HSS HC7 HI7;obtain⟨sm,hsm⟩:∃sm,sm=wrap64 (wrap64 (n+(acc:Int))+on):=⟨_,rfl⟩;rw[<-hsm]at HTC;have HSM:=hQ_ hsm;clear hsm;cases bo;all_goals
      simp only[Bool.false_eq_true,if_false,if_true]at hon;subst hon;go_upto_region 16 with fail;go_wp2_with fail;refine(HTC.o _ ((Chg.refl [] w8).alloc _) _ (zb_.new w8 _ _)).mono ?_;rintro e w9 ⟨A9,m9,d9,rfl,hc⟩;have HC9:=hQ_ (((Chg.refl [] w8).alloc _).trans hc);clear hc;go_upto_region 17 with fail;have HX:=hQ_ (zb_.new w9 32 [.int .i64 sm,.int .i64 0,.int .i64 25,.slice A9 m9 d9]);have HC10:=hQ_ (HC9.o.alloc (.cells #[.int .i64 sm,.int .i64 0,.int .i64 25,.slice A9 m9 d9] 32));generalize w9.heap.size=gx at HX⊢;generalize w9.alloc (.cells #[.int .i64 sm,.int .i64 0,.int .i64 25,.slice A9 m9 d9] 32)=w10 at HX HC10⊢;go_wp2_with fail;refine(HTN.o _ _ (zb_.new w10 _ _)).mono ?_;rintro e w11 ⟨rfl,hc⟩;have HC11:=hQ_ (((Chg.refl [] w10).alloc _).trans hc);clear hc;go_upto_region 18 with fail;have HX12:=hQ_ ((HX.o.keep HC11.o).keep ((Chg.refl [] w11).alloc (.cells #[.int .i64 0,.int .i64 0,.int .i64 0,.slice none 0 0] 32)));have HC12:=hQ_ ((HC10.o.trans HC11.o).alloc (.cells #[.int .i64 0,.int .i64 0,.int .i64 0,.slice none 0 0] 32));generalize w11.alloc (.cells #[.int .i64 0,.int .i64 0,.int .i64 0,.slice none 0 0] 32)=w12 at HX12 HC12⊢;go_wp2_with fail;refine(HTF.o _ (HC12.o.alloc _) _ (zb_.new w12 _ _)).mono ?_;rintro e w13 ⟨rfl,hc⟩;have HC13:=hQ_ (((Chg.refl [] w12).alloc _).trans hc);clear hc;go_upto_region 19 with fail;have HX14:=hQ_ ((HX12.o.keep HC13.o).keep ((Chg.refl [] w13).alloc (.cells #[.int .i64 0,.int .i64 0,.int .i64 0,.slice none 0 0] 32)));have HC14:=hQ_ ((HC12.o.trans HC13.o).alloc (.cells #[.int .i64 0,.int .i64 0,.int .i64 0,.slice none 0 0] 32));generalize w13.alloc (.cells #[.int .i64 0,.int .i64 0,.int .i64 0,.slice none 0 0] 32)=w14 at HX14 HC14⊢;go_wp2_with fail;refine(HT0.o _ HC14.o).mono ?_;rintro e w15 ⟨rfl,hc⟩;have HX15:=hQ_ (HX14.o.keep hc);have HC15:=hQ_ (HC14.o.trans hc);clear hc;go_upto_region 20 with fail;have x0:=(HX15.o.keep ((Chg.refl [] w15).alloc (.cells #[.int .i64 0,.int .i64 0,.int .i64 0,.slice none 0 0] 32))).cell 0;have HC16:=hQ_ (HC15.o.alloc (.cells #[.int .i64 0,.int .i64 0,.int .i64 0,.slice none 0 0] 32));generalize w15.alloc (.cells #[.int .i64 0,.int .i64 0,.int .i64 0,.slice none 0 0] 32)=w16 at x0 HC16⊢;go_wp2_with (first
       | (go_at_call 18;(with_reducible refine(HTK.o w16 HC16.o).mono ?_);rintro e w17 ⟨rfl,rfl⟩)
       | (go_at_call 19;(with_reducible refine(HKN.o w16 (HC8.o.new HC16.o)).mono ?_);rintro e w17 ⟨rfl,hc⟩;have HCE:=hQ_ (HC8.o.new (HC16.o.trans hc));clear hc));all_goals first
        | exact HFIN.o _ HCE.o
        | (exfalso;rename_i hx;exact hx (by have h:=HSM.o;simpa using h))
end
end
end Go.Proofs.YtcbcfcdmdedefaaGreatDoor
