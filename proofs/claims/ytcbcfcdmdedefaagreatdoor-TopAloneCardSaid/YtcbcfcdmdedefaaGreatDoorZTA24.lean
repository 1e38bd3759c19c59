import Derived.Test.YtcbcfcdmdedefaaGreatDoorZTA23
set_option maxRecDepth 100000
set_option maxHeartbeats 16000000
namespace Go.Proofs.YtcbcfcdmdedefaaGreatDoor
section
open Go.RowKit
def z4:List Value:=[.int .i64 0,.int .i64 0,.int .i64 0,.slice none 0 0]
theorem ge_ {W:World}{g t:Nat}(h:zb_ W g t [.int .i64 0,.int .i64 0,.int .i64 0,.slice none 0 0]):zb_ ((((W.setCell ⟨g,0,none⟩ (.int .i64 0)).setCell ⟨g,1,none⟩ (.int .i64 0)).setCell ⟨g,2,none⟩ (.int .i64 0)).setCell ⟨g,3,none⟩ (.slice none 0 0)) g t [.int .i64 0,.int .i64 0,.int .i64 0,.slice none 0 0]:=by
 have hS:=(((h.set_ 0 (.int .i64 0)).set_ 1 (.int .i64 0)).set_ 2 (.int .i64 0)).set_ 3 (.slice none 0 0);simp only[List.set_cons_succ,List.set_cons_zero]at hS;exact hS
theorem zjs {w W:World}{g:Nat}(h:Chg [] w W)(hg:w.heap.size<=g):Chg [] w ((((W.setCell ⟨g,0,none⟩ (.int .i64 0)).setCell ⟨g,1,none⟩ (.int .i64 0)).setCell ⟨g,2,none⟩ (.int .i64 0)).setCell ⟨g,3,none⟩ (.slice none 0 0)) :=
 (((h.setCell (p:=⟨g,0,none⟩) (fun hlt=>by simp only at hlt;omega) _).setCell (p:=⟨g,1,none⟩) (fun hlt=>by simp only at hlt;omega) _).setCell (p:=⟨g,2,none⟩) (fun hlt=>by simp only at hlt;omega) _).setCell (p:=⟨g,3,none⟩) (fun hlt=>by simp only at hlt;omega) _
section
variable {w:World} {k:SK} {s:St} {x:SV} {j:HK} {y:HV} {AR AA:Option Addr} {nR cR nA cA fuel:Nat} {vR vA:List Value} {rR:List (Option Int)} {ns:List Int} {name:Int}
theorem zfm (h:Ho w k s x j y)(hU:RightU y.pg y.ms y.fs)(hk:yY_ y.fs name=-1)(hfu:fuel<=1048576)
    (hNR:jb_ vR rR) (hsR:Src w AR vR) (hAR:∀ad,AR=some ad->ad.spot=none) (hnR:vR.length=nR) (hcR:nR<=cR) (hmR:nR<=1000000)
    (hNA:jb_ vA (ns.map some)) (hsA:Src w AA vA) (hAA:∀ad,AA=some ad->ad.spot=none) (hnA:vA.length=nA) (hmA:nA<=1000000) :
    Calls Tryz.prog 9 #[.pointer (some ⟨j.h,0,none⟩),.int .i32 name,.int .i64 (fuel:Int),.slice AR nR cR,.slice AA nA cA] w (g4_ w 22):=by
 have HH:=hQ_ h;have HFIN:=hQ_ (show ∀W,Chg [] w W->g4_ w 22 (.returned (.tuple #[.agg #[.int .i64 0,.int .i64 0,.int .i64 0,.slice none 0 0],.int .i64 22])) W from fun W h=>⟨rfl,h⟩);generalize g4_ w 22=PO at HFIN⊢;obtain⟨mR,hmq⟩:∃m:Nat,(m:Int)=min (nR:Int) 64:=⟨min nR 64,by omega⟩;have HAL:=hQ_ (fun (W:World) (hc:Chg [] w W)=>zjE (c:=cA) hNA (hsA.keep hc) hAA hnA hmA);unfold zjR at HAL;have HRN:=hQ_ (fun (W:World) (hc:Chg [] w W)=>gq_ (c:=cR) hNR (hsR.keep hc) hAR hnR hcR mR hmq);unfold zoK at HRN;have HCP:=hQ_ (fun (W:World) (hc:Chg [] w W)=>(show Calls Tryz.prog 24 #[.pointer (some ⟨j.pm,0,none⟩)] W (fun e w'=>∃p,e=.returned (.pointer (some ⟨p,0,none⟩))/\Chg [] W w') from by
  obtain⟨X,Y,hM⟩:=(h.keep hc).mm;refine(zaP hM).mono ?_;rintro e w' ⟨p,gC,gD,rfl,_,_,_,_,hc'⟩;exact⟨p,rfl,hc'⟩));have HRU:=hQ_ (fun (W:World)(hc:Chg [] w W)(p rp:Nat)(A2:Option Addr)(m2 c2:Nat)=>zkG (p:=p) (rp:=rp) (A2:=A2) (m2:=m2) (c2:=c2) (fuel:=fuel) (h.keep hc).fn hU hk hfu);unfold g4_ yH_ at HRU;clear h hU hk hfu hNR hsR hAR hnR hcR hmR hNA hsA hAA hnA hmA hmq;go_enter Tryz.func9,Tryz.ntmps9;go_upto_region 1 with fail;have hal:=(Chg.refl [] w).alloc (.cells #[.int .i64 0,.int .i64 0,.int .i64 0,.slice none 0 0] 32);have HR1:=hQ_ (zb_.new w 32 [.int .i64 0,.int .i64 0,.int .i64 0,.slice none 0 0]);have HC1:=hQ_ hal;clear hal;obtain⟨gr,hgr⟩:∃gr,gr=w.heap.size:=⟨_,rfl⟩;have HGR:=hQ_ hgr;rw[<-hgr]at HR1⊢;clear hgr;generalize w.alloc (.cells #[.int .i64 0,.int .i64 0,.int .i64 0,.slice none 0 0] 32)=w1 at HR1 HC1⊢;go_upto_region 4 with(
  go_at_call 23;with_reducible refine(HAL.o w1 HC1.o).mono ?_
  rintro e w2 ⟨v,rfl,ho,hc⟩;obtain⟨A2,c2,rfl,_⟩:=zr_ ho;have HC2:=hQ_ (HC1.o.trans hc);have HR2:=hQ_ (HR1.o.keep hc);clear ho hc);obtain⟨_,_,_,_,c4,_⟩:=(HH.o.keep HC2.o).cells;go_upto_region 5 with(
  go_at_call 24;with_reducible refine(HCP.o w2 HC2.o).mono ?_
  rintro e w3 ⟨p2,rfl,hc⟩;have HC3:=hQ_ (HC2.o.trans hc);have HR3:=hQ_ (HR2.o.keep hc);clear hc);clear c4;go_cut [15,16] (fun v15 v16 wx=>∃g15,v15=.pointer (some ⟨g15,0,none⟩)/\v16=.int .i64 22/\Hid (zb_ wx g15 32 [.int .i64 0,.int .i64 0,.int .i64 0,.slice none 0 0])/\Hid (Chg [] w3 wx));case first =>
  have HLD:=hQ_ (fun (W:World) (hc:Chg [] w3 W)=>(HH.o.keep (HC3.o.trans hc)).cells);obtain⟨_,d1,d2,d3,_⟩:=HLD.o w3.drew (Chg.refl [] w3).drew;obtain⟨_,b1,b2,b3,_⟩:=HLD.o (w3.alloc (.cells #[.int .i64 0,.int .i64 0,.int .i64 0,.slice none 0 0] 32)).drew ((Chg.refl [] w3).alloc _).drew;have hl3:j.h<w3.drew.heap.size:=(HH.o.keep HC3.o).rec_.lt;go_region_with (first
   | (go_at_call 26;(with_reducible refine(HRN.o _ (HC3.o.trans (by repeat (first|exact Chg.refl _ _|refine Chg.drew ?_|refine Chg.alloc ?_ _)))).mono ?_);rintro e w4 ⟨rp,av,rfl,hR,hrp,hc4⟩;have hA4:Chg [] w3 w4:=Chg.trans (by repeat (first|exact Chg.refl _ _|refine Chg.drew ?_|refine Chg.alloc ?_ _)) hc4;obtain⟨_,e1,e2,e3,_⟩:=HLD.o w4 hA4;obtain⟨_,p1,p2,p3,_⟩:=HLD.o (w4.alloc (.cells #[.int .i64 0,.int .i64 0,.int .i64 0,.slice none 0 0] 32)) (hA4.alloc _);have hl4:j.h<w4.heap.size:=(HH.o.keep (HC3.o.trans hA4)).rec_.lt;try (have q4:=(zb_.new w3 32 [.int .i64 0,.int .i64 0,.int .i64 0,.slice none 0 0]).drew.keep hc4))
   | (go_at_call 25;(with_reducible refine(HRU.o _ (HC3.o.trans (by repeat (first|exact hA4|refine Chg.drew ?_|refine Chg.alloc ?_ _))) _ _ _ _ _).mono ?_);rintro e w5 ⟨rfl,hc5⟩;have hA5:Chg [] w3 w5:=Chg.trans (by repeat (first|exact hA4|refine Chg.drew ?_|refine Chg.alloc ?_ _)) hc5;try (
       have q5:=(zb_.new w4 32 [.int .i64 0,.int .i64 0,.int .i64 0,.slice none 0 0]).keep hc5;have z0:=q5.cell 0;have z1:=q5.cell 1;have z2:=q5.cell 2;have z3:=q5.cell 3;have y0:=q5.frozen 0;have y1:=q5.frozen 1;have y2:=q5.frozen 2;have y3:=q5.frozen 3)
      try (
       have q5:=q4.keep hc5;have z0:=q5.cell 0;have z1:=q5.cell 1;have z2:=q5.cell 2;have z3:=q5.cell 3;have y0:=q5.frozen 0;have y1:=q5.frozen 1;have y2:=q5.frozen 2;have y3:=q5.frozen 3)));all_goals
    have hs4:=hA4.size;go_wp2_with fail;go_meet;first
      | exact⟨_,rfl,rfl,hQ_ (zb_.new w5 _ _),hQ_ (hA5.alloc _)⟩
      | exact⟨_,rfl,rfl,hQ_ (ge_ q5),hQ_ (zjs hA5 hs4)⟩
      | exact⟨_,rfl,rfl,hQ_ (ge_ q5),hQ_ (zjs hA5 (Nat.le_refl _))⟩
 case rest =>
  obtain⟨g15,rfl,rfl,HX,HCX⟩:=hcut;obtain⟨w6,rfl⟩:∃w6:World,w6=wc:=⟨_,rfl⟩;have HR6:=hQ_ (HR3.o.keep HCX.o);have HC6:=hQ_ (HC3.o.trans HCX.o);have x0:=HX.o.cell 0;have x1:=HX.o.cell 1;have x2:=HX.o.cell 2;have x3:=HX.o.cell 3;have r0:=HR6.o.cell 0;have r1:=HR6.o.cell 1;have r2:=HR6.o.cell 2;have r3:=HR6.o.cell 3;have f0:=HR6.o.frozen 0;have f1:=HR6.o.frozen 1;have f2:=HR6.o.frozen 2;have f3:=HR6.o.frozen 3;go_wp2_with fail;have hP:=HFIN.o _ (zjs (g:=gr) HC6.o (by have:=HGR.o;omega));refine bodyPost_ret (zf_ (p:=10) (u:=11) (ty:=32) rfl _ _ gr 32 [.int .i64 0,.int .i64 0,.int .i64 0,.slice none 0 0] _ rfl (ge_ HR6.o) Tryz.underlying32 (by kernel_rfl)) rfl ?_;exact hP
end
end
section
open Go.RowKit
def zmS (w:World)(T:List Nat)(p most rp:Nat)(rs:List (Option Int))(nq:Nat)(val trap:Int)(s':EgV)(e:Ending)(w':World):Prop :=
 ∃ v,e=.returned (.tuple #[.agg #[.int .i64 val,.int .i64 trap,.int .i64 (s'.fuel:Int),v],.int .i64 0])/\QSl w' v (s'.qs.drop nq) /\
   (∃gC gD X Y,Mm w' p gC gD s'.L X s'.V Y most/\(w.heap.size<=gC\/gC∈T)/\(w.heap.size<=gD\/gD∈T))/\(∃a q,Rq w' rp rs s'.qs a q/\∀i,q.ownBlock=some i->w.heap.size<=i\/i∈T)/\Chg T w w'
section
variable {P:EP} {W W':World} {vs vc:Value} {s:EgV}
theorem Eg.popped3 (h:Eg P W vs vc s){A:Option Addr}{n c:Nat}(hv:vs=.slice A (n+1) c){W2:World}(hc:Chg [] W W2){st:List Int}{x:Int}(hst:s.st=st++[x]) :
    Eg P (W2.setCell ⟨P.g,7,none⟩ (.slice A n c)) (.slice A n c) vc ⟨s.fuel,st,s.cs,s.L,s.V,s.qs⟩/\Fe P.K eg3 W (W2.setCell ⟨P.g,7,none⟩ (.slice A n c)):=by
 subst hv;have h2:=h.keep hc;have hl:s.st.length=st.length+1:=by rw[hst];simp
 have hq:n+1=s.st.length:=by
  rcases h.stk.2 with⟨e,e2⟩|⟨_,_,_,e,_⟩
  · injection e with _ e _;omega
  · injection e
 have hA:A≠none:=by
  rintro rfl;rcases h.stk.2 with⟨e,_⟩|⟨_,_,_,e,_⟩
  · injection e with _ e _;simp at e
  · injection e with e _;cases e
 have ho:=h2.stk;rw[<-hq]at ho;have ht:=x2_ (q':=n) ho (by omega) hA;have e2:(nms s.st).take (n*1)=nms st:=by rw[hst,kv_,List.take_left' (by rw[xi_];omega)]
 rw[e2]at ht;have hf:Fe P.K eg3 W (W2.setCell ⟨P.g,7,none⟩ (.slice A n c)):=(Fe.of_chg hc).setw h2.rec_ h.kg (by simp[eg3]) _;refine⟨h.upd hf k2_ (h2.rec_.set_ 7 _) ?_ (z1_ h2.cal h2.rec_ (by decide)) h.loc (Nat.le_refl _) (by have:=h.stkb;omega) h.calb,hf⟩;have:=z1_ (j:=7) (u:=.slice A n c) ht h2.rec_ (by decide);rw[show st.length=n from by omega];exact this
theorem zps {x:Int}{s':EgV}(h:Eg P W vs vc s)(hp:s.pop=some (x,s')):Calls Tryz.prog 55 #[.pointer (some ⟨P.g,0,none⟩)] W (fun e w'=>e=.returned (.int .i64 x)/\(∃vs' vc',Eg P w' vs' vc' s')/\Fe P.K eg3 W w'):=by
 obtain⟨st,hst,rfl⟩:=xI_ hp;obtain⟨gs,c,rfl,hc,hx⟩:=h.top hst;have k7:W.cell? ⟨P.g,7,none⟩=some (.slice (some ⟨gs,0,none⟩) (st.length+1) c):=h.rec_.cell 7;have f7:=h.rec_.frozen 7;have hb:=h.stkb;have hl:s.st.length=st.length+1:=by rw[hst];simp
 have HQ:=hQ_ (h.popped3 rfl (Chg.refl [] W) hst);have HQ2:=hQ_ (h.popped3 rfl ((Chg.refl [] W).drew) hst);obtain⟨n,hn⟩:∃n,n=st.length:=⟨_,rfl⟩;rw[<-hn]at HQ HQ2 k7 hx hc hl;have hn9:n<=3000000:=by omega
 generalize P.g=g at k7 f7 HQ HQ2⊢;clear h hp hst hn hb;have hsub:IntKind.i64.wrap (((n+1:Nat):Int)-1)=(n:Int):=by rw[IntWalk.i64_in _ (by omega)];omega
 have hq0:(0:Int)<=(n:Int):=by omega
 have hq1:(n:Int)<((n+1:Nat):Int):=by omega
 have hq2:(n:Int)<=(c:Int):=by omega
 go_enter Tryz.func55,Tryz.ntmps55;go_wp2_with fail;go_ret;exact⟨rfl,⟨_,_,HQ.o.1⟩,HQ.o.2⟩
end
theorem zpq {K:Nat->Prop}{TS:List TypeId}{w a b:World}{T:List Nat}(h:Chg [] w a)(hf:Fe K TS a b)(hK:∀k,K k->w.heap.size<=k\/k∈T):Chg T w b :=
 ⟨hf.os.trans h.os,hf.tape.trans h.tape,hf.output.trans h.output,Nat.le_trans h.size hf.size,fun k hk hn=>(hf.block k (Nat.lt_of_lt_of_le hk h.size) (.inl fun hc=>by
  rcases hK k hc with hc|hc
  · omega
  · exact hn hc)).trans (h.block k hk (by simp))⟩
theorem zgS {w w7 wx:World}{P:EP}{T:List Nat}{p most rp:Nat}{rs:List (Option Int)}{nq m9 gO:Nat}{val trap:Int}{s':EgV}{Ab Ax:Option Addr}{cb:Nat}{vs vc:Value}
    (hP:P.p=p/\P.most=most/\P.rp=rp/\P.rs=rs/\P.B=w.heap.size/\P.T=T) (h7:Chg [] w w7) (hf:Fe P.K egT w7 wx) {wy:World} (hE:Eg P wx vs vc s') (hy:Fe (fun _=>True) [32] wx wy) (hyc:Chg [] wx wy\/∃g u,w.heap.size<=g/\wy=wx.setCell ⟨g,0,none⟩ u)
    (hax:(if cb=nq then Ab else Option.map (fun x=>x.add (nq*2)) Ab)=Ax) (hro:wx.ownsRow 0 267 2 (.slice Ab m9 cb) m9 (qsC s'.qs)) (hm:m9=s'.qs.length) (hn:nq<=m9)
    (hO:zb_ wy gO 32 [.int .i64 0,.int .i64 0,.int .i64 0,.slice none 0 0]) (hgO:w.heap.size<=gO) :
    ∀wf,wf=((((wy.setCell ⟨gO,0,none⟩ (.int .i64 val)).setCell ⟨gO,1,none⟩ (.int .i64 trap)).setCell ⟨gO,2,none⟩ (.int .i64 (s'.fuel:Int))).setCell ⟨gO,3,none⟩ (.slice Ax (m9-nq) (cb-nq))) ->
    zb_ wf gO 32 [.int .i64 val,.int .i64 trap,.int .i64 (s'.fuel:Int),.slice Ax (m9-nq) (cb-nq)]/\zmS w T p most rp rs nq val trap s' (.returned (.tuple #[.agg #[.int .i64 val,.int .i64 trap,.int .i64 (s'.fuel:Int),.slice Ax (m9-nq) (cb-nq)],.int .i64 0])) wf:=by
 intro wf hwf;have kP:∀k,P.K k->w.heap.size<=k\/k∈T:=fun k hk=>by
  rcases hk with hk|hk
  · exact .inl (hP.2.2.2.2.1 ▸ hk)
  · exact .inr (hP.2.2.2.2.2 ▸ hk)
 have c0:Chg T w wx:=zpq h7 hf kP;have c1:Chg T w wy:=by
  rcases hyc with h|⟨g,u,hg,rfl⟩
  · exact c0.new h
  · exact c0.setCell (p:=⟨g,0,none⟩) (fun h=>by simp only at h;omega) u
 have h0:=hO.set_ 0 (.int .i64 val);have h1:=h0.set_ 1 (.int .i64 trap);have h2:=h1.set_ 2 (.int .i64 (s'.fuel:Int));have h3:=h2.set_ 3 (.slice Ax (m9-nq) (cb-nq));have hq:Fe (fun _=>True) [32] wx wf:=by
  rw[hwf];exact(((hy.setw hO trivial (by simp) _).setw h0 trivial (by simp) _).setw h1 trivial (by simp) _).setw h2 trivial (by simp) _
 have hW:zb_ wf gO 32 [.int .i64 val,.int .i64 trap,.int .i64 (s'.fuel:Int),.slice Ax (m9-nq) (cb-nq)]:=by
  rw[hwf];simpa using h3
 have hC:Chg T w wf:=by
  rw[hwf];exact(((c1.setCell (p:=⟨gO,0,none⟩) (fun h=>by simp only at h;omega) _).setCell (p:=⟨gO,1,none⟩) (fun h=>by simp only at h;omega) _).setCell (p:=⟨gO,2,none⟩) (fun h=>by simp only at h;omega) _).setCell (p:=⟨gO,3,none⟩) (fun h=>by simp only at h;omega) _
 clear hwf h0 h1 h2 h3 c0 c1;refine⟨hW,.slice Ax (m9-nq) (cb-nq),rfl,?_,?_,?_,hC⟩
 · rw[<-hax];exact zkQ (hq.own hro (by decide)) hm hn
 · obtain⟨gC,gD,X,Y,hM,k1,k2⟩:=hE.mem;refine⟨gC,gD,X,Y,?_,kP _ k1,kP _ k2⟩;have:=hq.mm hM (by decide) (by decide) (by decide);rwa[hP.1,hP.2.1]at this
 · obtain⟨a,q,hR,k3⟩:=hE.row;refine⟨a,q,?_,fun i hi=>kP _ (k3 i hi)⟩;have:=hR.fe hq (by decide) (by decide) (by decide);rwa[hP.2.2.1,hP.2.2.2.1]at this
theorem zgh {w4 w5:World}{g:Nat}{z:List Value}(hz:z.length=9)(h:zb_ w5 g 112 z)(hc:Chg [] w4 w5)(hg:w4.heap.size<=g)(u0 u1 u2 u3 u4 u5 u6 u7 u8:Value) :
    let w6:=((((((((w5.setCell ⟨g,0,none⟩ u0).setCell ⟨g,1,none⟩ u1).setCell ⟨g,2,none⟩ u2).setCell ⟨g,3,none⟩ u3).setCell ⟨g,4,none⟩ u4).setCell ⟨g,5,none⟩ u5).setCell ⟨g,6,none⟩ u6).setCell ⟨g,7,none⟩ u7).setCell ⟨g,8,none⟩ u8
    zb_ w6 g 112 [u0,u1,u2,u3,u4,u5,u6,u7,u8]/\Fe (fun _=>True) [112] w5 w6/\Chg [] w4 w6:=by
 have h0:=h.set_ 0 u0;have h1:=h0.set_ 1 u1;have h2:=h1.set_ 2 u2;have h3:=h2.set_ 3 u3;have h4:=h3.set_ 4 u4;have h5:=h4.set_ 5 u5;have h6:=h5.set_ 6 u6;have h7:=h6.set_ 7 u7;have h8:=h7.set_ 8 u8;refine⟨?_,?_,?_⟩
 · obtain⟨a,b,c,d,e,f,i,j,k,rfl⟩:∃a b c d e f i j k,z=[a,b,c,d,e,f,i,j,k]:=(by
    match z,hz with
    | [a,b,c,d,e,f,i,j,k],_=>exact⟨a,b,c,d,e,f,i,j,k,rfl⟩);simpa using h8
 · exact((((((((((Fe.refl (fun _=>True) [112] w5).setw h trivial (by simp) u0).setw h0 trivial (by simp) u1).setw h1 trivial (by simp) u2).setw h2 trivial (by simp) u3).setw h3 trivial (by simp) u4).setw h4 trivial (by simp) u5).setw h5 trivial (by simp) u6).setw h6 trivial (by simp) u7).setw h7 trivial (by simp) u8)
 · exact((((((((hc.setCell (p:=⟨g,0,none⟩) (by simp;omega) u0).setCell (p:=⟨g,1,none⟩) (by simp;omega) u1).setCell (p:=⟨g,2,none⟩) (by simp;omega) u2).setCell (p:=⟨g,3,none⟩) (by simp;omega) u3).setCell (p:=⟨g,4,none⟩) (by simp;omega) u4).setCell (p:=⟨g,5,none⟩) (by simp;omega) u5).setCell (p:=⟨g,6,none⟩) (by simp;omega) u6).setCell (p:=⟨g,7,none⟩) (by simp;omega) u7).setCell (p:=⟨g,8,none⟩) (by simp;omega) u8
theorem zkN {w4 w5:World}{g:Nat}{z:List Value}(hz:z.length=4)(h:zb_ w5 g 32 z)(hc:Chg [] w4 w5)(hg:w4.heap.size<=g)(u0 u1 u2 u3:Value) :
    let w6:=(((w5.setCell ⟨g,0,none⟩ u0).setCell ⟨g,1,none⟩ u1).setCell ⟨g,2,none⟩ u2).setCell ⟨g,3,none⟩ u3
    zb_ w6 g 32 [u0,u1,u2,u3]/\Fe (fun _=>True) [32] w5 w6/\Chg [] w4 w6:=by
 have h0:=h.set_ 0 u0;have h1:=h0.set_ 1 u1;have h2:=h1.set_ 2 u2;have h3:=h2.set_ 3 u3;refine⟨?_,?_,?_⟩
 · obtain⟨a,b,c,d,rfl⟩:∃a b c d,z=[a,b,c,d]:=(by
    match z,hz with
    | [a,b,c,d],_=>exact⟨a,b,c,d,rfl⟩);simpa using h3
 · exact((((Fe.refl (fun _=>True) [32] w5).setw h trivial (by simp) u0).setw h0 trivial (by simp) u1).setw h1 trivial (by simp) u2).setw h2 trivial (by simp) u3
 · exact(((hc.setCell (p:=⟨g,0,none⟩) (by simp;omega) u0).setCell (p:=⟨g,1,none⟩) (by simp;omega) u1).setCell (p:=⟨g,2,none⟩) (by simp;omega) u2).setCell (p:=⟨g,3,none⟩) (by simp;omega) u3
theorem zol {w:World}{B m:Nat}{v:Value}{xs:List CdV}(h:w.ownsRow B 165 3 v m (zbM xs))(hm:m=xs.length)(hx:Cdx w xs)(h32:xs.length<=32):Cods w v xs:=⟨by subst hm;exact yk_ h (Nat.zero_le _),hx.toks,hx.gos,hx.few,h32⟩
section
variable {w:World} {p gC gD rp mm n c:Nat} {L:List UInt8} {X:List Value} {V:List Bool} {Y:List Value} {rs:List (Option Int)} {qs:List (Int×Int)} {a q:Value} {A A2:Option Addr} {l:List FnV} {pages most:Int} {T:List Nat} {args:List Int} {k fuel m2 c2:Nat} {f:FnV} {val trap:Int} {s':EgV} {name:Int}
theorem q7_ (hM:Mm w p gC gD L X V Y mm) (hR:Rq w rp rs qs a q) (hF:Fnr w A n c l) (hU:RightU pages most l) (hp:p∈T) (hC:gC∈T) (hD:gD∈T) (hrp:rp∈T) (hq:∀i,q.ownBlock=some i->i∈T)
    (hA:∀ad,A=some ad->ad.block<w.heap.size/\ad.block∉T) (hk:yY_ l name=(k:Int)) (hf:l[k]?=some f) (hfa:f.args=(args.length:Int)) (hfu:fuel<=1048576) (hqs:qs.length<=800000000) (hm2:m2=args.length) (hS:Src w A2 (nms args))
    (hdo:eDo l rs mm k fuel args L V qs=some (val,trap,s')):Calls Tryz.prog 25 #[yH_ pages most A n c,.pointer (some ⟨p,0,none⟩),.pointer (some ⟨rp,0,none⟩),.int .i32 name,.int .i64 (fuel:Int),.slice A2 m2 c2] w (zmS w T p mm rp rs qs.length val trap s'):=by
      have hf4:=hU.fn k f hf;have hl4:args.length<=4:=(by have:=hf4.2.2.2;omega);have hkn:k<n:=(by rw[<-hF.len];exact(List.getElem?_eq_some_iff.1 hf).1);have hn32:n<=32:=(by rw[<-hF.len];exact hU.few);have HRG:=hQ_ (fun (w1:World) (hc:Chg [] w w1)=>zdc (hF.keep hc) hU);have HFI:=hQ_ (fun (w1:World) (hc:Chg [] w w1)=>vf_ (pages:=pages) (most:=most) (hF.keep hc) name);have HCO:=hQ_ (fun (w1:World) (hc:Chg [] w w1)=>zjg (pages:=pages) (most:=most) (hF.keep hc) (zcb hU) hn32 hU.small);have HAS:=hQ_ (fun (w1:World) (hc:Chg [] w w1)=>gb_ (hR.keep hc) (by omega));rw[hk]at HFI;obtain⟨s0,tr1,s1,hc0,hr0,hend⟩:∃s0 tr1 s1,uG_ (l.map xm_) k ⟨fuel,args,[],L,V,qs⟩=some s0/\ziX l (l.map xm_) rs mm (2*fuel+2) s0=some (tr1,s1)/\(if tr1=0 then s1.pop.map (fun q=>(q.1,tr1,q.2)) else some (0,tr1,s1))=some (val,trap,s'):=(by
       unfold eDo at hdo;cases h1:uG_ (l.map xm_) k ⟨fuel,args,[],L,V,qs⟩ with
       | none=>rw[h1]at hdo;cases hdo
       | some s0 =>
         rw[h1]at hdo;simp only at hdo;cases h2:ziX l (l.map xm_) rs mm (2*fuel+2) s0 with
         | none=>rw[h2]at hdo;cases hdo
         | some z=>obtain⟨tr1,s1⟩:=z;rw[h2]at hdo;exact⟨s0,tr1,s1,rfl,h2,hdo⟩);have HDO:=hQ_ (And.intro hc0 (And.intro hr0 hend));obtain⟨fb,fo,hAe,hfbl,e0,e1,e2⟩:=hF.cell hf;subst hAe;have HMM:=hQ_ hM;have HRQ:=hQ_ hR;have HFN:=hQ_ hF;have HT:=hQ_ (show p∈T/\gC∈T/\gD∈T/\rp∈T from⟨hp,hC,hD,hrp⟩);have HQ:=hQ_ hq;have HAB:=hQ_ hA;have HSR:=hQ_ hS;have HFL:=hQ_ hF.len;obtain⟨nq,hnq⟩:∃nq,nq=qs.length:=⟨_,rfl⟩;have HNQ:=hQ_ hnq;rw[<-hnq]at hqs⊢;rw[hfa]at e1;rw[<-hm2]at e1 hl4;have HM2:=hQ_ hm2;unfold yH_ at HRG HFI HCO⊢;have hfuI:¬((fuel:Int)<0):=(by omega);have hb1:decide ((fuel:Int)<0)=false:=(by simp);have hb2:decide (1048576<(fuel:Int))=false:=(by simp;omega);have hk0:decide ((k:Int)<0)=false:=(by simp);have hkk0:(0:Int)<=(k:Int):=(by omega);have hkk1:(k:Int)<(n:Int):=(by omega);clear hM hR hF hU hp hC hD hrp hq hA hk hf hfa hS hdo hc0 hr0 hend hf4 hnq hm2 e0 e2;go_enter Tryz.func25,Tryz.ntmps25;go_upto_region 1 with fail;have hN1:=zb_.new w 25 [.int .i64 pages,.int .i64 most,.slice (some ⟨fb,fo,none⟩) n c];have hal1:=(Chg.refl [] w).alloc (.cells #[.int .i64 pages,.int .i64 most,.slice (some ⟨fb,fo,none⟩) n c] 25);have hsz1:(w.alloc (.cells #[.int .i64 pages,.int .i64 most,.slice (some ⟨fb,fo,none⟩) n c] 25)).heap.size=w.heap.size+1:=Array.size_push _;generalize w.alloc (.cells #[.int .i64 pages,.int .i64 most,.slice (some ⟨fb,fo,none⟩) n c] 25)=wa at hN1 hal1 hsz1⊢;have hN2:=zb_.new wa 32 [.int .i64 0,.int .i64 0,.int .i64 0,.slice none 0 0];have hal2:=(Chg.refl [] wa).alloc (.cells #[.int .i64 0,.int .i64 0,.int .i64 0,.slice none 0 0] 32);obtain⟨g1,hg1⟩:∃g1,g1=w.heap.size:=⟨_,rfl⟩;have HG1:=hQ_ hg1;rw[hsz1]at hN2;rw[<-hg1]at hN1 hN2⊢;have HU1:=hQ_ (hN1.keep hal2);have HR1:=hQ_ hN2;have HC1:=hQ_ (hal1.new hal2);generalize wa.alloc (.cells #[.int .i64 0,.int .i64 0,.int .i64 0,.slice none 0 0] 32)=w1 at HU1 HR1 HC1⊢;clear hN1 hN2 hal1 hal2 hsz1 hg1;have u0:=HU1.o.cell 0;have u1:=HU1.o.cell 1;have u2:=HU1.o.cell 2;go_wp2_with fail;refine(HRG.o w1 HC1.o).mono ?_;rintro e w2 ⟨rfl,hc2⟩;have HC2:=hQ_ (HC1.o.new hc2);have HU2:=hQ_ (HU1.o.keep hc2);have HR2:=hQ_ (HR1.o.keep hc2);clear hc2 u0 u1 u2 HU1 HR1 HC1;have u0:=HU2.o.cell 0;have u1:=HU2.o.cell 1;have u2:=HU2.o.cell 2;go_wp2_with fail;refine(HFI.o w2 HC2.o).mono ?_;rintro e w3 ⟨rfl,hc3⟩;have HC3:=hQ_ (HC2.o.new hc3);have HU3:=hQ_ (HU2.o.keep hc3);have HR3:=hQ_ (HR2.o.keep hc3);have k1:=zd_ e1 HC3.o;clear hc3 u0 u1 u2 HU2 HR2 HC2 e1;have u0:=HU3.o.cell 0;have u1:=HU3.o.cell 1;have u2:=HU3.o.cell 2;go_wp2_with fail;refine(HAS.o w3 HC3.o).mono ?_;rintro e w4 ⟨va,rfl,hqa,hc4⟩;obtain⟨Aq,cq,rfl,_⟩:=zh_ hqa;rw[<-HNQ.o];have HC4:=hQ_ (HC3.o.new hc4);have HU4:=hQ_ (HU3.o.keep hc4);have HR4:=hQ_ (HR3.o.keep hc4);clear hc4 u0 u1 u2 HU3 HR3 HC3 k1;have u0:=HU4.o.cell 0;have u1:=HU4.o.cell 1;have u2:=HU4.o.cell 2;go_wp2_with fail;have HD:=hQ_ (HC4.o.drew);have hzal:=(Chg.refl [] w4.drew).alloc (.cells #[.int .i64 0,.int .i64 0,.slice none 0 0,.slice none 0 0,.pointer none,.pointer none,.int .i64 0,.slice none 0 0,.slice none 0 0] 112);have HZA:=hQ_ hzal;have HZN:=hQ_ (show zb_ (w4.drew.alloc (.cells #[.int .i64 0,.int .i64 0,.slice none 0 0,.slice none 0 0,.pointer none,.pointer none,.int .i64 0,.slice none 0 0,.slice none 0 0] 112)) w4.heap.size 112 [.int .i64 0,.int .i64 0,.slice none 0 0,.slice none 0 0,.pointer none,.pointer none,.int .i64 0,.slice none 0 0,.slice none 0 0] from zb_.new w4.drew 112 [.int .i64 0,.int .i64 0,.slice none 0 0,.slice none 0 0,.pointer none,.pointer none,.int .i64 0,.slice none 0 0,.slice none 0 0]);have a0:=zd_ u0 ((Chg.refl [] w4).alloc (.cells #[.int .i64 0,.int .i64 0,.slice none 0 0,.slice none 0 0,.pointer none,.pointer none,.int .i64 0,.slice none 0 0,.slice none 0 0] 112));have a1:=zd_ u1 ((Chg.refl [] w4).alloc (.cells #[.int .i64 0,.int .i64 0,.slice none 0 0,.slice none 0 0,.pointer none,.pointer none,.int .i64 0,.slice none 0 0,.slice none 0 0] 112));have a2:=zd_ u2 ((Chg.refl [] w4).alloc (.cells #[.int .i64 0,.int .i64 0,.slice none 0 0,.slice none 0 0,.pointer none,.pointer none,.int .i64 0,.slice none 0 0,.slice none 0 0] 112));clear hzal;go_cut [17] (fun v wx=>∃g6 Av cv xs,v=.pointer (some ⟨g6,0,none⟩)/\w.heap.size<=g6/\Hid (zb_ wx g6 112 [.int .i64 pages,.int .i64 most,.slice (some ⟨fb,fo,none⟩) n c,.slice Av xs.length cv,.pointer (some ⟨p,0,none⟩),.pointer (some ⟨rp,0,none⟩),.int .i64 (fuel:Int),.slice none 0 0,.slice none 0 0])/\Hid (Cods wx (.slice Av xs.length cv) xs)/\Hid (xs.map (·.c)=l.map xm_)/\Hid (Chg [] w4 wx));case first =>
       go_region_with (
        go_at_call 52;refine(HCO.o _ (by first|exact HD.o|exact HD.o.new HZA.o|exact HC4.o.new HZA.o)).mono ?_;rintro e w5 ⟨v5,xs,rfl,ho5,hx5,hm5,hc5⟩;have HO5:=hQ_ ho5;have HX5:=hQ_ hx5;have HM5:=hQ_ hm5;have HC5:=hQ_ hc5;obtain⟨A5,c5,rfl,_⟩:=zh_ ho5;have v0:=zd_ u0 (by first|exact(Chg.refl [] w4).drew.new HC5.o|exact((Chg.refl [] w4).drew.new HZA.o).new HC5.o);have v1:=zd_ u1 (by first|exact(Chg.refl [] w4).drew.new HC5.o|exact((Chg.refl [] w4).drew.new HZA.o).new HC5.o);have v2:=zd_ u2 (by first|exact(Chg.refl [] w4).drew.new HC5.o|exact((Chg.refl [] w4).drew.new HZA.o).new HC5.o);have b0:=zd_ v0 ((Chg.refl [] w5).alloc (.cells #[.int .i64 0,.int .i64 0,.slice none 0 0,.slice none 0 0,.pointer none,.pointer none,.int .i64 0,.slice none 0 0,.slice none 0 0] 112));have b1:=zd_ v1 ((Chg.refl [] w5).alloc (.cells #[.int .i64 0,.int .i64 0,.slice none 0 0,.slice none 0 0,.pointer none,.pointer none,.int .i64 0,.slice none 0 0,.slice none 0 0] 112));have b2:=zd_ v2 ((Chg.refl [] w5).alloc (.cells #[.int .i64 0,.int .i64 0,.slice none 0 0,.slice none 0 0,.pointer none,.pointer none,.int .i64 0,.slice none 0 0,.slice none 0 0] 112));clear ho5 hx5 hm5 hc5;first
          | (have hz5:=HZN.o.keep HC5.o;have z0:=hz5.cell 0;have y0:=hz5.frozen 0;have z1:=hz5.cell 1;have y1:=hz5.frozen 1;have z2:=hz5.cell 2;have y2:=hz5.frozen 2;have z3:=hz5.cell 3;have y3:=hz5.frozen 3;have z4:=hz5.cell 4;have y4:=hz5.frozen 4;have z5:=hz5.cell 5;have y5:=hz5.frozen 5;have z6:=hz5.cell 6;have y6:=hz5.frozen 6;have z7:=hz5.cell 7;have y7:=hz5.frozen 7;have z8:=hz5.cell 8;have y8:=hz5.frozen 8)
          | skip);(all_goals go_wp2_with fail);(all_goals go_meet);all_goals
         have hx32:xs.length<=32:=(by have:=congrArg List.length HM5.o;rw[List.length_map,List.length_map,HFL.o]at this;omega);have hcd:=zol HO5.o rfl HX5.o hx32;first
           | (obtain⟨q1,q2,q3⟩:=zgh (w4:=w4) rfl hz5 ((((Chg.refl [] w4).drew.new HZA.o)).new HC5.o) (Nat.le_refl _) (.int .i64 pages) (.int .i64 most) (.slice (some ⟨fb,fo,none⟩) n c) (.slice A5 xs.length c5) (.pointer (some ⟨p,0,none⟩)) (.pointer (some ⟨rp,0,none⟩)) (.int .i64 (fuel:Int)) (.slice none 0 0) (.slice none 0 0);exact⟨_,A5,c5,xs,rfl,HC4.o.size,hQ_ q1,hQ_ (hcd.fe q2 (by decide) (by decide) (by decide)),HM5,hQ_ q3⟩)
           | (have hal:=(Chg.refl [] w5).alloc (.cells #[.int .i64 pages,.int .i64 most,.slice (some ⟨fb,fo,none⟩) n c,.slice A5 xs.length c5,.pointer (some ⟨p,0,none⟩),.pointer (some ⟨rp,0,none⟩),.int .i64 (fuel:Int),.slice none 0 0,.slice none 0 0] 112);have hc45:=(Chg.refl [] w4).drew.new HC5.o;exact⟨_,A5,c5,xs,rfl,Nat.le_trans HC4.o.size hc45.size,hQ_ (zb_.new w5 112 [.int .i64 pages,.int .i64 most,.slice (some ⟨fb,fo,none⟩) n c,.slice A5 xs.length c5,.pointer (some ⟨p,0,none⟩),.pointer (some ⟨rp,0,none⟩),.int .i64 (fuel:Int),.slice none 0 0,.slice none 0 0]),hQ_ (hcd.keep hal),HM5,hQ_ (hc45.new hal)⟩)
      case rest =>
       obtain⟨g6,Av,cv,xs,rfl,hg6,HW,HCD,HXM,HC4c⟩:=hcut;obtain⟨w5,hw5⟩:∃w5:World,w5=wc:=⟨_,rfl⟩;subst hw5;have HC5:=hQ_ (HC4.o.new HC4c.o);have HG6:=hQ_ hg6;have HR5:=hQ_ (HR4.o.keep HC4c.o);clear u0 u1 u2 a0 a1 a2 HD HZA HZN HU4 hg6;have k7:=HW.o.cell 7;have f7:=HW.o.frozen 7;obtain⟨i1,hi1,hz1,hs1,hb1⟩:=info_parts jk_;have HS5:=hQ_ (HSR.o.keep HC5.o);have HML:=hQ_ (show(nms args).length=m2 from by rw[xi_];exact HM2.o.symm);have hbase:w.heap.size<=w5.heap.size:=HC5.o.size;go_upto_region 14 with(
        at_builtin;refine zC_ rfl (.tmp 68) (.tmp 69) 45 rfl w.heap.size 2 i1 _ 8 Tryz.underlying45 hi1 hz1 hs1 hb1 rfl (.slice none 0 0) 0 [] rfl (vN_ _ _ _) A2 m2 c2 (nms args) rfl HML.o HS5.o (zch _) (by unfold maxLen;omega) (by omega) hbase ?_;intro v6 w6 ho6 hg6 _;have HO6:=hQ_ ho6;have HC56:=hQ_ (show Chg [] w5 w6 from Chg.of_grown hg6 (fun g hg=>by simp[Value.ownBlock]at hg));have HW6:=hQ_ (HW.o.keep HC56.o);have k77:=HW6.o.cell 7;have f77:=HW6.o.frozen 7;obtain⟨A6,c6,rfl,_⟩:=zh_ ho6;clear ho6 hg6);have hR6:=HR5.o.keep HC56.o;have HR7:=hQ_ (hR6.far (p:=⟨g6,7,none⟩) (by simpa using hR6.ne_ HW6.o (by decide)) (.slice A6 m2 c6));clear hR6;obtain⟨P,hP⟩:∃P:EP,P=⟨g6,l,pages,most,some ⟨fb,fo,none⟩,n,c,.slice Av xs.length cv,xs,p,mm,rp,rs,w.heap.size,T⟩:=⟨_,rfl⟩;have hKT:∀i,i∈T->P.K i:=fun i hi=>(by subst hP;exact .inr hi);have hg6lt:w.heap.size<=g6:=HG6.o;have hc6:Chg [] w w6:=HC5.o.new HC56.o;have hset:Chg [] w (w6.setCell ⟨g6,7,none⟩ (.slice A6 m2 c6)):=hc6.setCell (p:=⟨g6,7,none⟩) (by simp;omega) _;have hFe:Fe (fun _=>True) [112] w6 (w6.setCell ⟨g6,7,none⟩ (.slice A6 m2 c6)):=(Fe.refl _ _ _).setw HW6.o trivial (by simp) _;have hcd7:=(HCD.o.keep HC56.o).fe hFe (by decide) (by decide) (by decide);have hcdP:P.cd=l.map xm_:=(by subst hP;exact HXM.o);have hEg:Eg P (w6.setCell ⟨g6,7,none⟩ (.slice A6 m2 c6)) (.slice A6 m2 c6) (.slice none 0 0) ⟨fuel,args,[],L,V,qs⟩:=by
        have hPg:P.g=g6:=(by rw[hP]);have hPB:P.B=w.heap.size:=(by rw[hP]);have hst:=z1_ (j:=7) (u:=.slice A6 m2 c6) HO6.o HW6.o (by decide);rw[Nat.zero_add,List.nil_append]at hst;refine { rec_:=?_,stk:=?_,cal:=World.ownsRow_nil _ _ _ _,mem:=?_,row:=?_,cod:=?_,fns:=?_,foff:=?_,gB:=by rw[hPg,hPB];exact hg6lt,room:=by rw[hPB];exact hset.size,pK:=?_,rK:=?_,loc:=fun x hx=>by simp at hx,fuelb:=hfu,stkb:=by show args.length+fuel<=_;have:=HM2.o;omega,calb:=by simp,qsb:=by show qs.length+fuel<=_;have:=HNQ.o;omega }
        · have:=HW6.o.set_ 7 (.slice A6 m2 c6);rw[hPg];unfold wkC;rw[hP];simpa using this
        · rw[hPB];show World.ownsRow _ w.heap.size 2 1 (.slice A6 m2 c6) args.length (nms args);rw[<-HM2.o];exact hst
        · refine⟨gC,gD,X,Y,?_,hKT gC HT.o.2.1,hKT gD HT.o.2.2.1⟩;have:=HMM.o.keep hset;rw[hP];exact this
        · refine⟨a,q,?_,fun i hi=>hKT i (HQ.o i hi)⟩;have:=HRQ.o.keep hset;rw[hP];exact this
        · rw[hP];exact hcd7
        · have:=HFN.o.keep hset;rw[hP];exact this
        · intro ad had;have:=HAB.o ad (by rw[hP]at had;exact had);rw[hP];intro hK;rcases hK with hK|hK
          · have h1:=this.1;simp only at hK;omega
          · exact this.2 hK
        · have:=hKT p HT.o.1;rw[hP]at this⊢;exact this
        · have:=hKT rp HT.o.2.2.2;rw[hP]at this⊢;exact this
       have hc0:=HDO.o.1;rw[<-hcdP]at hc0;have HCALL:=hQ_ (zbm hEg hc0 (by simp));rw[show P.g=g6 from by rw[hP]]at HCALL;have HSET:=hQ_ hset;have HP:=hQ_ hP;have HCDP:=hQ_ hcdP;have HEG:=hQ_ hEg;clear hc0 hEg hcdP hcd7 hFe hset hc6 hKT hP k7 f7 k77 f77 HO6 HW6 HC56 HW hg6lt;generalize w6.setCell ⟨g6,7,none⟩ (.slice A6 m2 c6)=w7 at HCALL HSET HEG HR7⊢;go_wp2_with fail;refine HCALL.o.mono ?_;rintro e w8 ⟨rfl,⟨vs8,vc8,h8⟩,hf8⟩;have H8:=hQ_ h8;have HF8:=hQ_ hf8;clear h8 hf8;have hrn:=HDO.o.2.1;have HRN:=hQ_ (show Rn P.us P.cd P.rs P.most s0 (tr1,s1) from by
        rw[HCDP.o,HP.o];exact Rn.of_run _ hrn);have HRUN:=hQ_ (zlF H8.o HRN.o);rw[show P.g=g6 from by rw[HP.o]]at HRUN;clear hrn;go_wp2_with fail;refine HRUN.o.mono ?_;rintro e w9 ⟨rfl,⟨vs9,vc9,h9⟩,hf9⟩;have H9:=hQ_ h9;have HF9:=hQ_ (HF8.o.trans hf9);clear h9 hf9;obtain⟨zq,hzq⟩:QR s1 s0:=HRN.o.qs;obtain⟨_,_,_,_,hs0⟩:=zbt (P:=P) (by rw[HCDP.o];exact HDO.o.1);have hqs1:s1.qs=qs++zq:=(by rw[hzq,hs0]);have HQ1:=hQ_ hqs1;have hnq1:nq<=s1.qs.length:=(by rw[hqs1,List.length_append,<-HNQ.o];omega);obtain⟨m9,hm9⟩:∃m9,m9=s1.qs.length:=⟨_,rfl⟩;rw[<-hm9]at hnq1;have HM9:=hQ_ hm9;have HPG:=hQ_ (show P.g=g6 from by rw[HP.o]);have HPR:=hQ_ (show P.rp=rp/\P.rs=rs from by rw[HP.o];exact⟨rfl,rfl⟩);have HR9:=hQ_ (HF9.o.whole HR7.o (by decide));have k6:w9.cell? ⟨g6,6,none⟩=some (.int .i64 (s1.fuel:Int)):=(by rw[<-HPG.o];exact H9.o.rec_.cell 6);obtain⟨a9,q9,hR9,hK9⟩:=H9.o.row;rw[HPR.o.1,HPR.o.2]at hR9;have HRW:=hQ_ hR9;have HKW:=hQ_ hK9;have HAS9:=hQ_ (fun (w':World)(hc:Chg [] w9 w')=>gb_ (hR9.keep hc) (by have:=H9.o.qsb;omega));have HD9:=hQ_ ((Chg.refl [] w9).drew);have HZ9:=hQ_ ((Chg.refl [] w9.drew).alloc (.cells #[.int .i64 0,.int .i64 0,.int .i64 0,.slice none 0 0] 32));have HZN9:=hQ_ (show zb_ (w9.drew.alloc (.cells #[.int .i64 0,.int .i64 0,.int .i64 0,.slice none 0 0] 32)) w9.heap.size 32 [.int .i64 0,.int .i64 0,.int .i64 0,.slice none 0 0] from zb_.new w9.drew 32 [.int .i64 0,.int .i64 0,.int .i64 0,.slice none 0 0]);have a6:=zd_ k6 ((Chg.refl [] w9).alloc (.cells #[.int .i64 0,.int .i64 0,.int .i64 0,.slice none 0 0] 32));have hn0:(0:Int)<=(nq:Int):=(by omega);have hn1:(nq:Int)<=(m9:Int):=(by omega);clear hzq hs0 hqs1 hR9 hK9 hm9;go_wp2_with fail;go_cut [19] (fun v wx=>∃g9 Ab Ax cb,v=.pointer (some ⟨g9,0,none⟩)/\w9.heap.size<=g9/\Hid ((if cb=nq then Ab else Option.map (fun x=>x.add (nq*2)) Ab)=Ax)/\Hid (zb_ wx g9 32 [.int .i64 0,.int .i64 tr1,.int .i64 (s1.fuel:Int),.slice Ax (m9-nq) (cb-nq)])/\Hid (wx.ownsRow 0 267 2 (.slice Ab m9 cb) m9 (qsC s1.qs))/\Hid (Chg [] w9 wx));case first =>
        go_region_with (
         go_at_call 51;refine(HAS9.o _ (by first|exact HD9.o|exact HD9.o.new HZ9.o)).mono ?_;rintro e wb ⟨vb,rfl,hqb,hcb⟩;rw[<-HM9.o]at hqb;obtain⟨Ab,cb,rfl,hcb1,_,_⟩:=zh_ hqb;have HSB:=hQ_ hqb;obtain⟨Ax,hAx⟩:∃Ax,(if cb=nq then Ab else Option.map (fun x=>x.add (nq*2)) Ab)=Ax:=⟨_,rfl⟩;have HCB:=hQ_ hcb;have v6:=zd_ k6 (by first|exact HD9.o.new HCB.o|exact(HD9.o.new HZ9.o).new HCB.o);have b6:=zd_ v6 ((Chg.refl [] wb).alloc (.cells #[.int .i64 0,.int .i64 0,.int .i64 0,.slice none 0 0] 32));clear hqb hcb;first
           | (have hz5:=HZN9.o.keep HCB.o;have z0:=hz5.cell 0;have y0:=hz5.frozen 0;have z1:=hz5.cell 1;have y1:=hz5.frozen 1;have z2:=hz5.cell 2;have y2:=hz5.frozen 2;have z3:=hz5.cell 3;have y3:=hz5.frozen 3)
           | skip);(all_goals go_wp2_with fail);(all_goals go_meet);all_goals
          first
            | (obtain⟨q1,q2,q3⟩:=zkN (w4:=w9) rfl hz5 ((HD9.o.new HZ9.o).new HCB.o) (Nat.le_refl _) (.int .i64 0) (.int .i64 tr1) (.int .i64 (s1.fuel:Int)) (.slice Ax (m9-nq) (cb-nq));exact⟨_,Ab,Ax,cb,rfl,Nat.le_refl _,hQ_ hAx,hQ_ q1,hQ_ (q2.own (yk_ HSB.o (Nat.zero_le _)) (by decide)),hQ_ q3⟩)
            | (have hcb9:=HD9.o.new HCB.o;have hal:=(Chg.refl [] wb).alloc (.cells #[.int .i64 0,.int .i64 tr1,.int .i64 (s1.fuel:Int),(.slice Ax (m9-nq) (cb-nq))] 32);exact⟨_,Ab,Ax,cb,rfl,hcb9.size,hQ_ hAx,hQ_ (zb_.new wb 32 [.int .i64 0,.int .i64 tr1,.int .i64 (s1.fuel:Int),.slice Ax (m9-nq) (cb-nq)]),hQ_ (ze_ (yk_ HSB.o (Nat.zero_le _)) hal),hQ_ (hcb9.new hal)⟩)
       case rest =>
        obtain⟨g9,Ab,Ax,cb,rfl,hg9,HAX,HRS,HRO,HCw⟩:=hcut;obtain⟨w10,hw10⟩:∃w10:World,w10=wc:=⟨_,rfl⟩;subst hw10;have H10:=hQ_ (H9.o.keep HCw.o);have HO10:=hQ_ (HR9.o.keep HCw.o);have HF10:=hQ_ (HF9.o.new HCw.o);have hend:=HDO.o.2.2;have HGN:=hQ_ (show g9≠g1+1 from by have:=HR9.o.lt;omega);have r0:=HRS.o.cell 0;have r1:=HRS.o.cell 1;have r2:=HRS.o.cell 2;have r3:=HRS.o.cell 3;have fr0:=HRS.o.frozen 0;have HG9:=hQ_ (show w.heap.size<=g9 from by have h1:=HSET.o.size;have h2:=HF9.o.size;omega);clear k6 a6 HRW HKW HAS9 HD9 HZ9 HZN9 HR9 hg9;by_cases htr:tr1=0
        · subst htr;rw[if_pos rfl]at hend;cases hp:s1.pop with
          | none=>rw[hp]at hend;cases hend
          | some z =>
            obtain⟨y,s2⟩:=z;rw[hp]at hend;simp only[Option.map_some]at hend;injection hend with hend;injection hend with he1 he2;injection he2 with he2 he3;subst he1 he2 he3;have HPOP:=hQ_ (zps H10.o hp);rw[HPG.o]at HPOP;have HFU2:=hQ_ (show s2.fuel=s1.fuel/\s2.qs=s1.qs from⟨uV_ hp,(zdl hp).2.2⟩);clear hp;go_wp2_with fail;refine HPOP.o.mono ?_;rintro e w11 ⟨rfl,⟨vs11,vc11,h11⟩,hf11⟩;have H11:=hQ_ h11;have HO11:=hQ_ (hf11.whole HO10.o (by decide));have HRS11:=hQ_ (hf11.whole HRS.o (by decide));have HRO11:=hQ_ (hf11.own HRO.o (by decide));have HF11:=hQ_ (HF10.o.trans (hf11.sub vR_));clear h11 hf11 r0 r1 r2 r3 fr0 H10 HO10 HRS HRO HF10;have r0:=HRS11.o.cell 0;have fr0:=HRS11.o.frozen 0;go_upto_region 19 with fail;have HRS12:=hQ_ (HRS11.o.set_ 0 (.int .i64 y));have HO12:=hQ_ (HO11.o.far (p:=⟨g9,0,none⟩) (by have:=HGN.o;simpa using Ne.symm this) (.int .i64 y));have HFE:=hQ_ (show Fe (fun _=>True) [32] w11 (w11.setCell ⟨g9,0,none⟩ (.int .i64 y)) from(Fe.refl _ _ _).setw HRS11.o trivial (by simp) _);have HEND:=hQ_ (zgS (w:=w) (P:=P) (T:=T) (p:=p) (most:=mm) (rp:=rp) (rs:=rs) (nq:=nq) (m9:=m9) (gO:=g1+1) (val:=y) (trap:=0) (by rw[HP.o];exact⟨rfl,rfl,rfl,rfl,rfl,rfl⟩) HSET.o HF11.o H11.o HFE.o (.inr ⟨g9,.int .i64 y,HG9.o,rfl⟩) HAX.o (by rw[HFU2.o.2];exact HRO11.o) (by rw[HFU2.o.2];exact HM9.o) hnq1 HO12.o (by have:=HG1.o;omega) _ rfl);rw[HFU2.o.1]at HEND;generalize w11.setCell ⟨g9,0,none⟩ (.int .i64 y)=w12 at HRS12 HO12 HFE HEND⊢;clear r0 fr0;have r0:=HRS12.o.cell 0;have r1:=HRS12.o.cell 1;have r2:=HRS12.o.cell 2;have r3:=HRS12.o.cell 3;have o0:=HO12.o.cell 0;have o1:=HO12.o.cell 1;have o2:=HO12.o.cell 2;have o3:=HO12.o.cell 3;have p0:=HO12.o.frozen 0;have p1:=HO12.o.frozen 1;have p2:=HO12.o.frozen 2;have p3:=HO12.o.frozen 3;go_wp2_with fail;have e0:=HEND.o.1.cell 0;have e1:=HEND.o.1.cell 1;have e2:=HEND.o.1.cell 2;have e3:=HEND.o.1.cell 3;generalize (((w12.setCell ⟨g1+1,0,none⟩ (.int .i64 y)).setCell ⟨g1+1,1,none⟩ (.int .i64 0)).setCell ⟨g1+1,2,none⟩ (.int .i64 (s1.fuel:Int))).setCell ⟨g1+1,3,none⟩ (.slice Ax (m9-nq) (cb-nq))=wf at HEND e0 e1 e2 e3⊢;simp only[List.getElem?_cons_zero,List.getElem?_cons_succ]at e0 e1 e2 e3;refine bodyPost_ret (v:=.tuple #[.agg #[.int .i64 y,.int .i64 0,.int .i64 (s1.fuel:Int),.slice Ax (m9-nq) (cb-nq)],.int .i64 0]) (by simp[results,Tryz.results25,go_sem,e0,e1,e2,e3]) rfl HEND.o.2
        · rw[if_neg htr]at hend;injection hend with hend;injection hend with he1 he2;injection he2 with he2 he3;subst he1 he2 he3;have hz1:(tr1==0)=false:=(by simpa using htr);have o0:=HO10.o.cell 0;have o1:=HO10.o.cell 1;have o2:=HO10.o.cell 2;have o3:=HO10.o.cell 3;have p0:=HO10.o.frozen 0;have p1:=HO10.o.frozen 1;have p2:=HO10.o.frozen 2;have p3:=HO10.o.frozen 3;have HEND:=hQ_ (zgS (w:=w) (P:=P) (T:=T) (p:=p) (most:=mm) (rp:=rp) (rs:=rs) (nq:=nq) (m9:=m9) (gO:=g1+1) (val:=0) (trap:=tr1) (by rw[HP.o];exact⟨rfl,rfl,rfl,rfl,rfl,rfl⟩) HSET.o HF10.o H10.o (Fe.refl _ _ _) (.inl (Chg.refl _ _)) HAX.o HRO.o HM9.o hnq1 HO10.o (by have:=HG1.o;omega) _ rfl);clear htr;go_wp2_with fail;have e0:=HEND.o.1.cell 0;have e1:=HEND.o.1.cell 1;have e2:=HEND.o.1.cell 2;have e3:=HEND.o.1.cell 3;generalize (((w10.setCell ⟨g1+1,0,none⟩ (.int .i64 0)).setCell ⟨g1+1,1,none⟩ (.int .i64 tr1)).setCell ⟨g1+1,2,none⟩ (.int .i64 (s1.fuel:Int))).setCell ⟨g1+1,3,none⟩ (.slice Ax (m9-nq) (cb-nq))=wf at HEND e0 e1 e2 e3⊢;simp only[List.getElem?_cons_zero,List.getElem?_cons_succ]at e0 e1 e2 e3;refine bodyPost_ret (v:=.tuple #[.agg #[.int .i64 0,.int .i64 tr1,.int .i64 (s1.fuel:Int),.slice Ax (m9-nq) (cb-nq)],.int .i64 0]) (by simp[results,Tryz.results25,go_sem,e0,e1,e2,e3]) rfl HEND.o.2
end
end
section
open Go.RowKit
def zcf (code:ByteArray):List FnV:=[⟨102,2,code⟩]
def zjL (w:World)(code:ByteArray)(e:Ending)(w':World):Prop:=∃g,e=.returned (.agg #[.int .i64 1,.int .i64 8,.slice (some ⟨g,0,none⟩) 1 1])/\w.heap.size<=g/\zb_ w' g 44 (xM_ (zcf code))/\Chg [] w w'
def zer (code:ByteArray)(a b val trap:Int):Prop:=RightU 1 8 (zcf code)/\∃s',eDo (zcf code) [] 8 0 100000 [a,b] (List.replicate 64 0) [false] []=some (val,trap,s')
def zeq (w:World)(val trap:Int)(e:Ending)(w':World):Prop:=e=.returned (.tuple #[.int .i64 val,.int .i64 trap,.bool true])/\Chg [] w w'
section
variable {w:World}
theorem zkg (code:ByteArray):Calls Tryz.prog 107 #[.string code] w (zjL w code):=by
 have h1:zb_ (w.alloc (.cells #[.int .i64 1,.int .i64 8,.slice (some ⟨w.heap.size+1,0,none⟩) 1 1] 25)) w.heap.size 25 [.int .i64 1,.int .i64 8,.slice (some ⟨w.heap.size+1,0,none⟩) 1 1]:=zb_.new w _ _;have hal:Chg [] w (w.alloc (.cells #[.int .i64 1,.int .i64 8,.slice (some ⟨w.heap.size+1,0,none⟩) 1 1] 25)):=(Chg.refl [] w).alloc _;have hsz:(w.alloc (.cells #[.int .i64 1,.int .i64 8,.slice (some ⟨w.heap.size+1,0,none⟩) 1 1] 25)).heap.size=w.heap.size+1:=Array.size_push _;have h2:=zb_.new (w.alloc (.cells #[.int .i64 1,.int .i64 8,.slice (some ⟨w.heap.size+1,0,none⟩) 1 1] 25)) 44 [.int .i32 102,.int .i64 2,.string code];rw[hsz]at h2;have hal2:=(Chg.refl [] (w.alloc (.cells #[.int .i64 1,.int .i64 8,.slice (some ⟨w.heap.size+1,0,none⟩) 1 1] 25))).alloc (.cells #[.int .i32 102,.int .i64 2,.string code] 44);have h3:=h1.keep hal2;have HP:=hQ_ (show zjL w code (.returned (.agg #[.int .i64 1,.int .i64 8,.slice (some ⟨w.heap.size+1,0,none⟩) 1 1])) ((w.alloc (.cells #[.int .i64 1,.int .i64 8,.slice (some ⟨w.heap.size+1,0,none⟩) 1 1] 25)).alloc (.cells #[.int .i32 102,.int .i64 2,.string code] 44)) from⟨_,rfl,by omega,h2,hal.new hal2⟩);have e0:=h3.cell 0;have e1:=h3.cell 1;have e2:=h3.cell 2;clear h1 h2 h3 hal hal2 hsz;go_enter Tryz.func107,Tryz.ntmps107;go_wp2_with fail;generalize (w.alloc (.cells #[.int .i64 1,.int .i64 8,.slice (some ⟨w.heap.size+1,0,none⟩) 1 1] 25)).alloc (.cells #[.int .i32 102,.int .i64 2,.string code] 44)=wf at HP e0 e1 e2⊢;simp only[List.getElem?_cons_zero,List.getElem?_cons_succ]at e0 e1 e2;refine bodyPost_ret (v:=.agg #[.int .i64 1,.int .i64 8,.slice (some ⟨w.heap.size+1,0,none⟩) 1 1]) (by simp[results,Tryz.results107,go_sem,e0,e1,e2]) rfl HP.o
theorem zlH {code:ByteArray}{a b val trap:Int}(h:zer code a b val trap):Calls Tryz.prog 68 #[.string code,.int .i64 a,.int .i64 b] w (zeq w val trap):=by
 obtain⟨hU,s',hdo⟩:=h;have HU:=hQ_ hU;have HDO:=hQ_ hdo;clear hU hdo;go_enter Tryz.func68,Tryz.ntmps68;go_wp2_with fail;refine(zkg code).mono ?_;rintro e w1 ⟨g,rfl,hg,hW,hc1⟩;have HW:=hQ_ hW;have HG:=hQ_ hg;have HC1:=hQ_ hc1;clear hg hW hc1;go_wp2_with fail;refine(zdW 1 8 (by omega) (by omega)).mono ?_;rintro e w2 ⟨p,gC,gD,rfl,hM,hp,hgC,hgD,hc2⟩;have HM:=hQ_ hM;have HPB:=hQ_ (And.intro hp (And.intro hgC hgD));have HC2:=hQ_ hc2;clear hM hp hgC hgD hc2;go_wp2_with fail;refine(gq_ (vs:=[]) (rs:=[]) jb_.nil (fun h=>absurd h (by simp)) (fun ad h=>by cases h) rfl (Nat.le_refl 0) 0 rfl).mono ?_;rintro e w3 ⟨rp,av,rfl,hR,hrp,hc3⟩;have HR:=hQ_ hR;have HRP:=hQ_ hrp;have HC3:=hQ_ hc3;clear hR hrp hc3;go_wp2_with fail;have hal:Chg [] w3 (w3.alloc (.cells #[.int .i64 a,.int .i64 b] 2)):=(Chg.refl [] w3).alloc _;have hc14:=(HC2.o.new HC3.o).new hal;have hW4:=HW.o.keep hc14;have hM4:=HM.o.keep (HC3.o.new hal);have hR4:=HR.o.keep hal;have hglt:=HW.o.lt;have hF:Fnr (w3.alloc (.cells #[.int .i64 a,.int .i64 b] 2)) (some ⟨g,0,none⟩) 1 1 (zcf code):=⟨rfl,Src.of_all hW4,Nat.le_refl _,by omega,fun _ ad e=>by injection e with e;subst e;rfl,fun f hf=>by simp only[zcf,List.mem_singleton]at hf;subst hf;exact⟨by show(-9223372036854775808:Int)<=2;decide,by show(2:Int)<=9223372036854775807;decide⟩⟩;have hRun:=q7_ (T:=[p,gC,gD,rp]) (args:=[a,b]) (k:=0) (fuel:=100000) (m2:=2) (c2:=2) (A2:=some ⟨w3.heap.size,0,none⟩) (name:=102) (f:=⟨102,2,code⟩) hM4 hR4 hF HU.o (by simp) (by simp) (by simp) (by simp) (fun i hi=>by simp[Value.ownBlock]at hi)
   (fun ad e=>by
     injection e with e;subst e;refine⟨hW4.lt,fun hm=>?_⟩;have h1:=HPB.o;have h2:=HRP.o;have h3:=HC2.o.size;simp only[List.mem_cons,List.not_mem_nil,or_false]at hm;omega) rfl rfl rfl (by omega) (by simp) rfl (Src.of_all (zb_.new w3 2 [.int .i64 a,.int .i64 b])) HDO.o;have HRUN:=hQ_ hRun;have HCW:=hQ_ (show Chg [] w w3 from(HC1.o.new HC2.o).new HC3.o);have HALC:=hQ_ hal;have HTW:=hQ_ (show ∀i∈[p,gC,gD,rp],w.heap.size<=i from fun i hi=>by
  have h1:=HPB.o;have h2:=HRP.o;have h3:=HC2.o.size;have h4:=HC1.o.size;simp only[List.mem_cons,List.not_mem_nil,or_false]at hi;omega);clear hal hc14 hW4 hM4 hR4 hF hRun hglt;unfold yH_ at HRUN;refine HRUN.o.mono ?_;rintro e w5 ⟨v5,rfl,⟨Av,cv,rfl,_⟩,_,_,hc5⟩;generalize (List.drop ([]:List (Int×Int)).length s'.qs).length=m5;generalize (s'.fuel:Int)=fu5;have HC5:=hQ_ (show Chg [] w w5 from(HCW.o.new HALC.o).then_ hc5 (fun i hi hl=>by have:=HTW.o i hi;omega));clear hc5;go_upto_region 2 with fail;have hX:=zb_.new w5 32 [.int .i64 val,.int .i64 trap,.int .i64 fu5,.slice Av m5 cv];have hal:=(Chg.refl [] w5).alloc (.cells #[.int .i64 val,.int .i64 trap,.int .i64 fu5,.slice Av m5 cv] 32);have HC6:=hQ_ (HC5.o.new hal);generalize w5.heap.size=g5 at hX⊢;generalize w5.alloc (.cells #[.int .i64 val,.int .i64 trap,.int .i64 fu5,.slice Av m5 cv] 32)=w6 at hX HC6⊢;have x0:=hX.cell 0;have x1:=hX.cell 1;clear hX hal;go_quiet (fail);have HP:=hQ_ (show zeq w val trap (.returned (.tuple #[.int .i64 val,.int .i64 trap,.bool true])) (w6.drewN nq) from⟨rfl,HC6.o.new ((Chg.refl [] w6).drewN nq)⟩);go_wp2_with fail;go_ret3;exact HP.o
def zel (w:World)(val:Int)(e:Ending)(w':World):Prop:=e=.returned (.tuple #[.int .i64 val,.bool true])/\Chg [] w w'
theorem zkC {code:ByteArray}{a b val:Int}(h:zer code a b val 0):Calls Tryz.prog 35 #[.string code,.int .i64 a,.int .i64 b] w (zel w val):=by
 go_enter Tryz.func35,Tryz.ntmps35;go_wp2_with fail;refine(zlH h).mono ?_;rintro e w1 ⟨rfl,hc1⟩;have HP:=hQ_ (show zel w val (.returned (.tuple #[.int .i64 val,.bool true])) w1 from⟨rfl,hc1⟩);clear hc1 h;go_wp2_with fail;go_ret2;exact HP.o
end
end
section
open Go.RowKit
def mk (f:Nat)(st:List Int)(pc:Nat)(loc:List Int):EgV:=⟨f,st,[⟨0,pc,loc++List.replicate (26-loc.length) 0⟩],List.replicate 64 0,[false],[]⟩
theorem zoc {code:ByteArray}{ts:List TkV}{go:List Int}(htok:uo_ code=some ts)(hnest:(ks_ (yn_ ts)).map (·.1)=some go)(hok:(rFn (zcf code) 0).1=0)(hsz:code.size<=1000000){a b val:Int}{s':EgV}(hr:Rn (zcf code) [⟨2,ts,go⟩] [] 8 (mk 100000 [] 0 [a,b]) (0,s'))(hv:s'.st.getLast?=some val):zer code a b val 0:=by
 refine⟨⟨by decide,by decide,by decide,by simp[zcf],fun k f hf=>?_,fun k hk=>?_,fun f hf=>?_⟩,?_⟩
 · cases k with
   | zero=>simp only[zcf,List.getElem?_cons_zero,Option.some.injEq]at hf;subst hf;exact⟨by show yo_ 102=true;decide,by simp[yY_,xF_,zcf],by show(0:Int)<=2;decide,by show(2:Int)<=4;decide⟩
   | succ k=>simp[zcf]at hf
 · obtain rfl:k=0:=(by simp[zcf]at hk;omega);exact hok
 · simp only[zcf,List.mem_singleton]at hf;subst hf;exact hsz
 · refine⟨⟨s'.fuel,s'.st.dropLast,s'.cs,s'.L,s'.V,s'.qs⟩,?_⟩;have hcd:(zcf code).map xm_=[⟨2,ts,go⟩]:=by
    show[xm_ ⟨102,2,code⟩]=_;unfold xm_;simp only;rw[htok];simp only;cases hn:ks_ (yn_ ts) with
    | none=>rw[hn]at hnest;cases hnest
    | some R=>rw[hn]at hnest;simp only[Option.map_some,Option.some.injEq]at hnest;rw[<-hnest];rfl
   unfold eDo;rw[hcd];rw[show uG_ [(⟨2,ts,go⟩:CodeV)] 0 ⟨100000,[a,b],[],List.replicate 64 0,[false],[]⟩=some (mk 100000 [] 0 [a,b]) from rfl];simp only;rw[hr.run (2*100000+2) (by show 2*100000+1<_;omega)];simp only[if_true];unfold EgV.pop;rw[hv];rfl
end
section
open Go.RowKit
def awkC:ByteArray:=⟨#[49,32,50,43]⟩
def awkT:List TkV:=[⟨48,1,0⟩,⟨48,2,0⟩,⟨43,0,0⟩]
def awkG:List Int:=[(-1),(-1),(-1)]
theorem zov:uo_ awkC=some awkT:=by kernel_rfl
theorem zmc:(ks_ (yn_ awkT)).map (·.1)=some awkG:=by decide +kernel
theorem zpT:(rFn (zcf awkC) 0).1=0:=by decide +kernel
theorem zow:zer awkC 0 0 3 0:=by
 refine zoc (s':=⟨99997,[3],[],List.replicate 64 0,[false],[]⟩) zov zmc zpT (by decide) ?_ (by rfl);refine Rn.on (s':=mk 99999 [1] 1 [0,0]) (by kernel_rfl) ?_;refine Rn.on (s':=mk 99998 [1,2] 2 [0,0]) (by kernel_rfl) ?_;refine Rn.on (s':=mk 99997 [3] 3 [0,0]) (by kernel_rfl) ?_;refine Rn.on (s':=⟨99997,[3],[],List.replicate 64 0,[false],[]⟩) (by kernel_rfl) ?_;exact Rn.stop (by kernel_rfl)
section
variable {w:World}
theorem zbx:Calls Tryz.prog 13 #[] w (vz_ w):=by
 go_enter Tryz.func13,Tryz.ntmps13;go_wp2_with fail;refine(zkC zow).mono ?_;rintro e w1 ⟨rfl,hc1⟩;have HP:=hQ_ (show vz_ w (.returned (.bool true)) w1 from⟨rfl,hc1⟩);clear hc1;go_wp2_with fail;go_ret;exact HP.o
end
end
section
open Go.RowKit
open Go.Lib
theorem zmE {m:Nat}(hm:m<=40):zH_ 0 (m:Int) []=(utx 0 (m:Int) [],0)/\9<=(utx 0 (m:Int) []).length/\(utx 0 (m:Int) []).length<=20:=by
 have hr:z9_ 0 (m:Int) []=0:=x5_.2 ⟨by omega,by omega,by omega,by simp,rfl,fun k hk=>by simp at hk⟩;have hd:∀q:Nat,q<=40->1<=(decDigits q).length/\(decDigits q).length<=2:=by decide +kernel
 have hd0:=hd 0 (by omega);have hdm:=hd m hm;have hl:(utx 0 (m:Int) []).length=7+(decDigits 0).length+(decDigits m).length:=by
  unfold utx zab;simp only[List.length_cons,List.length_append,Int.toNat_natCast,List.length_nil];rw[show(0:Int).toNat=0 from rfl];omega
 refine⟨?_,by omega,by omega⟩;unfold zH_;rw[if_pos hr,if_neg (by omega)]
theorem e_fit {m:Nat}(hm:m<=40):Fit 0 (m:Int) [] 30 50:=by
 obtain⟨h1,h2,h3⟩:=zmE hm;have hh:zs_ (utx 0 (m:Int) []).length=1:=by unfold zs_;omega
 refine⟨by rw[h1],?_,?_⟩
 · rw[h1];unfold xf_;rw[if_pos rfl,hh];omega
 · rw[h1];show yD_ (30:Int) 0 ((1+zs_ (utx 0 (m:Int) []).length+(0:Int).toNat:Nat):Int)=true;rw[hh];decide
theorem zod {m:Nat}(hm:m<=40):RightU 0 (m:Int) []:=⟨by omega,by omega,by omega,by simp,fun k f hk=>by simp at hk,fun k hk=>by simp at hk,fun f hf=>by simp at hf⟩
section
variable {w:World}
theorem qA_ (a r:Int)(ha:-9223372036854775808<=a/\a<=9223372036854775807)(hP:vF_ w.heap.size w):Calls Tryz.prog 3 #[.int .i64 a,.int .i32 r] w (vz_ w):=by
 have HP:=hQ_ hP;have HWI:=hQ_ (fun (W:World)=>zew (w:=W) a 0 40 (by omega) (by omega) (by omega) ha.1 ha.2);have HFIN:=hQ_ (show ∀W,Chg [] w W->vz_ w (.returned (.bool true)) W from fun W h=>⟨rfl,h⟩);have HAW:=hQ_ (fun (W:World)=>(show Calls Tryz.prog 13 #[] W (fun e w'=>e=.returned (.bool true)/\Chg [] W w') from zbx));generalize vz_ w=PO at HFIN⊢;clear hP ha;go_enter Tryz.func3,Tryz.ntmps3;go_upto_region 2 with(
  go_at_call 7;with_reducible refine(HWI.o w).mono ?_
  rintro e wq ⟨z,hz,rfl,rfl⟩;obtain⟨m,rfl⟩:∃m:Nat,z=(m:Int):=⟨z.toNat,by have:=hz.1;omega⟩;have HM:=hQ_ (show m<=40 from by have:=hz.2.1;omega);clear hz);have HN:=hQ_ (zb_.new w 25 [.int .i64 0,.int .i64 (m:Int),.slice none 0 0]);have HC1:=hQ_ ((Chg.refl [] w).alloc (.cells #[.int .i64 0,.int .i64 (m:Int),.slice none 0 0] 25));generalize w.heap.size=gu at HN⊢;generalize w.alloc (.cells #[.int .i64 0,.int .i64 (m:Int),.slice none 0 0] 25)=w1 at HN HC1⊢;have u0:=HN.o.cell 0;have u1:=HN.o.cell 1;have u2:=HN.o.cell 2;have HKP:=hQ_ (show Calls Tryz.prog 8 #[.agg #[.int .i64 0,.int .i64 (m:Int),.slice none 0 0],.int .i64 30] w1 (vA_ w1 0 (m:Int) [] 30) from
   zdB (L:=30) (l:=[]) ⟨rfl,fun h=>absurd h (by simp[xM_]),Nat.le_refl _,by omega,fun h=>absurd h (by omega),fun f hf=>by simp at hf⟩ (fun f hf=>by simp at hf) (fun h=>absurd h (by omega)) ⟨by omega,by omega⟩ (jW_ HP.o HC1.o) (e_fit HM.o));unfold vA_ zjP at HKP;obtain⟨ht1,ht2,ht3⟩:=zmE HM.o;have HRT:=hQ_ (zod HM.o);go_upto_region 5 with(
  go_at_call 8;with_reducible refine HKP.o.mono ?_
  rintro e w2 ⟨p,h,rfl,bL,bS,bW,g,gN,j,s2,x2,rfl,_,_,_,_,_,_,_,hH,_,_,_,_,_,hc⟩;have HH:=hQ_ hH;have HC2:=hQ_ (HC1.o.trans hc);clear hH hc);clear u0 u1 u2;have HCN:=hQ_ (show Calls Tryz.prog 9 #[.pointer (some ⟨j.h,0,none⟩),.int .i32 r,.int .i64 5,.slice none 0 0,.slice none 0 0] w2 (g4_ w2 22) from
   zfm (fuel:=5) (vR:=[]) (rR:=[]) (vA:=[]) (ns:=[]) HH.o HRT.o rfl (by omega) jb_.nil (fun h=>absurd h (by simp)) (fun ad e=>by cases e) rfl (Nat.le_refl _) (by omega) jb_.nil (fun h=>absurd h (by simp)) (fun ad e=>by cases e) rfl (by omega));unfold g4_ at HCN;go_upto_region 6 with(
  go_at_call 9;with_reducible refine HCN.o.mono ?_
  rintro e w3 ⟨rfl,hc⟩;have HC23:=hQ_ hc;clear hc);have hal:=(Chg.refl [] w3).alloc (.cells #[.int .i64 0,.int .i64 0,.int .i64 0,.slice none 0 0] 32);have HC4:=hQ_ (HC23.o.trans hal);clear hal;generalize w3.alloc (.cells #[.int .i64 0,.int .i64 0,.int .i64 0,.slice none 0 0] 32)=w4 at HC4⊢;have HUN:=hQ_ (zih (HH.o.keep HC4.o));unfold kg_ at HUN;obtain⟨S,hS⟩:∃S,S=zi_ (utx 0 (m:Int) []):=⟨_,rfl⟩;have hSz:(9:Int)<=(S.size:Int):=by rw[hS,zJ_];omega
 have HTX:=hQ_ (fun (W:World)(B:Option Addr)(d:Nat)(hF:Fnr W B 0 d [])(hc:Chg [] w W)=>(show Calls Tryz.prog 10 #[.agg #[.int .i64 0,.int .i64 (m:Int),.slice B 0 d]] W (fun e w'=>e=.returned (.tuple #[.string S,.int .i64 0])/\Chg [] W w') from by
  have h:=zfX.of_fnr (pg:=0) (ms:=(m:Int)) hF (fun f hf=>by simp at hf) W (Chg.refl [] W) (jW_ HP.o hc);rw[ht1]at h;rw[hS];exact h));have HME:=hQ_ (fun (W:World)(hc:Chg [] w2 W)=>zls (HH.o.keep hc));unfold zoT at HME;clear hS ht1 ht2 ht3;go_wp2_with (first
  | (go_at_call 11;(with_reducible refine HUN.o.mono ?_);rintro e w5 ⟨B,d,rfl,hF,_,hc⟩;have HF5:=hQ_ (show Fnr w5 B 0 d [] from hF);have HC5:=hQ_ (HC4.o.trans hc);clear hF hc)
  | (go_at_call 10;(with_reducible refine(HTX.o w5 B d HF5.o (HC2.o.trans HC5.o)).mono ?_);rintro e w6 ⟨rfl,hc⟩;have HC6:=hQ_ (HC5.o.trans hc);clear hc)
  | (go_at_call 12;(with_reducible refine(HME.o w6 HC6.o).mono ?_);rintro e w7 ⟨v,rfl,ho,hc⟩;obtain⟨A7,c7,rfl,_⟩:=zr_ ho;have HC7:=hQ_ (HC6.o.trans hc);clear ho hc)
  | (go_at_call 13;(with_reducible refine(HAW.o w7).mono ?_);rintro e w8 ⟨rfl,hc⟩;have HC8:=hQ_ (HC2.o.trans (HC7.o.trans hc));clear hc));exact HFIN.o _ HC8.o
end
end
section
open Go.RowKit
section
variable {w W:World} {p gC gD rp mm n c kk fuel m2 c2:Nat} {L:List UInt8} {V:List Bool} {X Y:List Value} {rs:List (Option Int)} {av:Value} {A A2:Option Addr} {l:List FnV} {pages most name val trap:Int} {args:List Int} {f:FnV} {s':EgV}
def zmR (w W:World)(p gC gD rp mm:Nat)(val trap:Int)(s':EgV)(e:Ending)(w':World):Prop :=
 ∃ A' m' c',e=.returned (.tuple #[.agg #[.int .i64 val,.int .i64 trap,.int .i64 (s'.fuel:Int),.slice A' m' c'],.int .i64 0])/\QSl w' (.slice A' m' c') s'.qs /\
   (∃gC' gD' X' Y',Mm w' p gC' gD' s'.L X' s'.V Y' mm/\w.heap.size<=gC'/\w.heap.size<=gD')/\Chg [p,gC,gD,rp] W w'/\Chg [] w w'
theorem znn (hW:Chg [] w W)(hM:Mm W p gC gD L X V Y mm)(hn:w.heap.size<=p/\w.heap.size<=gC/\w.heap.size<=gD)(hR:Rq W rp rs [] av (.slice none 0 0))(hrp:w.heap.size<=rp)(hF:Fnr w A n c l)(hU:RightU pages most l)
    (hk:yY_ l name=(kk:Int)) (hf:l[kk]?=some f) (hfa:f.args=(args.length:Int)) (hfu:fuel<=1048576) (hm2:m2=args.length) (hS:Src W A2 (nms args))
    (hdo:eDo l rs mm kk fuel args L V []=some (val,trap,s')) :
    Calls Tryz.prog 25 #[yH_ pages most A n c,.pointer (some ⟨p,0,none⟩),.pointer (some ⟨rp,0,none⟩),.int .i32 name,.int .i64 (fuel:Int),.slice A2 m2 c2] W (zmR w W p gC gD rp mm val trap s'):=by
 have hA:∀ad,A=some ad->ad.block<w.heap.size:=fun ad e=>by
  obtain⟨ad',e',hb,_⟩:=hF.src (by
   have h1:=(List.getElem?_eq_some_iff.1 hf).1;rw[yG_];omega);rw[e]at e';injection e' with e';subst e';exact hb
 have hlt:=hW.size;refine(q7_ (T:=[p,gC,gD,rp]) (c2:=c2) hM hR (hF.keep hW) hU (by simp) (by simp) (by simp) (by simp) (fun i hi=>by simp[Value.ownBlock]at hi) (fun ad e=>⟨Nat.lt_of_lt_of_le (hA ad e) hlt,fun hm=>by
  have:=hA ad e;simp only[List.mem_cons,List.not_mem_nil,or_false]at hm;omega⟩) hk hf hfa hfu (by simp) hm2 hS hdo).mono ?_;rintro e w' ⟨v,rfl,⟨A',c',rfl,hq⟩,⟨gC',gD',X',Y',hM',h1,h2⟩,_,hc⟩;have hnew:∀i∈[p,gC,gD,rp],w.heap.size<=i:=fun i hi=>by
  simp only[List.mem_cons,List.not_mem_nil,or_false]at hi;omega
 refine⟨A',_,c',rfl,⟨A',c',rfl,hq⟩,⟨gC',gD',X',Y',hM',?_,?_⟩,hc,hW.then_ hc fun i hi hl=>by have:=hnew i hi;omega⟩
 · rcases h1 with h|h
   · omega
   · exact hnew _ h
 · rcases h2 with h|h
   · omega
   · exact hnew _ h
end
end
end Go.Proofs.YtcbcfcdmdedefaaGreatDoor
