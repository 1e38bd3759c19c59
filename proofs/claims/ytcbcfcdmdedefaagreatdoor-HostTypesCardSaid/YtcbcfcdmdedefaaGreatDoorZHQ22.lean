import Derived.Test.YtcbcfcdmdedefaaGreatDoorZHQ21
set_option maxRecDepth 100000
set_option maxHeartbeats 16000000
namespace Go.Proofs.YtcbcfcdmdedefaaGreatDoor
open Go.RowKit
abbrev eg3:List TypeId:=[112,2,169]
theorem vT_:∀t:TypeId,t∈eg3->t∈egT:=by intro t h;simp only[List.mem_cons,List.not_mem_nil,or_false]at h⊢;rcases h with h|h|h<;>subst h<;>simp
theorem k4_:∀t:TypeId,t∈eg3->t=112\/t=2\/t=169:=by intro t h;simpa using h
def zu_ (P:EP)(W:World)(s':EgV)(r:Value)(e:Ending)(w':World):Prop:=e=.returned r/\(∃vs' vc',Eg P w' vs' vc' s')/\Fe P.K egT W w'
section
variable {P:EP} {W W':World} {vs vc:Value} {s:EgV}
theorem Eg.kstk (h:Eg P W vs vc s):∀i,vs.ownBlock=some i->P.K i:=fun i hi=>.inl (h.stk.lt i hi).1
theorem Eg.kcal (h:Eg P W vs vc s):∀i,vc.ownBlock=some i->P.K i:=fun i hi=>.inl (h.cal.lt i hi).1
theorem Eg.pushed (h:Eg P W vs vc s){W2 w3:World}(hc:Chg [] W W2){x:Int}{v':Value}{n1:Nat}(hn1:n1=s.st.length+1)(hroom:s.st.length+s.fuel<=2999999)
    (ho:w3.ownsRow P.B 2 1 v' n1 (nms s.st++[.int .i64 x])) (hg:W2.grownBy w3 vs.ownBlock) :
    Eg P (w3.setCell ⟨P.g,7,none⟩ v') v' vc (s.push x)/\Fe P.K egT W (w3.setCell ⟨P.g,7,none⟩ v'):=by
 subst hn1;have h2:=h.keep hc;have hr3:=zn_ h2.rec_ h2.stk (by decide) hg;have hc3:=yl_ h2.cal h2.stk (by decide) hg;have hf:Fe P.K eg3 W (w3.setCell ⟨P.g,7,none⟩ v'):=((Fe.of_chg hc).grown h2.stk h2.kstk (by simp[eg3]) hg).setw hr3 h.kg (by simp[eg3]) _;refine⟨h.upd hf k4_ (hr3.set_ 7 v') ?_ (z1_ hc3 hr3 (by decide)) h.loc (Nat.le_refl _) (by rw[List.length_append,List.length_singleton];omega) h.calb,hf.sub vT_⟩;have:=z1_ (j:=7) (u:=v') ho hr3 (by decide);rw[List.length_append,List.length_singleton,ky_];exact this
theorem Eg.popped (h:Eg P W vs vc s){A:Option Addr}{n c:Nat}(hv:vs=.slice A (n+1) c){W2:World}(hc:Chg [] W W2){st:List Int}{x:Int}(hst:s.st=st++[x]) :
    Eg P (W2.setCell ⟨P.g,7,none⟩ (.slice A n c)) (.slice A n c) vc ⟨s.fuel,st,s.cs,s.L,s.V,s.qs⟩/\Fe P.K egT W (W2.setCell ⟨P.g,7,none⟩ (.slice A n c)):=by
 subst hv;have h2:=h.keep hc;have hl:s.st.length=st.length+1:=by rw[hst];simp
 have hq:n+1=s.st.length:=by
  rcases h.stk.2 with⟨e,e2⟩|⟨_,_,_,e,_⟩
  · injection e with _ e _;omega
  · injection e
 have hA:A≠none:=by
  rintro rfl;rcases h.stk.2 with⟨e,_⟩|⟨_,_,_,e,_⟩
  · injection e with _ e _;simp at e
  · injection e with e _;cases e
 have ho:=h2.stk;rw[<-hq]at ho;have ht:=x6_ (q':=n) ho (by omega) hA;have e2:(nms s.st).take (n*1)=nms st:=by rw[hst,ky_,List.take_left' (by rw[xi_];omega)]
 rw[e2]at ht;have hf:Fe P.K eg3 W (W2.setCell ⟨P.g,7,none⟩ (.slice A n c)):=(Fe.of_chg hc).setw h2.rec_ h.kg (by simp[eg3]) _;refine⟨h.upd hf k4_ (h2.rec_.set_ 7 _) ?_ (z1_ h2.cal h2.rec_ (by decide)) h.loc (Nat.le_refl _) (by have:=h.stkb;omega) h.calb,hf.sub vT_⟩;have:=z1_ (j:=7) (u:=.slice A n c) ht h2.rec_ (by decide);rw[show st.length=n from by omega];exact this
theorem Eg.top (h:Eg P W vs vc s){st:List Int}{x:Int}(hst:s.st=st++[x]):∃g c,vs=.slice (some ⟨g,0,none⟩) (st.length+1) c/\st.length+1<=c/\W.cell? ⟨g,st.length,none⟩=some (.int .i64 x):=by
 have hl:s.st.length=st.length+1:=by rw[hst];simp
 obtain⟨A,n,c,rfl,hn,hc⟩:=h.sslice;obtain⟨g,rfl,hx⟩:=zv_ (j:=st.length) (u:=.int .i64 x) h.stk (by rw[hn]) (by rw[hst,ky_,List.getElem?_append_right (by rw[xi_];exact Nat.le_refl _),xi_,Nat.sub_self];rfl);exact⟨g,c,by rw[hn,hl],by omega,hx⟩
theorem xL_ {x:Int}{s':EgV}(h:s.pop=some (x,s')):∃st,s.st=st++[x]/\s'=⟨s.fuel,st,s.cs,s.L,s.V,s.qs⟩:=by
 unfold EgV.pop at h;split at h
 · cases h
 · rename_i y hy;injection h with h;injection h with h1 h2;subst h1;refine⟨s.st.dropLast,?_,h2.symm⟩;rcases List.eq_nil_or_concat s.st with e|⟨l,z,e⟩
   · rw[e]at hy;simp at hy
   · rw[List.concat_eq_append]at e;rw[e]at hy⊢;simp at hy;subst hy;simp
theorem xK_ (h:Eg P W vs vc s)(x:Int)(hroom:s.st.length+s.fuel<=2999999):Calls Tryz.prog 132 #[.pointer (some ⟨P.g,0,none⟩),.int .i64 x] W (zu_ P W (s.push x) (.tuple #[])):=by
 obtain⟨i0,hi0,hz0,hz1,hz2⟩:=info_parts u5_;obtain⟨A,n,c,rfl,hn,hc⟩:=h.sslice;have H:=hQ_ h;have HN:=hQ_ hn;have k7:W.cell? ⟨P.g,7,none⟩=some (.slice A n c):=h.rec_.cell 7;have hal:Chg [] W (W.alloc (.cells #[.int .i64 x] 2)):=(Chg.refl [] W).alloc _;have HAL:=hQ_ hal;have HOW:=hQ_ (show(W.alloc (.cells #[.int .i64 x] 2)).ownsRow P.B 2 1 (.slice A n c) n (nms s.st) from by have:=zf_ h.stk hal;rw[<-hn]at this;exact this);have HB:=hQ_ (show P.B<=(W.alloc (.cells #[.int .i64 x] 2)).heap.size from Nat.le_trans h.room hal.size);have hn9:n<=3000000:=by omega
 generalize hPg:P.g=g at k7⊢;have HPG:=hQ_ hPg;clear h hn hal hPg;go_enter Tryz.func132,Tryz.ntmps132;go_wp2_with (
  at_builtin;refine wpList_append_own _ rfl (.tmp 8) (.tmp 10) _ rfl P.B 2 i0 _ 1 8 Tryz.underlying45 hi0 hz0 hz1 hz2 rfl (by decide) (.slice A n c) n (nms s.st) rfl HOW.o ⟨W.heap.size,0,none⟩ 1 1 [.int .i64 x] rfl rfl (vh_ _ _ _) (by simp[Value.oneCell']) (by simp only[maxLen];omega) (by omega) HB.o ?_;intro v' w3 ho hg hb;have HO:=hQ_ ho;have HG:=hQ_ hg;have HR3:=hQ_ (show zb_ w3 g _ _ from by have:=zn_ (H.o.keep HAL.o).rec_ (H.o.keep HAL.o).stk (by decide) hg;rw[HPG.o]at this;exact this);obtain⟨A3,c3,rfl,_⟩:=zh_ ho;have d7:=HR3.o.cell 7;have e7:=HR3.o.frozen 7;clear ho hg hb);have HP:=hQ_ (H.o.pushed (x:=x) HAL.o (by have:=HN.o;omega) hroom HO.o HG.o);rw[HPG.o]at HP
 go_end0
 exact⟨rfl,⟨_,_,HP.o.1⟩,HP.o.2⟩
theorem xu_ {x:Int}{s':EgV}(h:Eg P W vs vc s)(hp:s.pop=some (x,s')):Calls Tryz.prog 55 #[.pointer (some ⟨P.g,0,none⟩)] W (zu_ P W s' (.int .i64 x)):=by
 obtain⟨st,hst,rfl⟩:=xL_ hp;obtain⟨gs,c,rfl,hc,hx⟩:=h.top hst;have k7:W.cell? ⟨P.g,7,none⟩=some (.slice (some ⟨gs,0,none⟩) (st.length+1) c):=h.rec_.cell 7;have f7:=h.rec_.frozen 7;have hb:=h.stkb;have hl:s.st.length=st.length+1:=by rw[hst];simp
 have HQ:=hQ_ (h.popped rfl (Chg.refl [] W) hst);have HQ2:=hQ_ (h.popped rfl ((Chg.refl [] W).drew) hst);obtain⟨n,hn⟩:∃n,n=st.length:=⟨_,rfl⟩;rw[<-hn]at HQ HQ2 k7 hx hc hl;have hn9:n<=3000000:=by omega
 generalize P.g=g at k7 f7 HQ HQ2⊢;clear h hp hst hn hb;have hsub:IntKind.i64.wrap (((n+1:Nat):Int)-1)=(n:Int):=by rw[IntWalk.i64_in _ (by omega)];omega
 have hq0:(0:Int)<=(n:Int):=by omega
 have hq1:(n:Int)<((n+1:Nat):Int):=by omega
 have hq2:(n:Int)<=(c:Int):=by omega
 go_enter Tryz.func55,Tryz.ntmps55;go_wp2_with fail;go_ret;exact⟨rfl,⟨_,_,HQ.o.1⟩,HQ.o.2⟩
end
theorem vS_ {cs:List CallV}{c:CallV}(h:cs.getLast?=some c):∃ys,cs=ys++[c]/\cs.dropLast=ys:=by
 rcases List.eq_nil_or_concat cs with e|⟨l,z,e⟩
 · rw[e]at h;simp at h
 · rw[List.concat_eq_append]at e;rw[e]at h⊢;simp at h;subst h;exact⟨l,rfl,by simp⟩
section
variable {P:EP} {W W':World} {vs vc:Value} {s:EgV}
theorem Eg.cur (h:Eg P W vs vc s){ys:List CallV}{c:CallV}(hcs:s.cs=ys++[c]):∃g cap,vc=.slice (some ⟨g,0,none⟩) (ys.length+1) cap/\ys.length+1<=cap/\ys.length<=31/\c.loc.length=26 /\
    (∀j u,(clC c)[j]?=some u->W.cell? ⟨g,ys.length*28+j,none⟩=some u)/\∀j,W.frozen? ⟨g,j,none⟩=false:=by
      have hl:s.cs.length=ys.length+1:=(by rw[hcs];simp);have hb:=h.calb;have hloc:=h.loc;rw[hcs]at hloc;obtain⟨A,n,cap,rfl,hn,hc⟩:=h.cslice;have k:∀j u,(clC c)[j]?=some u->∃g,A=some ⟨g,0,none⟩/\W.cell? ⟨g,ys.length*28+j,none⟩=some u:=fun j u hu=>zv_ h.cal (by rw[hn]) (by rw[hcs,zjj hloc];exact hu);obtain⟨g,rfl,_⟩:=k 0 _ rfl;refine⟨g,cap,by rw[hn,hl],by omega,by omega,(xG_.app.1 hloc).2,fun j u hu=>?_,fun j=>y0_ (by have:=h.cal;rw[<-hn]at this;exact this)⟩;obtain⟨_,e,hx⟩:=k j u hu;injection e with e;injection e with e;subst e;exact hx
theorem Eg.callset (h:Eg P W vs vc s){ys:List CallV}{c c':CallV}(hcs:s.cs=ys++[c]){g n cap j:Nat}(hv:vc=.slice (some ⟨g,0,none⟩) n cap){W2:World}(hc:Chg [] W W2)(u:Value)(hu:(clC c).set j u=clC c')(hl:c'.loc.length=26) :
    Eg P (W2.setCell ⟨g,ys.length*28+j,none⟩ u) vs vc (s.calls (ys++[c']))/\Fe P.K egT W (W2.setCell ⟨g,ys.length*28+j,none⟩ u):=by
 subst hv;have h2:=h.keep hc;have hloc:=h.loc;rw[hcs]at hloc;have hq:n=s.cs.length:=by
  rcases h.cal.2 with⟨e,e2⟩|⟨_,_,_,e,_⟩
  · cases e
  · injection e with _ e _
 have hgB:=(h.cal.lt g rfl).1;have ho:=h2.cal;rw[<-hq]at ho;have hf:Fe P.K eg3 W (W2.setCell ⟨g,ys.length*28+j,none⟩ u):=(Fe.of_chg hc).seto ho (.inl hgB) (by simp[eg3]) _;have hne:P.g≠g:=by
  intro e;rcases ho.2 with⟨e',_⟩|⟨g',_,cur,e',_,hg,_⟩
  · cases e'
  · injection e' with e1 _ _;injection e1 with e1;injection e1 with e1;subst e1;have hr:=h2.rec_;rw[e]at hr;unfold zb_ at hr;rw[hr]at hg;injection hg with hg;injection hg with _ hg _;exact absurd hg (by decide)
 have hst:(W2.setCell ⟨g,ys.length*28+j,none⟩ u).ownsRow P.B 2 1 vs s.st.length (nms s.st):=zG_ h2.stk (zdA ho h2.stk (by decide) rfl);refine⟨h.upd hf k4_ (h2.rec_.far (by simpa using hne) _) hst ?_ (xG_.app.2 ⟨(xG_.app.1 hloc).1,hl⟩) (Nat.le_refl _) h.stkb (by have:=h.calb;rw[hcs]at this;simpa using this),hf.sub vT_⟩;have:=v7_ (j:=ys.length*28+j) (u:=u) ho;rw[hcs,zlK hloc j u hu]at this;rw[show(ys++[c']).length=n from by rw[hq,hcs];simp];exact this
theorem g1_ (c:CallV)(go:Int)(h:0<=go):(clC c).set 1 (.int .i64 go)=clC (c.at_ go.toNat):=by
 unfold clC CallV.at_;simp only[List.cons_append,List.nil_append,List.set_cons_succ,List.set_cons_zero];rw[Int.toNat_of_nonneg h]
theorem zjl (c:CallV)(i:Nat)(x:Int):(clC c).set (2+i) (.int .i64 x)=clC ⟨c.fn,c.next,c.loc.set i x⟩:=by
 unfold clC;rw[show 2+i=i+1+1 from by omega];simp only[List.cons_append,List.nil_append,List.set_cons_succ];rw[zhF]
theorem zjm (c:CallV)(i:Nat)(x:Int)(h:c.loc[i]?=some x):(clC c)[2+i]?=some (.int .i64 x):=by
 unfold clC;rw[show 2+i=i+1+1 from by omega];simp only[List.cons_append,List.nil_append,List.getElem?_cons_succ];simp[nms,h]
def zjH (p:Addr)(W:World)(e:Ending)(w':World):Prop:=e=.returned (.pointer (some p))/\Chg [] W w'
theorem jX_ {g k cap:Nat}(h:Eg P W vs vc s)(hv:vc=.slice (some ⟨g,0,none⟩) (k+1) cap)(hk:k<=31):Calls Tryz.prog 92 #[.pointer (some ⟨P.g,0,none⟩)] W (zjH ⟨g,k*28,none⟩ W):=by
 subst hv;have k8:W.cell? ⟨P.g,8,none⟩=some (.slice (some ⟨g,0,none⟩) (k+1) cap):=h.rec_.cell 8;generalize P.g=gp at k8⊢;clear h;have hsub:IntKind.i64.wrap (((k+1:Nat):Int)-1)=(k:Int):=by rw[IntWalk.i64_in _ (by omega)];omega
 have hq0:(0:Int)<=(k:Int):=by omega
 have hq1:(k:Int)<((k+1:Nat):Int):=by omega
 go_enter Tryz.func92,Tryz.ntmps92;go_wp2_with fail;go_quiet (fail);have HP:=hQ_ (show zjH ⟨g,k*28,none⟩ W (.returned (.pointer (some ⟨g,k*28,none⟩))) (W.drewN nq) from⟨rfl,(Chg.refl [] W).drewN nq⟩);go_wp2_with fail;go_ret;exact HP.o
theorem zmX {s':EgV}{go sg:Int}(h:Eg P W vs vc s)(hj:s.jump go=some s')(hs:sg=58\/sg=93\/sg=126):Calls Tryz.prog 133 #[.pointer (some ⟨P.g,0,none⟩),.int .i32 sg,.int .i64 go] W (zu_ P W s' (.tuple #[])):=by
 unfold EgV.jump at hj;cases hl:s.cs.getLast? with
 | none=>rw[hl]at hj;cases hj
 | some c =>
   rw[hl]at hj;simp only at hj;by_cases h0:go<0
   · rw[if_pos h0]at hj;cases hj
   rw[if_neg h0]at hj;injection hj with hj;obtain⟨ys,hcs,hdl⟩:=vS_ hl;rw[hdl]at hj;subst hj;obtain⟨g,cap,hv,hcap,hk,hlen,hcell,hfro⟩:=h.cur hcs;have HSET:=hQ_ (fun (W2:World)(hc:Chg [] W W2)=>h.callset hcs hv hc (j:=1) (.int .i64 go) (g1_ c go (by omega)) hlen);have HNOW:=hQ_ (jX_ h hv hk);have n1:W.cell? ⟨g,ys.length*28+1,none⟩=some (.int .i64 (c.next:Int)):=hcell 1 _ rfl;have HF:=hQ_ (fun (W2:World)(hc:Chg [] W W2)=>show W2.frozen? ⟨g,ys.length*28+1,none⟩=false from by
    obtain⟨_,_,hv2,_,_,_,_,hf2⟩:=(h.keep hc).cur hcs;rw[hv]at hv2;injection hv2 with e _ _;injection e with e;injection e with e;rw[e];exact hf2 _);generalize ys.length=k at *;generalize P.g=gp at *;clear h hl hcs hv hcell hfro h0;rcases hs with rfl|rfl|rfl <;>
   · go_enter Tryz.func133,Tryz.ntmps133;go_wp2_with fail;refine HNOW.o.mono ?_;rintro e w1 ⟨rfl,hc1⟩;have m1:=zd_ n1 hc1;have fm:=HF.o w1 hc1;have HP:=hQ_ (HSET.o w1 hc1);clear hc1;go_wp2_with fail
     go_end0
     exact⟨rfl,⟨_,_,HP.o.1⟩,HP.o.2⟩
end
section
variable {P:EP} {W W':World} {vs vc:Value} {s:EgV}
theorem zu_.of_chg {r:Value}{w':World}(h:Eg P W vs vc s)(hc:Chg [] W w'):zu_ P W s r (.returned r) w':=⟨rfl,⟨_,_,h.keep hc⟩,Fe.of_chg hc⟩
theorem zjW {go sg:Int}(h:Eg P W vs vc s)(hs:sg=59\/sg=91):Calls Tryz.prog 133 #[.pointer (some ⟨P.g,0,none⟩),.int .i32 sg,.int .i64 go] W (zu_ P W s (.tuple #[])):=by
 have HP:=hQ_ (zu_.of_chg (r:=.tuple #[]) h (Chg.refl [] W));generalize P.g=gp at *;clear h;rcases hs with rfl|rfl <;>
 · go_enter Tryz.func133,Tryz.ntmps133;go_wp2_with fail
   go_end0
   exact HP.o
theorem zjX {go x:Int}{s1 s':EgV}(h:Eg P W vs vc s)(hp:s.pop=some (x,s1))(hj:(if x=0 then s1.jump go else some s1)=some s'):Calls Tryz.prog 133 #[.pointer (some ⟨P.g,0,none⟩),.int .i32 63,.int .i64 go] W (zu_ P W s' (.tuple #[])):=by
 have HPOP:=hQ_ (xu_ h hp);by_cases hx:x=0
 · rw [if_pos hx]at hj;subst hx;unfold EgV.jump at hj;cases hl:s1.cs.getLast? with
   | none=>rw[hl]at hj;cases hj
   | some c =>
     rw[hl]at hj;simp only at hj;by_cases h0:go<0
     · rw[if_pos h0]at hj;cases hj
     rw[if_neg h0]at hj;injection hj with hj;obtain⟨ys,hcs,hdl⟩:=vS_ hl;rw[hdl]at hj;subst hj;have HCS:=hQ_ hcs;have hg0:0<=go:=(by omega);obtain⟨gp,hgp⟩:∃gp,gp=P.g:=⟨_,rfl⟩;rw[<-hgp]at HPOP⊢;have HGP:=hQ_ hgp;clear h hl hp hcs h0 hgp;go_enter Tryz.func133,Tryz.ntmps133;go_wp2_with fail;refine HPOP.o.mono ?_;rintro e w1 ⟨rfl,⟨vs1,vc1,h1⟩,hf1⟩;obtain⟨g,cap,hv,hcap,hk,hlen,hcell,hfro⟩:=h1.cur HCS.o;have HSET:=hQ_ (fun (W2:World)(hc:Chg [] w1 W2)=>h1.callset HCS.o hv hc (j:=1) (.int .i64 go) (g1_ c go hg0) hlen);have HNOW:=hQ_ (jX_ h1 hv hk);rw[<-HGP.o]at HNOW;have n1:w1.cell? ⟨g,ys.length*28+1,none⟩=some (.int .i64 (c.next:Int)):=hcell 1 _ rfl;have HF:=hQ_ (fun (W2:World)(hc:Chg [] w1 W2)=>show W2.frozen? ⟨g,ys.length*28+1,none⟩=false from by
      obtain⟨_,_,hv2,_,_,_,_,hf2⟩:=(h1.keep hc).cur HCS.o;rw[hv]at hv2;injection hv2 with e _ _;injection e with e;injection e with e;rw[e];exact hf2 _);have HF1:=hQ_ hf1;generalize ys.length=k at *;clear h1 hv hcell hfro hf1;go_wp2_with fail;refine HNOW.o.mono ?_;rintro e w2 ⟨rfl,hc2⟩;have m1:=zd_ n1 hc2;have fm:=HF.o w2 hc2;have HP:=hQ_ (HSET.o w2 hc2);clear hc2;go_wp2_with fail
     go_end0
     exact⟨rfl,⟨_,_,HP.o.1⟩,HF1.o.trans HP.o.2⟩
 · rw[if_neg hx]at hj;injection hj with hj;subst hj;have hxb:(x==0)=false:=(by simpa using hx);generalize P.g=gp at *;clear h hp hx;go_enter Tryz.func133,Tryz.ntmps133;go_wp2_with fail;refine HPOP.o.mono ?_;rintro e w1 ⟨rfl,h1,hf1⟩;have HP:=hQ_ (show zu_ P W s1 (.tuple #[]) (.returned (.tuple #[])) w1 from⟨rfl,h1,hf1⟩);clear h1 hf1;go_wp2_with fail
   go_end0
   exact HP.o
theorem Eg.asked (h:Eg P W vs vc s){a q:Value}{qs:List (Int×Int)}(hq:qs.length+s.fuel<=900000000)(hR:Rq W' P.rp P.rs qs a q)(hK:∀i,q.ownBlock=some i->P.K i)(hf:Fe P.K rqT W W'):Eg P W' vs vc ⟨s.fuel,s.st,s.cs,s.L,s.V,qs⟩:=by
 obtain⟨gC,gD,X,Y,hM,k1,k2⟩:=h.mem
 exact { rec_:=hf.whole h.rec_ (by decide),stk:=hf.own h.stk (by decide),cal:=hf.own h.cal (by decide),mem:=⟨gC,gD,X,Y,hf.mm hM (by decide) (by decide) (by decide),k1,k2⟩,row:=⟨a,q,hR,hK⟩,
         cod:=h.cod.fe hf (by decide) (by decide) (by decide),fns:=h.fns.fe hf h.foff,foff:=h.foff,gB:=h.gB,room:=Nat.le_trans h.room hf.size,pK:=h.pK,rK:=h.rK,loc:=h.loc,fuelb:=h.fuelb,stkb:=h.stkb,calb:=h.calb,qsb:=hq }
theorem Eg.memd (h:Eg P W vs vc s){L:List UInt8}{V:List Bool}{gC gD:Nat}{X Y:List Value}{TS:List TypeId}(hM:Mm W' P.p gC gD L X V Y P.most)(k1:P.K gC)(k2:P.K gD)(hf:Fe P.K TS W W')(hT:∀t∈TS,t=105\/t=5\/t=4):Eg P W' vs vc ⟨s.fuel,s.st,s.cs,L,V,s.qs⟩:=by
 obtain⟨a,q,hR,k3⟩:=h.row;have no:∀t:TypeId,t≠105->t≠5->t≠4->t∉TS:=fun t a b c hm=>by
  rcases hT t hm with h|h|h
  · exact a h
  · exact b h
  · exact c h
 exact { rec_:=hf.whole h.rec_ (no _ (by decide) (by decide) (by decide)),stk:=hf.own h.stk (no _ (by decide) (by decide) (by decide)),cal:=hf.own h.cal (no _ (by decide) (by decide) (by decide)),mem:=⟨gC,gD,X,Y,hM,k1,k2⟩,
         row:=⟨a,q,hR.fe hf (no _ (by decide) (by decide) (by decide)) (no _ (by decide) (by decide) (by decide)) (no _ (by decide) (by decide) (by decide)),k3⟩,
         cod:=h.cod.fe hf (no _ (by decide) (by decide) (by decide)) (no _ (by decide) (by decide) (by decide)) (no _ (by decide) (by decide) (by decide)),fns:=h.fns.fe hf h.foff,foff:=h.foff,gB:=h.gB,room:=Nat.le_trans h.room hf.size,pK:=h.pK,rK:=h.rK,loc:=h.loc,fuelb:=h.fuelb,stkb:=h.stkb,calb:=h.calb,qsb:=h.qsb }
end
def askO (o:Option Int)(nm x:Int)(s1:EgV):Int×EgV:=match o with
  | none=>(7,⟨s1.fuel,s1.st,s1.cs,s1.L,s1.V,s1.qs++[(nm,x)]⟩)
  | some n=>(0,⟨s1.fuel,s1.st++[n],s1.cs,s1.L,s1.V,s1.qs++[(nm,x)]⟩)
def zqc (rs:List (Option Int))(nm x:Int)(s1:EgV):Int×EgV:=askO (zoZ rs s1.qs.length) nm x s1
section
variable {P:EP} {W W':World} {vs vc:Value} {s:EgV}
theorem zlF {x:Int}{s1:EgV}(h:Eg P W vs vc s)(hp:s.pop=some (x,s1))(nm:Int)(hroom:s.qs.length+s.fuel<=899999999):Calls Tryz.prog 136 #[.pointer (some ⟨P.g,0,none⟩),.int .i32 nm] W (zu_ P W (zqc P.rs nm x s1).2 (.int .i64 (zqc P.rs nm x s1).1)):=by
 have HPOP:=hQ_ (xu_ (h.keep ((Chg.refl [] W).drew)) hp);obtain⟨st,hst,hs1⟩:=xL_ hp;have HS1:=hQ_ (show s1.fuel=s.fuel/\s1.qs=s.qs/\s1.st.length+s1.fuel<=2999999 from by
  have hb:=h.stkb;rw[hst,List.length_append,List.length_singleton]at hb;subst hs1;exact⟨rfl,rfl,by show st.length+s.fuel<=_;omega⟩);have k5:W.cell? ⟨P.g,5,none⟩=some (.pointer (some ⟨P.rp,0,none⟩)):=h.rec_.cell 5;have hASK:∀(w1:World)(vs1 vc1:Value),Eg P w1 vs1 vc1 s1->Fe P.K egT W w1->Calls Tryz.prog 158 #[.pointer (some ⟨P.rp,0,none⟩),.int .i32 nm,.int .i64 x] w1 (fun e w2=>e=.returned (.tuple #[.int .i64 ((zoZ P.rs s1.qs.length).getD 0),.bool (zoZ P.rs s1.qs.length).isSome])/\Hid (Eg P w2 vs1 vc1 ⟨s1.fuel,s1.st,s1.cs,s1.L,s1.V,s1.qs++[(nm,x)]⟩)/\Hid (Fe P.K egT W w2)):=by
  intro w1 vs1 vc1 h1 hf1;obtain⟨a,q,hR,hK⟩:=h1.row;have hl:=HS1.o;refine(zoF hR h1.rK hK (fun i hi=>.inl (Nat.le_trans h1.room hi)) (by rw[hl.2.1];omega) nm x).mono ?_;rintro e w2 ⟨a',q',he,hR',hF',hK'⟩;refine⟨he,hQ_ (h1.asked (by rw[List.length_append,List.length_singleton,hl.1,hl.2.1];omega) hR' hK' hF'),hQ_ (hf1.trans (hF'.sub (by intro t ht;simp only[List.mem_cons,List.not_mem_nil,or_false]at ht⊢;rcases ht with ht|ht<;>subst ht<;>simp)))⟩
 have HASK:=hQ_ hASK;obtain⟨R,hR⟩:∃R,R=zqc P.rs nm x s1:=⟨_,rfl⟩;have HR:=hQ_ hR;rw[<-hR];obtain⟨o,ho⟩:∃o,o=zoZ P.rs s1.qs.length:=⟨_,rfl⟩;rw[<-ho]at HASK;have HRO:=hQ_ (show R=askO o nm x s1 from by rw[hR,ho];rfl);have HPUSH:=hQ_ (fun (w:World)(vs2 vc2:Value)(sx:EgV)(hx:Eg P w vs2 vc2 sx)(n:Int)(hr:sx.st.length+sx.fuel<=2999999)=>xK_ hx n hr);obtain⟨gp,hgp⟩:∃gp,gp=P.g:=⟨_,rfl⟩;have HGP:=hQ_ hgp;rw[<-hgp]at HPOP HPUSH k5⊢;clear h hp hst hs1 hASK hR ho hgp;go_enter Tryz.func136,Tryz.ntmps136;go_upto_region 3 with fail;go_region_with (first
  | (go_at_call 55;refine HPOP.o.mono ?_;rintro e w1 ⟨rfl,⟨vs1,vc1,h1⟩,hf1⟩;have m5:w1.cell? ⟨gp,5,none⟩=some (.pointer (some ⟨P.rp,0,none⟩)):=(by rw[HGP.o];exact h1.rec_.cell 5);have H1:=hQ_ h1;have HF1:=hQ_ ((Fe.of_chg ((Chg.refl [] W).drew)).trans hf1);clear h1 hf1)
  | (go_at_call 158;refine(HASK.o w1 vs1 vc1 H1.o HF1.o).mono ?_;rintro e w2 ⟨rfl,H2,HF2⟩));all_goals
   cases o with
   | none =>
     have HP:=hQ_ (show zu_ P W R.2 (.int .i64 R.1) (.returned (.int .i64 7)) w2 from by rw[HRO.o];exact⟨rfl,⟨_,_,H2.o⟩,HF2.o⟩);simp only[Option.getD_none,Option.isSome_none];go_wp2_with fail;go_ret;exact HP.o
   | some n =>
     have HPU:=hQ_ (HPUSH.o w2 _ _ _ H2.o n (by have:=HS1.o;exact this.2.2));simp only[Option.getD_some,Option.isSome_some];go_wp2_with fail;refine HPU.o.mono ?_;rintro e w3 ⟨rfl,h3,hf3⟩;have HP:=hQ_ (show zu_ P W R.2 (.int .i64 R.1) (.returned (.int .i64 0)) w3 from by rw[HRO.o];exact⟨rfl,h3,HF2.o.trans hf3⟩);clear h3 hf3;go_wp2_with fail;go_ret;exact HP.o
end
def EP.cd (P:EP):List CodeV:=P.xs.map (·.c)
theorem zbC {P:EP}{k:Nat}{s s':EgV}(h:ke_ P.cd k s=some s'):∃x,P.xs[k]?=some x/\x.c.args<=s.st.length/\x.c.args<=26 /\
    s'=⟨s.fuel,s.st.take (s.st.length-x.c.args),s.cs++[⟨k,0,s.st.drop (s.st.length-x.c.args)++List.replicate (26-x.c.args) 0⟩],s.L,s.V,s.qs⟩:=by
 unfold ke_ EP.cd at h;rw[List.getElem?_map]at h;cases hx:P.xs[k]? with
 | none=>rw[hx]at h;cases h
 | some x =>
   rw[hx]at h;simp only[Option.map_some]at h;by_cases hc:s.st.length<x.c.args\/26<x.c.args
   · rw[if_pos hc]at h;cases h
   · rw[if_neg hc]at h;injection h with h;exact⟨x,rfl,by omega,by omega,h.symm⟩
def zc (k:Nat):CallV:=⟨k,0,List.replicate 26 0⟩
theorem zfY (k:Int):Tryz.prog.built 169 [(0,.int .i64 k)]=some #[.int .i64 k,.int .i64 0,.int .i64 0,.int .i64 0,.int .i64 0,.int .i64 0,.int .i64 0,.int .i64 0,.int .i64 0,.int .i64 0,.int .i64 0,.int .i64 0,.int .i64 0,.int .i64 0,.int .i64 0,.int .i64 0,.int .i64 0,.int .i64 0,.int .i64 0,.int .i64 0,.int .i64 0,.int .i64 0,.int .i64 0,.int .i64 0,.int .i64 0,.int .i64 0,.int .i64 0,.int .i64 0]:=by kernel_rfl
theorem zlQ (k:Nat):Tryz.prog.built 169 [(0,.int .i64 (k:Int))]=some (clC (zc k)).toArray:=(zfY k).trans rfl
theorem zak:(Tryz.prog.info? 169).map (fun i=>(i.zero.map (·.cells),i.size,i.bytes))=some (some (clC (zc 0)).toArray,28,224):=by kernel_rfl
theorem zaw:(Tryz.prog.info? 169).map (·.size)=some 28:=by kernel_rfl
theorem j6_ {P:Program}{t:TypeId}{c:Array Value}{n b:Nat}(h:(P.info? t).map (fun i=>(i.zero.map (·.cells),i.size,i.bytes))=some (some c,n,b)):∃i z,P.info? t=some i/\i.zero=some z/\z.cells=c/\i.size=n/\i.bytes=b:=by
 cases hi:P.info? t with
 | none=>rw[hi]at h;cases h
 | some i =>
   rw[hi]at h;simp only[Option.map_some,Option.some.injEq,Prod.mk.injEq]at h;obtain⟨h1,h2,h3⟩:=h;cases hz:i.zero with
   | none=>rw[hz]at h1;cases h1
   | some z=>rw[hz]at h1;simp only[Option.map_some,Option.some.injEq]at h1;exact⟨i,z,rfl,hz,h1,h2,h3⟩
theorem zoI (l:List Value)(h:∀v∈l,v.oneCell'=true):l.toArray.all (·.oneCell')=true:=by simpa using h
theorem zjk (c:CallV):∀v∈clC c,v.oneCell'=true:=by
 intro v hv;unfold clC at hv;simp only[List.cons_append,List.nil_append,List.mem_cons]at hv;rcases hv with rfl|rfl|hv
 · rfl
 · rfl
 · exact zcn _ v hv
theorem zkg {w:World}{B e n c q:Nat}{A:Option Addr}{xs:List Value}(h:w.ownsRow B e 1 (.slice A n c) n xs)(hq:q<=n):Src w (if c=q then A else Option.map (fun x=>x.add q) A) (xs.drop q):=by
 obtain⟨A',c',e',hl,hc,hs,hA⟩:=zr_ h;injection e' with e1 _ e3;subst e1;subst e3;intro h0;rw[List.length_drop]at h0;obtain⟨ad,rfl,hlt,hx⟩:=hs (by omega);obtain⟨b,o,sp⟩:=ad;obtain rfl:sp=none:=(hA _ rfl).1;rw[if_neg (by omega)];refine⟨⟨b,o+q,none⟩,by simp[zl_],hlt,fun j u hj=>?_⟩;have:=hx (q+j) u (by rw[List.getElem?_drop]at hj;exact hj);rw[zl_]at this⊢;rw[Nat.add_assoc];exact this
theorem zca (k ar:Nat)(l:List Int)(hl:l.length=ar):splice (clC (zc k)) 2 (nms l)=clC ⟨k,0,l++List.replicate (26-ar) 0⟩:=by
 unfold splice clC zc;simp only[List.cons_append,List.nil_append,List.take_succ_cons,List.take_zero,xi_,hl];rw[show 2+ar=ar+1+1 from by omega];simp only[List.drop_succ_cons];rw[ky_];congr 3;show List.drop ar (nms (List.replicate 26 0))=nms (List.replicate (26-ar) 0);unfold nms;rw[List.map_replicate,List.map_replicate,List.drop_replicate]
section
variable {P:EP} {W W':World} {vs vc:Value} {s:EgV}
theorem Eg.cut (h:Eg P W vs vc s){A:Option Addr}{n c q:Nat}(hv:vs=.slice A n c)(hn:n=s.st.length)(hq:q<=n){W2:World}(hc:Chg [] W W2) :
    Eg P (W2.setCell ⟨P.g,7,none⟩ (.slice A q c)) (.slice A q c) vc ⟨s.fuel,s.st.take q,s.cs,s.L,s.V,s.qs⟩/\Fe P.K egT W (W2.setCell ⟨P.g,7,none⟩ (.slice A q c)):=by
 subst hv;have h2:=h.keep hc;have ho:=h2.stk;rw[<-hn]at ho;have ht:W2.ownsRow P.B 2 1 (.slice A q c) q (nms (s.st.take q)):=by
  by_cases hA:A=none
  · subst hA;rcases ho.2 with⟨e,e2⟩|⟨_,_,_,e,_⟩
    · injection e with _ _ e3;subst e3;obtain rfl:q=0:=(by omega);simpa[nms] using World.ownsRow_nil W2 P.B 2 1
    · injection e with e _;cases e
  · have:=x6_ (q':=q) ho hq hA;rw[Nat.mul_one]at this;rwa[show nms (s.st.take q)=(nms s.st).take q from by simp[nms,List.map_take]]
 have hf:Fe P.K eg3 W (W2.setCell ⟨P.g,7,none⟩ (.slice A q c)):=(Fe.of_chg hc).setw h2.rec_ h.kg (by simp[eg3]) _;have hql:(s.st.take q).length=q:=by rw[List.length_take];omega
 refine⟨h.upd hf k4_ (h2.rec_.set_ 7 _) ?_ (z1_ h2.cal h2.rec_ (by decide)) h.loc (Nat.le_refl _) (by have:=h.stkb;omega) h.calb,hf.sub vT_⟩;rw[hql];exact z1_ (j:=7) (u:=.slice A q c) ht h2.rec_ (by decide)
theorem Eg.called (h:Eg P W vs vc s){W2 w3:World}(hc:Chg [] W W2){x:CallV}(hx:x.loc.length=26){v':Value}{n1:Nat}(hn1:n1=s.cs.length+1)(hroom:s.cs.length<=31)
    (ho:w3.ownsRow P.B 169 28 v' n1 (gc_ s.cs++clC x)) (hg:W2.grownBy w3 vc.ownBlock) :
    Eg P (w3.setCell ⟨P.g,8,none⟩ v') vs v' (s.calls (s.cs++[x]))/\Fe P.K egT W (w3.setCell ⟨P.g,8,none⟩ v'):=by
 subst hn1;have h2:=h.keep hc;have hr3:=zn_ h2.rec_ h2.cal (by decide) hg;have hs3:=yl_ h2.stk h2.cal (by decide) hg;have hf:Fe P.K eg3 W (w3.setCell ⟨P.g,8,none⟩ v'):=((Fe.of_chg hc).grown h2.cal h2.kcal (by simp[eg3]) hg).setw hr3 h.kg (by simp[eg3]) _;refine⟨h.upd hf k4_ (hr3.set_ 8 v') (z1_ hs3 hr3 (by decide)) ?_ (xG_.app.2 ⟨h.loc,hx⟩) (Nat.le_refl _) h.stkb (by rw[List.length_append,List.length_singleton];omega),hf.sub vT_⟩;have:=z1_ (j:=8) (u:=v') ho hr3 (by decide);rw[List.length_append,List.length_singleton,uh_,jr_];exact this
theorem zbu {k:Nat}{s':EgV}(h:Eg P W vs vc s)(hc:ke_ P.cd k s=some s')(hcs:s.cs.length<=31):Calls Tryz.prog 53 #[.pointer (some ⟨P.g,0,none⟩),.int .i64 (k:Int)] W (zu_ P W s' (.tuple #[])):=by
 obtain⟨x,hx,ha,ha26,rfl⟩:=zbC hc;obtain⟨A,n,c,rfl,hn,hnc⟩:=h.sslice;obtain⟨i0,z0,hi0,hz0,hzc,hz1,hz2⟩:=j6_ zak;have hal:=(Chg.refl [] W).alloc (.cells (clC (zc 0)).toArray 169);have hN:=zb_.new W 169 (clC (zc 0));have hS:=zaz (cs:=clC (zc k)) hN;have hC1:=zeX (cs:=(clC (zc k)).toArray) hal (Nat.le_refl _);have HBC:=hQ_ (zlQ k);have HH:=hQ_ h;have HX:=hQ_ hx;have HN:=hQ_ hn;obtain⟨ar,har⟩:∃ar,ar=x.c.args:=⟨_,rfl⟩;rw[<-har]at ha ha26;rw[<-hn]at ha;have HAR:=hQ_ har;obtain⟨s',hs'⟩:∃s',s'=(⟨s.fuel,s.st.take (s.st.length-x.c.args),s.cs++[⟨k,0,s.st.drop (s.st.length-x.c.args)++List.replicate (26-x.c.args) 0⟩],s.L,s.V,s.qs⟩:EgV):=⟨_,rfl⟩;rw[<-hs'];have HS':=hQ_ hs';have hn9:n<=3000000:=by have:=h.stkb;omega
 obtain⟨gp,hgp⟩:∃gp,gp=P.g:=⟨_,rfl⟩;have HGP:=hQ_ hgp;rw[<-hgp];clear h hx hn har hc hs' hgp;go_enter Tryz.func53,Tryz.ntmps53;go_upto_region 1 with(first
  | (refine jx_ rfl 169 #[(0,.tmp 6)] rfl (clC (zc k)).toArray HBC.o ?_)
  | (refine jy_ rfl 169 rfl hi0 hz0 _ rfl ?_;rw[hzc])
  | (refine wpList_store_row rfl 169 (.tmp 4) (.tmp 7) rfl W.heap.size (clC (zc k)).toArray rfl rfl 169 (clC (zc 0)).toArray hN ?_ ?_ ?_ ?_
     · rw[zaw];rfl
     · rfl
     · exact zoI _ (zjk _)));generalize (W.alloc (.cells (clC (zc 0)).toArray 169)).setRow W.heap.size (clC (zc k)).toArray=w1 at hS hC1⊢;have HC1:=hQ_ hC1;have HG4:=hQ_ (show W.heap.size<=W.heap.size from Nat.le_refl _);generalize hg4:W.heap.size=g4 at hS hN HG4⊢;have HG5:=hQ_ hg4;have HS1:=hQ_ hS;clear hS hC1 hN hal hg4 HG4;have H1:=hQ_ (HH.o.keep HC1.o);have k7:w1.cell? ⟨gp,7,none⟩=some (.slice A n c):=by rw[HGP.o];exact H1.o.rec_.cell 7
 have k3:w1.cell? ⟨gp,3,none⟩=some P.cv:=by rw[HGP.o];exact H1.o.rec_.cell 3
 obtain⟨Av,cv,hcv,_⟩:=zh_ H1.o.cod.own;have hkx:k<P.xs.length:=(List.getElem?_eq_some_iff.1 HX.o).1;have hx32:=H1.o.cod.lenb;obtain⟨gv,rfl,c0⟩:=zv_ H1.o.cod.own hcv ((kh_ P.xs k x 0 HX.o (by omega)).trans rfl);rw[<-HAR.o,Nat.add_zero]at c0;rw[hcv]at k3;generalize P.xs.length=nx at *;have hk0:(0:Int)<=(k:Int):=by omega
 have hk1:(k:Int)<(nx:Int):=by omega
 have hsub:IntKind.i64.wrap ((n:Int)-(ar:Int))=((n-ar:Nat):Int):=by rw[IntWalk.i64_in _ (by omega)];omega
 clear hcv;go_wp2_with fail;go_quiet (fail);have hc2:Chg [] w1 (w1.drewN nq):=(Chg.refl [] w1).drewN nq;generalize w1.drewN nq=w2 at hc2⊢;have H2:=hQ_ (H1.o.keep hc2);have HS2:=hQ_ (HS1.o.keep hc2);have HC2:=hQ_ (HC1.o.new hc2);clear hc2 k7 k3 c0 H1 HS1 HC1;have k7:w2.cell? ⟨gp,7,none⟩=some (.slice A n c):=by rw[HGP.o];exact H2.o.rec_.cell 7
 obtain⟨q,hq⟩:∃q,q=n-ar:=⟨_,rfl⟩;rw[<-hq]at hsub;have hq0:(0:Int)<=(q:Int):=by omega
 have hq1:(q:Int)<=(n:Int):=by omega
 have hq2:q<=n:=by omega
 have hqa:n-q=ar:=by omega
 have HQ:=hQ_ hq;clear hq;go_wp2_with fail;go_still_tail 8,(by kernel_rfl);change wpList _ _ _ _ _ w2.drew;rw[<-HQ.o];have hst:(nms (s.st.drop q)).length=ar:=by rw[xi_,List.length_drop,<-HN.o];omega
 have hsr:Src w2.drew (if c=q then A else Option.map (fun x=>x.add q) A) (nms (s.st.drop q)):=by
  have ho:=H2.o.stk;rw[<-HN.o]at ho;have:=zkg (q:=q) (zf_ ho ((Chg.refl [] w2).drew)) hq2;rwa[show nms (s.st.drop q)=(nms s.st).drop q from by simp[nms,List.map_drop]]
 have hfit:2+(nms (s.st.drop q)).length<=(clC (zc k)).length:=by rw[hst,qf_ (by simp[zc])];omega
 have HSZ:=hQ_ (show(Tryz.prog.info? 2).map (·.size)=some 1 from by kernel_rfl);have HST:=hQ_ hst;have HSR:=hQ_ hsr;have HFT:=hQ_ hfit;have HS3:=hQ_ (HS2.o.keep ((Chg.refl [] w2).drew));clear hst hsr hfit HS2;refine z7_ rfl (.tmp 23) (.tmp 29) _ _ rfl 2 Tryz.underlying45 HSZ.o (some ⟨g4,2,none⟩) (if c=q then A else Option.map (fun x=>x.add q) A) 26 26 (n-q) (c-q) rfl rfl g4 2 169 (clC (zc k)) (nms (s.st.drop q)) HS3.o ?_ (fun _=>rfl) HSR.o HFT.o (zcn _) ?_
 · rw[HST.o,hqa];exact(Nat.min_eq_left ha26).symm
 intro w3 hW3 hc3;rw[zca k ar _ (by have:=HST.o;rwa[xi_]at this)]at hW3;have HC3:=hQ_ (show Chg [] W w3 from(HC2.o.drew).then_ hc3 (fun i hi hl=>by
  have:=HG5.o;simp only[List.mem_cons,List.not_mem_nil,or_false]at hi;omega));have HW3:=hQ_ hW3;have H3:=hQ_ (HH.o.keep HC3.o);clear hc3 hW3 k7 H2 HS3 HSR HC2;obtain⟨cx,hcx⟩:∃cx:CallV,cx=⟨k,0,s.st.drop q++List.replicate (26-ar) 0⟩:=⟨_,rfl⟩;have HCX:=hQ_ hcx;rw[<-hcx]at HW3;have HCL:=hQ_ (show cx.loc.length=26 from by rw[hcx];simp only[List.length_append,List.length_replicate];have:=HST.o;rw[xi_]at this;omega);clear hcx HST HFT;have k7:w3.cell? ⟨gp,7,none⟩=some (.slice A n c):=by rw[HGP.o];exact H3.o.rec_.cell 7
 have f7:w3.frozen? ⟨gp,7,none⟩=false:=by rw[HGP.o];exact H3.o.rec_.frozen 7
 have hqc:(q:Int)<=(c:Int):=by omega
 have HGG:=hQ_ (show g4≠gp from by
  have h1:=HH.o.rec_.lt;have h2:=HGP.o;have h3:=HG5.o;omega);go_upto_region 4 with fail;have HCUT:=hQ_ (show Eg P (w3.setCell ⟨gp,7,none⟩ (.slice A q c)) (.slice A q c) vc ⟨s.fuel,s.st.take q,s.cs,s.L,s.V,s.qs⟩/\Fe P.K egT W (w3.setCell ⟨gp,7,none⟩ (.slice A q c)) from by rw[HGP.o];exact HH.o.cut rfl HN.o hq2 HC3.o);have HW4:=hQ_ (HW3.o.far (p:=⟨gp,7,none⟩) (by simpa using HGG.o) (.slice A q c));generalize w3.setCell ⟨gp,7,none⟩ (.slice A q c)=w4 at HCUT HW4⊢;have H4:=hQ_ HCUT.o.1;have HF4:=hQ_ HCUT.o.2;clear k7 f7 H3 HW3 HC3 HCUT;obtain⟨A8,n8,c8,rfl,hn8,hc8⟩:=H4.o.cslice;have k8:w4.cell? ⟨gp,8,none⟩=some (.slice A8 n8 c8):=by rw[HGP.o];exact H4.o.rec_.cell 8
 have hn8':n8<=31:=by rw[hn8];exact hcs
 have hcs8:n8=s.cs.length:=hn8;have HN8:=hQ_ hcs8;clear hn8;obtain⟨i1,z1,hi1,hz1,hzc1,hs1,hb1⟩:=j6_ zak;have hzs1:z1.cells.size=28:=by rw[hzc1];simp[qf_ (show(zc 0).loc.length=26 from rfl)]
 have hcx:(clC cx).toArray.size=28:=by simp[qf_ HCL.o]
 have hcx2:(clC cx).length=1*28:=by simp[qf_ HCL.o]
 have HSC:=hQ_ (show(Tryz.prog.info? 169).map (·.size)=some (clC cx).toArray.size from by rw[zaw,hcx]);have hal4:Chg [] w4 ((w4.alloc (.cells (clC cx).toArray 169)).drew):=((Chg.refl [] w4).alloc _).drew;have HOW:=hQ_ (show((w4.alloc (.cells (clC cx).toArray 169)).drew).ownsRow P.B 169 28 (.slice A8 n8 c8) n8 (gc_ s.cs) from by
  have:=zf_ H4.o.cal hal4;rw[show(⟨s.fuel,s.st.take q,s.cs,s.L,s.V,s.qs⟩:EgV).cs=s.cs from rfl,<-hcs8]at this;exact this);have HAL4:=hQ_ hal4;have HBW:=hQ_ (show P.B<=((w4.alloc (.cells (clC cx).toArray 169)).drew).heap.size from Nat.le_trans H4.o.room hal4.size);have HCELL:=hQ_ (vh_ w4.drew (clC cx) 169);have HW5:=hQ_ (HW4.o.keep ((Chg.refl [] w4).drew));have HW6:=hQ_ (HW4.o.keep hal4);have HONE:=hQ_ (zjk cx);have HCXL:=hQ_ hcx;have HCXM:=hQ_ hcx2;generalize hCX:clC cx=CX at HW4 HW5 HW6 HSC HOW HAL4 HBW HCELL HONE HCXL HCXM;have HCXX:=hQ_ hCX;have q8:((w4.alloc (.cells CX.toArray 169)).drew).cell? ⟨gp,8,none⟩=some (.slice A8 n8 c8):=zd_ (by simpa using k8) HAL4.o;clear hal4 hcx hcx2 hCX hzc1 hcs8;refine wp_region_any (by kernel_rfl) ?_;change wpAny _ _ _ _ _ _ _ w4.drew;refine wpAny_take (i:=0) (v:=.pointer (some ⟨gp,0,none⟩)) rfl (by kernel_rfl) (by kernel_rfl) (by kernel_rfl) (fun _ _ _ h=>h) (Or.inl ⟨by rfl,fun w=>by go_simp⟩) ?_;refine wpAny_take (i:=1) (v:=.pointer (some ⟨gp,0,none⟩)) rfl (by kernel_rfl) (by kernel_rfl) (by kernel_rfl) (fun _ _ _ h=>h) (Or.inl ⟨by rfl,fun w=>by go_simp⟩) ?_;refine wpAny_take (i:=2) (v:=.pointer (some ⟨gp,0,none⟩)) rfl (by kernel_rfl) (by kernel_rfl) (by kernel_rfl) (fun _ _ _ h=>h) (Or.inl ⟨by rfl,fun w=>by go_simp⟩) ?_;refine wpAny_take (i:=3) (v:=.pointer (some ⟨gp,8,none⟩)) rfl (by kernel_rfl) (by kernel_rfl) (by kernel_rfl) (fun _ _ _ h=>h) (Or.inl ⟨by rfl,fun w=>by go_simp⟩) ?_;refine wpAny_ready (rs:=[4,5]) (by kernel_rfl) (by simp) (AllReady.cons rfl (fun K hK=>?_) (AllReady.cons rfl (fun K hK=>?_) AllReady.nil))
 · go_simp;refine hK _ _ ?_;clear hK K;refine wpAny_ready (rs:=[5]) (by kernel_rfl) (by simp) (AllReady.cons rfl (fun K hK=>?_) AllReady.nil);refine uO_ rfl 169 (.tmp 4) rfl g4 rfl 169 CX.toArray (0,0) _ (by first|exact HW5.o|exact HW4.o) Tryz.underlying169 rfl HSC.o ?_;refine hK _ _ ?_;clear hK K;refine wpAny_ready (rs:=[6]) (by kernel_rfl) (by simp) (AllReady.cons rfl (fun K hK=>?_) AllReady.nil);refine xO_ rfl 110 169 (.tmp 45) rfl CX.toArray rfl 28 Tryz.underlying110 hi1 hz1 hs1 hzs1 (by decide) (by decide) HCXL.o w4.heap.size rfl ?_;refine hK _ _ ?_;clear hK K;change wpAny _ _ _ _ _ _ _ (w4.alloc (.cells CX.toArray 169)).drew;refine wpAny_ready (rs:=[7]) (by kernel_rfl) (by simp) (AllReady.cons rfl (fun K hK=>?_) AllReady.nil);refine yv_ rfl (.tmp 44) (.tmp 46) 110 rfl P.B 169 i1 _ 28 224 Tryz.underlying110 hi1 hz1 hs1 hb1 hzs1 (by decide) (.slice A8 n8 c8) n8 (gc_ s.cs) rfl HOW.o ⟨w4.heap.size,0,none⟩ 1 1 CX rfl HCXM.o HCELL.o HONE.o (by unfold maxLen;omega) (by omega) HBW.o ?_;intro v' w' ho hg;obtain⟨A6,k6,rfl,_⟩:=zh_ ho;have HO:=hQ_ ho;have HG:=hQ_ hg;have HR6:=hQ_ (show zb_ w' gp _ _ from by have:=zn_ (H4.o.keep HAL4.o).rec_ (H4.o.keep HAL4.o).cal (by decide) hg;rw[HGP.o];exact this);have f8:=HR6.o.frozen 8;have j8:=HR6.o.cell 8;clear ho hg;refine hK _ _ ?_;clear hK K;refine wpAny_ready (rs:=[8]) (by kernel_rfl) (by simp) (AllReady.cons rfl (fun K hK=>?_) AllReady.nil);go_simp;refine hK _ _ ?_;clear hK K;refine wpAny_ready (rs:=[9]) (by kernel_rfl) (by simp) (AllReady.cons rfl (fun K hK=>?_) AllReady.nil);go_simp;refine hK _ _ ?_;clear hK K;refine wpAny_ready (rs:=[10]) (by kernel_rfl) (by simp) (AllReady.cons rfl (fun K hK=>?_) AllReady.nil);go_simp;refine hK _ _ ?_;clear hK K;refine wpAny_done (by kernel_rfl) ?_ _;obtain⟨hP,hF⟩:=H4.o.called HAL4.o HCL.o (by have:=HN8.o;show n8+1=s.cs.length+1;omega) hcs (by have:=HO.o;rw[<-HCXX.o]at this;exact this) HG.o;have HPP:=hQ_ (show zu_ P W s' (.tuple #[]) (.returned (.tuple #[])) _ from⟨rfl,⟨_,_,by
    rw[HS'.out,<-HAR.o,<-HN.o,<-HQ.o];rw[HCX.o]at hP;exact hP⟩,HF4.o.trans hF⟩);rw[<-HGP.o]at HPP;clear hP hF;go_wp2_with fail;(all_goals go_end0);all_goals exact HPP.o
 · refine uO_ rfl 169 (.tmp 4) rfl g4 rfl 169 CX.toArray (0,0) _ (by first|exact HW5.o|exact HW4.o) Tryz.underlying169 rfl HSC.o ?_;refine hK _ _ ?_;clear hK K;refine wpAny_ready (rs:=[4,6]) (by kernel_rfl) (by simp) (AllReady.cons rfl (fun K hK=>?_) (AllReady.cons rfl (fun K hK=>?_) AllReady.nil))
   · go_simp;refine hK _ _ ?_;clear hK K;refine wpAny_ready (rs:=[6]) (by kernel_rfl) (by simp) (AllReady.cons rfl (fun K hK=>?_) AllReady.nil);refine xO_ rfl 110 169 (.tmp 45) rfl CX.toArray rfl 28 Tryz.underlying110 hi1 hz1 hs1 hzs1 (by decide) (by decide) HCXL.o w4.heap.size rfl ?_;refine hK _ _ ?_;clear hK K;change wpAny _ _ _ _ _ _ _ (w4.alloc (.cells CX.toArray 169)).drew;refine wpAny_ready (rs:=[7]) (by kernel_rfl) (by simp) (AllReady.cons rfl (fun K hK=>?_) AllReady.nil);refine yv_ rfl (.tmp 44) (.tmp 46) 110 rfl P.B 169 i1 _ 28 224 Tryz.underlying110 hi1 hz1 hs1 hb1 hzs1 (by decide) (.slice A8 n8 c8) n8 (gc_ s.cs) rfl HOW.o ⟨w4.heap.size,0,none⟩ 1 1 CX rfl HCXM.o HCELL.o HONE.o (by unfold maxLen;omega) (by omega) HBW.o ?_;intro v' w' ho hg;obtain⟨A6,k6,rfl,_⟩:=zh_ ho;have HO:=hQ_ ho;have HG:=hQ_ hg;have HR6:=hQ_ (show zb_ w' gp _ _ from by have:=zn_ (H4.o.keep HAL4.o).rec_ (H4.o.keep HAL4.o).cal (by decide) hg;rw[HGP.o];exact this);have f8:=HR6.o.frozen 8;have j8:=HR6.o.cell 8;clear ho hg;refine hK _ _ ?_;clear hK K;refine wpAny_ready (rs:=[8]) (by kernel_rfl) (by simp) (AllReady.cons rfl (fun K hK=>?_) AllReady.nil);go_simp;refine hK _ _ ?_;clear hK K;refine wpAny_ready (rs:=[9]) (by kernel_rfl) (by simp) (AllReady.cons rfl (fun K hK=>?_) AllReady.nil);go_simp;refine hK _ _ ?_;clear hK K;refine wpAny_ready (rs:=[10]) (by kernel_rfl) (by simp) (AllReady.cons rfl (fun K hK=>?_) AllReady.nil);go_simp;refine hK _ _ ?_;clear hK K;refine wpAny_done (by kernel_rfl) ?_ _;obtain⟨hP,hF⟩:=H4.o.called HAL4.o HCL.o (by have:=HN8.o;show n8+1=s.cs.length+1;omega) hcs (by have:=HO.o;rw[<-HCXX.o]at this;exact this) HG.o;have HPP:=hQ_ (show zu_ P W s' (.tuple #[]) (.returned (.tuple #[])) _ from⟨rfl,⟨_,_,by
      rw[HS'.out,<-HAR.o,<-HN.o,<-HQ.o];rw[HCX.o]at hP;exact hP⟩,HF4.o.trans hF⟩);rw[<-HGP.o]at HPP;clear hP hF;go_wp2_with fail;(all_goals go_end0);all_goals exact HPP.o
   · refine xO_ rfl 110 169 (.tmp 45) rfl CX.toArray rfl 28 Tryz.underlying110 hi1 hz1 hs1 hzs1 (by decide) (by decide) HCXL.o w4.heap.size rfl ?_;refine hK _ _ ?_;clear hK K;change wpAny _ _ _ _ _ _ _ (w4.alloc (.cells CX.toArray 169)).drew;refine wpAny_ready (rs:=[4]) (by kernel_rfl) (by simp) (AllReady.cons rfl (fun K hK=>?_) AllReady.nil);go_simp;refine hK _ _ ?_;clear hK K;refine wpAny_ready (rs:=[7]) (by kernel_rfl) (by simp) (AllReady.cons rfl (fun K hK=>?_) AllReady.nil);refine yv_ rfl (.tmp 44) (.tmp 46) 110 rfl P.B 169 i1 _ 28 224 Tryz.underlying110 hi1 hz1 hs1 hb1 hzs1 (by decide) (.slice A8 n8 c8) n8 (gc_ s.cs) rfl HOW.o ⟨w4.heap.size,0,none⟩ 1 1 CX rfl HCXM.o HCELL.o HONE.o (by unfold maxLen;omega) (by omega) HBW.o ?_;intro v' w' ho hg;obtain⟨A6,k6,rfl,_⟩:=zh_ ho;have HO:=hQ_ ho;have HG:=hQ_ hg;have HR6:=hQ_ (show zb_ w' gp _ _ from by have:=zn_ (H4.o.keep HAL4.o).rec_ (H4.o.keep HAL4.o).cal (by decide) hg;rw[HGP.o];exact this);have f8:=HR6.o.frozen 8;have j8:=HR6.o.cell 8;clear ho hg;refine hK _ _ ?_;clear hK K;refine wpAny_ready (rs:=[8]) (by kernel_rfl) (by simp) (AllReady.cons rfl (fun K hK=>?_) AllReady.nil);go_simp;refine hK _ _ ?_;clear hK K;refine wpAny_ready (rs:=[9]) (by kernel_rfl) (by simp) (AllReady.cons rfl (fun K hK=>?_) AllReady.nil);go_simp;refine hK _ _ ?_;clear hK K;refine wpAny_ready (rs:=[10]) (by kernel_rfl) (by simp) (AllReady.cons rfl (fun K hK=>?_) AllReady.nil);go_simp;refine hK _ _ ?_;clear hK K;refine wpAny_done (by kernel_rfl) ?_ _;obtain⟨hP,hF⟩:=H4.o.called HAL4.o HCL.o (by have:=HN8.o;show n8+1=s.cs.length+1;omega) hcs (by have:=HO.o;rw[<-HCXX.o]at this;exact this) HG.o;have HPP:=hQ_ (show zu_ P W s' (.tuple #[]) (.returned (.tuple #[])) _ from⟨rfl,⟨_,_,by
      rw[HS'.out,<-HAR.o,<-HN.o,<-HQ.o];rw[HCX.o]at hP;exact hP⟩,HF4.o.trans hF⟩);rw[<-HGP.o]at HPP;clear hP hF;go_wp2_with fail;(all_goals go_end0);all_goals exact HPP.o
end
end Go.Proofs.YtcbcfcdmdedefaaGreatDoor
