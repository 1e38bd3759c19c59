import Derived.Test.YtcbcfcdmdedefaaGreatDoorZTA21
set_option maxRecDepth 100000
set_option maxHeartbeats 16000000
namespace Go.Proofs.YtcbcfcdmdedefaaGreatDoor
open Go.RowKit
abbrev eg3:List TypeId:=[112,2,169]
theorem vR_:∀t:TypeId,t∈eg3->t∈egT:=by intro t h;simp only[List.mem_cons,List.not_mem_nil,or_false]at h⊢;rcases h with h|h|h<;>subst h<;>simp
theorem k2_:∀t:TypeId,t∈eg3->t=112\/t=2\/t=169:=by intro t h;simpa using h
def zu_ (P:EP)(W:World)(s':EgV)(r:Value)(e:Ending)(w':World):Prop:=e=.returned r/\(∃vs' vc',Eg P w' vs' vc' s')/\Fe P.K egT W w'
section
variable {P:EP} {W W':World} {vs vc:Value} {s:EgV}
theorem Eg.kstk (h:Eg P W vs vc s):∀i,vs.ownBlock=some i->P.K i:=fun i hi=>.inl (h.stk.lt i hi).1
theorem Eg.kcal (h:Eg P W vs vc s):∀i,vc.ownBlock=some i->P.K i:=fun i hi=>.inl (h.cal.lt i hi).1
theorem Eg.pushed (h:Eg P W vs vc s){W2 w3:World}(hc:Chg [] W W2){x:Int}{v':Value}{n1:Nat}(hn1:n1=s.st.length+1)(hroom:s.st.length+s.fuel<=2999999)
    (ho:w3.ownsRow P.B 2 1 v' n1 (nms s.st++[.int .i64 x])) (hg:W2.grownBy w3 vs.ownBlock) :
    Eg P (w3.setCell ⟨P.g,7,none⟩ v') v' vc (s.push x)/\Fe P.K egT W (w3.setCell ⟨P.g,7,none⟩ v'):=by
 subst hn1;have h2:=h.keep hc;have hr3:=zn_ h2.rec_ h2.stk (by decide) hg;have hc3:=yj_ h2.cal h2.stk (by decide) hg;have hf:Fe P.K eg3 W (w3.setCell ⟨P.g,7,none⟩ v'):=((Fe.of_chg hc).grown h2.stk h2.kstk (by simp[eg3]) hg).setw hr3 h.kg (by simp[eg3]) _;refine⟨h.upd hf k2_ (hr3.set_ 7 v') ?_ (z1_ hc3 hr3 (by decide)) h.loc (Nat.le_refl _) (by rw[List.length_append,List.length_singleton];omega) h.calb,hf.sub vR_⟩;have:=z1_ (j:=7) (u:=v') ho hr3 (by decide);rw[List.length_append,List.length_singleton,kv_];exact this
theorem Eg.popped (h:Eg P W vs vc s){A:Option Addr}{n c:Nat}(hv:vs=.slice A (n+1) c){W2:World}(hc:Chg [] W W2){st:List Int}{x:Int}(hst:s.st=st++[x]) :
    Eg P (W2.setCell ⟨P.g,7,none⟩ (.slice A n c)) (.slice A n c) vc ⟨s.fuel,st,s.cs,s.L,s.V,s.qs⟩/\Fe P.K egT W (W2.setCell ⟨P.g,7,none⟩ (.slice A n c)):=by
 subst hv;have h2:=h.keep hc;have hl:s.st.length=st.length+1:=by rw[hst];simp
 have hq:n+1=s.st.length:=by
  rcases h.stk.2 with⟨e,e2⟩|⟨_,_,_,e,_⟩
  · injection e with _ e _;omega
  · injection e
 have hA:A≠none:=by
  rintro rfl;rcases h.stk.2 with⟨e,_⟩|⟨_,_,_,e,_⟩
  · injection e with _ e _;simp at e
  · injection e with e _;cases e
 have ho:=h2.stk;rw[<-hq]at ho;have ht:=x2_ (q':=n) ho (by omega) hA;have e2:(nms s.st).take (n*1)=nms st:=by rw[hst,kv_,List.take_left' (by rw[xi_];omega)]
 rw[e2]at ht;have hf:Fe P.K eg3 W (W2.setCell ⟨P.g,7,none⟩ (.slice A n c)):=(Fe.of_chg hc).setw h2.rec_ h.kg (by simp[eg3]) _;refine⟨h.upd hf k2_ (h2.rec_.set_ 7 _) ?_ (z1_ h2.cal h2.rec_ (by decide)) h.loc (Nat.le_refl _) (by have:=h.stkb;omega) h.calb,hf.sub vR_⟩;have:=z1_ (j:=7) (u:=.slice A n c) ht h2.rec_ (by decide);rw[show st.length=n from by omega];exact this
theorem Eg.top (h:Eg P W vs vc s){st:List Int}{x:Int}(hst:s.st=st++[x]):∃g c,vs=.slice (some ⟨g,0,none⟩) (st.length+1) c/\st.length+1<=c/\W.cell? ⟨g,st.length,none⟩=some (.int .i64 x):=by
 have hl:s.st.length=st.length+1:=by rw[hst];simp
 obtain⟨A,n,c,rfl,hn,hc⟩:=h.sslice;obtain⟨g,rfl,hx⟩:=zv_ (j:=st.length) (u:=.int .i64 x) h.stk (by rw[hn]) (by rw[hst,kv_,List.getElem?_append_right (by rw[xi_];exact Nat.le_refl _),xi_,Nat.sub_self];rfl);exact⟨g,c,by rw[hn,hl],by omega,hx⟩
theorem xI_ {x:Int}{s':EgV}(h:s.pop=some (x,s')):∃st,s.st=st++[x]/\s'=⟨s.fuel,st,s.cs,s.L,s.V,s.qs⟩:=by
 unfold EgV.pop at h;split at h
 · cases h
 · rename_i y hy;injection h with h;injection h with h1 h2;subst h1;refine⟨s.st.dropLast,?_,h2.symm⟩;rcases List.eq_nil_or_concat s.st with e|⟨l,z,e⟩
   · rw[e]at hy;simp at hy
   · rw[List.concat_eq_append]at e;rw[e]at hy⊢;simp at hy;subst hy;simp
theorem xH_ (h:Eg P W vs vc s)(x:Int)(hroom:s.st.length+s.fuel<=2999999):Calls Tryz.prog 132 #[.pointer (some ⟨P.g,0,none⟩),.int .i64 x] W (zu_ P W (s.push x) (.tuple #[])):=by
 obtain⟨i0,hi0,hz0,hz1,hz2⟩:=info_parts jk_;obtain⟨A,n,c,rfl,hn,hc⟩:=h.sslice;have H:=hQ_ h;have HN:=hQ_ hn;have k7:W.cell? ⟨P.g,7,none⟩=some (.slice A n c):=h.rec_.cell 7;have hal:Chg [] W (W.alloc (.cells #[.int .i64 x] 2)):=(Chg.refl [] W).alloc _;have HAL:=hQ_ hal;have HOW:=hQ_ (show(W.alloc (.cells #[.int .i64 x] 2)).ownsRow P.B 2 1 (.slice A n c) n (nms s.st) from by have:=ze_ h.stk hal;rw[<-hn]at this;exact this);have HB:=hQ_ (show P.B<=(W.alloc (.cells #[.int .i64 x] 2)).heap.size from Nat.le_trans h.room hal.size);have hn9:n<=3000000:=by omega
 generalize hPg:P.g=g at k7⊢;have HPG:=hQ_ hPg;clear h hn hal hPg;go_enter Tryz.func132,Tryz.ntmps132;go_wp2_with (
  at_builtin;refine wpList_append_own _ rfl (.tmp 8) (.tmp 10) _ rfl P.B 2 i0 _ 1 8 Tryz.underlying45 hi0 hz0 hz1 hz2 rfl (by decide) (.slice A n c) n (nms s.st) rfl HOW.o ⟨W.heap.size,0,none⟩ 1 1 [.int .i64 x] rfl rfl (vg_ _ _ _) (by simp[Value.oneCell']) (by simp only[maxLen];omega) (by omega) HB.o ?_;intro v' w3 ho hg hb;have HO:=hQ_ ho;have HG:=hQ_ hg;have HR3:=hQ_ (show zb_ w3 g _ _ from by have:=zn_ (H.o.keep HAL.o).rec_ (H.o.keep HAL.o).stk (by decide) hg;rw[HPG.o]at this;exact this);obtain⟨A3,c3,rfl,_⟩:=zh_ ho;have d7:=HR3.o.cell 7;have e7:=HR3.o.frozen 7;clear ho hg hb);have HP:=hQ_ (H.o.pushed (x:=x) HAL.o (by have:=HN.o;omega) hroom HO.o HG.o);rw[HPG.o]at HP
 go_end0
 exact⟨rfl,⟨_,_,HP.o.1⟩,HP.o.2⟩
theorem xt_ {x:Int}{s':EgV}(h:Eg P W vs vc s)(hp:s.pop=some (x,s')):Calls Tryz.prog 55 #[.pointer (some ⟨P.g,0,none⟩)] W (zu_ P W s' (.int .i64 x)):=by
 obtain⟨st,hst,rfl⟩:=xI_ hp;obtain⟨gs,c,rfl,hc,hx⟩:=h.top hst;have k7:W.cell? ⟨P.g,7,none⟩=some (.slice (some ⟨gs,0,none⟩) (st.length+1) c):=h.rec_.cell 7;have f7:=h.rec_.frozen 7;have hb:=h.stkb;have hl:s.st.length=st.length+1:=by rw[hst];simp
 have HQ:=hQ_ (h.popped rfl (Chg.refl [] W) hst);have HQ2:=hQ_ (h.popped rfl ((Chg.refl [] W).drew) hst);obtain⟨n,hn⟩:∃n,n=st.length:=⟨_,rfl⟩;rw[<-hn]at HQ HQ2 k7 hx hc hl;have hn9:n<=3000000:=by omega
 generalize P.g=g at k7 f7 HQ HQ2⊢;clear h hp hst hn hb;have hsub:IntKind.i64.wrap (((n+1:Nat):Int)-1)=(n:Int):=by rw[IntWalk.i64_in _ (by omega)];omega
 have hq0:(0:Int)<=(n:Int):=by omega
 have hq1:(n:Int)<((n+1:Nat):Int):=by omega
 have hq2:(n:Int)<=(c:Int):=by omega
 go_enter Tryz.func55,Tryz.ntmps55;go_wp2_with fail;go_ret;exact⟨rfl,⟨_,_,HQ.o.1⟩,HQ.o.2⟩
end
theorem vQ_ {cs:List CallV}{c:CallV}(h:cs.getLast?=some c):∃ys,cs=ys++[c]/\cs.dropLast=ys:=by
 rcases List.eq_nil_or_concat cs with e|⟨l,z,e⟩
 · rw[e]at h;simp at h
 · rw[List.concat_eq_append]at e;rw[e]at h⊢;simp at h;subst h;exact⟨l,rfl,by simp⟩
section
variable {P:EP} {W W':World} {vs vc:Value} {s:EgV}
theorem Eg.cur (h:Eg P W vs vc s){ys:List CallV}{c:CallV}(hcs:s.cs=ys++[c]):∃g cap,vc=.slice (some ⟨g,0,none⟩) (ys.length+1) cap/\ys.length+1<=cap/\ys.length<=31/\c.loc.length=26 /\
    (∀j u,(clC c)[j]?=some u->W.cell? ⟨g,ys.length*28+j,none⟩=some u)/\∀j,W.frozen? ⟨g,j,none⟩=false:=by
      have hl:s.cs.length=ys.length+1:=(by rw[hcs];simp);have hb:=h.calb;have hloc:=h.loc;rw[hcs]at hloc;obtain⟨A,n,cap,rfl,hn,hc⟩:=h.cslice;have k:∀j u,(clC c)[j]?=some u->∃g,A=some ⟨g,0,none⟩/\W.cell? ⟨g,ys.length*28+j,none⟩=some u:=fun j u hu=>zv_ h.cal (by rw[hn]) (by rw[hcs,zjk hloc];exact hu);obtain⟨g,rfl,_⟩:=k 0 _ rfl;refine⟨g,cap,by rw[hn,hl],by omega,by omega,(xD_.app.1 hloc).2,fun j u hu=>?_,fun j=>y0_ (by have:=h.cal;rw[<-hn]at this;exact this)⟩;obtain⟨_,e,hx⟩:=k j u hu;injection e with e;injection e with e;subst e;exact hx
theorem Eg.callset (h:Eg P W vs vc s){ys:List CallV}{c c':CallV}(hcs:s.cs=ys++[c]){g n cap j:Nat}(hv:vc=.slice (some ⟨g,0,none⟩) n cap){W2:World}(hc:Chg [] W W2)(u:Value)(hu:(clC c).set j u=clC c')(hl:c'.loc.length=26) :
    Eg P (W2.setCell ⟨g,ys.length*28+j,none⟩ u) vs vc (s.calls (ys++[c']))/\Fe P.K egT W (W2.setCell ⟨g,ys.length*28+j,none⟩ u):=by
 subst hv;have h2:=h.keep hc;have hloc:=h.loc;rw[hcs]at hloc;have hq:n=s.cs.length:=by
  rcases h.cal.2 with⟨e,e2⟩|⟨_,_,_,e,_⟩
  · cases e
  · injection e with _ e _
 have hgB:=(h.cal.lt g rfl).1;have ho:=h2.cal;rw[<-hq]at ho;have hf:Fe P.K eg3 W (W2.setCell ⟨g,ys.length*28+j,none⟩ u):=(Fe.of_chg hc).seto ho (.inl hgB) (by simp[eg3]) _;have hne:P.g≠g:=by
  intro e;rcases ho.2 with⟨e',_⟩|⟨g',_,cur,e',_,hg,_⟩
  · cases e'
  · injection e' with e1 _ _;injection e1 with e1;injection e1 with e1;subst e1;have hr:=h2.rec_;rw[e]at hr;unfold zb_ at hr;rw[hr]at hg;injection hg with hg;injection hg with _ hg _;exact absurd hg (by decide)
 have hst:(W2.setCell ⟨g,ys.length*28+j,none⟩ u).ownsRow P.B 2 1 vs s.st.length (nms s.st):=zG_ h2.stk (zdt ho h2.stk (by decide) rfl);refine⟨h.upd hf k2_ (h2.rec_.far (by simpa using hne) _) hst ?_ (xD_.app.2 ⟨(xD_.app.1 hloc).1,hl⟩) (Nat.le_refl _) h.stkb (by have:=h.calb;rw[hcs]at this;simpa using this),hf.sub vR_⟩;have:=v7_ (j:=ys.length*28+j) (u:=u) ho;rw[hcs,zlO hloc j u hu]at this;rw[show(ys++[c']).length=n from by rw[hq,hcs];simp];exact this
theorem gU_ (c:CallV)(go:Int)(h:0<=go):(clC c).set 1 (.int .i64 go)=clC (c.at_ go.toNat):=by
 unfold clC CallV.at_;simp only[List.cons_append,List.nil_append,List.set_cons_succ,List.set_cons_zero];rw[Int.toNat_of_nonneg h]
theorem zjm (c:CallV)(i:Nat)(x:Int):(clC c).set (2+i) (.int .i64 x)=clC ⟨c.fn,c.next,c.loc.set i x⟩:=by
 unfold clC;rw[show 2+i=i+1+1 from by omega];simp only[List.cons_append,List.nil_append,List.set_cons_succ];rw[zhC]
theorem zjn (c:CallV)(i:Nat)(x:Int)(h:c.loc[i]?=some x):(clC c)[2+i]?=some (.int .i64 x):=by
 unfold clC;rw[show 2+i=i+1+1 from by omega];simp only[List.cons_append,List.nil_append,List.getElem?_cons_succ];simp[nms,h]
def zjM (p:Addr)(W:World)(e:Ending)(w':World):Prop:=e=.returned (.pointer (some p))/\Chg [] W w'
theorem jZ_ {g k cap:Nat}(h:Eg P W vs vc s)(hv:vc=.slice (some ⟨g,0,none⟩) (k+1) cap)(hk:k<=31):Calls Tryz.prog 92 #[.pointer (some ⟨P.g,0,none⟩)] W (zjM ⟨g,k*28,none⟩ W):=by
 subst hv;have k8:W.cell? ⟨P.g,8,none⟩=some (.slice (some ⟨g,0,none⟩) (k+1) cap):=h.rec_.cell 8;generalize P.g=gp at k8⊢;clear h;have hsub:IntKind.i64.wrap (((k+1:Nat):Int)-1)=(k:Int):=by rw[IntWalk.i64_in _ (by omega)];omega
 have hq0:(0:Int)<=(k:Int):=by omega
 have hq1:(k:Int)<((k+1:Nat):Int):=by omega
 go_enter Tryz.func92,Tryz.ntmps92;go_wp2_with fail;go_quiet (fail);have HP:=hQ_ (show zjM ⟨g,k*28,none⟩ W (.returned (.pointer (some ⟨g,k*28,none⟩))) (W.drewN nq) from⟨rfl,(Chg.refl [] W).drewN nq⟩);go_wp2_with fail;go_ret;exact HP.o
theorem zmZ {s':EgV}{go sg:Int}(h:Eg P W vs vc s)(hj:s.jump go=some s')(hs:sg=58\/sg=93\/sg=126):Calls Tryz.prog 133 #[.pointer (some ⟨P.g,0,none⟩),.int .i32 sg,.int .i64 go] W (zu_ P W s' (.tuple #[])):=by
 unfold EgV.jump at hj;cases hl:s.cs.getLast? with
 | none=>rw[hl]at hj;cases hj
 | some c =>
   rw[hl]at hj;simp only at hj;by_cases h0:go<0
   · rw[if_pos h0]at hj;cases hj
   rw[if_neg h0]at hj;injection hj with hj;obtain⟨ys,hcs,hdl⟩:=vQ_ hl;rw[hdl]at hj;subst hj;obtain⟨g,cap,hv,hcap,hk,hlen,hcell,hfro⟩:=h.cur hcs;have HSET:=hQ_ (fun (W2:World)(hc:Chg [] W W2)=>h.callset hcs hv hc (j:=1) (.int .i64 go) (gU_ c go (by omega)) hlen);have HNOW:=hQ_ (jZ_ h hv hk);have n1:W.cell? ⟨g,ys.length*28+1,none⟩=some (.int .i64 (c.next:Int)):=hcell 1 _ rfl;have HF:=hQ_ (fun (W2:World)(hc:Chg [] W W2)=>show W2.frozen? ⟨g,ys.length*28+1,none⟩=false from by
    obtain⟨_,_,hv2,_,_,_,_,hf2⟩:=(h.keep hc).cur hcs;rw[hv]at hv2;injection hv2 with e _ _;injection e with e;injection e with e;rw[e];exact hf2 _);generalize ys.length=k at *;generalize P.g=gp at *;clear h hl hcs hv hcell hfro h0;rcases hs with rfl|rfl|rfl <;>
   · go_enter Tryz.func133,Tryz.ntmps133;go_wp2_with fail;refine HNOW.o.mono ?_;rintro e w1 ⟨rfl,hc1⟩;have m1:=zd_ n1 hc1;have fm:=HF.o w1 hc1;have HP:=hQ_ (HSET.o w1 hc1);clear hc1;go_wp2_with fail
     go_end0
     exact⟨rfl,⟨_,_,HP.o.1⟩,HP.o.2⟩
end
section
variable {P:EP} {W W':World} {vs vc:Value} {s:EgV}
theorem zu_.of_chg {r:Value}{w':World}(h:Eg P W vs vc s)(hc:Chg [] W w'):zu_ P W s r (.returned r) w':=⟨rfl,⟨_,_,h.keep hc⟩,Fe.of_chg hc⟩
theorem zkc {go sg:Int}(h:Eg P W vs vc s)(hs:sg=59\/sg=91):Calls Tryz.prog 133 #[.pointer (some ⟨P.g,0,none⟩),.int .i32 sg,.int .i64 go] W (zu_ P W s (.tuple #[])):=by
 have HP:=hQ_ (zu_.of_chg (r:=.tuple #[]) h (Chg.refl [] W));generalize P.g=gp at *;clear h;rcases hs with rfl|rfl <;>
 · go_enter Tryz.func133,Tryz.ntmps133;go_wp2_with fail
   go_end0
   exact HP.o
theorem zkd {go x:Int}{s1 s':EgV}(h:Eg P W vs vc s)(hp:s.pop=some (x,s1))(hj:(if x=0 then s1.jump go else some s1)=some s'):Calls Tryz.prog 133 #[.pointer (some ⟨P.g,0,none⟩),.int .i32 63,.int .i64 go] W (zu_ P W s' (.tuple #[])):=by
 have HPOP:=hQ_ (xt_ h hp);by_cases hx:x=0
 · rw [if_pos hx]at hj;subst hx;unfold EgV.jump at hj;cases hl:s1.cs.getLast? with
   | none=>rw[hl]at hj;cases hj
   | some c =>
     rw[hl]at hj;simp only at hj;by_cases h0:go<0
     · rw[if_pos h0]at hj;cases hj
     rw[if_neg h0]at hj;injection hj with hj;obtain⟨ys,hcs,hdl⟩:=vQ_ hl;rw[hdl]at hj;subst hj;have HCS:=hQ_ hcs;have hg0:0<=go:=(by omega);obtain⟨gp,hgp⟩:∃gp,gp=P.g:=⟨_,rfl⟩;rw[<-hgp]at HPOP⊢;have HGP:=hQ_ hgp;clear h hl hp hcs h0 hgp;go_enter Tryz.func133,Tryz.ntmps133;go_wp2_with fail;refine HPOP.o.mono ?_;rintro e w1 ⟨rfl,⟨vs1,vc1,h1⟩,hf1⟩;obtain⟨g,cap,hv,hcap,hk,hlen,hcell,hfro⟩:=h1.cur HCS.o;have HSET:=hQ_ (fun (W2:World)(hc:Chg [] w1 W2)=>h1.callset HCS.o hv hc (j:=1) (.int .i64 go) (gU_ c go hg0) hlen);have HNOW:=hQ_ (jZ_ h1 hv hk);rw[<-HGP.o]at HNOW;have n1:w1.cell? ⟨g,ys.length*28+1,none⟩=some (.int .i64 (c.next:Int)):=hcell 1 _ rfl;have HF:=hQ_ (fun (W2:World)(hc:Chg [] w1 W2)=>show W2.frozen? ⟨g,ys.length*28+1,none⟩=false from by
      obtain⟨_,_,hv2,_,_,_,_,hf2⟩:=(h1.keep hc).cur HCS.o;rw[hv]at hv2;injection hv2 with e _ _;injection e with e;injection e with e;rw[e];exact hf2 _);have HF1:=hQ_ hf1;generalize ys.length=k at *;clear h1 hv hcell hfro hf1;go_wp2_with fail;refine HNOW.o.mono ?_;rintro e w2 ⟨rfl,hc2⟩;have m1:=zd_ n1 hc2;have fm:=HF.o w2 hc2;have HP:=hQ_ (HSET.o w2 hc2);clear hc2;go_wp2_with fail
     go_end0
     exact⟨rfl,⟨_,_,HP.o.1⟩,HF1.o.trans HP.o.2⟩
 · rw[if_neg hx]at hj;injection hj with hj;subst hj;have hxb:(x==0)=false:=(by simpa using hx);generalize P.g=gp at *;clear h hp hx;go_enter Tryz.func133,Tryz.ntmps133;go_wp2_with fail;refine HPOP.o.mono ?_;rintro e w1 ⟨rfl,h1,hf1⟩;have HP:=hQ_ (show zu_ P W s1 (.tuple #[]) (.returned (.tuple #[])) w1 from⟨rfl,h1,hf1⟩);clear h1 hf1;go_wp2_with fail
   go_end0
   exact HP.o
theorem Eg.asked (h:Eg P W vs vc s){a q:Value}{qs:List (Int×Int)}(hq:qs.length+s.fuel<=900000000)(hR:Rq W' P.rp P.rs qs a q)(hK:∀i,q.ownBlock=some i->P.K i)(hf:Fe P.K rqT W W'):Eg P W' vs vc ⟨s.fuel,s.st,s.cs,s.L,s.V,qs⟩:=by
 obtain⟨gC,gD,X,Y,hM,k1,k2⟩:=h.mem
 exact { rec_:=hf.whole h.rec_ (by decide),stk:=hf.own h.stk (by decide),cal:=hf.own h.cal (by decide),mem:=⟨gC,gD,X,Y,hf.mm hM (by decide) (by decide) (by decide),k1,k2⟩,row:=⟨a,q,hR,hK⟩,
         cod:=h.cod.fe hf (by decide) (by decide) (by decide),fns:=h.fns.fe hf h.foff,foff:=h.foff,gB:=h.gB,room:=Nat.le_trans h.room hf.size,pK:=h.pK,rK:=h.rK,loc:=h.loc,fuelb:=h.fuelb,stkb:=h.stkb,calb:=h.calb,qsb:=hq }
theorem Eg.memd (h:Eg P W vs vc s){L:List UInt8}{V:List Bool}{gC gD:Nat}{X Y:List Value}{TS:List TypeId}(hM:Mm W' P.p gC gD L X V Y P.most)(k1:P.K gC)(k2:P.K gD)(hf:Fe P.K TS W W')(hT:∀t∈TS,t=105\/t=5\/t=4):Eg P W' vs vc ⟨s.fuel,s.st,s.cs,L,V,s.qs⟩:=by
 obtain⟨a,q,hR,k3⟩:=h.row;have no:∀t:TypeId,t≠105->t≠5->t≠4->t∉TS:=fun t a b c hm=>by
  rcases hT t hm with h|h|h
  · exact a h
  · exact b h
  · exact c h
 exact { rec_:=hf.whole h.rec_ (no _ (by decide) (by decide) (by decide)),stk:=hf.own h.stk (no _ (by decide) (by decide) (by decide)),cal:=hf.own h.cal (no _ (by decide) (by decide) (by decide)),mem:=⟨gC,gD,X,Y,hM,k1,k2⟩,
         row:=⟨a,q,hR.fe hf (no _ (by decide) (by decide) (by decide)) (no _ (by decide) (by decide) (by decide)) (no _ (by decide) (by decide) (by decide)),k3⟩,
         cod:=h.cod.fe hf (no _ (by decide) (by decide) (by decide)) (no _ (by decide) (by decide) (by decide)) (no _ (by decide) (by decide) (by decide)),fns:=h.fns.fe hf h.foff,foff:=h.foff,gB:=h.gB,room:=Nat.le_trans h.room hf.size,pK:=h.pK,rK:=h.rK,loc:=h.loc,fuelb:=h.fuelb,stkb:=h.stkb,calb:=h.calb,qsb:=h.qsb }
end
def askO (o:Option Int)(nm x:Int)(s1:EgV):Int×EgV:=match o with
  | none=>(7,⟨s1.fuel,s1.st,s1.cs,s1.L,s1.V,s1.qs++[(nm,x)]⟩)
  | some n=>(0,⟨s1.fuel,s1.st++[n],s1.cs,s1.L,s1.V,s1.qs++[(nm,x)]⟩)
def zpU (rs:List (Option Int))(nm x:Int)(s1:EgV):Int×EgV:=askO (zoS rs s1.qs.length) nm x s1
section
variable {P:EP} {W W':World} {vs vc:Value} {s:EgV}
theorem zlJ {x:Int}{s1:EgV}(h:Eg P W vs vc s)(hp:s.pop=some (x,s1))(nm:Int)(hroom:s.qs.length+s.fuel<=899999999):Calls Tryz.prog 136 #[.pointer (some ⟨P.g,0,none⟩),.int .i32 nm] W (zu_ P W (zpU P.rs nm x s1).2 (.int .i64 (zpU P.rs nm x s1).1)):=by
 have HPOP:=hQ_ (xt_ (h.keep ((Chg.refl [] W).drew)) hp);obtain⟨st,hst,hs1⟩:=xI_ hp;have HS1:=hQ_ (show s1.fuel=s.fuel/\s1.qs=s.qs/\s1.st.length+s1.fuel<=2999999 from by
  have hb:=h.stkb;rw[hst,List.length_append,List.length_singleton]at hb;subst hs1;exact⟨rfl,rfl,by show st.length+s.fuel<=_;omega⟩);have k5:W.cell? ⟨P.g,5,none⟩=some (.pointer (some ⟨P.rp,0,none⟩)):=h.rec_.cell 5;have hASK:∀(w1:World)(vs1 vc1:Value),Eg P w1 vs1 vc1 s1->Fe P.K egT W w1->Calls Tryz.prog 158 #[.pointer (some ⟨P.rp,0,none⟩),.int .i32 nm,.int .i64 x] w1 (fun e w2=>e=.returned (.tuple #[.int .i64 ((zoS P.rs s1.qs.length).getD 0),.bool (zoS P.rs s1.qs.length).isSome])/\Hid (Eg P w2 vs1 vc1 ⟨s1.fuel,s1.st,s1.cs,s1.L,s1.V,s1.qs++[(nm,x)]⟩)/\Hid (Fe P.K egT W w2)):=by
  intro w1 vs1 vc1 h1 hf1;obtain⟨a,q,hR,hK⟩:=h1.row;have hl:=HS1.o;refine(zox hR h1.rK hK (fun i hi=>.inl (Nat.le_trans h1.room hi)) (by rw[hl.2.1];omega) nm x).mono ?_;rintro e w2 ⟨a',q',he,hR',hF',hK'⟩;refine⟨he,hQ_ (h1.asked (by rw[List.length_append,List.length_singleton,hl.1,hl.2.1];omega) hR' hK' hF'),hQ_ (hf1.trans (hF'.sub (by intro t ht;simp only[List.mem_cons,List.not_mem_nil,or_false]at ht⊢;rcases ht with ht|ht<;>subst ht<;>simp)))⟩
 have HASK:=hQ_ hASK;obtain⟨R,hR⟩:∃R,R=zpU P.rs nm x s1:=⟨_,rfl⟩;have HR:=hQ_ hR;rw[<-hR];obtain⟨o,ho⟩:∃o,o=zoS P.rs s1.qs.length:=⟨_,rfl⟩;rw[<-ho]at HASK;have HRO:=hQ_ (show R=askO o nm x s1 from by rw[hR,ho];rfl);have HPUSH:=hQ_ (fun (w:World)(vs2 vc2:Value)(sx:EgV)(hx:Eg P w vs2 vc2 sx)(n:Int)(hr:sx.st.length+sx.fuel<=2999999)=>xH_ hx n hr);obtain⟨gp,hgp⟩:∃gp,gp=P.g:=⟨_,rfl⟩;have HGP:=hQ_ hgp;rw[<-hgp]at HPOP HPUSH k5⊢;clear h hp hst hs1 hASK hR ho hgp;go_enter Tryz.func136,Tryz.ntmps136;go_upto_region 3 with fail;go_region_with (first
  | (go_at_call 55;refine HPOP.o.mono ?_;rintro e w1 ⟨rfl,⟨vs1,vc1,h1⟩,hf1⟩;have m5:w1.cell? ⟨gp,5,none⟩=some (.pointer (some ⟨P.rp,0,none⟩)):=(by rw[HGP.o];exact h1.rec_.cell 5);have H1:=hQ_ h1;have HF1:=hQ_ ((Fe.of_chg ((Chg.refl [] W).drew)).trans hf1);clear h1 hf1)
  | (go_at_call 158;refine(HASK.o w1 vs1 vc1 H1.o HF1.o).mono ?_;rintro e w2 ⟨rfl,H2,HF2⟩));all_goals
   cases o with
   | none =>
     have HP:=hQ_ (show zu_ P W R.2 (.int .i64 R.1) (.returned (.int .i64 7)) w2 from by rw[HRO.o];exact⟨rfl,⟨_,_,H2.o⟩,HF2.o⟩);simp only[Option.getD_none,Option.isSome_none];go_wp2_with fail;go_ret;exact HP.o
   | some n =>
     have HPU:=hQ_ (HPUSH.o w2 _ _ _ H2.o n (by have:=HS1.o;exact this.2.2));simp only[Option.getD_some,Option.isSome_some];go_wp2_with fail;refine HPU.o.mono ?_;rintro e w3 ⟨rfl,h3,hf3⟩;have HP:=hQ_ (show zu_ P W R.2 (.int .i64 R.1) (.returned (.int .i64 0)) w3 from by rw[HRO.o];exact⟨rfl,h3,HF2.o.trans hf3⟩);clear h3 hf3;go_wp2_with fail;go_ret;exact HP.o
end
def EP.cd (P:EP):List CodeV:=P.xs.map (·.c)
theorem zbt {P:EP}{k:Nat}{s s':EgV}(h:uG_ P.cd k s=some s'):∃x,P.xs[k]?=some x/\x.c.args<=s.st.length/\x.c.args<=26 /\
    s'=⟨s.fuel,s.st.take (s.st.length-x.c.args),s.cs++[⟨k,0,s.st.drop (s.st.length-x.c.args)++List.replicate (26-x.c.args) 0⟩],s.L,s.V,s.qs⟩:=by
 unfold uG_ EP.cd at h;rw[List.getElem?_map]at h;cases hx:P.xs[k]? with
 | none=>rw[hx]at h;cases h
 | some x =>
   rw[hx]at h;simp only[Option.map_some]at h;by_cases hc:s.st.length<x.c.args\/26<x.c.args
   · rw[if_pos hc]at h;cases h
   · rw[if_neg hc]at h;injection h with h;exact⟨x,rfl,by omega,by omega,h.symm⟩
def zc (k:Nat):CallV:=⟨k,0,List.replicate 26 0⟩
theorem zfS (k:Int):Tryz.prog.built 169 [(0,.int .i64 k)]=some #[.int .i64 k,.int .i64 0,.int .i64 0,.int .i64 0,.int .i64 0,.int .i64 0,.int .i64 0,.int .i64 0,.int .i64 0,.int .i64 0,.int .i64 0,.int .i64 0,.int .i64 0,.int .i64 0,.int .i64 0,.int .i64 0,.int .i64 0,.int .i64 0,.int .i64 0,.int .i64 0,.int .i64 0,.int .i64 0,.int .i64 0,.int .i64 0,.int .i64 0,.int .i64 0,.int .i64 0,.int .i64 0]:=by kernel_rfl
theorem zlV (k:Nat):Tryz.prog.built 169 [(0,.int .i64 (k:Int))]=some (clC (zc k)).toArray:=(zfS k).trans rfl
theorem zaf:(Tryz.prog.info? 169).map (fun i=>(i.zero.map (·.cells),i.size,i.bytes))=some (some (clC (zc 0)).toArray,28,224):=by kernel_rfl
theorem zar:(Tryz.prog.info? 169).map (·.size)=some 28:=by kernel_rfl
theorem j8_ {P:Program}{t:TypeId}{c:Array Value}{n b:Nat}(h:(P.info? t).map (fun i=>(i.zero.map (·.cells),i.size,i.bytes))=some (some c,n,b)):∃i z,P.info? t=some i/\i.zero=some z/\z.cells=c/\i.size=n/\i.bytes=b:=by
 cases hi:P.info? t with
 | none=>rw[hi]at h;cases h
 | some i =>
   rw[hi]at h;simp only[Option.map_some,Option.some.injEq,Prod.mk.injEq]at h;obtain⟨h1,h2,h3⟩:=h;cases hz:i.zero with
   | none=>rw[hz]at h1;cases h1
   | some z=>rw[hz]at h1;simp only[Option.map_some,Option.some.injEq]at h1;exact⟨i,z,rfl,hz,h1,h2,h3⟩
theorem zoD (l:List Value)(h:∀v∈l,v.oneCell'=true):l.toArray.all (·.oneCell')=true:=by simpa using h
theorem zjl (c:CallV):∀v∈clC c,v.oneCell'=true:=by
 intro v hv;unfold clC at hv;simp only[List.cons_append,List.nil_append,List.mem_cons]at hv;rcases hv with rfl|rfl|hv
 · rfl
 · rfl
 · exact zch _ v hv
theorem zkn {w:World}{B e n c q:Nat}{A:Option Addr}{xs:List Value}(h:w.ownsRow B e 1 (.slice A n c) n xs)(hq:q<=n):Src w (if c=q then A else Option.map (fun x=>x.add q) A) (xs.drop q):=by
 obtain⟨A',c',e',hl,hc,hs,hA⟩:=zr_ h;injection e' with e1 _ e3;subst e1;subst e3;intro h0;rw[List.length_drop]at h0;obtain⟨ad,rfl,hlt,hx⟩:=hs (by omega);obtain⟨b,o,sp⟩:=ad;obtain rfl:sp=none:=(hA _ rfl).1;rw[if_neg (by omega)];refine⟨⟨b,o+q,none⟩,by simp[zl_],hlt,fun j u hj=>?_⟩;have:=hx (q+j) u (by rw[List.getElem?_drop]at hj;exact hj);rw[zl_]at this⊢;rw[Nat.add_assoc];exact this
theorem zbU (k ar:Nat)(l:List Int)(hl:l.length=ar):splice (clC (zc k)) 2 (nms l)=clC ⟨k,0,l++List.replicate (26-ar) 0⟩:=by
 unfold splice clC zc;simp only[List.cons_append,List.nil_append,List.take_succ_cons,List.take_zero,xi_,hl];rw[show 2+ar=ar+1+1 from by omega];simp only[List.drop_succ_cons];rw[kv_];congr 3;show List.drop ar (nms (List.replicate 26 0))=nms (List.replicate (26-ar) 0);unfold nms;rw[List.map_replicate,List.map_replicate,List.drop_replicate]
section
variable {P:EP} {W W':World} {vs vc:Value} {s:EgV}
theorem Eg.cut (h:Eg P W vs vc s){A:Option Addr}{n c q:Nat}(hv:vs=.slice A n c)(hn:n=s.st.length)(hq:q<=n){W2:World}(hc:Chg [] W W2) :
    Eg P (W2.setCell ⟨P.g,7,none⟩ (.slice A q c)) (.slice A q c) vc ⟨s.fuel,s.st.take q,s.cs,s.L,s.V,s.qs⟩/\Fe P.K egT W (W2.setCell ⟨P.g,7,none⟩ (.slice A q c)):=by
 subst hv;have h2:=h.keep hc;have ho:=h2.stk;rw[<-hn]at ho;have ht:W2.ownsRow P.B 2 1 (.slice A q c) q (nms (s.st.take q)):=by
  by_cases hA:A=none
  · subst hA;rcases ho.2 with⟨e,e2⟩|⟨_,_,_,e,_⟩
    · injection e with _ _ e3;subst e3;obtain rfl:q=0:=(by omega);simpa[nms] using World.ownsRow_nil W2 P.B 2 1
    · injection e with e _;cases e
  · have:=x2_ (q':=q) ho hq hA;rw[Nat.mul_one]at this;rwa[show nms (s.st.take q)=(nms s.st).take q from by simp[nms,List.map_take]]
 have hf:Fe P.K eg3 W (W2.setCell ⟨P.g,7,none⟩ (.slice A q c)):=(Fe.of_chg hc).setw h2.rec_ h.kg (by simp[eg3]) _;have hql:(s.st.take q).length=q:=by rw[List.length_take];omega
 refine⟨h.upd hf k2_ (h2.rec_.set_ 7 _) ?_ (z1_ h2.cal h2.rec_ (by decide)) h.loc (Nat.le_refl _) (by have:=h.stkb;omega) h.calb,hf.sub vR_⟩;rw[hql];exact z1_ (j:=7) (u:=.slice A q c) ht h2.rec_ (by decide)
theorem Eg.called (h:Eg P W vs vc s){W2 w3:World}(hc:Chg [] W W2){x:CallV}(hx:x.loc.length=26){v':Value}{n1:Nat}(hn1:n1=s.cs.length+1)(hroom:s.cs.length<=31)
    (ho:w3.ownsRow P.B 169 28 v' n1 (q9_ s.cs++clC x)) (hg:W2.grownBy w3 vc.ownBlock) :
    Eg P (w3.setCell ⟨P.g,8,none⟩ v') vs v' (s.calls (s.cs++[x]))/\Fe P.K egT W (w3.setCell ⟨P.g,8,none⟩ v'):=by
 subst hn1;have h2:=h.keep hc;have hr3:=zn_ h2.rec_ h2.cal (by decide) hg;have hs3:=yj_ h2.stk h2.cal (by decide) hg;have hf:Fe P.K eg3 W (w3.setCell ⟨P.g,8,none⟩ v'):=((Fe.of_chg hc).grown h2.cal h2.kcal (by simp[eg3]) hg).setw hr3 h.kg (by simp[eg3]) _;refine⟨h.upd hf k2_ (hr3.set_ 8 v') (z1_ hs3 hr3 (by decide)) ?_ (xD_.app.2 ⟨h.loc,hx⟩) (Nat.le_refl _) h.stkb (by rw[List.length_append,List.length_singleton];omega),hf.sub vR_⟩;have:=z1_ (j:=8) (u:=v') ho hr3 (by decide);rw[List.length_append,List.length_singleton,uh_,jq_];exact this
theorem zbm {k:Nat}{s':EgV}(h:Eg P W vs vc s)(hc:uG_ P.cd k s=some s')(hcs:s.cs.length<=31):Calls Tryz.prog 53 #[.pointer (some ⟨P.g,0,none⟩),.int .i64 (k:Int)] W (zu_ P W s' (.tuple #[])):=by
 obtain⟨x,hx,ha,ha26,rfl⟩:=zbt hc;obtain⟨A,n,c,rfl,hn,hnc⟩:=h.sslice;obtain⟨i0,z0,hi0,hz0,hzc,hz1,hz2⟩:=j8_ zaf;have hal:=(Chg.refl [] W).alloc (.cells (clC (zc 0)).toArray 169);have hN:=zb_.new W 169 (clC (zc 0));have hS:=zau (cs:=clC (zc k)) hN;have hC1:=zeT (cs:=(clC (zc k)).toArray) hal (Nat.le_refl _);have HBC:=hQ_ (zlV k);have HH:=hQ_ h;have HX:=hQ_ hx;have HN:=hQ_ hn;obtain⟨ar,har⟩:∃ar,ar=x.c.args:=⟨_,rfl⟩;rw[<-har]at ha ha26;rw[<-hn]at ha;have HAR:=hQ_ har;obtain⟨s',hs'⟩:∃s',s'=(⟨s.fuel,s.st.take (s.st.length-x.c.args),s.cs++[⟨k,0,s.st.drop (s.st.length-x.c.args)++List.replicate (26-x.c.args) 0⟩],s.L,s.V,s.qs⟩:EgV):=⟨_,rfl⟩;rw[<-hs'];have HS':=hQ_ hs';have hn9:n<=3000000:=by have:=h.stkb;omega
 obtain⟨gp,hgp⟩:∃gp,gp=P.g:=⟨_,rfl⟩;have HGP:=hQ_ hgp;rw[<-hgp];clear h hx hn har hc hs' hgp;go_enter Tryz.func53,Tryz.ntmps53;go_upto_region 1 with(first
  | (refine jz_ rfl 169 #[(0,.tmp 6)] rfl (clC (zc k)).toArray HBC.o ?_)
  | (refine jA_ rfl 169 rfl hi0 hz0 _ rfl ?_;rw[hzc])
  | (refine wpList_store_row rfl 169 (.tmp 4) (.tmp 7) rfl W.heap.size (clC (zc k)).toArray rfl rfl 169 (clC (zc 0)).toArray hN ?_ ?_ ?_ ?_
     · rw[zar];rfl
     · rfl
     · exact zoD _ (zjl _)));generalize (W.alloc (.cells (clC (zc 0)).toArray 169)).setRow W.heap.size (clC (zc k)).toArray=w1 at hS hC1⊢;have HC1:=hQ_ hC1;have HG4:=hQ_ (show W.heap.size<=W.heap.size from Nat.le_refl _);generalize hg4:W.heap.size=g4 at hS hN HG4⊢;have HG5:=hQ_ hg4;have HS1:=hQ_ hS;clear hS hC1 hN hal hg4 HG4;have H1:=hQ_ (HH.o.keep HC1.o);have k7:w1.cell? ⟨gp,7,none⟩=some (.slice A n c):=by rw[HGP.o];exact H1.o.rec_.cell 7
 have k3:w1.cell? ⟨gp,3,none⟩=some P.cv:=by rw[HGP.o];exact H1.o.rec_.cell 3
 obtain⟨Av,cv,hcv,_⟩:=zh_ H1.o.cod.own;have hkx:k<P.xs.length:=(List.getElem?_eq_some_iff.1 HX.o).1;have hx32:=H1.o.cod.lenb;obtain⟨gv,rfl,c0⟩:=zv_ H1.o.cod.own hcv ((ke_ P.xs k x 0 HX.o (by omega)).trans rfl);rw[<-HAR.o,Nat.add_zero]at c0;rw[hcv]at k3;generalize P.xs.length=nx at *;have hk0:(0:Int)<=(k:Int):=by omega
 have hk1:(k:Int)<(nx:Int):=by omega
 have hsub:IntKind.i64.wrap ((n:Int)-(ar:Int))=((n-ar:Nat):Int):=by rw[IntWalk.i64_in _ (by omega)];omega
 clear hcv;go_wp2_with fail;go_quiet (fail);have hc2:Chg [] w1 (w1.drewN nq):=(Chg.refl [] w1).drewN nq;generalize w1.drewN nq=w2 at hc2⊢;have H2:=hQ_ (H1.o.keep hc2);have HS2:=hQ_ (HS1.o.keep hc2);have HC2:=hQ_ (HC1.o.new hc2);clear hc2 k7 k3 c0 H1 HS1 HC1;have k7:w2.cell? ⟨gp,7,none⟩=some (.slice A n c):=by rw[HGP.o];exact H2.o.rec_.cell 7
 obtain⟨q,hq⟩:∃q,q=n-ar:=⟨_,rfl⟩;rw[<-hq]at hsub;have hq0:(0:Int)<=(q:Int):=by omega
 have hq1:(q:Int)<=(n:Int):=by omega
 have hq2:q<=n:=by omega
 have hqa:n-q=ar:=by omega
 have HQ:=hQ_ hq;clear hq;go_wp2_with fail;go_still_tail 8,(by kernel_rfl);change wpList _ _ _ _ _ w2.drew;rw[<-HQ.o];have hst:(nms (s.st.drop q)).length=ar:=by rw[xi_,List.length_drop,<-HN.o];omega
 have hsr:Src w2.drew (if c=q then A else Option.map (fun x=>x.add q) A) (nms (s.st.drop q)):=by
  have ho:=H2.o.stk;rw[<-HN.o]at ho;have:=zkn (q:=q) (ze_ ho ((Chg.refl [] w2).drew)) hq2;rwa[show nms (s.st.drop q)=(nms s.st).drop q from by simp[nms,List.map_drop]]
 have hfit:2+(nms (s.st.drop q)).length<=(clC (zc k)).length:=by rw[hst,qf_ (by simp[zc])];omega
 have HSZ:=hQ_ (show(Tryz.prog.info? 2).map (·.size)=some 1 from by kernel_rfl);have HST:=hQ_ hst;have HSR:=hQ_ hsr;have HFT:=hQ_ hfit;have HS3:=hQ_ (HS2.o.keep ((Chg.refl [] w2).drew));clear hst hsr hfit HS2;refine z7_ rfl (.tmp 23) (.tmp 29) _ _ rfl 2 Tryz.underlying45 HSZ.o (some ⟨g4,2,none⟩) (if c=q then A else Option.map (fun x=>x.add q) A) 26 26 (n-q) (c-q) rfl rfl g4 2 169 (clC (zc k)) (nms (s.st.drop q)) HS3.o ?_ (fun _=>rfl) HSR.o HFT.o (zch _) ?_
 · rw[HST.o,hqa];exact(Nat.min_eq_left ha26).symm
 intro w3 hW3 hc3;rw[zbU k ar _ (by have:=HST.o;rwa[xi_]at this)]at hW3;have HC3:=hQ_ (show Chg [] W w3 from(HC2.o.drew).then_ hc3 (fun i hi hl=>by
  have:=HG5.o;simp only[List.mem_cons,List.not_mem_nil,or_false]at hi;omega));have HW3:=hQ_ hW3;have H3:=hQ_ (HH.o.keep HC3.o);clear hc3 hW3 k7 H2 HS3 HSR HC2;obtain⟨cx,hcx⟩:∃cx:CallV,cx=⟨k,0,s.st.drop q++List.replicate (26-ar) 0⟩:=⟨_,rfl⟩;have HCX:=hQ_ hcx;rw[<-hcx]at HW3;have HCL:=hQ_ (show cx.loc.length=26 from by rw[hcx];simp only[List.length_append,List.length_replicate];have:=HST.o;rw[xi_]at this;omega);clear hcx HST HFT;have k7:w3.cell? ⟨gp,7,none⟩=some (.slice A n c):=by rw[HGP.o];exact H3.o.rec_.cell 7
 have f7:w3.frozen? ⟨gp,7,none⟩=false:=by rw[HGP.o];exact H3.o.rec_.frozen 7
 have hqc:(q:Int)<=(c:Int):=by omega
 have HGG:=hQ_ (show g4≠gp from by
  have h1:=HH.o.rec_.lt;have h2:=HGP.o;have h3:=HG5.o;omega);go_upto_region 4 with fail;have HCUT:=hQ_ (show Eg P (w3.setCell ⟨gp,7,none⟩ (.slice A q c)) (.slice A q c) vc ⟨s.fuel,s.st.take q,s.cs,s.L,s.V,s.qs⟩/\Fe P.K egT W (w3.setCell ⟨gp,7,none⟩ (.slice A q c)) from by rw[HGP.o];exact HH.o.cut rfl HN.o hq2 HC3.o);have HW4:=hQ_ (HW3.o.far (p:=⟨gp,7,none⟩) (by simpa using HGG.o) (.slice A q c));generalize w3.setCell ⟨gp,7,none⟩ (.slice A q c)=w4 at HCUT HW4⊢;have H4:=hQ_ HCUT.o.1;have HF4:=hQ_ HCUT.o.2;clear k7 f7 H3 HW3 HC3 HCUT;obtain⟨A8,n8,c8,rfl,hn8,hc8⟩:=H4.o.cslice;have k8:w4.cell? ⟨gp,8,none⟩=some (.slice A8 n8 c8):=by rw[HGP.o];exact H4.o.rec_.cell 8
 have hn8':n8<=31:=by rw[hn8];exact hcs
 have hcs8:n8=s.cs.length:=hn8;have HN8:=hQ_ hcs8;clear hn8;obtain⟨i1,z1,hi1,hz1,hzc1,hs1,hb1⟩:=j8_ zaf;have hzs1:z1.cells.size=28:=by rw[hzc1];simp[qf_ (show(zc 0).loc.length=26 from rfl)]
 have hcx:(clC cx).toArray.size=28:=by simp[qf_ HCL.o]
 have hcx2:(clC cx).length=1*28:=by simp[qf_ HCL.o]
 have HSC:=hQ_ (show(Tryz.prog.info? 169).map (·.size)=some (clC cx).toArray.size from by rw[zar,hcx]);have hal4:Chg [] w4 ((w4.alloc (.cells (clC cx).toArray 169)).drew):=((Chg.refl [] w4).alloc _).drew;have HOW:=hQ_ (show((w4.alloc (.cells (clC cx).toArray 169)).drew).ownsRow P.B 169 28 (.slice A8 n8 c8) n8 (q9_ s.cs) from by
  have:=ze_ H4.o.cal hal4;rw[show(⟨s.fuel,s.st.take q,s.cs,s.L,s.V,s.qs⟩:EgV).cs=s.cs from rfl,<-hcs8]at this;exact this);have HAL4:=hQ_ hal4;have HBW:=hQ_ (show P.B<=((w4.alloc (.cells (clC cx).toArray 169)).drew).heap.size from Nat.le_trans H4.o.room hal4.size);have HCELL:=hQ_ (vg_ w4.drew (clC cx) 169);have HW5:=hQ_ (HW4.o.keep ((Chg.refl [] w4).drew));have HW6:=hQ_ (HW4.o.keep hal4);have HONE:=hQ_ (zjl cx);have HCXL:=hQ_ hcx;have HCXM:=hQ_ hcx2;generalize hCX:clC cx=CX at HW4 HW5 HW6 HSC HOW HAL4 HBW HCELL HONE HCXL HCXM;have HCXX:=hQ_ hCX;have q8:((w4.alloc (.cells CX.toArray 169)).drew).cell? ⟨gp,8,none⟩=some (.slice A8 n8 c8):=zd_ (by simpa using k8) HAL4.o;clear hal4 hcx hcx2 hCX hzc1 hcs8;refine wp_region_any (by kernel_rfl) ?_;change wpAny _ _ _ _ _ _ _ w4.drew;refine wpAny_take (i:=0) (v:=.pointer (some ⟨gp,0,none⟩)) rfl (by kernel_rfl) (by kernel_rfl) (by kernel_rfl) (fun _ _ _ h=>h) (Or.inl ⟨by rfl,fun w=>by go_simp⟩) ?_;refine wpAny_take (i:=1) (v:=.pointer (some ⟨gp,0,none⟩)) rfl (by kernel_rfl) (by kernel_rfl) (by kernel_rfl) (fun _ _ _ h=>h) (Or.inl ⟨by rfl,fun w=>by go_simp⟩) ?_;refine wpAny_take (i:=2) (v:=.pointer (some ⟨gp,0,none⟩)) rfl (by kernel_rfl) (by kernel_rfl) (by kernel_rfl) (fun _ _ _ h=>h) (Or.inl ⟨by rfl,fun w=>by go_simp⟩) ?_;refine wpAny_take (i:=3) (v:=.pointer (some ⟨gp,8,none⟩)) rfl (by kernel_rfl) (by kernel_rfl) (by kernel_rfl) (fun _ _ _ h=>h) (Or.inl ⟨by rfl,fun w=>by go_simp⟩) ?_;refine wpAny_ready (rs:=[4,5]) (by kernel_rfl) (by simp) (AllReady.cons rfl (fun K hK=>?_) (AllReady.cons rfl (fun K hK=>?_) AllReady.nil))
 · go_simp;refine hK _ _ ?_;clear hK K;refine wpAny_ready (rs:=[5]) (by kernel_rfl) (by simp) (AllReady.cons rfl (fun K hK=>?_) AllReady.nil);refine uN_ rfl 169 (.tmp 4) rfl g4 rfl 169 CX.toArray (0,0) _ (by first|exact HW5.o|exact HW4.o) Tryz.underlying169 rfl HSC.o ?_;refine hK _ _ ?_;clear hK K;refine wpAny_ready (rs:=[6]) (by kernel_rfl) (by simp) (AllReady.cons rfl (fun K hK=>?_) AllReady.nil);refine xN_ rfl 110 169 (.tmp 45) rfl CX.toArray rfl 28 Tryz.underlying110 hi1 hz1 hs1 hzs1 (by decide) (by decide) HCXL.o w4.heap.size rfl ?_;refine hK _ _ ?_;clear hK K;change wpAny _ _ _ _ _ _ _ (w4.alloc (.cells CX.toArray 169)).drew;refine wpAny_ready (rs:=[7]) (by kernel_rfl) (by simp) (AllReady.cons rfl (fun K hK=>?_) AllReady.nil);refine yt_ rfl (.tmp 44) (.tmp 46) 110 rfl P.B 169 i1 _ 28 224 Tryz.underlying110 hi1 hz1 hs1 hb1 hzs1 (by decide) (.slice A8 n8 c8) n8 (q9_ s.cs) rfl HOW.o ⟨w4.heap.size,0,none⟩ 1 1 CX rfl HCXM.o HCELL.o HONE.o (by unfold maxLen;omega) (by omega) HBW.o ?_;intro v' w' ho hg;obtain⟨A6,k6,rfl,_⟩:=zh_ ho;have HO:=hQ_ ho;have HG:=hQ_ hg;have HR6:=hQ_ (show zb_ w' gp _ _ from by have:=zn_ (H4.o.keep HAL4.o).rec_ (H4.o.keep HAL4.o).cal (by decide) hg;rw[HGP.o];exact this);have f8:=HR6.o.frozen 8;have j8:=HR6.o.cell 8;clear ho hg;refine hK _ _ ?_;clear hK K;refine wpAny_ready (rs:=[8]) (by kernel_rfl) (by simp) (AllReady.cons rfl (fun K hK=>?_) AllReady.nil);go_simp;refine hK _ _ ?_;clear hK K;refine wpAny_ready (rs:=[9]) (by kernel_rfl) (by simp) (AllReady.cons rfl (fun K hK=>?_) AllReady.nil);go_simp;refine hK _ _ ?_;clear hK K;refine wpAny_ready (rs:=[10]) (by kernel_rfl) (by simp) (AllReady.cons rfl (fun K hK=>?_) AllReady.nil);go_simp;refine hK _ _ ?_;clear hK K;refine wpAny_done (by kernel_rfl) ?_ _;obtain⟨hP,hF⟩:=H4.o.called HAL4.o HCL.o (by have:=HN8.o;show n8+1=s.cs.length+1;omega) hcs (by have:=HO.o;rw[<-HCXX.o]at this;exact this) HG.o;have HPP:=hQ_ (show zu_ P W s' (.tuple #[]) (.returned (.tuple #[])) _ from⟨rfl,⟨_,_,by
    rw[HS'.out,<-HAR.o,<-HN.o,<-HQ.o];rw[HCX.o]at hP;exact hP⟩,HF4.o.trans hF⟩);rw[<-HGP.o]at HPP;clear hP hF;go_wp2_with fail;(all_goals go_end0);all_goals exact HPP.o
 · refine uN_ rfl 169 (.tmp 4) rfl g4 rfl 169 CX.toArray (0,0) _ (by first|exact HW5.o|exact HW4.o) Tryz.underlying169 rfl HSC.o ?_;refine hK _ _ ?_;clear hK K;refine wpAny_ready (rs:=[4,6]) (by kernel_rfl) (by simp) (AllReady.cons rfl (fun K hK=>?_) (AllReady.cons rfl (fun K hK=>?_) AllReady.nil))
   · go_simp;refine hK _ _ ?_;clear hK K;refine wpAny_ready (rs:=[6]) (by kernel_rfl) (by simp) (AllReady.cons rfl (fun K hK=>?_) AllReady.nil);refine xN_ rfl 110 169 (.tmp 45) rfl CX.toArray rfl 28 Tryz.underlying110 hi1 hz1 hs1 hzs1 (by decide) (by decide) HCXL.o w4.heap.size rfl ?_;refine hK _ _ ?_;clear hK K;change wpAny _ _ _ _ _ _ _ (w4.alloc (.cells CX.toArray 169)).drew;refine wpAny_ready (rs:=[7]) (by kernel_rfl) (by simp) (AllReady.cons rfl (fun K hK=>?_) AllReady.nil);refine yt_ rfl (.tmp 44) (.tmp 46) 110 rfl P.B 169 i1 _ 28 224 Tryz.underlying110 hi1 hz1 hs1 hb1 hzs1 (by decide) (.slice A8 n8 c8) n8 (q9_ s.cs) rfl HOW.o ⟨w4.heap.size,0,none⟩ 1 1 CX rfl HCXM.o HCELL.o HONE.o (by unfold maxLen;omega) (by omega) HBW.o ?_;intro v' w' ho hg;obtain⟨A6,k6,rfl,_⟩:=zh_ ho;have HO:=hQ_ ho;have HG:=hQ_ hg;have HR6:=hQ_ (show zb_ w' gp _ _ from by have:=zn_ (H4.o.keep HAL4.o).rec_ (H4.o.keep HAL4.o).cal (by decide) hg;rw[HGP.o];exact this);have f8:=HR6.o.frozen 8;have j8:=HR6.o.cell 8;clear ho hg;refine hK _ _ ?_;clear hK K;refine wpAny_ready (rs:=[8]) (by kernel_rfl) (by simp) (AllReady.cons rfl (fun K hK=>?_) AllReady.nil);go_simp;refine hK _ _ ?_;clear hK K;refine wpAny_ready (rs:=[9]) (by kernel_rfl) (by simp) (AllReady.cons rfl (fun K hK=>?_) AllReady.nil);go_simp;refine hK _ _ ?_;clear hK K;refine wpAny_ready (rs:=[10]) (by kernel_rfl) (by simp) (AllReady.cons rfl (fun K hK=>?_) AllReady.nil);go_simp;refine hK _ _ ?_;clear hK K;refine wpAny_done (by kernel_rfl) ?_ _;obtain⟨hP,hF⟩:=H4.o.called HAL4.o HCL.o (by have:=HN8.o;show n8+1=s.cs.length+1;omega) hcs (by have:=HO.o;rw[<-HCXX.o]at this;exact this) HG.o;have HPP:=hQ_ (show zu_ P W s' (.tuple #[]) (.returned (.tuple #[])) _ from⟨rfl,⟨_,_,by
      rw[HS'.out,<-HAR.o,<-HN.o,<-HQ.o];rw[HCX.o]at hP;exact hP⟩,HF4.o.trans hF⟩);rw[<-HGP.o]at HPP;clear hP hF;go_wp2_with fail;(all_goals go_end0);all_goals exact HPP.o
   · refine xN_ rfl 110 169 (.tmp 45) rfl CX.toArray rfl 28 Tryz.underlying110 hi1 hz1 hs1 hzs1 (by decide) (by decide) HCXL.o w4.heap.size rfl ?_;refine hK _ _ ?_;clear hK K;change wpAny _ _ _ _ _ _ _ (w4.alloc (.cells CX.toArray 169)).drew;refine wpAny_ready (rs:=[4]) (by kernel_rfl) (by simp) (AllReady.cons rfl (fun K hK=>?_) AllReady.nil);go_simp;refine hK _ _ ?_;clear hK K;refine wpAny_ready (rs:=[7]) (by kernel_rfl) (by simp) (AllReady.cons rfl (fun K hK=>?_) AllReady.nil);refine yt_ rfl (.tmp 44) (.tmp 46) 110 rfl P.B 169 i1 _ 28 224 Tryz.underlying110 hi1 hz1 hs1 hb1 hzs1 (by decide) (.slice A8 n8 c8) n8 (q9_ s.cs) rfl HOW.o ⟨w4.heap.size,0,none⟩ 1 1 CX rfl HCXM.o HCELL.o HONE.o (by unfold maxLen;omega) (by omega) HBW.o ?_;intro v' w' ho hg;obtain⟨A6,k6,rfl,_⟩:=zh_ ho;have HO:=hQ_ ho;have HG:=hQ_ hg;have HR6:=hQ_ (show zb_ w' gp _ _ from by have:=zn_ (H4.o.keep HAL4.o).rec_ (H4.o.keep HAL4.o).cal (by decide) hg;rw[HGP.o];exact this);have f8:=HR6.o.frozen 8;have j8:=HR6.o.cell 8;clear ho hg;refine hK _ _ ?_;clear hK K;refine wpAny_ready (rs:=[8]) (by kernel_rfl) (by simp) (AllReady.cons rfl (fun K hK=>?_) AllReady.nil);go_simp;refine hK _ _ ?_;clear hK K;refine wpAny_ready (rs:=[9]) (by kernel_rfl) (by simp) (AllReady.cons rfl (fun K hK=>?_) AllReady.nil);go_simp;refine hK _ _ ?_;clear hK K;refine wpAny_ready (rs:=[10]) (by kernel_rfl) (by simp) (AllReady.cons rfl (fun K hK=>?_) AllReady.nil);go_simp;refine hK _ _ ?_;clear hK K;refine wpAny_done (by kernel_rfl) ?_ _;obtain⟨hP,hF⟩:=H4.o.called HAL4.o HCL.o (by have:=HN8.o;show n8+1=s.cs.length+1;omega) hcs (by have:=HO.o;rw[<-HCXX.o]at this;exact this) HG.o;have HPP:=hQ_ (show zu_ P W s' (.tuple #[]) (.returned (.tuple #[])) _ from⟨rfl,⟨_,_,by
      rw[HS'.out,<-HAR.o,<-HN.o,<-HQ.o];rw[HCX.o]at hP;exact hP⟩,HF4.o.trans hF⟩);rw[<-HGP.o]at HPP;clear hP hF;go_wp2_with fail;(all_goals go_end0);all_goals exact HPP.o
end
def yW_ (s a b:Int)(w:World)(e:Ending)(w':World):Prop:=e=.returned (.tuple #[.int .i64 (doR s a b).1,.int .i64 (doR s a b).2])/\w=w'
theorem z8_ {s a b x y:Int}{w:World}(h:doR s a b=(x,y)):yW_ s a b w (.returned (.tuple #[.int .i64 x,.int .i64 y])) w:=by unfold yW_;rw[h];exact⟨rfl,rfl⟩
theorem zpI (a b:Int):doR 43 a b=(wrap64 (a+b),0):=by simp[doR]
theorem zpH (a b:Int):doR 45 a b=(wrap64 (a-b),0):=by simp[doR]
theorem zpJ (a b:Int):doR 42 a b=(wrap64 (a*b),0):=by simp[doR]
theorem zpK (a b:Int):doR 38 a b=(bits .and .i64 a b,0):=by simp[doR]
theorem zoh (a b:Int):doR 124 a b=(bits .or .i64 a b,0):=by simp[doR]
theorem zpE (a b:Int):doR 94 a b=(bits .xor .i64 a b,0):=by simp[doR]
theorem zpG (a b:Int):doR 60 a b=(if a<b then 1 else 0,0):=by simp[doR]
theorem zpF (a b:Int):doR 61 a b=(if a=b then 1 else 0,0):=by simp[doR]
theorem zog (a b:Int):doR 171 a b=(wrap64 (a*2^(b%64).toNat),0):=by simp[doR]
theorem zof (a b:Int):doR 187 a b=(a/2^(b%64).toNat,0):=by simp[doR]
theorem zpL (a b:Int):doR 33 a b=(if a=0 then 1 else 0,0):=by simp[doR]
theorem zdR (a b:Int):doR 47 a b=(if b=0 then (0,3) else if a=-9223372036854775808/\b=-1 then (0,4) else (wrap64 (a.tdiv b),0)):=by simp[doR]
theorem zmH (a b:Int):doR 37 a b=(if b=0 then (0,3) else (a.tmod b,0)):=by simp[doR]
theorem zoO {x y:Int}{u v:Int}(h:x=u)(k:y=v):((x,y):Int×Int)=(u,v):=by rw[h,k]
section
variable {w:World}
theorem xW_ (b:Bool):Calls Tryz.prog 181 #[.bool b] w fun e w'=>e=.returned (.int .i64 (if b then 1 else 0))/\w=w':=by
 cases b <;>
 · go_enter Tryz.func181,Tryz.ntmps181;go_wp2_with fail;go_ret;exact⟨rfl,rfl⟩
theorem zpD (a b:Int):Calls Tryz.prog 159 #[.int .i32 43,.int .i64 a,.int .i64 b] w (yW_ 43 a b w):=by
 go_enter Tryz.func159,Tryz.ntmps159;go_wp2_with fail;go_ret2;exact z8_ (zpI a b)
theorem zpx (a b:Int):Calls Tryz.prog 159 #[.int .i32 45,.int .i64 a,.int .i64 b] w (yW_ 45 a b w):=by
 go_enter Tryz.func159,Tryz.ntmps159;go_wp2_with fail;go_ret2;exact z8_ (zpH a b)
theorem zpB (a b:Int):Calls Tryz.prog 159 #[.int .i32 42,.int .i64 a,.int .i64 b] w (yW_ 42 a b w):=by
 go_enter Tryz.func159,Tryz.ntmps159;go_wp2_with fail;go_ret2;exact z8_ (zpJ a b)
theorem zpC (a b:Int):Calls Tryz.prog 159 #[.int .i32 38,.int .i64 a,.int .i64 b] w (yW_ 38 a b w):=by
 go_enter Tryz.func159,Tryz.ntmps159;go_wp2_with fail;go_ret2;exact z8_ (zpK a b)
theorem do_or (a b:Int):Calls Tryz.prog 159 #[.int .i32 124,.int .i64 a,.int .i64 b] w (yW_ 124 a b w):=by
 go_enter Tryz.func159,Tryz.ntmps159;go_wp2_with fail;go_ret2;exact z8_ (zoh a b)
theorem zpw (a b:Int):Calls Tryz.prog 159 #[.int .i32 94,.int .i64 a,.int .i64 b] w (yW_ 94 a b w):=by
 go_enter Tryz.func159,Tryz.ntmps159;go_wp2_with fail;go_ret2;exact z8_ (zpE a b)
theorem do_lt (a b:Int):Calls Tryz.prog 159 #[.int .i32 60,.int .i64 a,.int .i64 b] w (yW_ 60 a b w):=by
 have HR:=hQ_ (zpG a b);by_cases h:a<b
 · have HH:=hQ_ h;have hd:decide (a<b)=true:=(by simpa using h);clear h;go_enter Tryz.func159,Tryz.ntmps159;go_wp2_with (go_at_call 181;refine(xW_ _).mono ?_;rintro e w' ⟨rfl,rfl⟩);go_ret2;exact z8_ (by rw[HR.o];exact zoO (by simp[HH.o]) rfl)
 · have HH:=hQ_ h;have hd:decide (a<b)=false:=(by simpa using h);clear h;go_enter Tryz.func159,Tryz.ntmps159;go_wp2_with (go_at_call 181;refine(xW_ _).mono ?_;rintro e w' ⟨rfl,rfl⟩);go_ret2;exact z8_ (by rw[HR.o];exact zoO (by simp[HH.o]) rfl)
theorem do_eq (a b:Int):Calls Tryz.prog 159 #[.int .i32 61,.int .i64 a,.int .i64 b] w (yW_ 61 a b w):=by
 have HR:=hQ_ (zpF a b);by_cases h:a=b
 · have HH:=hQ_ h;have hd:(a==b)=true:=(by simpa using h);clear h;go_enter Tryz.func159,Tryz.ntmps159;go_wp2_with (go_at_call 181;refine(xW_ _).mono ?_;rintro e w' ⟨rfl,rfl⟩);go_ret2;exact z8_ (by rw[HR.o];exact zoO (by simp[HH.o]) rfl)
 · have HH:=hQ_ h;have hd:(a==b)=false:=(by simpa using h);clear h;go_enter Tryz.func159,Tryz.ntmps159;go_wp2_with (go_at_call 181;refine(xW_ _).mono ?_;rintro e w' ⟨rfl,rfl⟩);go_ret2;exact z8_ (by rw[HR.o];exact zoO (by simp[HH.o]) rfl)
theorem zpA (a b:Int):Calls Tryz.prog 159 #[.int .i32 33,.int .i64 a,.int .i64 b] w (yW_ 33 a b w):=by
 have HR:=hQ_ (zpL a b);by_cases h:a=0
 · have HH:=hQ_ h;have hd:(a==0)=true:=(by simpa using h);clear h;go_enter Tryz.func159,Tryz.ntmps159;go_wp2_with (go_at_call 181;refine(xW_ _).mono ?_;rintro e w' ⟨rfl,rfl⟩);go_ret2;exact z8_ (by rw[HR.o];exact zoO (by simp[HH.o]) rfl)
 · have HH:=hQ_ h;have hd:(a==0)=false:=(by simpa using h);clear h;go_enter Tryz.func159,Tryz.ntmps159;go_wp2_with (go_at_call 181;refine(xW_ _).mono ?_;rintro e w' ⟨rfl,rfl⟩);go_ret2;exact z8_ (by rw[HR.o];exact zoO (by simp[HH.o]) rfl)
theorem zpz (a b:Int):Calls Tryz.prog 159 #[.int .i32 171,.int .i64 a,.int .i64 b] w (yW_ 171 a b w):=by
 have H6:=zaZ b;have h0:0<=b%64:=by omega
 have h1:b%64<=64:=by omega
 go_enter Tryz.func159,Tryz.ntmps159;go_wp2_with fail;go_ret2;exact z8_ (zog a b)
theorem zpy (a b:Int):Calls Tryz.prog 159 #[.int .i32 187,.int .i64 a,.int .i64 b] w (yW_ 187 a b w):=by
 have H6:=zaZ b;have h0:0<=b%64:=by omega
 have h1:b%64<=64:=by omega
 go_enter Tryz.func159,Tryz.ntmps159;go_wp2_with fail;go_ret2;exact z8_ (zof a b)
end
section
variable {w:World}
theorem zds (s a b:Int)(hs:s=47\/s=37):Calls Tryz.prog 180 #[.int .i32 s,.int .i64 a,.int .i64 b] w (yW_ s a b w):=by
 by_cases hb:b=0
 · subst hb;have HR:Hid (doR s a 0=(0,3)):=hQ_ (by rcases hs with rfl|rfl;(rw[zdR];rfl);(rw[zmH];rfl));clear hs;go_enter Tryz.func180,Tryz.ntmps180;go_wp2_with fail;go_ret2;exact z8_ HR.o
 have HB:=hQ_ hb;have hb0:(b==0)=false:=by simpa using hb
 clear hb;rcases hs with rfl|rfl
 · by_cases ha:a=-9223372036854775808
   · subst ha;by_cases h1:b=-1
     · subst h1;have HR:Hid (doR 47 (-9223372036854775808) (-1)=(0,4)):=hQ_ (by rw[zdR];rfl);go_enter Tryz.func180,Tryz.ntmps180;go_wp2_with fail;go_ret2;exact z8_ HR.o
     · have HR:Hid (doR 47 (-9223372036854775808) b=(wrap64 ((-9223372036854775808:Int).tdiv b),0)):=hQ_ (by rw[zdR,if_neg HB.o,if_neg (fun h=>h1 h.2)]);have hb1:(b == -1)=false:=(by simpa using h1);clear h1;go_enter Tryz.func180,Tryz.ntmps180;go_wp2_with fail;go_ret2;exact z8_ (by rw[HR.o,Int.neg_tdiv])
   · have HR:Hid (doR 47 a b=(wrap64 (a.tdiv b),0)):=hQ_ (by rw[zdR,if_neg HB.o,if_neg (fun h=>ha h.1)]);have ha1:(a == -9223372036854775808)=false:=(by simpa using ha);clear ha;go_enter Tryz.func180,Tryz.ntmps180;go_wp2_with fail;go_ret2;exact z8_ HR.o
 · have HR:Hid (doR 37 a b=(a.tmod b,0)):=hQ_ (by rw[zmH,if_neg HB.o]);go_enter Tryz.func180,Tryz.ntmps180;go_wp2_with fail;go_ret2;exact z8_ HR.o
theorem zmF (s a b:Int)(hs:s=47\/s=37):Calls Tryz.prog 159 #[.int .i32 s,.int .i64 a,.int .i64 b] w (yW_ s a b w):=by
 rcases hs with rfl|rfl
 · go_enter Tryz.func159,Tryz.ntmps159;go_wp2_with (go_at_call 180;refine(zds 47 a b (.inl rfl)).mono ?_;rintro e w' ⟨rfl,rfl⟩);go_ret2;exact⟨rfl,rfl⟩
 · go_enter Tryz.func159,Tryz.ntmps159;go_wp2_with (go_at_call 180;refine(zds 37 a b (.inr rfl)).mono ?_;rintro e w' ⟨rfl,rfl⟩);go_ret2;exact⟨rfl,rfl⟩
theorem kN_ {a b:Int}(h:a≠b):(a==b)=false:=by simpa using h
def zpY (s:Int):Prop:=s≠43/\s≠45/\s≠42/\s≠47/\s≠37/\s≠38/\s≠124/\s≠94/\s≠60/\s≠61/\s≠171/\s≠187/\s≠33
theorem zoe (s a b:Int)(hs:zpY s):Calls Tryz.prog 159 #[.int .i32 s,.int .i64 a,.int .i64 b] w (yW_ s a b w):=by
 have HR:=hQ_ (zlK a b hs);obtain⟨h1,h2,h3,h4,h5,h6,h7,h8,h9,h10,h11,h12,h13⟩:=hs;have k1:=kN_ h1;have k2:=kN_ h2;have k3:=kN_ h3;have k4:=kN_ h4;have k5:=kN_ h5;have k6:=kN_ h6;have k7:=kN_ h7;have k8:=kN_ h8;have k9:=kN_ h9;have k10:=kN_ h10;have k11:=kN_ h11;have k12:=kN_ h12;have k13:=kN_ h13;clear h1 h2 h3 h4 h5 h6 h7 h8 h9 h10 h11 h12 h13;go_enter Tryz.func159,Tryz.ntmps159;go_wp2_with fail;go_ret2;exact z8_ HR.o
theorem zmG (s a b:Int):Calls Tryz.prog 159 #[.int .i32 s,.int .i64 a,.int .i64 b] w (yW_ s a b w):=by
 by_cases h1:s=43;· subst h1;exact zpD a b
 by_cases h2:s=45;· subst h2;exact zpx a b
 by_cases h3:s=42;· subst h3;exact zpB a b
 by_cases h4:s=47;· exact zmF s a b (.inl h4)
 by_cases h5:s=37;· exact zmF s a b (.inr h5)
 by_cases h6:s=38;· subst h6;exact zpC a b
 by_cases h7:s=124;· subst h7;exact do_or a b
 by_cases h8:s=94;· subst h8;exact zpw a b
 by_cases h9:s=60;· subst h9;exact do_lt a b
 by_cases h10:s=61;· subst h10;exact do_eq a b
 by_cases h11:s=171;· subst h11;exact zpz a b
 by_cases h12:s=187;· subst h12;exact zpy a b
 by_cases h13:s=33;· subst h13;exact zpA a b
 exact zoe s a b ⟨h1,h2,h3,h4,h5,h6,h7,h8,h9,h10,h11,h12,h13⟩
end
def zoL (P:EP)(W:World)(vc:Value)(s':EgV)(r:Value)(e:Ending)(w':World):Prop:=e=.returned r/\(∃vs',Eg P w' vs' vc s')/\Fe P.K egT W w'
section
variable {P:EP} {W W':World} {vs vc:Value} {s:EgV}
theorem zpr {x:Int}{s':EgV}(h:Eg P W vs vc s)(hp:s.pop=some (x,s')):Calls Tryz.prog 55 #[.pointer (some ⟨P.g,0,none⟩)] W (zoL P W vc s' (.int .i64 x)):=by
 obtain⟨st,hst,rfl⟩:=xI_ hp;obtain⟨gs,c,rfl,hc,hx⟩:=h.top hst;have k7:W.cell? ⟨P.g,7,none⟩=some (.slice (some ⟨gs,0,none⟩) (st.length+1) c):=h.rec_.cell 7;have f7:=h.rec_.frozen 7;have hb:=h.stkb;have hl:s.st.length=st.length+1:=by rw[hst];simp
 have HQ:=hQ_ (h.popped rfl (Chg.refl [] W) hst);have HQ2:=hQ_ (h.popped rfl ((Chg.refl [] W).drew) hst);obtain⟨n,hn⟩:∃n,n=st.length:=⟨_,rfl⟩;rw[<-hn]at HQ HQ2 k7 hx hc hl;have hn9:n<=3000000:=by omega
 generalize P.g=g at k7 f7 HQ HQ2⊢;clear h hp hst hn hb;have hsub:IntKind.i64.wrap (((n+1:Nat):Int)-1)=(n:Int):=by rw[IntWalk.i64_in _ (by omega)];omega
 have hq0:(0:Int)<=(n:Int):=by omega
 have hq1:(n:Int)<((n+1:Nat):Int):=by omega
 have hq2:(n:Int)<=(c:Int):=by omega
 go_enter Tryz.func55,Tryz.ntmps55;go_wp2_with fail;go_ret;exact⟨rfl,⟨_,HQ.o.1⟩,HQ.o.2⟩
theorem zfG (h:Eg P W vs vc s)(hd:32<=s.cs.length)(f:Int):Calls Tryz.prog 135 #[.pointer (some ⟨P.g,0,none⟩),.int .i64 f] W (zu_ P W s (.int .i64 6)):=by
 obtain⟨A8,n8,c8,rfl,hn8,_⟩:=h.cslice;have k8:W.cell? ⟨P.g,8,none⟩=some (.slice A8 n8 c8):=h.rec_.cell 8;have HP:=hQ_ (zu_.of_chg (r:=.int .i64 6) h (Chg.refl [] W));have hd8:(32:Int)<=(n8:Int):=by omega
 generalize P.g=gp at *;clear h hn8 hd;go_enter Tryz.func135,Tryz.ntmps135;go_wp2_with fail;go_ret;exact HP.o
theorem zlG {k:Nat}{s':EgV}(h:Eg P W vs vc s)(hc:uG_ P.cd k s=some s')(hcs:s.cs.length<=31):Calls Tryz.prog 135 #[.pointer (some ⟨P.g,0,none⟩),.int .i64 (k:Int)] W (zu_ P W s' (.int .i64 0)):=by
 obtain⟨A8,n8,c8,rfl,hn8,_⟩:=h.cslice;have k8:W.cell? ⟨P.g,8,none⟩=some (.slice A8 n8 c8):=h.rec_.cell 8;have HC:=hQ_ (zbm h hc hcs);have hd8:(n8:Int)<32:=by omega
 generalize P.g=gp at *;clear h hn8 hc;go_enter Tryz.func135,Tryz.ntmps135;go_wp2_with fail;refine HC.o.mono ?_;rintro e w1 ⟨rfl,h1,hf1⟩;have HP:=hQ_ (show zu_ P W s' (.int .i64 0) (.returned (.int .i64 0)) w1 from⟨rfl,h1,hf1⟩);clear h1 hf1;go_wp2_with fail;go_ret;exact HP.o
theorem zkO {sg:Int}{tr:Int}{s':EgV}(h:Eg P W vs vc s)(hs:97<=sg/\sg<=122)(hr:y1_ sg s=some (tr,s'))(hroom:s.st.length+s.fuel<=2999999):Calls Tryz.prog 137 #[.pointer (some ⟨P.g,0,none⟩),.int .i32 sg] W (zu_ P W s' (.int .i64 tr)):=by
 unfold y1_ at hr;rw[if_pos hs]at hr;cases hl:s.cs.getLast? with
 | none=>rw[hl]at hr;cases hr
 | some c =>
   rw[hl]at hr;simp only at hr;cases hx:c.loc[(sg-97).toNat]? with
   | none=>rw[hx]at hr;cases hr
   | some x =>
     rw[hx]at hr;simp only at hr;injection hr with hr;injection hr with hr1 hr2;subst hr1;subst hr2;obtain⟨i,hi⟩:∃i:Nat,i=(sg-97).toNat:=⟨_,rfl⟩;rw[<-hi]at hx;have hiI:sg-97=(i:Int):=(by omega);have hi26:i<=25:=(by omega);obtain⟨ys,hcs,hdl⟩:=vQ_ hl;obtain⟨g,cap,hv,hcap,hk,hlen,hcell,hfro⟩:=h.cur hcs;have HNOW:=hQ_ (jZ_ h hv hk);have n1:W.cell? ⟨g,ys.length*28+2+i,none⟩=some (.int .i64 x):=(by rw[Nat.add_assoc];exact hcell (2+i) _ (zjn c i x hx));have HPUSH:=hQ_ (fun (W1:World)(hc:Chg [] W W1)=>xH_ (h.keep hc) x hroom);have hsub:IntKind.i32.wrap (sg-97)=(i:Int):=(by rw[hiI];exact IntWalk.i32_in _ (by omega));have hd1:decide (97<=sg)=true:=(by simpa using hs.1);have hd2:decide (sg<=122)=true:=(by simpa using hs.2);have hi0:(0:Int)<=(i:Int):=(by omega);have hi1:(i:Int)<26:=(by omega);generalize ys.length=k at *;generalize P.g=gp at *;clear h hl hcs hv hcell hfro hx hi hdl;go_enter Tryz.func137,Tryz.ntmps137;go_wp2_with fail;refine HNOW.o.mono ?_;rintro e w1 ⟨rfl,hc1⟩;have m1:=zd_ n1 hc1;have HPU:=hQ_ (HPUSH.o w1 hc1);have HC1:=hQ_ hc1;clear hc1;go_wp2_with fail;refine HPU.o.mono ?_;rintro e w2 ⟨rfl,h2,hf2⟩;have HP:=hQ_ (show zu_ P W (s.push x) (.int .i64 0) (.returned (.int .i64 0)) w2 from⟨rfl,h2,(Fe.of_chg HC1.o).trans hf2⟩);clear h2 hf2;go_wp2_with fail;go_ret;exact HP.o
theorem Eg.cellC (h:Eg P W vs vc s){ys:List CallV}{c:CallV}(hcs:s.cs=ys++[c]){g n cap:Nat}(hv:vc=.slice (some ⟨g,0,none⟩) n cap)(i:Nat)(hi:i<c.loc.length):(∃y,W.cell? ⟨g,ys.length*28+(2+i),none⟩=some (.int .i64 y))/\W.frozen? ⟨g,ys.length*28+(2+i),none⟩=false:=by
 obtain⟨g',cap',hv',_,_,_,hcell,hfro⟩:=h.cur hcs;rw[hv]at hv';injection hv' with e _ _;injection e with e;injection e with e;subst e;exact⟨⟨c.loc[i],hcell (2+i) _ (zjn c i _ (List.getElem?_eq_getElem hi))⟩,hfro _⟩
theorem znv {sg:Int}{tr:Int}{s':EgV}(h:Eg P W vs vc s)(hs:65<=sg/\sg<=90)(hr:y1_ sg s=some (tr,s')):Calls Tryz.prog 137 #[.pointer (some ⟨P.g,0,none⟩),.int .i32 sg] W (zu_ P W s' (.int .i64 tr)):=by
 unfold y1_ at hr;rw[if_neg (by omega),if_pos hs]at hr;cases hp:s.pop with
 | none=>rw[hp]at hr;cases hr
 | some q =>
   obtain⟨x,s1⟩:=q;rw[hp]at hr;simp only at hr;cases hl:s1.cs.getLast? with
   | none=>rw[hl]at hr;cases hr
   | some c =>
     rw[hl]at hr;simp only at hr;injection hr with hr;injection hr with hr1 hr2;subst hr1;obtain⟨i,hi⟩:∃i:Nat,i=(sg-65).toNat:=⟨_,rfl⟩;rw[<-hi]at hr2;have hiI:sg-65=(i:Int):=(by omega);have hi26:i<=25:=(by omega);obtain⟨ys,hcs1,hdl⟩:=vQ_ hl;rw[hdl]at hr2;have hcs:s.cs=ys++[c]:=(by rw[<-uW_ hp];exact hcs1);obtain⟨g,cap,hv,hcap,hk,hlen,hcell,hfro⟩:=h.cur hcs;have HNOW:=hQ_ (fun (W1:World)(hc:Chg [] W W1)=>jZ_ (h.keep hc) hv hk);have HPOP:=hQ_ (fun (W1:World)(hc:Chg [] W W1)=>zpr (h.keep hc) hp);have HCS:=hQ_ hcs1;have HS':=hQ_ hr2;have HLEN:=hQ_ hlen;have hsub:IntKind.i32.wrap (sg-65)=(i:Int):=(by rw[hiI];exact IntWalk.i32_in _ (by omega));have hd0:decide (97<=sg)=false:=(by simp;omega);have hd1:decide (65<=sg)=true:=(by simpa using hs.1);have hd2:decide (sg<=90)=true:=(by simpa using hs.2);have hi0:(0:Int)<=(i:Int):=(by omega);have hi1:(i:Int)<26:=(by omega);have hwi:IntKind.i32.wrap (i:Int)=(i:Int):=IntWalk.i32_in _ (by omega);obtain⟨k,hkk⟩:∃k,k=ys.length:=⟨_,rfl⟩;rw[<-hkk]at HNOW;have HK:=hQ_ hkk;have HV:=hQ_ hv;obtain⟨gp,hgp⟩:∃gp,gp=P.g:=⟨_,rfl⟩;have HGP:=hQ_ hgp;rw[<-hgp]at HNOW HPOP⊢;clear h hl hcs hcs1 hv hcell hfro hi hdl hp hr2 hkk hgp hlen;go_enter Tryz.func137,Tryz.ntmps137;go_wp2_with fail;go_region_with (first
      | (go_at_call 92;refine(HNOW.o _ ((Chg.refl [] W).drew)).mono ?_;rintro e w1 ⟨rfl,hc1⟩;have HC1:=hQ_ (((Chg.refl [] W).drew).new hc1);clear hc1)
      | (go_at_call 55;refine(HPOP.o w1 HC1.o).mono ?_;rintro e w2 ⟨rfl,⟨vs2,h2⟩,hf2⟩;have HSET:=hQ_ (h2.callset HCS.o HV.o (Chg.refl [] w2) (j:=2+i) (.int .i64 x) (zjm c i x) (by rw[List.length_set];exact HLEN.o));have HF2:=hQ_ ((Fe.of_chg HC1.o).trans hf2);rw[<-HK.o,<-Nat.add_assoc]at HSET;obtain⟨⟨y2,m2⟩,fm2⟩:=h2.cellC HCS.o HV.o i (by have:=HLEN.o;omega);rw[<-HK.o,<-Nat.add_assoc]at m2 fm2;clear h2 hf2));all_goals
       have HP:=hQ_ (show zu_ P W s' (.int .i64 0) (.returned (.int .i64 0)) _ from⟨rfl,⟨_,_,by rw[<-HS'.out];exact HSET.o.1⟩,HF2.o.trans HSET.o.2⟩);go_wp2_with fail;go_ret;exact HP.o
end
section
variable {P:EP} {W W':World} {vs vc:Value} {s:EgV}
theorem zhb {sg:Int}{tr:Int}{s':EgV}(h:Eg P W vs vc s)(h1:¬(97<=sg/\sg<=122))(h2:¬(65<=sg/\sg<=90))(hr:y1_ sg s=some (tr,s')):Calls Tryz.prog 137 #[.pointer (some ⟨P.g,0,none⟩),.int .i32 sg] W (zu_ P W s' (.int .i64 tr)):=by
 unfold y1_ at hr;rw[if_neg h1,if_neg h2]at hr;have fin:∀(b:Int)(s1:EgV)(w1:World)(vs1 vc1:Value),Eg P w1 vs1 vc1 s1->Fe P.K egT W w1->∀(a:Int)(s2:EgV),s1.pop=some (a,s2)->tr=(doR sg a b).2->s'=(if (doR sg a b).2=0 then s2.push (doR sg a b).1 else s2) ->
     Hid (Calls Tryz.prog 55 #[.pointer (some ⟨P.g,0,none⟩)] w1 (fun e w2=>e=.returned (.int .i64 a)/\Hid (Fe P.K egT W w2)/\Hid (∃vs2 vc2,Eg P w2 vs2 vc2 s2))):=by
  intro b s1 w1 vs1 vc1 k1 kf a s2 hp _ _;refine hQ_ ((xt_ k1 hp).mono ?_);rintro e w2 ⟨he,hv,hf⟩;exact⟨he,hQ_ (kf.trans hf),hQ_ hv⟩
 have hpush:∀(a b:Int)(s2:EgV)(w2:World),(∃vs2 vc2,Eg P w2 vs2 vc2 s2)->Fe P.K egT W w2->s2.st.length+s2.fuel<=2999999->(doR sg a b).2=0->tr=(doR sg a b).2->s'=(if (doR sg a b).2=0 then s2.push (doR sg a b).1 else s2) ->
     Hid (Calls Tryz.prog 132 #[.pointer (some ⟨P.g,0,none⟩),.int .i64 (doR sg a b).1] w2 (fun e w3=>e=.returned (.tuple #[])/\Hid (zu_ P W s' (.int .i64 tr) (.returned (.int .i64 0)) w3))):=by
  intro a b s2 w2 ⟨vs2,vc2,k2⟩ kf hroom h0 htr hs;refine hQ_ ((xH_ k2 _ hroom).mono ?_);rintro e w3 ⟨he,hv,hf⟩;refine⟨he,hQ_ ?_⟩;rw[if_pos h0]at hs;subst hs;rw[htr,h0];exact⟨rfl,hv,kf.trans hf⟩
 have hstop:∀(a b:Int)(s2:EgV)(w2:World),(∃vs2 vc2,Eg P w2 vs2 vc2 s2)->Fe P.K egT W w2->(doR sg a b).2≠0->tr=(doR sg a b).2->s'=(if (doR sg a b).2=0 then s2.push (doR sg a b).1 else s2) ->
     Hid (zu_ P W s' (.int .i64 tr) (.returned (.int .i64 (doR sg a b).2)) w2):=by
  intro a b s2 w2 hv kf h0 htr hs;rw[if_neg h0]at hs;subst hs;subst htr;exact hQ_ ⟨rfl,hv,kf⟩
 have stl:∀{x:Int}{t t':EgV},t.pop=some (x,t')->t'.st.length+t'.fuel+1=t.st.length+t.fuel:=by
  intro x t t' hp;obtain⟨st,e1,e2⟩:=xI_ hp;subst e2;rw[e1];simp;omega
 have FIN:=hQ_ fin;have HPU:=hQ_ hpush;have HSTOP:=hQ_ hstop;have hsb:=h.stkb;by_cases h33:sg=33
 · subst h33;rw[if_pos rfl]at hr;simp only at hr;cases hp:s.pop with
   | none=>rw[hp]at hr;cases hr
   | some q =>
     obtain⟨a,s2⟩:=q;rw[hp]at hr;simp only at hr;injection hr with hr;injection hr with hr1 hr2;have HR1:=hQ_ hr1.symm;have HR2:=hQ_ hr2.symm;have hst2:s2.st.length+s2.fuel<=2999999:=(by have:=stl hp;omega);have HPOP:=FIN.out 0 s W _ _ h (Fe.refl _ _ _) a s2 hp hr1.symm hr2.symm;obtain⟨D,hD⟩:∃D,D=doR 33 a 0:=⟨_,rfl⟩;have HD:=hQ_ hD;have HDO:=hQ_ (fun w=>zmG (w:=w) 33 a 0);unfold yW_ at HDO;rw[<-hD]at HDO;generalize P.g=gp at *;clear h hp hr1 hr2 fin hpush hstop hD h1 h2;go_enter Tryz.func137,Tryz.ntmps137;go_wp2_with fail;refine HPOP.o.mono ?_;rintro e w2 ⟨rfl,HF2,HV2⟩;go_wp2_with fail;refine(HDO.o _).mono ?_;rintro e w3 ⟨rfl,rfl⟩;by_cases h0:D.2=0
     · have hz:(D.2==0)=true:=(by simpa using h0);have HPX:=HPU.o a 0 s2 w2 HV2.o HF2.o hst2 (by rw[<-HD.o];exact h0) HR1.o HR2.o;rw[<-HD.o]at HPX;have HZ:=hQ_ h0;rw[h0];clear h0 hz;go_wp2_with fail;refine HPX.o.mono ?_;rintro e w4 ⟨rfl,HP⟩;go_wp2_with fail;go_ret;exact HP.o
     · have hz:(D.2==0)=false:=(by simpa using h0);have HP:=HSTOP.o a 0 s2 w2 HV2.o HF2.o (by rw[<-HD.o];exact h0) HR1.o HR2.o;rw[<-HD.o]at HP;generalize D.2=d2' at *;clear h0;go_wp2_with fail;go_ret;exact HP.o
 · rw [if_neg h33]at hr;cases hq:s.pop with
   | none=>rw[hq]at hr;cases hr
   | some q =>
   obtain⟨b,s1⟩:=q;rw[hq]at hr;simp only at hr;cases hp:s1.pop with
   | none=>rw[hp]at hr;cases hr
   | some q =>
     obtain⟨a,s2⟩:=q;rw[hp]at hr;simp only at hr;injection hr with hr;injection hr with hr1 hr2;have HR1:=hQ_ hr1.symm;have HR2:=hQ_ hr2.symm;have hst2:s2.st.length+s2.fuel<=2999999:=(by have:=stl hp;have:=stl hq;omega);have HPOP1:=hQ_ (xt_ h hq);have HPOP:=hQ_ (fun w1 vs1 vc1 k1 kf=>FIN.out b s1 w1 vs1 vc1 k1 kf a s2 hp hr1.symm hr2.symm);obtain⟨D,hD⟩:∃D,D=doR sg a b:=⟨_,rfl⟩;have HD:=hQ_ hD;have HDO:=hQ_ (fun w=>zmG (w:=w) sg a b);unfold yW_ at HDO;rw[<-hD]at HDO;have hb33:(sg != 33)=true:=(by simpa using h33);generalize P.g=gp at *;have hk:(decide (97<=sg)=false/\decide (sg<=122)=true/\decide (65<=sg)=false/\decide (sg<=90)=true)\/(decide (97<=sg)=false/\decide (sg<=122)=true/\decide (65<=sg)=true/\decide (sg<=90)=false)\/(decide (97<=sg)=true/\decide (sg<=122)=false/\decide (65<=sg)=true/\decide (sg<=90)=false):=(by
      simp only[decide_eq_true_eq,decide_eq_false_iff_not];omega);clear h hp hq hr1 hr2 fin hpush hstop hD h1 h2 h33;rcases hk with⟨k1,k2,k3,k4⟩|⟨k1,k2,k3,k4⟩|⟨k1,k2,k3,k4⟩ <;>
     · go_enter Tryz.func137,Tryz.ntmps137;go_wp2_with fail;refine HPOP1.o.mono ?_;rintro e w1 ⟨rfl,⟨vs1,vc1,kk⟩,kf⟩;have HPP:=HPOP.o w1 vs1 vc1 kk kf;clear kk kf;go_wp2_with fail;refine HPP.o.mono ?_;rintro e w2 ⟨rfl,HF2,HV2⟩;go_wp2_with fail;refine(HDO.o _).mono ?_;rintro e w3 ⟨rfl,rfl⟩;by_cases h0:D.2=0
       · have hz:(D.2==0)=true:=(by simpa using h0);have HPX:=HPU.o a b s2 w2 HV2.o HF2.o hst2 (by rw[<-HD.o];exact h0) HR1.o HR2.o;rw[<-HD.o]at HPX;have HZ:=hQ_ h0;rw[h0];clear h0 hz;go_wp2_with fail;refine HPX.o.mono ?_;rintro e w4 ⟨rfl,HP⟩;go_wp2_with fail;go_ret;exact HP.o
       · have hz:(D.2==0)=false:=(by simpa using h0);have HP:=HSTOP.o a b s2 w2 HV2.o HF2.o (by rw[<-HD.o];exact h0) HR1.o HR2.o;rw[<-HD.o]at HP;generalize D.2=d2' at *;clear h0;go_wp2_with fail;go_ret;exact HP.o
end
theorem zif:(Tryz.prog.info? 165).map (fun i=>(i.zero,i.size,i.bytes))=some (some (.agg #[.int .i64 0,.slice none 0 0,.slice none 0 0]),3,56):=by kernel_rfl
def zem (l:List FnV):Prop:=∀f∈l,0<=f.args/\∃ts R,uo_ f.code=some ts/\ks_ (yn_ ts)=some R
theorem zjh {f:FnV}{ts:List TkV}{R:List Int×Nat}(h1:uo_ f.code=some ts)(h2:ks_ (yn_ ts)=some R):xm_ f=⟨f.args.toNat,ts,R.1⟩:=by
 unfold xm_;rw[h1];simp only;rw[h2]
structure Cdx (W:World) (xs:List CdV):Prop where
  toks:∀x∈xs,W.ownsRow 0 132 3 x.tv x.c.ts.length (vB_ x.c.ts)
  gos:∀x∈xs,W.ownsRow 0 3 1 x.gv x.c.go.length (nms x.c.go)
  few:∀x∈xs,x.c.ts.length<=512/\x.c.go.length=x.c.ts.length
theorem Cdx.keep {W W':World}{xs:List CdV}(h:Cdx W xs)(hc:Chg [] W W'):Cdx W' xs:=⟨fun x hx=>ze_ (h.toks x hx) hc,fun x hx=>ze_ (h.gos x hx) hc,h.few⟩
theorem Cdx.nil (W:World):Cdx W []:=⟨fun x hx=>by simp at hx,fun x hx=>by simp at hx,fun x hx=>by simp at hx⟩
theorem Cdx.cons {W:World}{xs:List CdV}{x:CdV}(h:Cdx W xs)(h1:W.ownsRow 0 132 3 x.tv x.c.ts.length (vB_ x.c.ts))(h2:W.ownsRow 0 3 1 x.gv x.c.go.length (nms x.c.go))(h3:x.c.ts.length<=512/\x.c.go.length=x.c.ts.length):Cdx W (xs++[x]):=by
 refine⟨fun y hy=>?_,fun y hy=>?_,fun y hy=>?_⟩<;>rcases List.mem_append.1 hy with hy|hy
 · exact h.toks y hy
 · rw[List.mem_singleton]at hy;subst hy;exact h1
 · exact h.gos y hy
 · rw[List.mem_singleton]at hy;subst hy;exact h2
 · exact h.few y hy
 · rw[List.mem_singleton]at hy;subst hy;exact h3
theorem Cdx.grown {W W':World}{B:Nat}{v:Value}{n:Nat}{ys:List Value}{xs:List CdV}(h:Cdx W xs)(ho:W.ownsRow B 165 3 v n ys)(hg:W.grownBy W' v.ownBlock):Cdx W' xs :=
 ⟨fun x hx=>yj_ (h.toks x hx) ho (by decide) hg,fun x hx=>yj_ (h.gos x hx) ho (by decide) hg,h.few⟩
def zbF (W:World)(l:List FnV)(e:Ending)(w':World):Prop:=∃v xs,e=.returned v/\w'.ownsRow W.heap.size 165 3 v xs.length (zbM xs)/\Cdx w' xs/\xs.map (·.c)=l.map xm_/\Chg [] W w'
section
variable {W:World} {A:Option Addr} {n c:Nat} {l:List FnV} {pages most:Int}
theorem zjg (h:Fnr W A n c l)(hr:zem l)(h32:n<=32)(hsz:∀f∈l,f.code.size<=1000000):Calls Tryz.prog 52 #[yH_ pages most A n c] W (zbF W l):=by
 unfold yH_;obtain⟨i0,hi0,hz0,hz1,hz2⟩:=info_parts zif;have H:=hQ_ h;have HRD:=hQ_ hr;have HSZ:=hQ_ hsz;clear h hr hsz;go_enter Tryz.func52,Tryz.ntmps52;go_upto_region 2 with fail;have hN:=zb_.new W 25 [.int .i64 pages,.int .i64 most,.slice A n c];have hal:Chg [] W (W.alloc (.cells #[.int .i64 pages,.int .i64 most,.slice A n c] 25)):=(Chg.refl [] W).alloc _;have c2:=hN.cell 2;have HC:=hQ_ hal;obtain⟨g,hg⟩:∃g,g=W.heap.size:=⟨_,rfl⟩;rw[<-hg]at c2⊢;have HG:=hQ_ (show W.heap.size=g from hg.symm);generalize W.alloc (.cells #[.int .i64 pages,.int .i64 most,.slice A n c] 25)=w1 at c2 HC⊢;clear hN hal hg;go_wp2_with fail;go_loopw [3,13] (fun v i wr=>∃k:Nat,i=.int .i64 (k:Int)/\k<=n/\∃xs:List CdV,∃m:Nat,m=k/\Hid (m=xs.length)/\wr.ownsRow g 165 3 v m (zbM xs)/\Hid (Cdx wr xs)/\Hid (xs.map (·.c)=(l.take k).map xm_)/\Hid (Chg [] W wr)) (fun _ i _=>n-(intOf i).toNat);case atStart=>exact⟨0,rfl,by omega,[],0,rfl,hQ_ rfl,World.ownsRow_nil _ _ _ _,hQ_ (Cdx.nil _),hQ_ rfl,HC⟩
 case round =>
  obtain⟨k,rfl,hk,xs,m,hm,HXL,hown,HX,HM,HCr⟩:=hrel;obtain rfl:k=m:=hm.symm;clear hm;obtain⟨Av,cv,rfl,_⟩:=zh_ hown;have HOW:=hQ_ hown;clear hown;by_cases hkn:k<n
  · have hkI:(k:Int)<(n:Int):=(by omega);obtain⟨t,htk⟩:∃t,l[k]?=some t:=⟨l[k]'(by rw[H.o.len];exact hkn),by simp⟩;have hmem:t∈l:=List.mem_of_getElem? htk;obtain⟨ha0,ts,R,htok,hnest⟩:=HRD.o t hmem;have hcs:=HSZ.o t hmem;have HT:=hQ_ htk;have HTK:=hQ_ htok;have HNE:=hQ_ hnest;obtain⟨fb,fo,rfl,hfbl,e0,e1,e2⟩:=(H.o.keep HCr.o).cell htk;obtain⟨tn,ta,tc⟩:=t;simp only at e0 e1 e2 ha0 hcs htok;have ha:(ta.toNat:Int)=ta:=Int.toNat_of_nonneg ha0;have HA:=hQ_ ha;clear htk hmem htok hnest ha ha0;go_upto_region 5 with fail;have hX:=zb_.new wr 44 [.int .i32 tn,.int .i64 ta,.string tc];have x1:=hX.cell 1;have x2:=hX.cell 2;have hc2:=(Chg.refl [] wr).alloc (.cells #[.int .i32 tn,.int .i64 ta,.string tc] 44);have HC2:=hQ_ hc2;have HO2:=hQ_ (ze_ HOW.o hc2);generalize wr.heap.size=gx at x1 x2⊢;generalize wr.alloc (.cells #[.int .i32 tn,.int .i64 ta,.string tc] 44)=w3 at x1 x2 HC2 HO2⊢;clear hX e0 e1 e2 hfbl hc2;go_wp2_with fail;refine(uE_ tc (by omega)).mono ?_;rintro e w4 ⟨hc4,⟨ts',tv,ht',htl,rfl,ho4⟩|⟨hno,_⟩⟩;rotate_left
    · have:=HTK.o;rw[this]at hno;cases hno
    obtain rfl:ts=ts':=(by have:=HTK.o;rw[this]at ht';injection ht');obtain⟨At,ct,rfl,hTk⟩:=Tks.of_own ho4 (by omega);have HO4:=hQ_ (yk_ ho4 (Nat.zero_le _));have HC4:=hQ_ (HC2.o.new hc4);have y1:=zd_ x1 hc4;have HTS:=hQ_ hTk;have HTL:=hQ_ htl;clear hc4 x1 x2 ho4 hTk ht';go_wp2_with fail;refine(zhB HTS.o).mono ?_;rintro e w5 ⟨hc5,⟨tl,dd,gt,hto,htol,rfl,hW⟩|⟨hno,_⟩⟩;rotate_left
    · rw[uY_,HNE.o]at hno;cases hno
    have hRe:R.1=tl:=(by rw[uY_,HNE.o]at hto;injection hto with hto;rw[hto]);have HW5:=hQ_ hW;have z1:=zd_ y1 hc5;have HC5:=hQ_ (HC4.o.new hc5);have HO5:=hQ_ (ze_ HO4.o hc5);obtain⟨N,hN⟩:∃N,N=ts.length:=⟨_,rfl⟩;rw[<-hN]at HO5 htol htl⊢;have HTOK5:=hQ_ (show w5.ownsRow 0 132 3 (.slice At N ct) N (vB_ ts) from HO5.o);obtain⟨x,hx⟩:∃x:CdV,x=⟨⟨ta.toNat,ts,tl⟩,.slice At N ct,.slice (some ⟨gt,0,none⟩) N N⟩:=⟨_,rfl⟩;have HCX:=hQ_ (show cdC x=[.int .i64 ta,.slice At N ct,.slice (some ⟨gt,0,none⟩) N N] from by rw[hx];simp only[cdC];rw[HA.o]);have HGO5:=hQ_ (show w5.ownsRow 0 3 1 (.slice (some ⟨gt,0,none⟩) N N) N (nms tl) from by
     have:=z0_ (B:=0) (n:=N) (c:=N) HW5.o (Nat.zero_le _) (by rw[xi_];exact htol) (Nat.le_refl _) (by unfold maxLen;omega);rwa[List.take_of_length_le (by rw[xi_];omega)]at this);have HXC:=hQ_ (show x.c=xm_ ⟨tn,ta,tc⟩ from by rw[hx,zjh HTK.o HNE.o,hRe]);have HXX:=hQ_ (show w5.ownsRow 0 132 3 x.tv x.c.ts.length (vB_ x.c.ts)/\w5.ownsRow 0 3 1 x.gv x.c.go.length (nms x.c.go)/\(x.c.ts.length<=512/\x.c.go.length=x.c.ts.length) from by
     rw[hx];refine⟨by rw[<-hN];exact HTOK5.o,by rw[htol];exact HGO5.o,by rw[<-hN];exact htl,by rw[htol,hN]⟩);clear hc5 y1 hW hto hRe hN hx htol htl HO4 HTOK5 HGO5 HO5 HW5 HTS;have hal:Chg [] w5 (w5.alloc (.cells #[.int .i64 ta,.slice At N ct,.slice (some ⟨gt,0,none⟩) N N] 165)):=(Chg.refl [] w5).alloc _;have hc35:Chg [] wr w5:=HC5.o;have HO6:=hQ_ (ze_ (ze_ HOW.o hc35) hal);have HBZ:=hQ_ (show g<=(w5.alloc (.cells #[.int .i64 ta,.slice At N ct,.slice (some ⟨gt,0,none⟩) N N] 165)).heap.size from by have:=HG.o;have h1:=(HCr.o.new hc35).size;have h2:=hal.size;omega);have HAL:=hQ_ hal;clear hal hc35;go_wp2_with (
     at_builtin;refine wpList_append_own _ rfl (.tmp 28) (.tmp 34) _ rfl g 165 i0 _ 3 56 Tryz.underlying108 hi0 hz0 hz1 hz2 rfl (by decide) (.slice Av k cv) k (zbM xs) rfl HO6.o ⟨w5.heap.size,0,none⟩ 1 1 [.int .i64 ta,.slice At N ct,.slice (some ⟨gt,0,none⟩) N N] rfl rfl (vg_ _ _ _) (by simp[Value.oneCell']) (by simp only[maxLen];omega) (by omega) HBZ.o ?_;intro v' w6 ho hg _;have HO7:=hQ_ ho;have HG7:=hQ_ hg;obtain⟨A7,c7,rfl,_⟩:=zh_ ho;clear ho hg);go_roundw;case rel =>
     have hcx:=(HX.o.keep (HC5.o)).cons HXX.o.1 HXX.o.2.1 HXX.o.2.2;refine⟨k+1,by go_num,by omega,xs++[x],k+1,rfl,hQ_ (by rw[List.length_append,List.length_singleton,<-HXL.o]),?_,hQ_ ((hcx.keep HAL.o).grown HO6.o HG7.o),hQ_ ?_,hQ_ ?_⟩
     · rw[zea,zlR,HCX.o];exact HO7.o
     · rw[List.map_append,HM.o,List.take_succ_eq_append_getElem (by rw[H.o.len];exact hkn),List.map_append];congr 1;have:=HT.o;simp only[List.map_cons,List.map_nil];rw[HXC.o];congr 2;rw[List.getElem?_eq_getElem (by rw[H.o.len];exact hkn)]at this;injection this with this;exact this.symm
     · exact ve_ ((HCr.o.new HC5.o).new HAL.o) HG7.o fun q hq=>by have:=(HO6.o.lt q hq).1;have:=HG.o;omega
    case measure=>simp[intOf];omega
  · have hkI:(n:Int)<=(k:Int):=(by omega);have HP:=hQ_ (show zbF W l (.returned (.slice Av k cv)) wr from⟨_,xs,rfl,by rw[<-HXL.o,HG.o];exact HOW.o,HX.o,by rw[HM.o,List.take_of_length_le (by rw[H.o.len];omega)],HCr.o⟩);go_wp2_with fail;go_ret;exact HP.o
end
theorem zcb {pages most:Int}{l:List FnV}(h:RightU pages most l):zem l:=by
 intro f hf;obtain⟨k,hk⟩:=List.getElem?_of_mem hf;have hkl:=(List.getElem?_eq_some_iff.1 hk).1;refine⟨(h.fn k f hk).2.2.1,?_⟩;have h0:=h.ok k hkl;unfold rFn at h0;rw[if_neg (by omega),Int.toNat_natCast,hk]at h0;simp only at h0;unfold jT_ at h0;cases ht:uo_ f.code with
 | none=>rw[ht]at h0;simp only[zeE]at h0;exfalso;revert h0;split<;>simp
 | some ts =>
   rw[ht]at h0;simp only at h0;cases hn:ks_ (yn_ ts) with
   | none=>rw[hn]at h0;simp at h0
   | some R=>exact⟨ts,R,rfl,hn⟩
def QSl (w:World)(v:Value)(qs:List (Int×Int)):Prop:=∃A c,v=.slice A qs.length c/\qs.length<=c/\Src w A (qsC qs)/\(∀ad,A=some ad->ad.spot=none)/\(0<qs.length->∀ad,A=some ad->∃cs fz,w.heap[ad.block]?=some (.cells cs 267 fz))
theorem QSl.keep {w w':World}{v:Value}{qs:List (Int×Int)}(h:QSl w v qs)(hc:Chg [] w w'):QSl w' v qs:=by
 obtain⟨A,c,e,h1,h2,h3,h4⟩:=h;refine⟨A,c,e,h1,h2.keep hc,h3,fun h0 ad ha=>?_⟩;obtain⟨cs,fz,hb⟩:=h4 h0 ad ha;have hlt:ad.block<w.heap.size:=by
  rcases Nat.lt_or_ge ad.block w.heap.size with h|h
  · exact h
  · rw[Array.getElem?_eq_none h]at hb;cases hb
 exact⟨cs,fz,(hc.block _ hlt (by simp)).trans hb⟩
theorem zkK {w:World}{B n k:Nat}{e:TypeId}{v:Value}{xs:List Value}(h:w.ownsRow B e k v n xs):∃A c,v=.slice A n c/\n<=c/\Src w A xs/\∀ad,A=some ad->ad.spot=none:=by
 have hx:=h.1;rcases h.2 with⟨rfl,rfl⟩|⟨g,cap,cur,rfl,hb,hg,hn,hc,hs,ht⟩
 · exact⟨none,0,rfl,Nat.le_refl _,fun h0=>by rw[hx]at h0;simp at h0,fun ad h=>by cases h⟩
 · refine⟨_,cap,rfl,hn,fun h0=>⟨_,rfl,?_,fun j u hj=>h.cells rfl j u hj⟩,fun ad h=>by injection h with h;subst h;rfl⟩;rcases Nat.lt_or_ge g w.heap.size with h|h
   · exact h
   · rw[Array.getElem?_eq_none h]at hg;cases hg
theorem zkR (qs:List (Int×Int)):∀n,qsC (qs.drop n)=(qsC qs).drop (n*2):=by
 induction qs with
 | nil=>intro n;simp[qsC]
 | cons x l ih =>
   intro n;cases n with
   | zero=>simp
   | succ n =>
     rw[List.drop_succ_cons,ih n,show(n+1)*2=n*2+1+1 from by omega];simp[qsC]
theorem zkQ {w:World}{B m c n:Nat}{A:Option Addr}{qs:List (Int×Int)}(h:w.ownsRow B 267 2 (.slice A m c) m (qsC qs))(hm:m=qs.length)(hn:n<=m):QSl w (.slice (if c=n then A else Option.map (fun x=>x.add (n*2)) A) (m-n) (c-n)) (qs.drop n):=by
 obtain⟨A',c',e',hc,hs,hA⟩:=zkK h;injection e' with e1 _ e3;subst e1;subst e3;refine⟨_,c-n,by rw[List.length_drop,hm],by rw[List.length_drop];omega,fun h0=>?_,fun ad had=>?_,fun h0 ad had=>?_⟩
 · rw[uA_,List.length_drop]at h0;obtain⟨ad,rfl,hlt,hx⟩:=hs (by rw[uA_];omega);obtain⟨b,o,sp⟩:=ad;obtain rfl:sp=none:=hA _ rfl;rw[if_neg (by omega)];refine⟨⟨b,o+n*2,none⟩,by simp[zl_],hlt,fun j u hj=>?_⟩;have:=hx (n*2+j) u (by rw[zkR,List.getElem?_drop]at hj;exact hj);rw[zl_]at this⊢;rw[Nat.add_assoc];exact this
 · split at had
   · exact hA ad had
   · cases A with
     | none=>cases had
     | some x =>
       simp only[Option.map_some]at had;injection had with had;subst had;obtain⟨b,o,sp⟩:=x;obtain rfl:sp=none:=hA _ rfl;simp[zl_]
 · rw [List.length_drop]at h0;rcases h.2 with⟨e1,e2⟩|⟨g,cap,cur,e1,hb,hg,_⟩
   · subst e2;omega
   · injection e1 with e1 _ e3;subst e1;subst e3;have hbl:ad.block=g:=(by
      split at had
      · injection had with had;rw[<-had]
      · simp only[Option.map_some,Option.some.injEq]at had;rw[<-had,zl_]);rw[hbl];exact⟨_,_,hg⟩
section
variable {w:World} {p:Nat} {rs:List (Option Int)} {qs:List (Int×Int)} {a q:Value}
theorem gb_ (h:Rq w p rs qs a q)(hq:qs.length<=1000000000):Calls Tryz.prog 51 #[.pointer (some ⟨p,0,none⟩)] w (zaa w qs):=by
 by_cases h0:0<qs.length
 · exact zme h hq h0
 · obtain rfl:qs=[]:=List.eq_nil_of_length_eq_zero (by omega);obtain⟨i0,hi,hz0,hz1,hz2⟩:=info_parts j7_;obtain⟨A2,c2,rfl,_,hcm2,hsp⟩:=zh_ h.asks;have e1:=h.rec_.cell 1;have HSP:=hQ_ hsp;clear h h0 hsp;have HP:=hQ_ (show zaa w [] (.returned (.slice none 0 0)) w from⟨_,rfl,World.ownsRow_nil _ _ _ _,Chg.refl _ _⟩);rcases A2 with _|⟨g,o,sp⟩
   · go_enter Tryz.func51,Tryz.ntmps51;go_wp2_with fail;go_ret;exact HP.o
   · obtain rfl:sp=none:=(HSP.o _ rfl).1;go_enter Tryz.func51,Tryz.ntmps51;go_wp2_with fail;go_ret;exact HP.o
end
end Go.Proofs.YtcbcfcdmdedefaaGreatDoor
