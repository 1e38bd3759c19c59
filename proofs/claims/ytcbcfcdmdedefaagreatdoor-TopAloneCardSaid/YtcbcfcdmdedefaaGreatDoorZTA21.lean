import Derived.Test.YtcbcfcdmdedefaaGreatDoorZTA20
set_option maxRecDepth 100000
set_option maxHeartbeats 16000000
namespace Go.Proofs.YtcbcfcdmdedefaaGreatDoor
open Go.RowKit
def zcN (X:St->SV->Prop)(w:World)(p bL bS bW:Nat)(e:Ending)(w':World):Prop :=
 ∃g gN v s' x',e=.returned (.tuple #[.pointer (some ⟨g,0,none⟩),.int .i64 0])/\w.heap.size<=g/\w.heap.size<=gN/\Sto w' ⟨p,bL,bS,bW,g,gN,[]⟩ s' x' v/\X s' x'/\Chg [bL,bS,bW] w w'
theorem zhs {w:World}{p bL bS bW:Nat}{s:St}{x:SV}{ms:List (List ChV)}(hd:yx_ w p bL bS bW s)(hk:Kept s x ms)(hno:¬zS_ (xL_ s x.L) (x.E+1) 0)(hE:x.E<4294967295) :
    Calls Tryz.prog 41 #[.pointer (some ⟨p,0,none⟩)] w (zcN (fun _ x'=>x'.pages=x.pages/\x'.L=x.L/\x'.P=x.P/\x'.E=x.E+1/\x'.used=0/\x'.seq=0) w p bL bS bW) :=
 (zjF hd hk hno hE).mono fun e w' h=>by
   obtain⟨g,gN,v,s',x',h1,h2,h3,h4,_,h5,h6,h7,h8,h9,h10,_,h11⟩:=h;exact⟨g,gN,v,_,x',h1,h2,h3,h4,⟨h5,h6,h7,h8,h9,h10⟩,h11⟩
theorem zkV {B:Nat}{w:World}{g n:Nat}{us:List Value}{ps:List (List UInt8)}(h:ShFr B w g n us ps n)(hn:n<=1000)(hps:∀l∈ps,l.length=64):Pgs w (some ⟨g,0,none⟩) n n us ps:=by
 refine⟨h.len,Src.of_all h.row,⟨by rw[h.len,h.lenP],fun i u l hu hl=>?_⟩,Nat.le_refl _,by omega,fun _ ad e=>by injection e with e;subst e;rfl⟩;have hi:i<n:=by rw[<-h.lenP];exact(List.getElem?_eq_some_iff.1 hl).1
 obtain⟨x,h1,h2,h3⟩:=h.at_ i hi l hl;rw[h1]at hu;injection hu with hu;subst hu;exact⟨_,_,_,rfl,Bs.of_all h2 (by have:=hps l (List.mem_of_getElem? hl);omega)⟩
def GpH (zs:List (List UInt8))(w:World)(e:Ending)(w':World):Prop :=
 (∃r,g6_ zs r/\e=.returned (.tuple #[.agg #[.int .i64 0,.int .i64 0,.slice none 0 0],.pointer none,.int .i64 0,.int .i64 r])/\Chg [] w w') \/
 (∃(T:List UInt8)(q:Nat)(pg ms:Int)(fs:List FnV)(A:Option Addr)(c pm gC gD:Nat),uv_ zs T q pg ms fs/\e=.returned (.tuple #[.agg #[.int .i64 pg,.int .i64 ms,.slice A fs.length c],.pointer (some ⟨pm,0,none⟩),.int .i64 ((1+zs_ T.length:Nat):Int),.int .i64 0]) /\
   Fnr w' A fs.length c fs/\(∀ad,A=some ad->w.heap.size<=ad.block)/\(∀f∈fs,okF f)/\Mm w' pm gC gD ((zs.drop (1+zs_ T.length)).take q).flatten [] (zK_ q) [] ms.toNat/\w.heap.size<=pm/\w.heap.size<=gC/\w.heap.size<=gD/\Chg [] w w')
theorem znC {w:World}{A:Option Addr}{n c:Nat}{ys:List Value}{zs:List (List UInt8)}(h:Pgs w A n c ys zs)(hn:n<=100000)(hP:vF_ w.heap.size w):Calls Tryz.prog 46 #[.slice A n c] w (GpH zs w) :=
 (zhn h hn hP).mono fun e w' hq=>by
   rcases hq with hq|⟨T,p,pg,ms,fs,v,pm,gC,gD,hy,rfl,ho,hl,hok,hM,h1,h2,h3,hc⟩
   · exact .inl hq
   · obtain⟨B,d,rfl,hF⟩:=Fnr.of_own (l:=fs) ho hl (fun f hf=>by have:=hok f hf;unfold okF at this;omega);exact .inr ⟨T,p,pg,ms,fs,B,d,pm,gC,gD,hy,rfl,hF,gy_ ho rfl,hok,hM,h1,h2,h3,hc⟩
def g5_ (X:St->SV->Prop)(zs:List (List UInt8))(w:World)(p bL bS bW:Nat)(e:Ending)(w':World):Prop :=
 (∃r,g6_ zs r/\e=.returned (.tuple #[.pointer none,.int .i64 r])/\(∃s' x',yx_ w' p bL bS bW s'/\X s' x')/\Chg [bL,bS,bW] w w') \/
 (∃(T:List UInt8)(q:Nat)(pg ms:Int)(fs:List FnV)(j:HK)(g gN:Nat)(s':St)(x':SV),uv_ zs T q pg ms fs/\X s' x'/\e=.returned (.tuple #[.pointer (some ⟨j.h,0,none⟩),.int .i64 0])/\w.heap.size<=j.h/\w.heap.size<=g/\w.heap.size<=gN /\
   Ho w' ⟨p,bL,bS,bW,g,gN,[j.h]⟩ s' x' j ⟨pg,ms,fs,(zH_ pg ms fs).1.length,1+zs_ T.length,0,((zs.drop (1+zs_ T.length)).take q).flatten,zK_ q,ms.toNat⟩/\Chg [bL,bS,bW] w w')
section
variable {w:World} {p bL bS bW:Nat} {X:St->SV->Prop} {zs:List (List UInt8)}
theorem zii (hO:Calls Tryz.prog 41 #[.pointer (some ⟨p,0,none⟩)] w (zcN X w p bL bS bW))(hX:∀s' x',X s' x'->x'.pages=zs)(hP:∀W,Chg [bL,bS,bW] w W->vF_ W.heap.size W)(hb:bL<w.heap.size/\bS<w.heap.size/\bW<w.heap.size) :
    Calls Tryz.prog 17 #[.pointer (some ⟨p,0,none⟩)] w (g5_ X zs w p bL bS bW):=by
 have HO:=hQ_ hO;have HX:=hQ_ hX;have HP:=hQ_ hP;have HB:=hQ_ hb;have HNO:=hQ_ (show ∀(r:Int)(W:World)(s':St)(x':SV),g6_ zs r->X s' x'->yx_ W p bL bS bW s'->Chg [bL,bS,bW] w W->g5_ X zs w p bL bS bW (.returned (.tuple #[.pointer none,.int .i64 r])) W from fun r W s' x' h1 h0 h2 h3=>.inl ⟨r,h1,rfl,⟨s',x',h2,h0⟩,h3⟩);have HYES:=hQ_ (show ∀(W:World)(T:List UInt8)(q:Nat)(pg ms:Int)(fs:List FnV)(j:HK)(g gN:Nat)(s':St)(x':SV),uv_ zs T q pg ms fs->X s' x'->w.heap.size<=j.h->w.heap.size<=g->w.heap.size<=gN ->
   Ho W ⟨p,bL,bS,bW,g,gN,[j.h]⟩ s' x' j ⟨pg,ms,fs,(zH_ pg ms fs).1.length,1+zs_ T.length,0,((zs.drop (1+zs_ T.length)).take q).flatten,zK_ q,ms.toNat⟩->Chg [bL,bS,bW] w W->g5_ X zs w p bL bS bW (.returned (.tuple #[.pointer (some ⟨j.h,0,none⟩),.int .i64 0])) W from
   fun W T q pg ms fs j g gN s' x' h1 h2 h3 h4 h5 h6 h7=>.inr ⟨T,q,pg,ms,fs,j,g,gN,s',x',h1,h2,rfl,h3,h4,h5,h6,h7⟩);generalize g5_ X zs w p bL bS bW=PO at HNO HYES⊢;unfold zcN at HO;clear hO hX hP hb;go_enter Tryz.func17,Tryz.ntmps17;go_upto_region 4 with(
  go_at_call 41;with_reducible refine HO.o.mono ?_
  rintro e w1 ⟨gs,gN,v,s1,x1,rfl,hg1,hgN,hs,hx,hc⟩;have HS1:=hQ_ hs;have HX1:=hQ_ hx;have HG1:=hQ_ (And.intro hg1 hgN);have HC1:=hQ_ hc;clear hs hx hg1 hgN hc);have HAL:=hQ_ (zkD HS1.o);unfold zcQ at HAL;have HZ:=hQ_ (HX.o _ _ HX1.o);have HR1:=hQ_ (zj_.1 HS1.o.rt);have hx64:=HS1.o.p64;rw[HZ.o]at hx64;have H64:=hQ_ hx64;clear hx64;go_upto_region 5 with(first
  | (go_at_call 47;(with_reducible refine HAL.o.mono ?_);rintro e w2 ⟨ga,us,rfl,hfr,hga,hc⟩;rw[HZ.o]at hfr;have HGT:=hQ_ (znC (zkV hfr (by have:=HR1.o;omega) H64.o) (by have:=HR1.o;omega) (HP.o w2 (HC1.o.new hc)));unfold GpH at HGT;have HC2:=hQ_ hc;clear hfr hga hc)
  | (go_at_call 46;(with_reducible refine HGT.o.mono ?_);intro e w3 hq;rcases hq with⟨r,hr,rfl,hc3⟩|⟨T,q,pg,ms,fs,A3,c3,pm,gC,gD,hy,rfl,hF,hA3,hok,hM,h1,h2,h3,hc3⟩))
 · have hrr:r=12\/r=25:=by
    rcases hr with⟨h,_⟩|⟨h,_⟩
    · exact .inl h
    · exact .inr h
   have HFIN:=hQ_ (fun (W:World)(hc:Chg [] w3 W)=>HNO.o r W _ _ hr HX1.o (Dsk.keep HS1.o.dsk (HC2.o.trans (hc3.trans hc))) (HC1.o.new (HC2.o.trans (hc3.trans hc))));clear hr hc3;rcases hrr with rfl|rfl
   · go_wp2_with fail;exact HFIN.o _ ((Chg.refl [] w3).alloc _)
   · go_wp2_with fail;exact HFIN.o _ ((Chg.refl [] w3).alloc _)
 · have hsm:∀f∈fs,f.code.size<=9223372036854775807:=fun f hf=>(by have:=hok f hf;unfold okF at this;omega);have hA4:0<fs.length->∀ad,A3=some ad->ad.block<w3.heap.size:=fun h0 ad e=>(by
    obtain⟨ad',e',hb,_⟩:=hF.src (by rw[yG_];omega);rw[e]at e';injection e' with e';subst e';exact hb);have hlts:=HS1.o.lts;have hC13:Chg [] w1 w3:=HC2.o.trans hc3;have hpm:pm<w3.heap.size:=hM.rec_.lt;have hgC:gC<w3.heap.size:=hM.cel.lt;have hgD:gD<w3.heap.size:=hM.dir.lt;have h12:w1.heap.size<=w2.heap.size:=HC2.o.size;have hmost:(ms.toNat:Int)=ms:=(by have:=hy.2.2.2;have:=hy.2.2.1;have h5:=hy.2.2.2.2;omega);have HTXT:=hQ_ (fun (W:World)(hc:Chg [] w3 W)=>zfX.of_fnr (pg:=pg) (ms:=ms) (hF.keep hc) hsm W (Chg.refl [] W) (HP.o W (HC1.o.new (hC13.trans hc))));obtain⟨T2,hT2⟩:∃T2,T2=(zH_ pg ms fs).1:=⟨_,rfl⟩;have hT2l:T2.length<=2048:=(by rw[hT2];exact(xb_ pg ms fs).1);unfold yr_ at HTXT;rw[<-hT2]at HTXT;generalize (zH_ pg ms fs).2=E2 at HTXT;obtain⟨S,hS⟩:∃S,S=zi_ T2:=⟨_,rfl⟩;rw[<-hS]at HTXT;have hSz:(S.size:Int)=(T2.length:Int):=(by rw[hS,zJ_]);have hy1:=hy;obtain⟨hrd,_⟩:=hy1;have hTs:=hrd.small.1;have hfirst:1+zs_ T.length<=1000:=(by unfold zs_;omega);have HFIN:=hQ_ (show ∀(W:World),Chg [] w3 W->PO (.returned (.tuple #[.pointer (some ⟨W.heap.size,0,none⟩),.int .i64 0])) (W.alloc (.cells #[.pointer (some ⟨gs,0,none⟩),.int .i64 pg,.int .i64 ms,.slice A3 fs.length c3,.pointer (some ⟨pm,0,none⟩),.int .i64 (T2.length:Int),.int .i64 ((1+zs_ T.length:Nat):Int),.int .i64 0] 64)) from fun W hc=>by
    have hal:=(Chg.refl [] W).alloc (.cells #[.pointer (some ⟨gs,0,none⟩),.int .i64 pg,.int .i64 ms,.slice A3 fs.length c3,.pointer (some ⟨pm,0,none⟩),.int .i64 (T2.length:Int),.int .i64 ((1+zs_ T.length:Nat):Int),.int .i64 0] 64);have hN:=zb_.new W 64 [.pointer (some ⟨gs,0,none⟩),.int .i64 pg,.int .i64 ms,.slice A3 fs.length c3,.pointer (some ⟨pm,0,none⟩),.int .i64 (T2.length:Int),.int .i64 ((1+zs_ T.length:Nat):Int),.int .i64 0];have hsz:=hc.size;have hsz1:=HC1.o.size;have hnD:∀{i:Nat},w1.heap.size<=i->i<w3.heap.size->i∉SK.D ⟨p,bL,bS,bW,gs,gN,[W.heap.size]⟩:=fun h1 h2 hm=>(by
     simp only[SK.D,List.mem_cons,List.not_mem_nil,or_false]at hm;have:=hlts p (by simp[SK.D]);have:=hlts bL (by simp[SK.D]);have:=hlts bS (by simp[SK.D]);have:=hlts bW (by simp[SK.D]);have:=hlts gs (by simp[SK.D]);have:=hlts gN (by simp[SK.D]);omega);refine HYES.o _ T q pg ms fs ⟨W.heap.size,pm,gC,gD,A3,c3⟩ gs gN s1 x1 hy HX1.o (by show w.heap.size<=W.heap.size;have:=hC13.size;omega) HG1.o.1 HG1.o.2 ?_ (HC1.o.new (hC13.trans (hc.trans hal)));refine { sto:=⟨v,Sto.more HS1.o (hC13.trans (hc.trans hal)) (q:=W.heap.size) (by have:=hC13.size;omega) hN.lt⟩,hin:=by simp,hne:=fun i hi e=>?_,rec_:=?_,fn:=hF.keep (hc.trans hal),fA:=fun h0 ad e=>hnD (Nat.le_trans h12 (hA3 ad e)) (hA4 h0 ad e),mm:=⟨[],[],hM.keep (hc.trans hal)⟩,far:=⟨hnD (Nat.le_trans h12 h1) hpm,hnD (Nat.le_trans h12 h2) hgC,hnD (Nat.le_trans h12 h3) hgD⟩,tS:=by show(zH_ pg ms fs).1.length<=2048;rw[<-hT2];exact hT2l,fS:=hfirst }
    · have h1:i<w1.heap.size:=hlts i (by simp only[SK.D,List.mem_cons,List.not_mem_nil,or_false]at hi⊢;omega);have h2:=hC13.size;have h3:i=W.heap.size:=e;omega
    · rw[hT2]at hN⊢;exact hN);have hal:=(Chg.refl [] w3).alloc (.cells #[.int .i64 pg,.int .i64 ms,.slice A3 fs.length c3] 25);have hNU:=zb_.new w3 25 [.int .i64 pg,.int .i64 ms,.slice A3 fs.length c3];have HTX4:=hQ_ (HTXT.o _ hal);have HC4:=hQ_ hal;have HU4:=hQ_ hNU;obtain⟨F1,hF1⟩:∃F1:Int,F1=((1+zs_ T.length:Nat):Int):=⟨_,rfl⟩;have hF2:F1=1+(zs_ T.length:Int):=(by rw[hF1];omega);rw[<-hF1]at HFIN;first
     | rw[<-hF1]
     | rw[<-hF2]
   generalize fs.length=fn at HFIN HTX4 HC4 HU4⊢;clear hF hsm hA3 hA4 hlts hC13 hpm hgC hgD h12 hmost HTXT hT2 hT2l hS hy hrd hTs hfirst hal hNU hok hM h1 h2 h3 hc3 hF1 hF2;go_upto_region 7 with fail;generalize w3.heap.size=gu at HU4⊢;generalize w3.alloc (.cells #[.int .i64 pg,.int .i64 ms,.slice A3 fn c3] 25)=w4 at HTX4 HC4 HU4⊢;have u0:=HU4.o.cell 0;have u1:=HU4.o.cell 1;have u2:=HU4.o.cell 2;go_upto_region 8 with(
    go_at_call 10;(with_reducible refine HTX4.o.mono ?_);rintro e w5 ⟨rfl,hc⟩;have HC5:=hQ_ (HC4.o.trans hc);have u0:=(HU4.o.keep hc).cell 0;have u1:=(HU4.o.keep hc).cell 1;have u2:=(HU4.o.keep hc).cell 2;clear hc);go_wp2_with fail;exact HFIN.o _ HC5.o
end
def dk0 (n:Nat):St:=⟨zm_ (n*64),zm_ (n*64),zK_ n⟩
theorem zpM (n:Nat):Gd (dk0 n):=by
 show(zm_ (n*64)).length=64*(zK_ n).length;simp[zm_,zK_];omega
theorem zjb (n:Nat):(dk0 n).V.length=n:=by
 show(zK_ n).length=n;simp[zK_]
theorem zcy {zs:List (List UInt8)}{T T':List UInt8}{p p':Nat}{pg ms pg' ms':Int}{fs fs':List FnV}(h:uv_ zs T p pg ms fs)(h':uv_ zs T' p' pg' ms' fs'):T'=T/\p'=p/\pg'=pg/\ms'=ms/\fs'=fs:=by
 obtain⟨hy,hp,_⟩:=h;obtain⟨hy',hp',_⟩:=h';obtain⟨rfl,rfl⟩:=hy.one hy';rw[hp]at hp';injection hp' with _ e;injection e with e1 e;injection e with e2 e3;exact⟨rfl,rfl,e1.symm,e2.symm,e3.symm⟩
theorem zfq {zs:List (List UInt8)}{T:List UInt8}{p:Nat}{pg ms:Int}{fs:List FnV}{r:Int}(h:uv_ zs T p pg ms fs)(h':g6_ zs r):False:=by
 obtain⟨hy,hp,h1,h2,h3⟩:=h;rcases h' with⟨_,hn|⟨T',p',hy',hp'⟩⟩|⟨_,T',p',pg',ms',fs',hy',hp',hb⟩
 · exact hn ⟨T,p,hy⟩
 · obtain⟨rfl,_⟩:=hy.one hy';rw[hp]at hp';exact hp' rfl
 · obtain⟨rfl,rfl⟩:=hy.one hy';rw[hp]at hp';injection hp' with _ e;injection e with e1 e;injection e with e2 e3;omega
theorem zir {pg ms:Int} {l:List FnV} {P:Nat} (hE:(zH_ pg ms l).2=0) (hn:xf_ (zH_ pg ms l).1 (zH_ pg ms l).2 ms<=(P:Int)) :
    uv_ (jc_ (zH_ pg ms l).1 pg.toNat P (1+zs_ (zH_ pg ms l).1.length+pg.toNat)) (zH_ pg ms l).1 pg.toNat pg ms (l.map z2_) /\
    (((jc_ (zH_ pg ms l).1 pg.toNat P (1+zs_ (zH_ pg ms l).1.length+pg.toNat)).drop (1+zs_ (zH_ pg ms l).1.length)).take pg.toNat).flatten=zm_ (pg.toNat*64):=by
        obtain⟨g0,g1,g2⟩:=(xb_ pg ms l).2 hE;have hTl:=(xb_ pg ms l).1;have hnz:xf_ (zH_ pg ms l).1 (zH_ pg ms l).2 ms=1+(zs_ (zH_ pg ms l).1.length:Int)+ms:=(by unfold xf_;rw[if_pos hE]);rw[hnz]at hn;have hr:z9_ pg ms l=0:=(by
         by_cases hr:z9_ pg ms l=0
         · exact hr
         · have hu:zH_ pg ms l=([],z9_ pg ms l):=(by unfold zH_;rw[if_neg hr]);rw[hu]at hE;exact absurd hE hr);have hu:zH_ pg ms l=if 2048<(utx pg ms l).length then ([],3) else (utx pg ms l,0):=(by unfold zH_;rw[if_pos hr]);have hlen:(utx pg ms l).length<=2048:=by
         rcases Nat.lt_or_ge 2048 (utx pg ms l).length with h|h
         · rw[hu,if_pos h]at hE;cases hE
         · exact h
        have hu2:(zH_ pg ms l).1=utx pg ms l:=(by rw[hu,if_neg (by omega)]);have hR:=zgb (zH_ pg ms l).1 pg.toNat P hTl (by omega) (by omega);have hzl:=v1_ (zH_ pg ms l).1 pg.toNat P (1+zs_ (zH_ pg ms l).1.length+pg.toNat) (Nat.le_refl _) (by omega);refine⟨⟨hR.1,?_,by rw[hzl];omega,by omega,by omega⟩,hR.2⟩;rw[hu2];exact zfc (x5_.1 hr) hlen
def zjP (w:World)(pg ms:Int)(l:List FnV)(L P:Nat)(p h:Nat)(w':World):Prop :=
 ∃ bL bS bW g gN j s' x',j.h=h/\w.heap.size<=p/\w.heap.size<=bL/\w.heap.size<=bS/\w.heap.size<=bW/\w.heap.size<=g/\w.heap.size<=gN/\w.heap.size<=h /\
   Ho w' ⟨p,bL,bS,bW,g,gN,[h]⟩ s' x' j ⟨pg,ms,l.map z2_,(zH_ pg ms (l.map z2_)).1.length,1+zs_ (zH_ pg ms l).1.length,0,zm_ (pg.toNat*64),zK_ pg.toNat,ms.toNat⟩/\x'.L=L/\x'.P=P/\x'.E=4/\x'.used=0/\x'.seq=0/\Chg [] w w'
section
variable {w:World} {A:Option Addr} {n c L P N:Nat} {l:List FnV} {pg ms:Int}
structure Fit (pg ms:Int) (l:List FnV) (L P:Nat):Prop where
  e0:(zH_ pg ms l).2=0
  need:xf_ (zH_ pg ms l).1 (zH_ pg ms l).2 ms<=(P:Int)
  fits:yD_ (L:Int) 0 ((1+zs_ (zH_ pg ms l).1.length+pg.toNat:Nat):Int)=true
def zeo (E0:Nat)(p bL bS bW L P:Nat)(pg ms:Int)(l:List FnV)(W:World):Prop :=
 ∃s' x',yx_ W p bL bS bW s'/\Kept s' x' []/\x'.L=L/\x'.P=P/\x'.E=E0+1/\x'.pages=jc_ (zH_ pg ms l).1 pg.toNat P (1+zs_ (zH_ pg ms l).1.length+pg.toNat)/\¬zS_ (xL_ s' L) (E0+2) 0
theorem zlm {p bL bS bW E0 nV:Nat}{s0:St}(hr:zq_ L P 1 nV=true)(hd:yx_ w p bL bS bW s0)(hE0:1<=E0/\E0<=1000)(hO:∀W,yx_ W p bL bS bW s0->Calls Tryz.prog 41 #[.pointer (some ⟨p,0,none⟩)] W (jt_ E0 W p bL bS bW L P nV))(hF:Fnr w A n c l)(hsm:∀f∈l,f.code.size<=9223372036854775807)(hA:0<n->∀ad,A=some ad->ad.block∉[bL,bS,bW])(hP:∀W,Chg [bL,bS,bW] w W->vF_ W.heap.size W)(hfit:Fit pg ms l L P) :
    Calls Tryz.prog 16 #[.pointer (some ⟨p,0,none⟩),.agg #[.int .i64 pg,.int .i64 ms,.slice A n c]] w (fun e w'=>e=.returned (.int .i64 0)/\zeo E0 p bL bS bW L P pg ms l w'/\Chg [bL,bS,bW] w w') :=
 (zcq hr hd hE0 hO hF hsm hA hP).mono fun e w' h=>by
   rcases h with⟨r,_,_,hbad,_⟩|⟨_,_,h1,⟨s',x',h2,h3,h4,h5,h6,h7,h8,_⟩,h9⟩
   · exfalso;have h1:=hfit.e0;have h2:=hfit.need;have h3:=hfit.fits;rcases hbad with h|h|h
     · exact h h1
     · omega
     · rw[h3]at h;cases h
   · exact⟨h1,⟨s',x',h2,h3,h4,h5,h6,h7,h8⟩,h9⟩
theorem znV {p bL bS bW:Nat}{s:St}(hg:Gd s)(hr:zq_ L P 1 s.V.length=true)(hd:yx_ w p bL bS bW (fmt s L P))(hF:Fnr w A n c l)(hsm:∀f∈l,f.code.size<=9223372036854775807)(hA:0<n->∀ad,A=some ad->ad.block∉[bL,bS,bW])(hP:∀W,Chg [bL,bS,bW] w W->vF_ W.heap.size W)(hfit:Fit pg ms l L P) :
    Calls Tryz.prog 16 #[.pointer (some ⟨p,0,none⟩),.agg #[.int .i64 pg,.int .i64 ms,.slice A n c]] w (fun e w'=>e=.returned (.int .i64 0)/\zeo 2 p bL bS bW L P pg ms l w'/\Chg [bL,bS,bW] w w') :=
 zlm hr hd ⟨by omega,by omega⟩ (fun W h=>zce hg L P hr h) hF hsm hA hP hfit
theorem znG {p bL bS bW E0:Nat}(hE0:E0<=1000)(hb:bL<w.heap.size/\bS<w.heap.size/\bW<w.heap.size)(hi:zeo E0 p bL bS bW L P pg ms l w)(hP:∀W,Chg [bL,bS,bW] w W->vF_ W.heap.size W)(hfit:Fit pg ms l L P) :
    Calls Tryz.prog 17 #[.pointer (some ⟨p,0,none⟩)] w (fun e w'=>∃h g gN j s' x',j.h=h/\e=.returned (.tuple #[.pointer (some ⟨h,0,none⟩),.int .i64 0])/\w.heap.size<=h/\w.heap.size<=g/\w.heap.size<=gN /\
      Ho w' ⟨p,bL,bS,bW,g,gN,[h]⟩ s' x' j ⟨pg,ms,l.map z2_,(zH_ pg ms (l.map z2_)).1.length,1+zs_ (zH_ pg ms l).1.length,0,zm_ (pg.toNat*64),zK_ pg.toNat,ms.toNat⟩/\x'.L=L/\x'.P=P/\x'.E=E0+2/\x'.used=0/\x'.seq=0/\Chg [bL,bS,bW] w w'):=by
 obtain⟨s0,x0,h2,h3,h4,h5,h6,h7,h8⟩:=hi;obtain⟨hgy,hgz⟩:=zir hfit.e0 hfit.need;refine(zii (zhs h2 h3 (by rw[h4,h6];exact h8) (by rw[h6];omega)) (fun s' x' h=>h.1) hP hb).mono fun e w' h=>?_;rw[h7]at h;rcases h with⟨r,hno,_⟩|⟨T,q,pg',ms',fs,j,g,gN,s',x',hy,hx,he,e1,e2,e3,hH,hc⟩
 · exact(zfq hgy hno).elim
 · obtain⟨rfl,rfl,rfl,rfl,rfl⟩:=zcy hgy hy;rw[hgz]at hH;obtain⟨_,x1,x2,x3,x4,x5⟩:=hx;exact⟨j.h,g,gN,j,s',x',rfl,he,e1,e2,e3,hH,by rw[x1,h4],by rw[x2,h5],by rw[x3,h6],x4,x5,hc⟩
end
theorem uH_ {w W W':World}{T:List Nat}(h:Chg [] w W)(k:Chg T W W')(hT:∀i∈T,w.heap.size<=i):Chg [] w W':=h.then_ k fun i hi hlt=>by have:=hT i hi;omega
theorem jW_ {w W:World}(hP:vF_ w.heap.size w)(hc:Chg [] w W):vF_ W.heap.size W:=(hP.keep (Nat.le_refl _) hc).less hc.size
theorem ziD {w:World}{p bL bS bW N:Nat}(hd:yx_ w p bL bS bW (dk0 N)){L P:Nat}(h:zq_ (L:Int) (P:Int) 1 (N:Int)=true) :
    Calls Tryz.prog 15 #[.pointer (some ⟨p,0,none⟩),.int .i64 (L:Int),.int .i64 (P:Int)] w (fun e w'=>e=.returned (.int .i64 0)/\yx_ w' p bL bS bW (fmt (dk0 N) L P)/\Chg [bL,bS,bW] w w') :=
 (zft hd (L:Int) (P:Int)).mono fun e w' hq=>by
   rw[g8_,zjb]at hq;rcases hq with⟨_,h1,h2,h3⟩|⟨h0,_⟩
   · rw[Int.toNat_natCast,Int.toNat_natCast]at h2;exact⟨h1,h2,h3⟩
   · rw[h]at h0;cases h0
theorem zoi {w:World}(N:Nat)(h1:1<=N)(h2:N<=160) :
    Calls Tryz.prog 14 #[.int .i64 (N:Int)] w (fun e w'=>∃p bL bS bW,e=.returned (.pointer (some ⟨p,0,none⟩))/\yx_ w' p bL bS bW (dk0 N)/\w.heap.size<=p/\w.heap.size<=bL/\w.heap.size<=bS/\w.heap.size<=bW/\Chg [] w w'):=znM N h1 h2
section
variable {w:World} {A:Option Addr} {n c L:Nat} {l:List FnV} {pg ms:Int}
def vA_ (w:World)(pg ms:Int)(l:List FnV)(L:Nat)(e:Ending)(w':World):Prop :=
 ∃p h,e=.returned (.tuple #[.pointer (some ⟨p,0,none⟩),.pointer (some ⟨h,0,none⟩)])/\zjP w pg ms l L 50 p h w'
theorem zdB (hF:Fnr w A n c l)(hsm:∀f∈l,f.code.size<=9223372036854775807)(hA:0<n->∀ad,A=some ad->ad.block<w.heap.size)(hL:1<=L/\L<=64)(hP:vF_ w.heap.size w)(hfit:Fit pg ms l L 50) :
    Calls Tryz.prog 8 #[.agg #[.int .i64 pg,.int .i64 ms,.slice A n c],.int .i64 (L:Int)] w (vA_ w pg ms l L):=by
 have hr:zq_ (L:Int) (50:Nat) 1 ((120:Nat):Int)=true:=zj_.2 ⟨by omega,by omega,by omega,by omega,by omega,by omega⟩;have hr2:zq_ (L:Int) (50:Nat) 1 (dk0 120).V.length=true:=by rw[zjb];exact hr
 have HFIN:=hQ_ (show ∀(p h:Nat)(W:World),zjP w pg ms l L 50 p h W->vA_ w pg ms l L (.returned (.tuple #[.pointer (some ⟨p,0,none⟩),.pointer (some ⟨h,0,none⟩)])) W from fun p h W hb=>⟨p,h,rfl,hb⟩);have HNW:=hQ_ (fun (W:World)=>(show Calls Tryz.prog 14 #[.int .i64 120] W (fun e w'=>∃p bL bS bW,e=.returned (.pointer (some ⟨p,0,none⟩))/\yx_ w' p bL bS bW (dk0 120)/\W.heap.size<=p/\W.heap.size<=bL/\W.heap.size<=bS/\W.heap.size<=bW/\Chg [] W w') from zoi (w:=W) 120 (by omega) (by omega)));have HFM:=hQ_ (fun (W:World)(p bL bS bW:Nat)(hd:yx_ W p bL bS bW (dk0 120))=>(show Calls Tryz.prog 15 #[.pointer (some ⟨p,0,none⟩),.int .i64 (L:Int),.int .i64 50] W (fun e w'=>e=.returned (.int .i64 0)/\yx_ w' p bL bS bW (fmt (dk0 120) L 50)/\Chg [bL,bS,bW] W w') from ziD (P:=50) hd hr));have HIN:=hQ_ (fun (W:World)(p bL bS bW:Nat)(hc:Chg [] w W)(hd:yx_ W p bL bS bW (fmt (dk0 120) L 50))(hb:w.heap.size<=bL/\w.heap.size<=bS/\w.heap.size<=bW) =>
  znV (pg:=pg) (ms:=ms) (zpM 120) hr2 hd (hF.keep hc) hsm (fun h0 ad e hm=>by
   have:=hA h0 ad e;simp only[List.mem_cons,List.not_mem_nil,or_false]at hm;omega) (fun W' k=>jW_ hP (uH_ hc k (fun i hi=>by simp only[List.mem_cons,List.not_mem_nil,or_false]at hi;omega))) hfit);have HOP:=hQ_ (fun (W:World)(p bL bS bW:Nat)(hc:Chg [] w W)(hi:zeo 2 p bL bS bW L 50 pg ms l W)(hb:w.heap.size<=bL/\w.heap.size<=bS/\w.heap.size<=bW)(hb2:bL<W.heap.size/\bS<W.heap.size/\bW<W.heap.size) =>
  znG (by omega) hb2 hi (fun W' k=>jW_ hP (uH_ hc k (fun i hi=>by simp only[List.mem_cons,List.not_mem_nil,or_false]at hi;omega))) hfit);clear hr hr2 hF hsm hA hP hfit hL;unfold vA_ at HFIN⊢;go_enter Tryz.func8,Tryz.ntmps8;go_upto_region 1 with fail;have hN:=zb_.new w 25 [.int .i64 pg,.int .i64 ms,.slice A n c];have hal:=(Chg.refl [] w).alloc (.cells #[.int .i64 pg,.int .i64 ms,.slice A n c] 25);have HU1:=hQ_ hN;have HC1:=hQ_ hal;clear hN hal;generalize w.heap.size=gu at HU1⊢;generalize w.alloc (.cells #[.int .i64 pg,.int .i64 ms,.slice A n c] 25)=w1 at HU1 HC1⊢;go_upto_region 2 with(
  go_at_call 14;with_reducible refine(HNW.o w1).mono ?_
  rintro e w2 ⟨p,bL,bS,bW,rfl,hd,hp,hbL,hbS,hbW,hc⟩;have HD2:=hQ_ hd;have HB2:=hQ_ (And.intro hp (And.intro hbL (And.intro hbS hbW)));have HC2:=hQ_ (HC1.o.trans hc);have HU2:=hQ_ (HU1.o.keep hc);clear hd hp hbL hbS hbW hc);have HBB:=hQ_ (show w.heap.size<=p/\w.heap.size<=bL/\w.heap.size<=bS/\w.heap.size<=bW from by have:=HC1.o.size;have:=HB2.o;omega);have hgu:gu∉[bL,bS,bW]:=by
  have h1:=HU1.o.lt;have h2:=HB2.o;simp only[List.mem_cons,List.not_mem_nil,or_false];omega
 have HGU:=hQ_ hgu;have HNB:=hQ_ (show ∀i∈[bL,bS,bW],w.heap.size<=i from fun i hi=>by have:=HBB.o;simp only[List.mem_cons,List.not_mem_nil,or_false]at hi;omega);clear hgu;go_wp2_with (first
  | (go_at_call 15;(with_reducible refine(HFM.o w2 p bL bS bW HD2.o).mono ?_);rintro e w3 ⟨rfl,hd,hc⟩;have HD3:=hQ_ hd;have HC3:=hQ_ (uH_ HC2.o hc HNB.o);have hU3:=HU2.o.chg hc HGU.o;have u0:=hU3.cell 0;have u1:=hU3.cell 1;have u2:=hU3.cell 2;clear hd hc hU3)
  | (go_at_call 16;(with_reducible refine(HIN.o w3 p bL bS bW HC3.o HD3.o ⟨HBB.o.2.1,HBB.o.2.2.1,HBB.o.2.2.2⟩).mono ?_);rintro e w4 ⟨rfl,hi,hc⟩;have HI4:=hQ_ hi;have HC4:=hQ_ (uH_ HC3.o hc HNB.o);have HL4:=hQ_ (show bL<w4.heap.size/\bS<w4.heap.size/\bW<w4.heap.size from by
      have h:=hc.size;have h1:=(Dsk.last HD3.o).lt;have h2:=(Dsk.seen HD3.o).lt;have h3:=(Dsk.wait HD3.o).lt;omega);clear hi hc)
  | (go_at_call 17;(with_reducible refine(HOP.o w4 p bL bS bW HC4.o HI4.o ⟨HBB.o.2.1,HBB.o.2.2.1,HBB.o.2.2.2⟩ HL4.o).mono ?_);rintro e w5 ⟨h,g,gN,j,s5,x5,hj,rfl,e1,e2,e3,hH,x1,x2,x3,x4,x6,hc⟩;have HBG:=hQ_ (show zjP w pg ms l L 50 p h w5 from⟨bL,bS,bW,g,gN,j,s5,x5,hj,HBB.o.1,HBB.o.2.1,HBB.o.2.2.1,HBB.o.2.2.2,Nat.le_trans HC4.o.size e2,Nat.le_trans HC4.o.size e3,Nat.le_trans HC4.o.size e1,hH,x1,x2,x3,x4,x6,uH_ HC4.o hc HNB.o⟩);clear hj e1 e2 e3 hH x1 x2 x3 x4 x6 hc));go_ret2;exact HFIN.o p h w5 HBG.o
end
structure CodeV where
  args:Nat
  ts:List TkV
  go:List Int
structure CallV where
  fn:Nat
  next:Nat
  loc:List Int
structure EgV where
  fuel:Nat
  st:List Int
  cs:List CallV
  L:List UInt8
  V:List Bool
  qs:List (Int×Int)
def CallV.at_ (c:CallV)(n:Nat):CallV:=⟨c.fn,n,c.loc⟩
def EgV.pop (s:EgV):Option (Int×EgV):=match s.st.getLast? with
  | none=>none
  | some x=>some (x,⟨s.fuel,s.st.dropLast,s.cs,s.L,s.V,s.qs⟩)
def EgV.push (s:EgV)(n:Int):EgV:=⟨s.fuel,s.st++[n],s.cs,s.L,s.V,s.qs⟩
def EgV.calls (s:EgV)(cs:List CallV):EgV:=⟨s.fuel,s.st,cs,s.L,s.V,s.qs⟩
def EgV.jump (s:EgV)(go:Int):Option EgV:=match s.cs.getLast? with
  | none=>none
  | some c=>if go<0 then none else some (s.calls (s.cs.dropLast++[c.at_ go.toNat]))
def zoS (rs:List (Option Int))(k:Nat):Option Int:=if k<rs.length then rs.getD k none else some 0
def zhS (L:List UInt8)(k:Int)(s:Nat):Option Int:=if 0<=k/\k+s<=L.length then some (ldI L k.toNat s) else none
def uG_ (cd:List CodeV) (k:Nat) (s:EgV):Option EgV:=match cd[k]? with
  | none=>none
  | some f=>if s.st.length<f.args\/26<f.args then none
    else some ⟨s.fuel,s.st.take (s.st.length-f.args),s.cs++[⟨k,0,s.st.drop (s.st.length-f.args)++List.replicate (26-f.args) 0⟩],s.L,s.V,s.qs⟩
def y1_ (sg:Int)(s:EgV):Option (Int×EgV) :=
 if 97<=sg/\sg<=122 then (match s.cs.getLast? with
   | none=>none
   | some c=>match c.loc[(sg-97).toNat]? with
     | none=>none
     | some x=>some (0,s.push x))
 else if 65<=sg/\sg<=90 then (match s.pop with
   | none=>none
   | some (x,s')=>match s'.cs.getLast? with
     | none=>none
     | some c=>some (0,s'.calls (s'.cs.dropLast++[⟨c.fn,c.next,c.loc.set (sg-65).toNat x⟩])))
 else match (if sg=33 then some ((0:Int),s) else s.pop) with
   | none=>none
   | some (b,s1)=>match s1.pop with
     | none=>none
     | some (a,s2)=>some ((doR sg a b).2,if (doR sg a b).2=0 then s2.push (doR sg a b).1 else s2)
def zbK (most:Nat) (sg:Int) (s:EgV):Option (Int×EgV) :=
 if sg=35 then some (0,s.push (s.V.length:Int))
 else match s.pop with
   | none=>none
   | some (x,s1) =>
     if sg=164 then (if x<0\/(most:Int)-s.V.length<x then some (0,s1.push (-1))
       else some (0,⟨s1.fuel,s1.st++[(s.V.length:Int)],s1.cs,s1.L++List.replicate (64*x.toNat) 0,s1.V++List.replicate x.toNat true,s1.qs⟩))
     else if sg=64\/sg=169 then (match zhS s1.L x (if sg=64 then 8 else 1) with
       | none=>some (5,s1)
       | some n=>some (0,s1.push n))
     else match s1.pop with
       | none=>none
       | some (k,s2)=>if 0<=k/\k+(if sg=36 then 8 else 1)<=s2.L.length then
           some (0,⟨s2.fuel,s2.st,s2.cs,stL s2.L k.toNat x (if sg=36 then 8 else 1),stV s2.V k.toNat (if sg=36 then 8 else 1),s2.qs⟩)
         else some (5,s2)
def kb_ (us:List FnV)(cd:List CodeV)(rs:List (Option Int))(most:Nat)(t:TkV)(go:Int)(s:EgV):Option (Int×EgV) :=
 if t.sign=48 then some (0,s.push t.n)
 else if t.sign=46 then (match s.st.getLast? with|none=>none|some x=>some (0,s.push x))
 else if t.sign=44 then s.pop.map fun q=>(0,q.2)
 else if t.sign=63 then (match s.pop with
   | none=>none
   | some (x,s1)=>if x=0 then (s1.jump go).map fun z=>(0,z) else some (0,s1))
 else if t.sign=58\/t.sign=93\/t.sign=126 then (s.jump go).map fun z=>(0,z)
 else if t.sign=59\/t.sign=91 then some (0,s)
 else if t.sign=35\/t.sign=164\/t.sign=64\/t.sign=169\/t.sign=36\/t.sign=174 then zbK most t.sign s
 else if t.sign=955 then (if 32<=s.cs.length then some (6,s) else if yY_ us t.name<0 then none else (uG_ cd (yY_ us t.name).toNat s).map fun z=>(0,z))
 else if t.sign=960 then (match s.pop with
   | none=>none
   | some (x,s1)=>match zoS rs s1.qs.length with
     | none=>some (7,⟨s1.fuel,s1.st,s1.cs,s1.L,s1.V,s1.qs++[(t.name,x)]⟩)
     | some n=>some (0,⟨s1.fuel,s1.st++[n],s1.cs,s1.L,s1.V,s1.qs++[(t.name,x)]⟩))
 else if t.sign=161 then some (2,s)
 else y1_ t.sign s
def ziX (us:List FnV) (cd:List CodeV) (rs:List (Option Int)) (most:Nat):Nat->EgV->Option (Int×EgV)
  | 0,_=>none
  | n+1,s=>match s.cs.getLast? with
    | none=>some (0,s)
    | some c=>match cd[c.fn]? with
      | none=>none
      | some f=>if c.next=f.ts.length then ziX us cd rs most n (s.calls s.cs.dropLast)
        else if s.fuel=0 then some (1,s)
        else match f.ts[c.next]?,f.go[c.next]? with
          | some t,some go=>(match kb_ us cd rs most t go ⟨s.fuel-1,s.st,s.cs.dropLast++[c.at_ (c.next+1)],s.L,s.V,s.qs⟩ with
            | none=>none
            | some (trap,s')=>if trap=0 then ziX us cd rs most n s' else some (trap,s'))
          | _,_=>none
def xm_ (f:FnV):CodeV:=match uo_ f.code with
  | none=>⟨f.args.toNat,[],[]⟩
  | some ts=>match ks_ (yn_ ts) with
    | none=>⟨f.args.toNat,ts,[]⟩
    | some R=>⟨f.args.toNat,ts,R.1⟩
def eDo (us:List FnV)(rs:List (Option Int))(most k fuel:Nat)(args:List Int)(L:List UInt8)(V:List Bool)(qs:List (Int×Int)):Option (Int×Int×EgV) :=
 match uG_ (us.map xm_) k ⟨fuel,args,[],L,V,qs⟩ with
 | none=>none
 | some s=>match ziX us (us.map xm_) rs most (2*fuel+2) s with
   | none=>none
   | some (trap,s')=>if trap=0 then s'.pop.map fun q=>(q.1,trap,q.2) else some (0,trap,s')
theorem y7_ {w:World}{B g n cap:Nat}{e:TypeId}{xs:List Value}(h:w.ownsRow B e 1 (.slice (some ⟨g,0,none⟩) n cap) n xs):∃X:List Value,cap=n+X.length/\zb_ w g e (xs++X)/\cap<=maxLen/\xs.length=n:=by
 have hx:=h.1;rcases h.2 with⟨h',_⟩|⟨g',cap',cur,h',hb,hg,hnc,hcm,hcs,htake⟩
 · simp at h'
 · simp only[Value.slice.injEq,Option.some.injEq,Addr.mk.injEq,and_true,true_and]at h';obtain⟨rfl,rfl⟩:=h';rw[Nat.mul_one]at hcs htake hx;have hl:cur.toList.length=cap:=(by rw[Array.length_toList];exact hcs);refine⟨cur.toList.drop n,by rw[List.length_drop,hl];omega,?_,hcm,hx⟩;unfold zb_;rw[<-htake,List.take_append_drop];exact hg
theorem zmz {w:World}{g n:Nat}{e:TypeId}{xs X:List Value}(h:zb_ w g e (xs++X))(hx:xs.length=n)(hm:n+X.length<=maxLen):w.ownsRow 0 e 1 (.slice (some ⟨g,0,none⟩) n (n+X.length)) n xs:=by
 have:=z0_ (B:=0) (n:=n) h (Nat.zero_le _) (c:=n+X.length) (by rw[List.length_append,hx]) (by omega) hm;rwa[List.take_left' hx]at this
structure Gm (w:World) (p gC gD:Nat) (nC cC nD cD most:Nat) (xs:List Value) (ys:List Value):Prop where
  rec_:zb_ w p 105 [.slice (some ⟨gC,0,none⟩) nC cC,.int .i64 (most:Int),.slice (some ⟨gD,0,none⟩) nD cD]
  cel:w.ownsRow 0 5 1 (.slice (some ⟨gC,0,none⟩) nC cC) nC xs
  dir:w.ownsRow 0 4 1 (.slice (some ⟨gD,0,none⟩) nD cD) nD ys
theorem x7_ {w w':World}{T:List Nat}{B e g n cap:Nat}{xs:List Value}(h:w.ownsRow B e 1 (.slice (some ⟨g,0,none⟩) n cap) n xs)(hc:Chg T w w')(hg:g∉T):w'.ownsRow B e 1 (.slice (some ⟨g,0,none⟩) n cap) n xs:=by
 refine⟨h.1,?_⟩;rcases h.2 with h'|⟨g',cap',cur,h',hb,hgg,rest⟩
 · exact .inl h'
 · simp only[Value.slice.injEq,Option.some.injEq,Addr.mk.injEq,and_true,true_and]at h';obtain⟨rfl,rfl⟩:=h';have hlt:g<w.heap.size:=by
    rcases Nat.lt_or_ge g w.heap.size with hlt|hge
    · exact hlt
    · rw[Array.getElem?_eq_none hge]at hgg;cases hgg
   exact .inr ⟨g,cap,cur,rfl,hb,(hc.block g hlt hg).trans hgg,rest⟩
theorem zhG {w:World}{B B' e e' g g' n n' c c':Nat}{xs ys:List Value}(h:w.ownsRow B e 1 (.slice (some ⟨g,0,none⟩) n c) n xs)(h':w.ownsRow B' e' 1 (.slice (some ⟨g',0,none⟩) n' c') n' ys)(hne:e≠e'):g≠g':=by
 obtain⟨X,_,hX,_⟩:=y7_ h;obtain⟨Y,_,hY,_⟩:=y7_ h';exact hX.ne_ hY hne
theorem xw_ {w:World}{B e e' g p n c:Nat}{xs cs:List Value}(h:w.ownsRow B e 1 (.slice (some ⟨g,0,none⟩) n c) n xs)(h':zb_ w p e' cs)(hne:e'≠e):p≠g:=by
 obtain⟨X,_,hX,_⟩:=y7_ h;exact h'.ne_ hX hne
section
variable {w w':World} {p gC gD nC cC nD cD most:Nat} {xs ys:List Value}
theorem Gm.keep (h:Gm w p gC gD nC cC nD cD most xs ys)(hc:Chg [] w w'):Gm w' p gC gD nC cC nD cD most xs ys:=⟨h.rec_.keep hc,zk_ h.cel hc,zk_ h.dir hc⟩
theorem Gm.cells_set (h:Gm w p gC gD nC cC nD cD most xs ys){g' n' c':Nat}{zs:List Value}{w2:World}(ho:w2.ownsRow 0 5 1 (.slice (some ⟨g',0,none⟩) n' c') n' zs)(hg:w.grownBy w2 (some gC)) :
    Gm (w2.setCell ⟨p,0,none⟩ (.slice (some ⟨g',0,none⟩) n' c')) p g' gD n' c' nD cD most zs ys/\zb_ w2 p 105 [.slice (some ⟨gC,0,none⟩) nC cC,.int .i64 (most:Int),.slice (some ⟨gD,0,none⟩) nD cD] /\
      Chg [p,gC] w (w2.setCell ⟨p,0,none⟩ (.slice (some ⟨g',0,none⟩) n' c')):=by
 have d1:=xw_ h.cel h.rec_ (by decide);have d2:=zhG h.cel h.dir (by decide);have hc:Chg [gC] w w2:=Chg.of_grown hg (fun g e _=>by simp only[Option.some.injEq]at e;simp[e]);have hr:=h.rec_.chg hc (by simpa using d1);have hd:=x7_ h.dir hc (by simpa using Ne.symm d2);have d3:=xw_ ho hr (by decide);have d4:=xw_ hd hr (by decide);have hs:Chg [p] w2 (w2.setCell ⟨p,0,none⟩ (.slice (some ⟨g',0,none⟩) n' c')):=(Chg.refl [p] w2).setCell (by simp) _;refine⟨⟨hr.set_ 0 _,x7_ ho hs (by simpa using Ne.symm d3),x7_ hd hs (by simpa using Ne.symm d4)⟩,hr,?_⟩;exact(hc.sub (T':=[p,gC]) (by simp)).setCell (by simp) _
theorem Gm.dirty_set (h:Gm w p gC gD nC cC nD cD most xs ys){g' n' c':Nat}{zs:List Value}{w2:World}(ho:w2.ownsRow 0 4 1 (.slice (some ⟨g',0,none⟩) n' c') n' zs)(hg:w.grownBy w2 (some gD)) :
    Gm (w2.setCell ⟨p,2,none⟩ (.slice (some ⟨g',0,none⟩) n' c')) p gC g' nC cC n' c' most xs zs/\zb_ w2 p 105 [.slice (some ⟨gC,0,none⟩) nC cC,.int .i64 (most:Int),.slice (some ⟨gD,0,none⟩) nD cD] /\
      Chg [p,gD] w (w2.setCell ⟨p,2,none⟩ (.slice (some ⟨g',0,none⟩) n' c')):=by
 have d1:=xw_ h.dir h.rec_ (by decide);have d2:=zhG h.cel h.dir (by decide);have hc:Chg [gD] w w2:=Chg.of_grown hg (fun g e _=>by simp only[Option.some.injEq]at e;simp[e]);have hr:=h.rec_.chg hc (by simpa using d1);have hd:=x7_ h.cel hc (by simpa using d2);have d3:=xw_ ho hr (by decide);have d4:=xw_ hd hr (by decide);have hs:Chg [p] w2 (w2.setCell ⟨p,2,none⟩ (.slice (some ⟨g',0,none⟩) n' c')):=(Chg.refl [p] w2).setCell (by simp) _;refine⟨⟨hr.set_ 2 _,x7_ hd hs (by simpa using Ne.symm d4),x7_ ho hs (by simpa using Ne.symm d3)⟩,hr,?_⟩;exact(hc.sub (T':=[p,gD]) (by simp)).setCell (by simp) _
end
section
variable {w:World} {p gC gD:Nat} {L:List UInt8} {X:List Value} {V:List Bool} {Y:List Value} {most:Nat}
theorem Mm.gm (h:Mm w p gC gD L X V Y most):Gm w p gC gD L.length (L.length+X.length) V.length (V.length+Y.length) most (bts L) (bls V) :=
 ⟨h.rec_,zmz h.cel (zg_ L) h.capX,zmz h.dir (qj_ V) h.capY⟩
theorem Gm.mm {nC cC nD cD:Nat}{xs ys:List Value}(h:Gm w p gC gD nC cC nD cD most xs ys)(hx:xs=bts L)(hy:ys=bls V)(h1:L.length=64*V.length)(h2:V.length<=most)(h3:most<=64):∃X Y,Mm w p gC gD L X V Y most:=by
 subst hx hy;obtain⟨X,eX,hX,mX,lX⟩:=y7_ h.cel;obtain⟨Y,eY,hY,mY,lY⟩:=y7_ h.dir;rw[zg_]at lX;rw[qj_]at lY;subst lX lY eX eY;exact⟨X,Y,h.rec_,hX,hY,h1,h2,h3,mX,mY⟩
theorem znX (h:Mm w p gC gD L X V Y most)(n:Int)(hn:n<0\/(most:Int)-V.length<n) :
    Calls Tryz.prog 155 #[.pointer (some ⟨p,0,none⟩),.int .i64 n] w fun e w'=>e=.returned (.int .i64 (-1))/\w=w':=by
 have c1:=h.rec_.cell 1;have b1:=h.le;have b2:=h.top;by_cases h0:n<0
 · have hd:decide (n<0)=true:=(by simpa using h0);clear hn;go_enter Tryz.func155,Tryz.ntmps155;go_wp2_with (go_at_call 57;refine(xe_ h).mono ?_;rintro e w' ⟨rfl,rfl⟩);go_ret;exact⟨rfl,rfl⟩
 · have hd:decide (n<0)=false:=(by simpa using h0);have hd2:decide ((most:Int)-(V.length:Int)<n)=true:=(by simp;omega);clear hn;go_enter Tryz.func155,Tryz.ntmps155;go_wp2_with (go_at_call 57;refine(xe_ h).mono ?_;rintro e w' ⟨rfl,rfl⟩);go_ret;exact⟨rfl,rfl⟩
def trs (k:Nat):List Bool:=List.replicate k true
def zmp (w:World)(p gC gD:Nat)(L:List UInt8)(V:List Bool)(most k:Nat)(e:Ending)(w':World):Prop :=
 ∃gC' gD' X' Y',e=.returned (.int .i64 (V.length:Int))/\Mm w' p gC' gD' (L++zm_ (64*k)) X' (V++trs k) Y' most/\Chg [p,gC,gD] w w'/\(gC'=gC\/w.heap.size<=gC')/\(gD'=gD\/w.heap.size<=gD')
theorem zgq (k:Nat):(trs k).length=k:=by simp[trs]
theorem zke (j:Nat):bls (trs j)++[Value.bool true]=bls (trs (j+1)):=by
 unfold trs bls;rw[List.map_replicate,List.map_replicate,List.replicate_succ',]
theorem zkX {w:World}{B e n:Nat}{v:Value}{xs:List Value}(h:w.ownsRow B e 1 v (n+1) xs):∃g c,v=.slice (some ⟨g,0,none⟩) (n+1) c:=by
 rcases h.2 with⟨_,h'⟩|⟨g,c,_,h',_⟩
 · omega
 · exact⟨g,c,h'⟩
theorem zki:Tryz.prog.underlying 2=some (.int .i64):=by kernel_rfl
theorem zlw (h:Mm w p gC gD L X V Y most)(k:Nat)(hk:V.length+k<=most) :
    Calls Tryz.prog 155 #[.pointer (some ⟨p,0,none⟩),.int .i64 (k:Int)] w (zmp w p gC gD L V most k):=by
 obtain⟨i,hi,hz,hs1,hb⟩:=info_parts j6_;obtain⟨i2,hi2,hz2,hs2,hb2⟩:=info_parts zaY;have c0:=h.rec_.cell 0;have c1:=h.rec_.cell 1;have b1:=h.small;have b2:=h.smallV;have b3:=h.top;have hlen:=h.len;have hd2:decide ((most:Int)-(V.length:Int)<(k:Int))=false:=by simp;omega
 obtain⟨g',cap',w2,hr,ho2,hg2,hor⟩:=xh_ (P:=Tryz.prog) w 0 39 2 39 5 i _ 1 .i64 Tryz.underlying39 zki hi hz hs1 hb rfl rfl gC L.length (L.length+X.length) (bts L) h.gm.cel (k*64) (by unfold maxLen;omega) (by omega) (Nat.zero_le _);obtain⟨hG,hR2,hC2⟩:=h.gm.cells_set ho2 hg2;have c2:=hR2.cell 0;have f2:=hR2.frozen 0;have ek:((k*64:Nat):Int)=(k:Int)*64:=by omega
 rw[ek]at hr;have HG:=hQ_ hG;have HC:=hQ_ hC2;have HR:=hQ_ hr;have HL:=hQ_ hlen;have HH:=hQ_ h;have HO:=hQ_ hor;clear hG hC2 hr ho2 hg2 hR2 hlen ek hor;go_enter Tryz.func155,Tryz.ntmps155;go_wp2_with (first
  | (go_at_call 57;refine(xe_ HH.o).mono ?_;rintro e w' ⟨rfl,rfl⟩)
  | (at_builtin;refine Lib.wpList_append_run w rfl (.tmp 24) (.tmp 26) 39 2 rfl _ _ rfl rfl _ _ HR.o ?_));go_loopw [31] (fun i wr=>∃j:Nat,j<=k/\i=.int .i64 (j:Int)/\(∃gD' n' c',n'=V.length+j/\Gm wr p g' gD' (L.length+k*64) cap' n' c' most (bts L++List.replicate (k*64) (.int .u8 0)) (bls V++bls (trs j))/\(gD'=gD\/w.heap.size<=gD'))/\Chg [p,gC,gD] w wr) (fun i _=>k-(intOf i).toNat);case atStart=>exact⟨0,by omega,rfl,⟨gD,_,_,rfl,by simpa[trs,bls] using HG.o,.inl rfl⟩,HC.o.sub (by simp)⟩
 case round =>
  obtain⟨j,hj,rfl,⟨gE,n',c',hn',hGm,hgE⟩,hCr⟩:=hrel;have hn1:n'<=V.length+j:=by omega
  have HN:=hQ_ hn';have HGm:=hQ_ hGm;have HCr:=hQ_ hCr;have HE:=hQ_ hgE;clear c0 c1 c2 f2 hn' hgE;by_cases hlt:j<k
  · have c2:=hGm.rec_.cell 2;have hGa:=hGm.keep ((Chg.refl [] wr).alloc (.cells #[.bool true] 4));have HA:=hQ_ hGa;have hs2':Src (wr.alloc (.cells #[.bool true] 4)) (some ⟨wr.heap.size,0,none⟩) [.bool true]:=Src.of_all (zb_.new wr 4 [.bool true]);have h1:∀u∈[Value.bool true],u.oneCell'=true:=(by simp[Value.oneCell']);have x1:=hQ_ (show n'+1<=maxLen by unfold maxLen;omega);have x2:=hQ_ (show(n'+1)*1<=140737488355328 by omega);have HX:=hQ_ hs2';clear hCr hGm hGa hs2';go_wp2_with (
     at_builtin;refine zC_ rfl (.tmp 37) (.tmp 38) 99 rfl 0 4 i2 _ 1 Tryz.underlying99 hi2 hz2 hs2 hb2 rfl (.slice (some ⟨gE,0,none⟩) n' c') n' (bls V++bls (trs j)) rfl HA.o.dir (some ⟨wr.heap.size,0,none⟩) 1 1 [.bool true] rfl rfl HX.o h1 x1.out x2.out (Nat.zero_le _) ?_;intro v4 w4 ho4 hg4 hv4;obtain⟨g4,c4,rfl⟩:=zkX ho4;obtain⟨hG4,hR4,hC4⟩:=HA.o.dirty_set ho4 hg4;have HG4:=hQ_ hG4;have HC4:=hQ_ hC4;have HV4:=hQ_ hv4;have c24:=hR4.cell 2;have f24:=hR4.frozen 2;clear hG4 hR4 hC4 ho4 hg4 hv4);go_roundw;case rel =>
     have hsz:=HCr.o.size;refine⟨j+1,by omega,by go_num,⟨g4,n'+1,c4,by rw[HN.o];omega,?_,?_⟩,?_⟩
     · have:=HG4.o;rwa[List.append_assoc,zke]at this
     · have hv:=HV4.o;simp only[Value.ownBlock,Option.some.injEq,World.size_alloc]at hv;rcases hv with hv|hv
       · rw[hv];exact HE.o
       · right;omega
     · refine(HCr.o.alloc _).then_ HC4.o fun q hq hlt=>?_;simp only[List.mem_cons,List.not_mem_nil,or_false]at hq⊢;rcases hq with rfl|rfl
       · exact .inl rfl
       · rcases HE.o with rfl|hE
         · exact .inr (.inr rfl)
         · omega
    case measure=>simp[intOf]<;>omega
  · obtain rfl:j=k:=(by omega);go_wp2_with fail;go_ret;have hn:=HN.o;have hO:=HO.o;have hL:=HL.o;obtain⟨X',Y',hM⟩:=HGm.o.mm (L:=L++zm_ (64*j)) (V:=V++trs j) (by simp[bts,zm_,B8,Nat.mul_comm]) (by simp[bls]) (by rw[List.length_append,List.length_append,zE_,zgq];omega) (by rw[List.length_append,zgq];omega) b3;exact⟨g',gE,X',Y',rfl,hM,HCr.o,by omega,HE.o⟩
end
def clC (c:CallV):List Value:=[.int .i64 (c.fn:Int),.int .i64 (c.next:Int)]++nms c.loc
def q9_:List CallV->List Value
  | []=>[]
  | x::l=>clC x++q9_ l
def xD_ (cs:List CallV):Prop:=∀c∈cs,c.loc.length=26
theorem qf_ {c:CallV}(h:c.loc.length=26):(clC c).length=28:=by simp[clC,xi_,h]
theorem xD_.head {c:CallV}{cs:List CallV}(h:xD_ (c::cs)):c.loc.length=26:=h c (by simp)
theorem xD_.tail {c:CallV}{cs:List CallV}(h:xD_ (c::cs)):xD_ cs:=fun x hx=>h x (by simp[hx])
theorem xD_.app {cs:List CallV}{c:CallV}:xD_ (cs++[c])↔xD_ cs/\c.loc.length=26 :=
 ⟨fun h=>⟨fun x hx=>h x (by simp[hx]),h c (by simp)⟩,fun h x hx=>by
  rcases List.mem_append.1 hx with hx|hx
  · exact h.1 x hx
  · rw[List.mem_singleton]at hx;subst hx;exact h.2⟩
theorem ug_:∀{l:List CallV},xD_ l->(q9_ l).length=l.length*28
  | [],_=>rfl
  | x::l,h=>by rw[q9_,List.length_append,ug_ h.tail,qf_ h.head,List.length_cons];omega
theorem uh_:∀l m,q9_ (l++m)=q9_ l++q9_ m
  | [],_=>rfl
  | x::l,m=>by rw[List.cons_append,q9_,q9_,uh_ l m,List.append_assoc]
theorem jq_ (x:CallV):q9_ [x]=clC x:=by simp[q9_]
theorem zjk {ys:List CallV}{x:CallV}(h:xD_ (ys++[x]))(j:Nat):(q9_ (ys++[x]))[ys.length*28+j]?=(clC x)[j]?:=by
 rw[uh_,jq_,List.getElem?_append_right (by rw[ug_ (xD_.app.1 h).1];omega),ug_ (xD_.app.1 h).1];congr 1;omega
theorem zlO {ys:List CallV}{x y:CallV}(h:xD_ (ys++[x]))(j:Nat)(u:Value)(hu:(clC x).set j u=clC y):(q9_ (ys++[x])).set (ys.length*28+j) u=q9_ (ys++[y]):=by
 rw[uh_,jq_,List.set_append_right _ _ (by rw[ug_ (xD_.app.1 h).1];omega),ug_ (xD_.app.1 h).1,show ys.length*28+j-ys.length*28=j by omega,hu,uh_,jq_]
structure CdV where
  c:CodeV
  tv:Value
  gv:Value
def cdC (x:CdV):List Value:=[.int .i64 (x.c.args:Int),x.tv,x.gv]
def zbM:List CdV->List Value
  | []=>[]
  | x::l=>cdC x++zbM l
theorem zea:∀l m,zbM (l++m)=zbM l++zbM m
  | [],_=>rfl
  | x::l,m=>by rw[List.cons_append,zbM,zbM,zea l m,List.append_assoc]
theorem zlR (x:CdV):zbM [x]=cdC x:=by simp[zbM]
theorem ke_:∀(l:List CdV)(k:Nat)(x:CdV)(j:Nat),l[k]?=some x->j<3->(zbM l)[k*3+j]?=(cdC x)[j]?
  | [],k,x,j,h,hj=>by simp at h
  | y::l,0,x,j,h,hj=>by
    simp at h;subst h;rw[zbM,List.getElem?_append_left (by simp[cdC];omega)];congr 1;omega
  | y::l,k+1,x,j,h,hj=>by
    simp at h;rw[zbM,List.getElem?_append_right (by simp[cdC];omega)];rw[<-ke_ l k x j h hj];congr 1;simp[cdC];omega
structure Cods (W:World) (v:Value) (xs:List CdV):Prop where
  own:W.ownsRow 0 165 3 v xs.length (zbM xs)
  toks:∀x∈xs,W.ownsRow 0 132 3 x.tv x.c.ts.length (vB_ x.c.ts)
  gos:∀x∈xs,W.ownsRow 0 3 1 x.gv x.c.go.length (nms x.c.go)
  few:∀x∈xs,x.c.ts.length<=512/\x.c.go.length=x.c.ts.length
  lenb:xs.length<=32
theorem Cods.keep {W W':World}{v:Value}{xs:List CdV}(h:Cods W v xs)(hc:Chg [] W W'):Cods W' v xs :=
 ⟨ze_ h.own hc,fun x hx=>ze_ (h.toks x hx) hc,fun x hx=>ze_ (h.gos x hx) hc,h.few,h.lenb⟩
theorem Cods.fe {W W':World}{v:Value}{xs:List CdV}{K:Nat->Prop}{TS:List TypeId}(h:Cods W v xs)(hf:Fe K TS W W')(h1:165∉TS)(h2:132∉TS)(h3:3∉TS):Cods W' v xs :=
 ⟨hf.own h.own h1,fun x hx=>hf.own (h.toks x hx) h2,fun x hx=>hf.own (h.gos x hx) h3,h.few,h.lenb⟩
structure EP where
  g:Nat
  us:List FnV
  pages:Int
  mst:Int
  A:Option Addr
  n:Nat
  c:Nat
  cv:Value
  xs:List CdV
  p:Nat
  most:Nat
  rp:Nat
  rs:List (Option Int)
  B:Nat
  T:List Nat
def EP.K (P:EP):Nat->Prop:=fun k=>P.B<=k\/k∈P.T
abbrev egT:List TypeId:=[112,2,169,105,5,4,117,267]
def wkC (P:EP)(fuel:Nat)(vs vc:Value):List Value:=[.int .i64 P.pages,.int .i64 P.mst,.slice P.A P.n P.c,P.cv,.pointer (some ⟨P.p,0,none⟩),.pointer (some ⟨P.rp,0,none⟩),.int .i64 (fuel:Int),vs,vc]
structure Eg (P:EP) (W:World) (vs vc:Value) (s:EgV):Prop where
  rec_:zb_ W P.g 112 (wkC P s.fuel vs vc)
  stk:W.ownsRow P.B 2 1 vs s.st.length (nms s.st)
  cal:W.ownsRow P.B 169 28 vc s.cs.length (q9_ s.cs)
  mem:∃gC gD X Y,Mm W P.p gC gD s.L X s.V Y P.most/\P.K gC/\P.K gD
  row:∃a q,Rq W P.rp P.rs s.qs a q/\∀i,q.ownBlock=some i->P.K i
  cod:Cods W P.cv P.xs
  fns:Fnr W P.A P.n P.c P.us
  foff:∀ad,P.A=some ad->¬P.K ad.block
  gB:P.B<=P.g
  room:P.B<=W.heap.size
  pK:P.K P.p
  rK:P.K P.rp
  loc:xD_ s.cs
  fuelb:s.fuel<=1048576
  stkb:s.st.length+s.fuel<=3000000
  calb:s.cs.length<=32
  qsb:s.qs.length+s.fuel<=900000000
theorem EP.new (P:EP){k:Nat}(h:P.B<=k):P.K k:=.inl h
theorem Src.fe {K:Nat->Prop}{TS:List TypeId}{W W':World}{A:Option Addr}{xs:List Value}(h:Src W A xs)(hf:Fe K TS W W')(hA:∀ad,A=some ad->¬K ad.block):Src W' A xs:=by
 intro h0;obtain⟨ad,rfl,hlt,hx⟩:=h h0;have hb:=hf.block ad.block hlt (.inl (hA ad rfl));refine⟨ad,rfl,Nat.lt_of_lt_of_le hlt hf.size,fun j u hj=>?_⟩;have:=hx j u hj;rw[<-this];have e2:(ad.add j).block=ad.block:=by unfold Addr.add;split<;>rfl
 refine World.cell?_of_block (w:=W) ?_;rw[e2];exact hb
section
variable {P:EP} {W W':World} {vs vc:Value} {s:EgV}
theorem Eg.keep (h:Eg P W vs vc s)(hc:Chg [] W W'):Eg P W' vs vc s:=by
 obtain⟨gC,gD,X,Y,hM,h1,h2⟩:=h.mem;obtain⟨a,q,hR,h3⟩:=h.row;exact { h with rec_:=h.rec_.keep hc,stk:=ze_ h.stk hc,cal:=ze_ h.cal hc,mem:=⟨gC,gD,X,Y,hM.keep hc,h1,h2⟩,row:=⟨a,q,hR.keep hc,h3⟩,cod:=h.cod.keep hc,fns:=h.fns.keep hc,room:=Nat.le_trans h.room hc.size }
theorem Eg.kg (h:Eg P W vs vc s):P.K P.g:=.inl h.gB
theorem Fnr.fe {K:Nat->Prop}{TS:List TypeId}{A:Option Addr}{n c:Nat}{l:List FnV}(h:Fnr W A n c l)(hf:Fe K TS W W')(hA:∀ad,A=some ad->¬K ad.block):Fnr W' A n c l:={ h with src:=h.src.fe hf hA }
theorem Eg.sslice (h:Eg P W vs vc s):∃A n c,vs=.slice A n c/\n=s.st.length/\n<=c:=by
 obtain⟨A,c,e,hc,_⟩:=zh_ h.stk;exact⟨A,_,c,e,rfl,hc⟩
theorem Eg.cslice (h:Eg P W vs vc s):∃A n c,vc=.slice A n c/\n=s.cs.length/\n<=c:=by
 obtain⟨A,c,e,hc,_⟩:=zh_ h.cal;exact⟨A,_,c,e,rfl,hc⟩
theorem Eg.upd {vs' vc':Value}{fuel:Nat}{st:List Int}{cs:List CallV}{TS:List TypeId}(h:Eg P W vs vc s)(hf:Fe P.K TS W W')(hT:∀t∈TS,t=112\/t=2\/t=169)
    (h1:zb_ W' P.g 112 (wkC P fuel vs' vc')) (h2:W'.ownsRow P.B 2 1 vs' st.length (nms st)) (h3:W'.ownsRow P.B 169 28 vc' cs.length (q9_ cs)) (h4:xD_ cs) (h5:fuel<=s.fuel) (h6:st.length+fuel<=3000000) (h7:cs.length<=32) :
    Eg P W' vs' vc' ⟨fuel,st,cs,s.L,s.V,s.qs⟩:=by
 obtain⟨gC,gD,X,Y,hM,k1,k2⟩:=h.mem;obtain⟨a,q,hR,k3⟩:=h.row;have no:∀t:TypeId,t≠112->t≠2->t≠169->t∉TS:=fun t a b c hm=>by
  rcases hT t hm with h|h|h
  · exact a h
  · exact b h
  · exact c h
 exact { rec_:=h1,stk:=h2,cal:=h3,mem:=⟨gC,gD,X,Y,hf.mm hM (no _ (by decide) (by decide) (by decide)) (no _ (by decide) (by decide) (by decide)) (no _ (by decide) (by decide) (by decide)),k1,k2⟩,
         row:=⟨a,q,hR.fe hf (no _ (by decide) (by decide) (by decide)) (no _ (by decide) (by decide) (by decide)) (no _ (by decide) (by decide) (by decide)),k3⟩,
         cod:=h.cod.fe hf (no _ (by decide) (by decide) (by decide)) (no _ (by decide) (by decide) (by decide)) (no _ (by decide) (by decide) (by decide)),
         fns:=h.fns.fe hf h.foff,foff:=h.foff,gB:=h.gB,room:=Nat.le_trans h.room hf.size,pK:=h.pK,rK:=h.rK,loc:=h4,fuelb:=by have:=h.fuelb;show fuel<=_;omega,stkb:=h6,calb:=h7,qsb:=by have:=h.qsb;show s.qs.length+fuel<=_;omega }
end
theorem uW_ {s s1:EgV}{x:Int}(h:s.pop=some (x,s1)):s1.cs=s.cs:=by
 unfold EgV.pop at h;split at h
 · cases h
 · injection h with h;injection h with _ h;subst h;rfl
theorem zid {s s1:EgV}{v:Int}(h:s.jump v=some s1):s1.cs.length=s.cs.length:=by
 unfold EgV.jump at h;split at h
 · cases h
 · rename_i c hc;split at h
   · cases h
   · injection h with h;subst h;have:0<s.cs.length:=List.length_pos_iff.2 (fun e=>by rw[e]at hc;simp at hc);simp[EgV.calls];omega
theorem zop {cd:List CodeV}{k:Nat}{s s1:EgV}(h:uG_ cd k s=some s1):s1.cs.length=s.cs.length+1:=by
 unfold uG_ at h;split at h
 · cases h
 · split at h
   · cases h
   · injection h with h;subst h;simp
theorem zpi {most:Nat}{sg tr:Int}{s s1:EgV}(h:zbK most sg s=some (tr,s1)):s1.cs=s.cs:=by
 unfold zbK at h;split at h
 · injection h with h;injection h with _ h;subst h;rfl
 · split at h
   · cases h
   · rename_i x s2 hp;have e:=uW_ hp;split at h
     · split at h<;>(injection h with h;injection h with _ h;subst h;exact e)
     · split at h
       · split at h<;>(injection h with h;injection h with _ h;subst h;exact e)
       · split at h
         · cases h
         · rename_i k s3 hp3;have e3:=uW_ hp3;by_cases hc:0<=k/\k+(if sg=36 then 8 else 1)<=(s3.L.length:Int)
           · rw[if_pos hc]at h;injection h with h;injection h with _ h;subst h;exact e3.trans e
           · rw[if_neg hc]at h;injection h with h;injection h with _ h;subst h;exact e3.trans e
theorem zha {sg tr:Int}{s s1:EgV}(h:y1_ sg s=some (tr,s1)):s1.cs.length<=s.cs.length+1:=by
 unfold y1_ at h;split at h
 · split at h
   · cases h
   · split at h
     · cases h
     · injection h with h;injection h with _ h;subst h;simp[EgV.push]
 · split at h
   · split at h
     · cases h
     · rename_i x s2 hp;have e:=uW_ hp;split at h
       · cases h
       · injection h with h;injection h with _ h;subst h;simp[EgV.calls,e]
   · have hb:∀b s2,(if sg=33 then some ((0:Int),s) else s.pop)=some (b,s2)->s2.cs=s.cs:=fun b s2 hh=>(by
      by_cases h33:sg=33
      · rw[if_pos h33]at hh;injection hh with hh;injection hh with _ hh;subst hh;rfl
      · rw[if_neg h33]at hh;exact uW_ hh);generalize (if sg=33 then some ((0:Int),s) else s.pop)=q at h hb;cases q with
     | none=>cases h
     | some q =>
       obtain⟨b,s2⟩:=q;have e:=hb b s2 rfl;simp only at h;split at h
       · cases h
       · rename_i a s3 hp;have e3:=uW_ hp;injection h with h;injection h with _ h;subst h;split
         · show s3.cs.length<=_;rw[e3,e];omega
         · rw[e3,e];omega
theorem zgF {us:List FnV}{cd:List CodeV}{rs:List (Option Int)}{most:Nat}{t:TkV}{v tr:Int}{s s1:EgV}(h:kb_ us cd rs most t v s=some (tr,s1)):s1.cs.length<=s.cs.length+1:=by
 have fin:∀{q:Option EgV},(∀z,q=some z->z.cs.length<=s.cs.length+1)->q.map (fun z=>((0:Int),z))=some (tr,s1)->s1.cs.length<=s.cs.length+1:=fun {q} hq hh=>by
  cases q with
  | none=>cases hh
  | some z=>simp only[Option.map_some]at hh;injection hh with hh;injection hh with _ hh;subst hh;exact hq z rfl
 unfold kb_ at h;by_cases c1:t.sign=48
 · rw[if_pos c1]at h;injection h with h;injection h with _ h;subst h;simp[EgV.push]
 rw[if_neg c1]at h;by_cases c2:t.sign=46
 · rw[if_pos c2]at h;split at h
   · cases h
   · injection h with h;injection h with _ h;subst h;simp[EgV.push]
 rw[if_neg c2]at h;by_cases c3:t.sign=44
 · rw[if_pos c3]at h;cases hp:s.pop with
   | none=>rw[hp]at h;cases h
   | some q =>
     obtain⟨x,s2⟩:=q;rw[hp]at h;simp only[Option.map_some]at h;injection h with h;injection h with _ h;subst h;rw[uW_ hp];omega
 rw[if_neg c3]at h;by_cases c4:t.sign=63
 · rw[if_pos c4]at h;split at h
   · cases h
   · rename_i x s2 hp;have e:=uW_ hp;split at h
     · exact fin (fun z hz=>by rw[zid hz,e];omega) h
     · injection h with h;injection h with _ h;subst h;rw[e];omega
 rw[if_neg c4]at h;by_cases c5:t.sign=58\/t.sign=93\/t.sign=126
 · rw[if_pos c5]at h;exact fin (fun z hz=>by rw[zid hz];omega) h
 rw[if_neg c5]at h;by_cases c6:t.sign=59\/t.sign=91
 · rw[if_pos c6]at h;injection h with h;injection h with _ h;subst h;omega
 rw[if_neg c6]at h;by_cases c7:t.sign=35\/t.sign=164\/t.sign=64\/t.sign=169\/t.sign=36\/t.sign=174
 · rw[if_pos c7]at h;rw[zpi h];omega
 rw[if_neg c7]at h;by_cases c8:t.sign=955
 · rw[if_pos c8]at h;split at h
   · injection h with h;injection h with _ h;subst h;omega
   · split at h
     · cases h
     · exact fin (fun z hz=>by rw[zop hz];omega) h
 rw[if_neg c8]at h;by_cases c9:t.sign=960
 · rw[if_pos c9]at h;split at h
   · cases h
   · rename_i x s2 hp;have e:=uW_ hp;split at h
     · injection h with h;injection h with _ h;subst h;simp[e]
     · injection h with h;injection h with _ h;subst h;simp[e]
 rw[if_neg c9]at h;by_cases c10:t.sign=161
 · rw[if_pos c10]at h;injection h with h;injection h with _ h;subst h;omega
 · rw[if_neg c10]at h;exact zha h
def kO_:List FnV:=[⟨115,1,⟨#[56,97,36,97,90,49]⟩⟩,⟨103,0,⟨#[56,64,122,43]⟩⟩]
def js_ (n:Int):List UInt8:=stL (zm_ 64) 8 n 8
theorem zjC:kO_.map z2_=kO_:=by kernel_rfl
theorem zbC:RightU 1 1 kO_:=by
 refine⟨by decide,by decide,by decide,by simp[kO_],fun k f hf=>?_,fun k hk=>?_,fun f hf=>?_⟩
 · rcases k with _|_|k
   · simp only[kO_,List.getElem?_cons_zero,Option.some.injEq]at hf;subst hf;exact⟨by decide,by decide,by decide,by decide⟩
   · simp only[kO_,List.getElem?_cons_zero,List.getElem?_cons_succ,Option.some.injEq]at hf;subst hf;exact⟨by decide,by decide,by decide,by decide⟩
   · simp[kO_]at hf
 · have hk2:k<2:=hk;rcases k with _|_|k
   · decide +kernel
   · decide +kernel
   · omega
 · simp only[kO_,List.mem_cons,List.not_mem_nil,or_false]at hf;rcases hf with rfl|rfl<;>decide
theorem zmk:∀f∈kO_,-9223372036854775808<=f.args/\f.args<=9223372036854775807:=by decide
theorem zmi:∀f∈kO_,f.code.size<=9223372036854775807:=by decide
theorem zoC:Fit 1 1 kO_ 40 50:=⟨by decide +kernel,by decide +kernel,by decide +kernel⟩
theorem zmj:1+zs_ (zH_ 1 1 kO_).1.length=2:=by decide +kernel
theorem alo_s (c n:Int):eDo kO_ [] 1 0 30 [n] (js_ c) [false] []=some (1,0,⟨24,[],[],js_ n,[true],[]⟩):=by kernel_rfl
theorem alo_g (c:Int)(hc:zmo c):eDo kO_ [] 1 1 30 [] (js_ c) [false] []=some (c,0,⟨26,[],[],js_ c,[false],[]⟩):=by
 have h:eDo kO_ [] 1 1 30 [] (js_ c) [false] []=some (wrap64 (ldI (js_ c) 8 8+0),0,⟨26,[],[],js_ c,[false],[]⟩):=by kernel_rfl
 rw[h,show ldI (js_ c) 8 8=c from zpk _ _ _ hc (by decide),Int.add_zero,zgg hc]
theorem zmh:js_ 0=zm_ 64:=by decide +kernel
theorem zjD (c:Int):(js_ c).length=64:=by unfold js_;rw[gl_];rfl
end Go.Proofs.YtcbcfcdmdedefaaGreatDoor
