import Derived.Test.YtcbcfcdmdedefaaGreatDoorZHQ20
set_option maxRecDepth 100000
set_option maxHeartbeats 16000000
namespace Go.Proofs.YtcbcfcdmdedefaaGreatDoor
open Go.RowKit
def zab (X:St->SV->Prop)(w:World)(p bL bS bW:Nat)(e:Ending)(w':World):Prop :=
 ∃g gN v s' x',e=.returned (.tuple #[.pointer (some ⟨g,0,none⟩),.int .i64 0])/\w.heap.size<=g/\w.heap.size<=gN/\Sto w' ⟨p,bL,bS,bW,g,gN,[]⟩ s' x' v/\X s' x'/\Chg [bL,bS,bW] w w'
theorem zhv {w:World}{p bL bS bW:Nat}{s:St}{x:SV}{ms:List (List ChV)}(hd:z9_ w p bL bS bW s)(hk:Kept s x ms)(hno:¬zR_ (xI_ s x.L) (x.E+1) 0)(hE:x.E<4294967295) :
    Calls Tryz.prog 41 #[.pointer (some ⟨p,0,none⟩)] w (zab (fun _ x'=>x'.pages=x.pages/\x'.L=x.L/\x'.P=x.P/\x'.E=x.E+1/\x'.used=0/\x'.seq=0) w p bL bS bW) :=
 (zbJ hd hk hno hE).mono fun e w' h=>by
   obtain⟨g,gN,v,s',x',h1,h2,h3,h4,_,h5,h6,h7,h8,h9,h10,_,h11⟩:=h;exact⟨g,gN,v,_,x',h1,h2,h3,h4,⟨h5,h6,h7,h8,h9,h10⟩,h11⟩
theorem znM {w:World}{p bL bS bW:Nat}{E0 L P nV:Nat}(hO:Calls Tryz.prog 41 #[.pointer (some ⟨p,0,none⟩)] w (uo_ E0 w p bL bS bW L P nV)) :
    Calls Tryz.prog 41 #[.pointer (some ⟨p,0,none⟩)] w (zab (fun s' x'=>x'.pages=List.replicate P (zm_ 64)/\KeptZ s' x' []/\x'.L=L/\x'.P=P/\x'.E=E0/\s'.V.length=nV) w p bL bS bW) :=
 hO.mono fun e w' h=>by
  obtain⟨g,gN,v,s',x',h1,h2,h3,h4,hk,hL,hP,hE,h5,_,_,hV,h11⟩:=h;exact⟨g,gN,v,s',x',h1,h2,h3,h4,⟨h5,hk,hL,hP,hE,hV⟩,h11⟩
theorem zkR {B:Nat}{w:World}{g n:Nat}{us:List Value}{ps:List (List UInt8)}(h:ShFr B w g n us ps n)(hn:n<=1000)(hps:∀l∈ps,l.length=64):Pgs w (some ⟨g,0,none⟩) n n us ps:=by
 refine⟨h.len,Src.of_all h.row,⟨by rw[h.len,h.lenP],fun i u l hu hl=>?_⟩,Nat.le_refl _,by omega,fun _ ad e=>by injection e with e;subst e;rfl⟩;have hi:i<n:=by rw[<-h.lenP];exact(List.getElem?_eq_some_iff.1 hl).1
 obtain⟨x,h1,h2,h3⟩:=h.at_ i hi l hl;rw[h1]at hu;injection hu with hu;subst hu;exact⟨_,_,_,rfl,Bs.of_all h2 (by have:=hps l (List.mem_of_getElem? hl);omega)⟩
def GpH (zs:List (List UInt8))(w:World)(e:Ending)(w':World):Prop :=
 (∃r,qF_ zs r/\e=.returned (.tuple #[.agg #[.int .i64 0,.int .i64 0,.slice none 0 0],.pointer none,.int .i64 0,.int .i64 r])/\Chg [] w w') \/
 (∃(T:List UInt8)(q:Nat)(pg ms:Int)(fs:List FnV)(A:Option Addr)(c pm gC gD:Nat),ux_ zs T q pg ms fs/\e=.returned (.tuple #[.agg #[.int .i64 pg,.int .i64 ms,.slice A fs.length c],.pointer (some ⟨pm,0,none⟩),.int .i64 ((1+zs_ T.length:Nat):Int),.int .i64 0]) /\
   Fnr w' A fs.length c fs/\(∀ad,A=some ad->w.heap.size<=ad.block)/\(∀f∈fs,okF f)/\Mm w' pm gC gD ((zs.drop (1+zs_ T.length)).take q).flatten [] (zH_ q) [] ms.toNat/\w.heap.size<=pm/\w.heap.size<=gC/\w.heap.size<=gD/\Chg [] w w')
theorem znI {w:World}{A:Option Addr}{n c:Nat}{ys:List Value}{zs:List (List UInt8)}(h:Pgs w A n c ys zs)(hn:n<=100000)(hP:vG_ w.heap.size w):Calls Tryz.prog 46 #[.slice A n c] w (GpH zs w) :=
 (zhq h hn hP).mono fun e w' hq=>by
   rcases hq with hq|⟨T,p,pg,ms,fs,v,pm,gC,gD,hy,rfl,ho,hl,hok,hM,h1,h2,h3,hc⟩
   · exact .inl hq
   · obtain⟨B,d,rfl,hF⟩:=Fnr.of_own (l:=fs) ho hl (fun f hf=>by have:=hok f hf;unfold okF at this;omega);exact .inr ⟨T,p,pg,ms,fs,B,d,pm,gC,gD,hy,rfl,hF,gC_ ho rfl,hok,hM,h1,h2,h3,hc⟩
def zac (X:St->SV->Prop)(zs:List (List UInt8))(w:World)(p bL bS bW:Nat)(e:Ending)(w':World):Prop :=
 (∃r,qF_ zs r/\e=.returned (.tuple #[.pointer none,.int .i64 r])/\(∃s' x',z9_ w' p bL bS bW s'/\X s' x')/\Chg [bL,bS,bW] w w') \/
 (∃(T:List UInt8)(q:Nat)(pg ms:Int)(fs:List FnV)(j:HK)(g gN:Nat)(s':St)(x':SV),ux_ zs T q pg ms fs/\X s' x'/\e=.returned (.tuple #[.pointer (some ⟨j.h,0,none⟩),.int .i64 0])/\w.heap.size<=j.h/\w.heap.size<=g/\w.heap.size<=gN /\
   Ho w' ⟨p,bL,bS,bW,g,gN,[j.h]⟩ s' x' j ⟨pg,ms,fs,(zI_ pg ms fs).1.length,1+zs_ T.length,0,((zs.drop (1+zs_ T.length)).take q).flatten,zH_ q,ms.toNat⟩/\Chg [bL,bS,bW] w w')
section
variable {w:World} {p bL bS bW:Nat} {X:St->SV->Prop} {zs:List (List UInt8)}
theorem zbh (hO:Calls Tryz.prog 41 #[.pointer (some ⟨p,0,none⟩)] w (zab X w p bL bS bW))(hX:∀s' x',X s' x'->x'.pages=zs)(hP:∀W,Chg [bL,bS,bW] w W->vG_ W.heap.size W)(hb:bL<w.heap.size/\bS<w.heap.size/\bW<w.heap.size) :
    Calls Tryz.prog 17 #[.pointer (some ⟨p,0,none⟩)] w (zac X zs w p bL bS bW):=by
 have HO:=hQ_ hO;have HX:=hQ_ hX;have HP:=hQ_ hP;have HB:=hQ_ hb;have HNO:=hQ_ (show ∀(r:Int)(W:World)(s':St)(x':SV),qF_ zs r->X s' x'->z9_ W p bL bS bW s'->Chg [bL,bS,bW] w W->zac X zs w p bL bS bW (.returned (.tuple #[.pointer none,.int .i64 r])) W from fun r W s' x' h1 h0 h2 h3=>.inl ⟨r,h1,rfl,⟨s',x',h2,h0⟩,h3⟩);have HYES:=hQ_ (show ∀(W:World)(T:List UInt8)(q:Nat)(pg ms:Int)(fs:List FnV)(j:HK)(g gN:Nat)(s':St)(x':SV),ux_ zs T q pg ms fs->X s' x'->w.heap.size<=j.h->w.heap.size<=g->w.heap.size<=gN ->
   Ho W ⟨p,bL,bS,bW,g,gN,[j.h]⟩ s' x' j ⟨pg,ms,fs,(zI_ pg ms fs).1.length,1+zs_ T.length,0,((zs.drop (1+zs_ T.length)).take q).flatten,zH_ q,ms.toNat⟩->Chg [bL,bS,bW] w W->zac X zs w p bL bS bW (.returned (.tuple #[.pointer (some ⟨j.h,0,none⟩),.int .i64 0])) W from
   fun W T q pg ms fs j g gN s' x' h1 h2 h3 h4 h5 h6 h7=>.inr ⟨T,q,pg,ms,fs,j,g,gN,s',x',h1,h2,rfl,h3,h4,h5,h6,h7⟩);generalize zac X zs w p bL bS bW=PO at HNO HYES⊢;unfold zab at HO;clear hO hX hP hb;go_enter Tryz.func17,Tryz.ntmps17;go_upto_region 4 with(
  go_at_call 41;with_reducible refine HO.o.mono ?_
  rintro e w1 ⟨gs,gN,v,s1,x1,rfl,hg1,hgN,hs,hx,hc⟩;have HS1:=hQ_ hs;have HX1:=hQ_ hx;have HG1:=hQ_ (And.intro hg1 hgN);have HC1:=hQ_ hc;clear hs hx hg1 hgN hc);have HAL:=hQ_ (zkv HS1.o);unfold zcX at HAL;have HZ:=hQ_ (HX.o _ _ HX1.o);have HR1:=hQ_ (zi_.1 HS1.o.rt);have hx64:=HS1.o.p64;rw[HZ.o]at hx64;have H64:=hQ_ hx64;clear hx64;go_upto_region 5 with(first
  | (go_at_call 47;(with_reducible refine HAL.o.mono ?_);rintro e w2 ⟨ga,us,rfl,hfr,hga,hc⟩;rw[HZ.o]at hfr;have HGT:=hQ_ (znI (zkR hfr (by have:=HR1.o;omega) H64.o) (by have:=HR1.o;omega) (HP.o w2 (HC1.o.new hc)));unfold GpH at HGT;have HC2:=hQ_ hc;clear hfr hga hc)
  | (go_at_call 46;(with_reducible refine HGT.o.mono ?_);intro e w3 hq;rcases hq with⟨r,hr,rfl,hc3⟩|⟨T,q,pg,ms,fs,A3,c3,pm,gC,gD,hy,rfl,hF,hA3,hok,hM,h1,h2,h3,hc3⟩))
 · have hrr:r=12\/r=25:=by
    rcases hr with⟨h,_⟩|⟨h,_⟩
    · exact .inl h
    · exact .inr h
   have HFIN:=hQ_ (fun (W:World)(hc:Chg [] w3 W)=>HNO.o r W _ _ hr HX1.o (Dsk.keep HS1.o.dsk (HC2.o.trans (hc3.trans hc))) (HC1.o.new (HC2.o.trans (hc3.trans hc))));clear hr hc3;rcases hrr with rfl|rfl
   · go_wp2_with fail;exact HFIN.o _ ((Chg.refl [] w3).alloc _)
   · go_wp2_with fail;exact HFIN.o _ ((Chg.refl [] w3).alloc _)
 · have hsm:∀f∈fs,f.code.size<=9223372036854775807:=fun f hf=>(by have:=hok f hf;unfold okF at this;omega);have hA4:0<fs.length->∀ad,A3=some ad->ad.block<w3.heap.size:=fun h0 ad e=>(by
    obtain⟨ad',e',hb,_⟩:=hF.src (by rw[y6_];omega);rw[e]at e';injection e' with e';subst e';exact hb);have hlts:=HS1.o.lts;have hC13:Chg [] w1 w3:=HC2.o.trans hc3;have hpm:pm<w3.heap.size:=hM.rec_.lt;have hgC:gC<w3.heap.size:=hM.cel.lt;have hgD:gD<w3.heap.size:=hM.dir.lt;have h12:w1.heap.size<=w2.heap.size:=HC2.o.size;have hmost:(ms.toNat:Int)=ms:=(by have:=hy.2.2.2;have:=hy.2.2.1;have h5:=hy.2.2.2.2;omega);have HTXT:=hQ_ (fun (W:World)(hc:Chg [] w3 W)=>zgf.of_fnr (pg:=pg) (ms:=ms) (hF.keep hc) hsm W (Chg.refl [] W) (HP.o W (HC1.o.new (hC13.trans hc))));obtain⟨T2,hT2⟩:∃T2,T2=(zI_ pg ms fs).1:=⟨_,rfl⟩;have hT2l:T2.length<=2048:=(by rw[hT2];exact(xc_ pg ms fs).1);unfold yt_ at HTXT;rw[<-hT2]at HTXT;generalize (zI_ pg ms fs).2=E2 at HTXT;obtain⟨S,hS⟩:∃S,S=zj_ T2:=⟨_,rfl⟩;rw[<-hS]at HTXT;have hSz:(S.size:Int)=(T2.length:Int):=(by rw[hS,zL_]);have hy1:=hy;obtain⟨hrd,_⟩:=hy1;have hTs:=hrd.small.1;have hfirst:1+zs_ T.length<=1000:=(by unfold zs_;omega);have HFIN:=hQ_ (show ∀(W:World),Chg [] w3 W->PO (.returned (.tuple #[.pointer (some ⟨W.heap.size,0,none⟩),.int .i64 0])) (W.alloc (.cells #[.pointer (some ⟨gs,0,none⟩),.int .i64 pg,.int .i64 ms,.slice A3 fs.length c3,.pointer (some ⟨pm,0,none⟩),.int .i64 (T2.length:Int),.int .i64 ((1+zs_ T.length:Nat):Int),.int .i64 0] 64)) from fun W hc=>by
    have hal:=(Chg.refl [] W).alloc (.cells #[.pointer (some ⟨gs,0,none⟩),.int .i64 pg,.int .i64 ms,.slice A3 fs.length c3,.pointer (some ⟨pm,0,none⟩),.int .i64 (T2.length:Int),.int .i64 ((1+zs_ T.length:Nat):Int),.int .i64 0] 64);have hN:=zb_.new W 64 [.pointer (some ⟨gs,0,none⟩),.int .i64 pg,.int .i64 ms,.slice A3 fs.length c3,.pointer (some ⟨pm,0,none⟩),.int .i64 (T2.length:Int),.int .i64 ((1+zs_ T.length:Nat):Int),.int .i64 0];have hsz:=hc.size;have hsz1:=HC1.o.size;have hnD:∀{i:Nat},w1.heap.size<=i->i<w3.heap.size->i∉SK.D ⟨p,bL,bS,bW,gs,gN,[W.heap.size]⟩:=fun h1 h2 hm=>(by
     simp only[SK.D,List.mem_cons,List.not_mem_nil,or_false]at hm;have:=hlts p (by simp[SK.D]);have:=hlts bL (by simp[SK.D]);have:=hlts bS (by simp[SK.D]);have:=hlts bW (by simp[SK.D]);have:=hlts gs (by simp[SK.D]);have:=hlts gN (by simp[SK.D]);omega);refine HYES.o _ T q pg ms fs ⟨W.heap.size,pm,gC,gD,A3,c3⟩ gs gN s1 x1 hy HX1.o (by show w.heap.size<=W.heap.size;have:=hC13.size;omega) HG1.o.1 HG1.o.2 ?_ (HC1.o.new (hC13.trans (hc.trans hal)));refine { sto:=⟨v,Sto.more HS1.o (hC13.trans (hc.trans hal)) (q:=W.heap.size) (by have:=hC13.size;omega) hN.lt⟩,hin:=by simp,hne:=fun i hi e=>?_,rec_:=?_,fn:=hF.keep (hc.trans hal),fA:=fun h0 ad e=>hnD (Nat.le_trans h12 (hA3 ad e)) (hA4 h0 ad e),mm:=⟨[],[],hM.keep (hc.trans hal)⟩,far:=⟨hnD (Nat.le_trans h12 h1) hpm,hnD (Nat.le_trans h12 h2) hgC,hnD (Nat.le_trans h12 h3) hgD⟩,tS:=by show(zI_ pg ms fs).1.length<=2048;rw[<-hT2];exact hT2l,fS:=hfirst }
    · have h1:i<w1.heap.size:=hlts i (by simp only[SK.D,List.mem_cons,List.not_mem_nil,or_false]at hi⊢;omega);have h2:=hC13.size;have h3:i=W.heap.size:=e;omega
    · rw[hT2]at hN⊢;exact hN);have hal:=(Chg.refl [] w3).alloc (.cells #[.int .i64 pg,.int .i64 ms,.slice A3 fs.length c3] 25);have hNU:=zb_.new w3 25 [.int .i64 pg,.int .i64 ms,.slice A3 fs.length c3];have HTX4:=hQ_ (HTXT.o _ hal);have HC4:=hQ_ hal;have HU4:=hQ_ hNU;obtain⟨F1,hF1⟩:∃F1:Int,F1=((1+zs_ T.length:Nat):Int):=⟨_,rfl⟩;have hF2:F1=1+(zs_ T.length:Int):=(by rw[hF1];omega);rw[<-hF1]at HFIN;first
     | rw[<-hF1]
     | rw[<-hF2]
   generalize fs.length=fn at HFIN HTX4 HC4 HU4⊢;clear hF hsm hA3 hA4 hlts hC13 hpm hgC hgD h12 hmost HTXT hT2 hT2l hS hy hrd hTs hfirst hal hNU hok hM h1 h2 h3 hc3 hF1 hF2;go_upto_region 7 with fail;generalize w3.heap.size=gu at HU4⊢;generalize w3.alloc (.cells #[.int .i64 pg,.int .i64 ms,.slice A3 fn c3] 25)=w4 at HTX4 HC4 HU4⊢;have u0:=HU4.o.cell 0;have u1:=HU4.o.cell 1;have u2:=HU4.o.cell 2;go_upto_region 8 with(
    go_at_call 10;(with_reducible refine HTX4.o.mono ?_);rintro e w5 ⟨rfl,hc⟩;have HC5:=hQ_ (HC4.o.trans hc);have u0:=(HU4.o.keep hc).cell 0;have u1:=(HU4.o.keep hc).cell 1;have u2:=(HU4.o.keep hc).cell 2;clear hc);go_wp2_with fail;exact HFIN.o _ HC5.o
end
def dk0 (n:Nat):St:=⟨zm_ (n*64),zm_ (n*64),zH_ n⟩
theorem zjb (n:Nat):Gd (dk0 n):=by
 show(zm_ (n*64)).length=64*(zH_ n).length;simp[zm_,zH_];omega
theorem qd_ (n:Nat):(dk0 n).V.length=n:=by
 show(zH_ n).length=n;simp[zH_]
theorem zcD {zs:List (List UInt8)}{T T':List UInt8}{p p':Nat}{pg ms pg' ms':Int}{fs fs':List FnV}(h:ux_ zs T p pg ms fs)(h':ux_ zs T' p' pg' ms' fs'):T'=T/\p'=p/\pg'=pg/\ms'=ms/\fs'=fs:=by
 obtain⟨hy,hp,_⟩:=h;obtain⟨hy',hp',_⟩:=h';obtain⟨rfl,rfl⟩:=hy.one hy';rw[hp]at hp';injection hp' with _ e;injection e with e1 e;injection e with e2 e3;exact⟨rfl,rfl,e1.symm,e2.symm,e3.symm⟩
theorem zfv {zs:List (List UInt8)}{T:List UInt8}{p:Nat}{pg ms:Int}{fs:List FnV}{r:Int}(h:ux_ zs T p pg ms fs)(h':qF_ zs r):False:=by
 obtain⟨hy,hp,h1,h2,h3⟩:=h;rcases h' with⟨_,hn|⟨T',p',hy',hp'⟩⟩|⟨_,T',p',pg',ms',fs',hy',hp',hb⟩
 · exact hn ⟨T,p,hy⟩
 · obtain⟨rfl,_⟩:=hy.one hy';rw[hp]at hp';exact hp' rfl
 · obtain⟨rfl,rfl⟩:=hy.one hy';rw[hp]at hp';injection hp' with _ e;injection e with e1 e;injection e with e2 e3;omega
theorem zis {pg ms:Int} {l:List FnV} {P:Nat} (hE:(zI_ pg ms l).2=0) (hn:xj_ (zI_ pg ms l).1 (zI_ pg ms l).2 ms<=(P:Int)) :
    ux_ (jd_ (zI_ pg ms l).1 pg.toNat P (1+zs_ (zI_ pg ms l).1.length+pg.toNat)) (zI_ pg ms l).1 pg.toNat pg ms (l.map z2_) /\
    (((jd_ (zI_ pg ms l).1 pg.toNat P (1+zs_ (zI_ pg ms l).1.length+pg.toNat)).drop (1+zs_ (zI_ pg ms l).1.length)).take pg.toNat).flatten=zm_ (pg.toNat*64):=by
        obtain⟨g0,g1,g2⟩:=(xc_ pg ms l).2 hE;have hTl:=(xc_ pg ms l).1;have hnz:xj_ (zI_ pg ms l).1 (zI_ pg ms l).2 ms=1+(zs_ (zI_ pg ms l).1.length:Int)+ms:=(by unfold xj_;rw[if_pos hE]);rw[hnz]at hn;have hr:yf_ pg ms l=0:=(by
         by_cases hr:yf_ pg ms l=0
         · exact hr
         · have hu:zI_ pg ms l=([],yf_ pg ms l):=(by unfold zI_;rw[if_neg hr]);rw[hu]at hE;exact absurd hE hr);have hu:zI_ pg ms l=if 2048<(utx pg ms l).length then ([],3) else (utx pg ms l,0):=(by unfold zI_;rw[if_pos hr]);have hlen:(utx pg ms l).length<=2048:=by
         rcases Nat.lt_or_ge 2048 (utx pg ms l).length with h|h
         · rw[hu,if_pos h]at hE;cases hE
         · exact h
        have hu2:(zI_ pg ms l).1=utx pg ms l:=(by rw[hu,if_neg (by omega)]);have hR:=zgg (zI_ pg ms l).1 pg.toNat P hTl (by omega) (by omega);have hzl:=v1_ (zI_ pg ms l).1 pg.toNat P (1+zs_ (zI_ pg ms l).1.length+pg.toNat) (Nat.le_refl _) (by omega);refine⟨⟨hR.1,?_,by rw[hzl];omega,by omega,by omega⟩,hR.2⟩;rw[hu2];exact zff (vO_.1 hr) hlen
section
variable {w:World} {A:Option Addr} {n c L P N:Nat} {l:List FnV} {pg ms:Int}
structure Fit (pg ms:Int) (l:List FnV) (L P:Nat):Prop where
  e0:(zI_ pg ms l).2=0
  need:xj_ (zI_ pg ms l).1 (zI_ pg ms l).2 ms<=(P:Int)
  fits:yI_ (L:Int) 0 ((1+zs_ (zI_ pg ms l).1.length+pg.toNat:Nat):Int)=true
def gh_ (E0:Nat)(p bL bS bW L P:Nat)(pg ms:Int)(l:List FnV)(W:World):Prop :=
 ∃s' x',z9_ W p bL bS bW s'/\Kept s' x' []/\x'.L=L/\x'.P=P/\x'.E=E0+1/\x'.pages=jd_ (zI_ pg ms l).1 pg.toNat P (1+zs_ (zI_ pg ms l).1.length+pg.toNat)/\¬zR_ (xI_ s' L) (E0+2) 0
theorem zdL {p bL bS bW E0 nV:Nat}{s0:St}(hr:zp_ L P 1 nV=true)(hd:z9_ w p bL bS bW s0)(hE0:1<=E0/\E0<=1000)(hO:∀W,z9_ W p bL bS bW s0->Calls Tryz.prog 41 #[.pointer (some ⟨p,0,none⟩)] W (uo_ E0 W p bL bS bW L P nV))(hF:Fnr w A n c l)(hsm:∀f∈l,f.code.size<=9223372036854775807)(hA:0<n->∀ad,A=some ad->ad.block∉[bL,bS,bW])(hP:∀W,Chg [bL,bS,bW] w W->vG_ W.heap.size W)(hfit:Fit pg ms l L P) :
    Calls Tryz.prog 16 #[.pointer (some ⟨p,0,none⟩),.agg #[.int .i64 pg,.int .i64 ms,.slice A n c]] w (fun e w'=>e=.returned (.int .i64 0)/\gh_ E0 p bL bS bW L P pg ms l w'/\Chg [bL,bS,bW] w w') :=
 (zcv hr hd hE0 hO hF hsm hA hP).mono fun e w' h=>by
   rcases h with⟨r,_,_,hbad,_⟩|⟨_,_,h1,⟨s',x',h2,h3,h4,h5,h6,h7,h8,_⟩,h9⟩
   · exfalso;have h1:=hfit.e0;have h2:=hfit.need;have h3:=hfit.fits;rcases hbad with h|h|h
     · exact h h1
     · omega
     · rw[h3]at h;cases h
   · exact⟨h1,⟨s',x',h2,h3,h4,h5,h6,h7,h8⟩,h9⟩
theorem zii {p bL bS bW:Nat}{s:St}(hg:Gd s)(hr:zp_ L P 1 s.V.length=true)(hd:z9_ w p bL bS bW (fmt s L P))(hF:Fnr w A n c l)(hsm:∀f∈l,f.code.size<=9223372036854775807)(hA:0<n->∀ad,A=some ad->ad.block∉[bL,bS,bW])(hP:∀W,Chg [bL,bS,bW] w W->vG_ W.heap.size W)(hfit:Fit pg ms l L P) :
    Calls Tryz.prog 16 #[.pointer (some ⟨p,0,none⟩),.agg #[.int .i64 pg,.int .i64 ms,.slice A n c]] w (fun e w'=>e=.returned (.int .i64 0)/\gh_ 2 p bL bS bW L P pg ms l w'/\Chg [bL,bS,bW] w w') :=
 zdL hr hd ⟨by omega,by omega⟩ (fun W h=>jV_ hg L P hr h) hF hsm hA hP hfit
theorem zcl {p bL bS bW E0:Nat}(hE0:E0<=1000)(hb:bL<w.heap.size/\bS<w.heap.size/\bW<w.heap.size)(hi:gh_ E0 p bL bS bW L P pg ms l w)(hP:∀W,Chg [bL,bS,bW] w W->vG_ W.heap.size W)(hfit:Fit pg ms l L P) :
    Calls Tryz.prog 17 #[.pointer (some ⟨p,0,none⟩)] w (fun e w'=>∃h g gN j s' x',j.h=h/\e=.returned (.tuple #[.pointer (some ⟨h,0,none⟩),.int .i64 0])/\w.heap.size<=h/\w.heap.size<=g/\w.heap.size<=gN /\
      Ho w' ⟨p,bL,bS,bW,g,gN,[h]⟩ s' x' j ⟨pg,ms,l.map z2_,(zI_ pg ms (l.map z2_)).1.length,1+zs_ (zI_ pg ms l).1.length,0,zm_ (pg.toNat*64),zH_ pg.toNat,ms.toNat⟩/\x'.L=L/\x'.P=P/\x'.E=E0+2/\x'.used=0/\x'.seq=0/\Chg [bL,bS,bW] w w'):=by
 obtain⟨s0,x0,h2,h3,h4,h5,h6,h7,h8⟩:=hi;obtain⟨hgy,hgz⟩:=zis hfit.e0 hfit.need;refine(zbh (zhv h2 h3 (by rw[h4,h6];exact h8) (by rw[h6];omega)) (fun s' x' h=>h.1) hP hb).mono fun e w' h=>?_;rw[h7]at h;rcases h with⟨r,hno,_⟩|⟨T,q,pg',ms',fs,j,g,gN,s',x',hy,hx,he,e1,e2,e3,hH,hc⟩
 · exact(zfv hgy hno).elim
 · obtain⟨rfl,rfl,rfl,rfl,rfl⟩:=zcD hgy hy;rw[hgz]at hH;obtain⟨_,x1,x2,x3,x4,x5⟩:=hx;exact⟨j.h,g,gN,j,s',x',rfl,he,e1,e2,e3,hH,by rw[x1,h4],by rw[x2,h5],by rw[x3,h6],x4,x5,hc⟩
end
theorem yc_ {w W W':World}{T:List Nat}(h:Chg [] w W)(k:Chg T W W')(hT:∀i∈T,w.heap.size<=i):Chg [] w W':=h.then_ k fun i hi hlt=>by have:=hT i hi;omega
theorem vt_ {w W:World}(hP:vG_ w.heap.size w)(hc:Chg [] w W):vG_ W.heap.size W:=(hP.keep (Nat.le_refl _) hc).less hc.size
theorem qa_ {w:World}{p bL bS bW N:Nat}(hd:z9_ w p bL bS bW (dk0 N)){L P:Nat}(h:zp_ (L:Int) (P:Int) 1 (N:Int)=true) :
    Calls Tryz.prog 15 #[.pointer (some ⟨p,0,none⟩),.int .i64 (L:Int),.int .i64 (P:Int)] w (fun e w'=>e=.returned (.int .i64 0)/\z9_ w' p bL bS bW (fmt (dk0 N) L P)/\Chg [bL,bS,bW] w w') :=
 (zfy hd (L:Int) (P:Int)).mono fun e w' hq=>by
   rw[zae,qd_]at hq;rcases hq with⟨_,h1,h2,h3⟩|⟨h0,_⟩
   · rw[Int.toNat_natCast,Int.toNat_natCast]at h2;exact⟨h1,h2,h3⟩
   · rw[h]at h0;cases h0
theorem zcL {w:World}(N:Nat)(h1:1<=N)(h2:N<=160) :
    Calls Tryz.prog 14 #[.int .i64 (N:Int)] w (fun e w'=>∃p bL bS bW,e=.returned (.pointer (some ⟨p,0,none⟩))/\z9_ w' p bL bS bW (dk0 N)/\w.heap.size<=p/\w.heap.size<=bL/\w.heap.size<=bS/\w.heap.size<=bW/\Chg [] w w'):=znS N h1 h2
structure CodeV where
  args:Nat
  ts:List TkV
  go:List Int
structure CallV where
  fn:Nat
  next:Nat
  loc:List Int
structure EgV where
  fuel:Nat
  st:List Int
  cs:List CallV
  L:List UInt8
  V:List Bool
  qs:List (Int×Int)
def CallV.at_ (c:CallV)(n:Nat):CallV:=⟨c.fn,n,c.loc⟩
def EgV.pop (s:EgV):Option (Int×EgV):=match s.st.getLast? with
  | none=>none
  | some x=>some (x,⟨s.fuel,s.st.dropLast,s.cs,s.L,s.V,s.qs⟩)
def EgV.push (s:EgV)(n:Int):EgV:=⟨s.fuel,s.st++[n],s.cs,s.L,s.V,s.qs⟩
def EgV.calls (s:EgV)(cs:List CallV):EgV:=⟨s.fuel,s.st,cs,s.L,s.V,s.qs⟩
def EgV.jump (s:EgV)(go:Int):Option EgV:=match s.cs.getLast? with
  | none=>none
  | some c=>if go<0 then none else some (s.calls (s.cs.dropLast++[c.at_ go.toNat]))
def zoZ (rs:List (Option Int))(k:Nat):Option Int:=if k<rs.length then rs.getD k none else some 0
def zhU (L:List UInt8)(k:Int)(s:Nat):Option Int:=if 0<=k/\k+s<=L.length then some (ldI L k.toNat s) else none
def ke_ (cd:List CodeV) (k:Nat) (s:EgV):Option EgV:=match cd[k]? with
  | none=>none
  | some f=>if s.st.length<f.args\/26<f.args then none
    else some ⟨s.fuel,s.st.take (s.st.length-f.args),s.cs++[⟨k,0,s.st.drop (s.st.length-f.args)++List.replicate (26-f.args) 0⟩],s.L,s.V,s.qs⟩
def y1_ (sg:Int)(s:EgV):Option (Int×EgV) :=
 if 97<=sg/\sg<=122 then (match s.cs.getLast? with
   | none=>none
   | some c=>match c.loc[(sg-97).toNat]? with
     | none=>none
     | some x=>some (0,s.push x))
 else if 65<=sg/\sg<=90 then (match s.pop with
   | none=>none
   | some (x,s')=>match s'.cs.getLast? with
     | none=>none
     | some c=>some (0,s'.calls (s'.cs.dropLast++[⟨c.fn,c.next,c.loc.set (sg-65).toNat x⟩])))
 else match (if sg=33 then some ((0:Int),s) else s.pop) with
   | none=>none
   | some (b,s1)=>match s1.pop with
     | none=>none
     | some (a,s2)=>some ((doR sg a b).2,if (doR sg a b).2=0 then s2.push (doR sg a b).1 else s2)
def zbR (most:Nat) (sg:Int) (s:EgV):Option (Int×EgV) :=
 if sg=35 then some (0,s.push (s.V.length:Int))
 else match s.pop with
   | none=>none
   | some (x,s1) =>
     if sg=164 then (if x<0\/(most:Int)-s.V.length<x then some (0,s1.push (-1))
       else some (0,⟨s1.fuel,s1.st++[(s.V.length:Int)],s1.cs,s1.L++List.replicate (64*x.toNat) 0,s1.V++List.replicate x.toNat true,s1.qs⟩))
     else if sg=64\/sg=169 then (match zhU s1.L x (if sg=64 then 8 else 1) with
       | none=>some (5,s1)
       | some n=>some (0,s1.push n))
     else match s1.pop with
       | none=>none
       | some (k,s2)=>if 0<=k/\k+(if sg=36 then 8 else 1)<=s2.L.length then
           some (0,⟨s2.fuel,s2.st,s2.cs,stL s2.L k.toNat x (if sg=36 then 8 else 1),stV s2.V k.toNat (if sg=36 then 8 else 1),s2.qs⟩)
         else some (5,s2)
def kd_ (us:List FnV)(cd:List CodeV)(rs:List (Option Int))(most:Nat)(t:TkV)(go:Int)(s:EgV):Option (Int×EgV) :=
 if t.sign=48 then some (0,s.push t.n)
 else if t.sign=46 then (match s.st.getLast? with|none=>none|some x=>some (0,s.push x))
 else if t.sign=44 then s.pop.map fun q=>(0,q.2)
 else if t.sign=63 then (match s.pop with
   | none=>none
   | some (x,s1)=>if x=0 then (s1.jump go).map fun z=>(0,z) else some (0,s1))
 else if t.sign=58\/t.sign=93\/t.sign=126 then (s.jump go).map fun z=>(0,z)
 else if t.sign=59\/t.sign=91 then some (0,s)
 else if t.sign=35\/t.sign=164\/t.sign=64\/t.sign=169\/t.sign=36\/t.sign=174 then zbR most t.sign s
 else if t.sign=955 then (if 32<=s.cs.length then some (6,s) else if yQ_ us t.name<0 then none else (ke_ cd (yQ_ us t.name).toNat s).map fun z=>(0,z))
 else if t.sign=960 then (match s.pop with
   | none=>none
   | some (x,s1)=>match zoZ rs s1.qs.length with
     | none=>some (7,⟨s1.fuel,s1.st,s1.cs,s1.L,s1.V,s1.qs++[(t.name,x)]⟩)
     | some n=>some (0,⟨s1.fuel,s1.st++[n],s1.cs,s1.L,s1.V,s1.qs++[(t.name,x)]⟩))
 else if t.sign=161 then some (2,s)
 else y1_ t.sign s
def ziX (us:List FnV) (cd:List CodeV) (rs:List (Option Int)) (most:Nat):Nat->EgV->Option (Int×EgV)
  | 0,_=>none
  | n+1,s=>match s.cs.getLast? with
    | none=>some (0,s)
    | some c=>match cd[c.fn]? with
      | none=>none
      | some f=>if c.next=f.ts.length then ziX us cd rs most n (s.calls s.cs.dropLast)
        else if s.fuel=0 then some (1,s)
        else match f.ts[c.next]?,f.go[c.next]? with
          | some t,some go=>(match kd_ us cd rs most t go ⟨s.fuel-1,s.st,s.cs.dropLast++[c.at_ (c.next+1)],s.L,s.V,s.qs⟩ with
            | none=>none
            | some (trap,s')=>if trap=0 then ziX us cd rs most n s' else some (trap,s'))
          | _,_=>none
def ve_ (f:FnV):CodeV:=match uJ_ f.code with
  | none=>⟨f.args.toNat,[],[]⟩
  | some ts=>match qC_ (yD_ ts) with
    | none=>⟨f.args.toNat,ts,[]⟩
    | some R=>⟨f.args.toNat,ts,R.1⟩
def eDo (us:List FnV)(rs:List (Option Int))(most k fuel:Nat)(args:List Int)(L:List UInt8)(V:List Bool)(qs:List (Int×Int)):Option (Int×Int×EgV) :=
 match ke_ (us.map ve_) k ⟨fuel,args,[],L,V,qs⟩ with
 | none=>none
 | some s=>match ziX us (us.map ve_) rs most (2*fuel+2) s with
   | none=>none
   | some (trap,s')=>if trap=0 then s'.pop.map fun q=>(q.1,trap,q.2) else some (0,trap,s')
theorem y8_ {w:World}{B g n cap:Nat}{e:TypeId}{xs:List Value}(h:w.ownsRow B e 1 (.slice (some ⟨g,0,none⟩) n cap) n xs):∃X:List Value,cap=n+X.length/\zb_ w g e (xs++X)/\cap<=maxLen/\xs.length=n:=by
 have hx:=h.1;rcases h.2 with⟨h',_⟩|⟨g',cap',cur,h',hb,hg,hnc,hcm,hcs,htake⟩
 · simp at h'
 · simp only[Value.slice.injEq,Option.some.injEq,Addr.mk.injEq,and_true,true_and]at h';obtain⟨rfl,rfl⟩:=h';rw[Nat.mul_one]at hcs htake hx;have hl:cur.toList.length=cap:=(by rw[Array.length_toList];exact hcs);refine⟨cur.toList.drop n,by rw[List.length_drop,hl];omega,?_,hcm,hx⟩;unfold zb_;rw[<-htake,List.take_append_drop];exact hg
theorem zmt {w:World}{g n:Nat}{e:TypeId}{xs X:List Value}(h:zb_ w g e (xs++X))(hx:xs.length=n)(hm:n+X.length<=maxLen):w.ownsRow 0 e 1 (.slice (some ⟨g,0,none⟩) n (n+X.length)) n xs:=by
 have:=zT_ (B:=0) (n:=n) h (Nat.zero_le _) (c:=n+X.length) (by rw[List.length_append,hx]) (by omega) hm;rwa[List.take_left' hx]at this
structure Gm (w:World) (p gC gD:Nat) (nC cC nD cD most:Nat) (xs:List Value) (ys:List Value):Prop where
  rec_:zb_ w p 105 [.slice (some ⟨gC,0,none⟩) nC cC,.int .i64 (most:Int),.slice (some ⟨gD,0,none⟩) nD cD]
  cel:w.ownsRow 0 5 1 (.slice (some ⟨gC,0,none⟩) nC cC) nC xs
  dir:w.ownsRow 0 4 1 (.slice (some ⟨gD,0,none⟩) nD cD) nD ys
theorem x9_ {w w':World}{T:List Nat}{B e g n cap:Nat}{xs:List Value}(h:w.ownsRow B e 1 (.slice (some ⟨g,0,none⟩) n cap) n xs)(hc:Chg T w w')(hg:g∉T):w'.ownsRow B e 1 (.slice (some ⟨g,0,none⟩) n cap) n xs:=by
 refine⟨h.1,?_⟩;rcases h.2 with h'|⟨g',cap',cur,h',hb,hgg,rest⟩
 · exact .inl h'
 · simp only[Value.slice.injEq,Option.some.injEq,Addr.mk.injEq,and_true,true_and]at h';obtain⟨rfl,rfl⟩:=h';have hlt:g<w.heap.size:=by
    rcases Nat.lt_or_ge g w.heap.size with hlt|hge
    · exact hlt
    · rw[Array.getElem?_eq_none hge]at hgg;cases hgg
   exact .inr ⟨g,cap,cur,rfl,hb,(hc.block g hlt hg).trans hgg,rest⟩
theorem zhJ {w:World}{B B' e e' g g' n n' c c':Nat}{xs ys:List Value}(h:w.ownsRow B e 1 (.slice (some ⟨g,0,none⟩) n c) n xs)(h':w.ownsRow B' e' 1 (.slice (some ⟨g',0,none⟩) n' c') n' ys)(hne:e≠e'):g≠g':=by
 obtain⟨X,_,hX,_⟩:=y8_ h;obtain⟨Y,_,hY,_⟩:=y8_ h';exact hX.ne_ hY hne
theorem xy_ {w:World}{B e e' g p n c:Nat}{xs cs:List Value}(h:w.ownsRow B e 1 (.slice (some ⟨g,0,none⟩) n c) n xs)(h':zb_ w p e' cs)(hne:e'≠e):p≠g:=by
 obtain⟨X,_,hX,_⟩:=y8_ h;exact h'.ne_ hX hne
section
variable {w w':World} {p gC gD nC cC nD cD most:Nat} {xs ys:List Value}
theorem Gm.keep (h:Gm w p gC gD nC cC nD cD most xs ys)(hc:Chg [] w w'):Gm w' p gC gD nC cC nD cD most xs ys:=⟨h.rec_.keep hc,zk_ h.cel hc,zk_ h.dir hc⟩
theorem Gm.cells_set (h:Gm w p gC gD nC cC nD cD most xs ys){g' n' c':Nat}{zs:List Value}{w2:World}(ho:w2.ownsRow 0 5 1 (.slice (some ⟨g',0,none⟩) n' c') n' zs)(hg:w.grownBy w2 (some gC)) :
    Gm (w2.setCell ⟨p,0,none⟩ (.slice (some ⟨g',0,none⟩) n' c')) p g' gD n' c' nD cD most zs ys/\zb_ w2 p 105 [.slice (some ⟨gC,0,none⟩) nC cC,.int .i64 (most:Int),.slice (some ⟨gD,0,none⟩) nD cD] /\
      Chg [p,gC] w (w2.setCell ⟨p,0,none⟩ (.slice (some ⟨g',0,none⟩) n' c')):=by
 have d1:=xy_ h.cel h.rec_ (by decide);have d2:=zhJ h.cel h.dir (by decide);have hc:Chg [gC] w w2:=Chg.of_grown hg (fun g e _=>by simp only[Option.some.injEq]at e;simp[e]);have hr:=h.rec_.chg hc (by simpa using d1);have hd:=x9_ h.dir hc (by simpa using Ne.symm d2);have d3:=xy_ ho hr (by decide);have d4:=xy_ hd hr (by decide);have hs:Chg [p] w2 (w2.setCell ⟨p,0,none⟩ (.slice (some ⟨g',0,none⟩) n' c')):=(Chg.refl [p] w2).setCell (by simp) _;refine⟨⟨hr.set_ 0 _,x9_ ho hs (by simpa using Ne.symm d3),x9_ hd hs (by simpa using Ne.symm d4)⟩,hr,?_⟩;exact(hc.sub (T':=[p,gC]) (by simp)).setCell (by simp) _
theorem Gm.dirty_set (h:Gm w p gC gD nC cC nD cD most xs ys){g' n' c':Nat}{zs:List Value}{w2:World}(ho:w2.ownsRow 0 4 1 (.slice (some ⟨g',0,none⟩) n' c') n' zs)(hg:w.grownBy w2 (some gD)) :
    Gm (w2.setCell ⟨p,2,none⟩ (.slice (some ⟨g',0,none⟩) n' c')) p gC g' nC cC n' c' most xs zs/\zb_ w2 p 105 [.slice (some ⟨gC,0,none⟩) nC cC,.int .i64 (most:Int),.slice (some ⟨gD,0,none⟩) nD cD] /\
      Chg [p,gD] w (w2.setCell ⟨p,2,none⟩ (.slice (some ⟨g',0,none⟩) n' c')):=by
 have d1:=xy_ h.dir h.rec_ (by decide);have d2:=zhJ h.cel h.dir (by decide);have hc:Chg [gD] w w2:=Chg.of_grown hg (fun g e _=>by simp only[Option.some.injEq]at e;simp[e]);have hr:=h.rec_.chg hc (by simpa using d1);have hd:=x9_ h.cel hc (by simpa using d2);have d3:=xy_ ho hr (by decide);have d4:=xy_ hd hr (by decide);have hs:Chg [p] w2 (w2.setCell ⟨p,2,none⟩ (.slice (some ⟨g',0,none⟩) n' c')):=(Chg.refl [p] w2).setCell (by simp) _;refine⟨⟨hr.set_ 2 _,x9_ hd hs (by simpa using Ne.symm d4),x9_ ho hs (by simpa using Ne.symm d3)⟩,hr,?_⟩;exact(hc.sub (T':=[p,gD]) (by simp)).setCell (by simp) _
end
section
variable {w:World} {p gC gD:Nat} {L:List UInt8} {X:List Value} {V:List Bool} {Y:List Value} {most:Nat}
theorem Mm.gm (h:Mm w p gC gD L X V Y most):Gm w p gC gD L.length (L.length+X.length) V.length (V.length+Y.length) most (bts L) (bls V) :=
 ⟨h.rec_,zmt h.cel (zg_ L) h.capX,zmt h.dir (ql_ V) h.capY⟩
theorem Gm.mm {nC cC nD cD:Nat}{xs ys:List Value}(h:Gm w p gC gD nC cC nD cD most xs ys)(hx:xs=bts L)(hy:ys=bls V)(h1:L.length=64*V.length)(h2:V.length<=most)(h3:most<=64):∃X Y,Mm w p gC gD L X V Y most:=by
 subst hx hy;obtain⟨X,eX,hX,mX,lX⟩:=y8_ h.cel;obtain⟨Y,eY,hY,mY,lY⟩:=y8_ h.dir;rw[zg_]at lX;rw[ql_]at lY;subst lX lY eX eY;exact⟨X,Y,h.rec_,hX,hY,h1,h2,h3,mX,mY⟩
theorem zok (h:Mm w p gC gD L X V Y most)(n:Int)(hn:n<0\/(most:Int)-V.length<n) :
    Calls Tryz.prog 155 #[.pointer (some ⟨p,0,none⟩),.int .i64 n] w fun e w'=>e=.returned (.int .i64 (-1))/\w=w':=by
 have c1:=h.rec_.cell 1;have b1:=h.le;have b2:=h.top;by_cases h0:n<0
 · have hd:decide (n<0)=true:=(by simpa using h0);clear hn;go_enter Tryz.func155,Tryz.ntmps155;go_wp2_with (go_at_call 57;refine(xf_ h).mono ?_;rintro e w' ⟨rfl,rfl⟩);go_ret;exact⟨rfl,rfl⟩
 · have hd:decide (n<0)=false:=(by simpa using h0);have hd2:decide ((most:Int)-(V.length:Int)<n)=true:=(by simp;omega);clear hn;go_enter Tryz.func155,Tryz.ntmps155;go_wp2_with (go_at_call 57;refine(xf_ h).mono ?_;rintro e w' ⟨rfl,rfl⟩);go_ret;exact⟨rfl,rfl⟩
def trs (k:Nat):List Bool:=List.replicate k true
def zmf (w:World)(p gC gD:Nat)(L:List UInt8)(V:List Bool)(most k:Nat)(e:Ending)(w':World):Prop :=
 ∃gC' gD' X' Y',e=.returned (.int .i64 (V.length:Int))/\Mm w' p gC' gD' (L++zm_ (64*k)) X' (V++trs k) Y' most/\Chg [p,gC,gD] w w'/\(gC'=gC\/w.heap.size<=gC')/\(gD'=gD\/w.heap.size<=gD')
theorem zgs (k:Nat):(trs k).length=k:=by simp[trs]
theorem zjY (j:Nat):bls (trs j)++[Value.bool true]=bls (trs (j+1)):=by
 unfold trs bls;rw[List.map_replicate,List.map_replicate,List.replicate_succ',]
theorem zkT {w:World}{B e n:Nat}{v:Value}{xs:List Value}(h:w.ownsRow B e 1 v (n+1) xs):∃g c,v=.slice (some ⟨g,0,none⟩) (n+1) c:=by
 rcases h.2 with⟨_,h'⟩|⟨g,c,_,h',_⟩
 · omega
 · exact⟨g,c,h'⟩
theorem zkb:Tryz.prog.underlying 2=some (.int .i64):=by kernel_rfl
theorem zlt (h:Mm w p gC gD L X V Y most)(k:Nat)(hk:V.length+k<=most) :
    Calls Tryz.prog 155 #[.pointer (some ⟨p,0,none⟩),.int .i64 (k:Int)] w (zmf w p gC gD L V most k):=by
 obtain⟨i,hi,hz,hs1,hb⟩:=info_parts j4_;obtain⟨i2,hi2,hz2,hs2,hb2⟩:=info_parts zbe;have c0:=h.rec_.cell 0;have c1:=h.rec_.cell 1;have b1:=h.small;have b2:=h.smallV;have b3:=h.top;have hlen:=h.len;have hd2:decide ((most:Int)-(V.length:Int)<(k:Int))=false:=by simp;omega
 obtain⟨g',cap',w2,hr,ho2,hg2,hor⟩:=xh_ (P:=Tryz.prog) w 0 39 2 39 5 i _ 1 .i64 Tryz.underlying39 zkb hi hz hs1 hb rfl rfl gC L.length (L.length+X.length) (bts L) h.gm.cel (k*64) (by unfold maxLen;omega) (by omega) (Nat.zero_le _);obtain⟨hG,hR2,hC2⟩:=h.gm.cells_set ho2 hg2;have c2:=hR2.cell 0;have f2:=hR2.frozen 0;have ek:((k*64:Nat):Int)=(k:Int)*64:=by omega
 rw[ek]at hr;have HG:=hQ_ hG;have HC:=hQ_ hC2;have HR:=hQ_ hr;have HL:=hQ_ hlen;have HH:=hQ_ h;have HO:=hQ_ hor;clear hG hC2 hr ho2 hg2 hR2 hlen ek hor;go_enter Tryz.func155,Tryz.ntmps155;go_wp2_with (first
  | (go_at_call 57;refine(xf_ HH.o).mono ?_;rintro e w' ⟨rfl,rfl⟩)
  | (at_builtin;refine Lib.wpList_append_run w rfl (.tmp 24) (.tmp 26) 39 2 rfl _ _ rfl rfl _ _ HR.o ?_));go_loopw [31] (fun i wr=>∃j:Nat,j<=k/\i=.int .i64 (j:Int)/\(∃gD' n' c',n'=V.length+j/\Gm wr p g' gD' (L.length+k*64) cap' n' c' most (bts L++List.replicate (k*64) (.int .u8 0)) (bls V++bls (trs j))/\(gD'=gD\/w.heap.size<=gD'))/\Chg [p,gC,gD] w wr) (fun i _=>k-(intOf i).toNat);case atStart=>exact⟨0,by omega,rfl,⟨gD,_,_,rfl,by simpa[trs,bls] using HG.o,.inl rfl⟩,HC.o.sub (by simp)⟩
 case round =>
  obtain⟨j,hj,rfl,⟨gE,n',c',hn',hGm,hgE⟩,hCr⟩:=hrel;have hn1:n'<=V.length+j:=by omega
  have HN:=hQ_ hn';have HGm:=hQ_ hGm;have HCr:=hQ_ hCr;have HE:=hQ_ hgE;clear c0 c1 c2 f2 hn' hgE;by_cases hlt:j<k
  · have c2:=hGm.rec_.cell 2;have hGa:=hGm.keep ((Chg.refl [] wr).alloc (.cells #[.bool true] 4));have HA:=hQ_ hGa;have hs2':Src (wr.alloc (.cells #[.bool true] 4)) (some ⟨wr.heap.size,0,none⟩) [.bool true]:=Src.of_all (zb_.new wr 4 [.bool true]);have h1:∀u∈[Value.bool true],u.oneCell'=true:=(by simp[Value.oneCell']);have x1:=hQ_ (show n'+1<=maxLen by unfold maxLen;omega);have x2:=hQ_ (show(n'+1)*1<=140737488355328 by omega);have HX:=hQ_ hs2';clear hCr hGm hGa hs2';go_wp2_with (
     at_builtin;refine zC_ rfl (.tmp 37) (.tmp 38) 99 rfl 0 4 i2 _ 1 Tryz.underlying99 hi2 hz2 hs2 hb2 rfl (.slice (some ⟨gE,0,none⟩) n' c') n' (bls V++bls (trs j)) rfl HA.o.dir (some ⟨wr.heap.size,0,none⟩) 1 1 [.bool true] rfl rfl HX.o h1 x1.out x2.out (Nat.zero_le _) ?_;intro v4 w4 ho4 hg4 hv4;obtain⟨g4,c4,rfl⟩:=zkT ho4;obtain⟨hG4,hR4,hC4⟩:=HA.o.dirty_set ho4 hg4;have HG4:=hQ_ hG4;have HC4:=hQ_ hC4;have HV4:=hQ_ hv4;have c24:=hR4.cell 2;have f24:=hR4.frozen 2;clear hG4 hR4 hC4 ho4 hg4 hv4);go_roundw;case rel =>
     have hsz:=HCr.o.size;refine⟨j+1,by omega,by go_num,⟨g4,n'+1,c4,by rw[HN.o];omega,?_,?_⟩,?_⟩
     · have:=HG4.o;rwa[List.append_assoc,zjY]at this
     · have hv:=HV4.o;simp only[Value.ownBlock,Option.some.injEq,World.size_alloc]at hv;rcases hv with hv|hv
       · rw[hv];exact HE.o
       · right;omega
     · refine(HCr.o.alloc _).then_ HC4.o fun q hq hlt=>?_;simp only[List.mem_cons,List.not_mem_nil,or_false]at hq⊢;rcases hq with rfl|rfl
       · exact .inl rfl
       · rcases HE.o with rfl|hE
         · exact .inr (.inr rfl)
         · omega
    case measure=>simp[intOf]<;>omega
  · obtain rfl:j=k:=(by omega);go_wp2_with fail;go_ret;have hn:=HN.o;have hO:=HO.o;have hL:=HL.o;obtain⟨X',Y',hM⟩:=HGm.o.mm (L:=L++zm_ (64*j)) (V:=V++trs j) (by simp[bts,zm_,B8,Nat.mul_comm]) (by simp[bls]) (by rw[List.length_append,List.length_append,zE_,zgs];omega) (by rw[List.length_append,zgs];omega) b3;exact⟨g',gE,X',Y',rfl,hM,HCr.o,by omega,HE.o⟩
end
def clC (c:CallV):List Value:=[.int .i64 (c.fn:Int),.int .i64 (c.next:Int)]++nms c.loc
def gc_:List CallV->List Value
  | []=>[]
  | x::l=>clC x++gc_ l
def xG_ (cs:List CallV):Prop:=∀c∈cs,c.loc.length=26
theorem qf_ {c:CallV}(h:c.loc.length=26):(clC c).length=28:=by simp[clC,xi_,h]
theorem xG_.head {c:CallV}{cs:List CallV}(h:xG_ (c::cs)):c.loc.length=26:=h c (by simp)
theorem xG_.tail {c:CallV}{cs:List CallV}(h:xG_ (c::cs)):xG_ cs:=fun x hx=>h x (by simp[hx])
theorem xG_.app {cs:List CallV}{c:CallV}:xG_ (cs++[c])↔xG_ cs/\c.loc.length=26 :=
 ⟨fun h=>⟨fun x hx=>h x (by simp[hx]),h c (by simp)⟩,fun h x hx=>by
  rcases List.mem_append.1 hx with hx|hx
  · exact h.1 x hx
  · rw[List.mem_singleton]at hx;subst hx;exact h.2⟩
theorem ug_:∀{l:List CallV},xG_ l->(gc_ l).length=l.length*28
  | [],_=>rfl
  | x::l,h=>by rw[gc_,List.length_append,ug_ h.tail,qf_ h.head,List.length_cons];omega
theorem uh_:∀l m,gc_ (l++m)=gc_ l++gc_ m
  | [],_=>rfl
  | x::l,m=>by rw[List.cons_append,gc_,gc_,uh_ l m,List.append_assoc]
theorem jr_ (x:CallV):gc_ [x]=clC x:=by simp[gc_]
theorem zjj {ys:List CallV}{x:CallV}(h:xG_ (ys++[x]))(j:Nat):(gc_ (ys++[x]))[ys.length*28+j]?=(clC x)[j]?:=by
 rw[uh_,jr_,List.getElem?_append_right (by rw[ug_ (xG_.app.1 h).1];omega),ug_ (xG_.app.1 h).1];congr 1;omega
theorem zlK {ys:List CallV}{x y:CallV}(h:xG_ (ys++[x]))(j:Nat)(u:Value)(hu:(clC x).set j u=clC y):(gc_ (ys++[x])).set (ys.length*28+j) u=gc_ (ys++[y]):=by
 rw[uh_,jr_,List.set_append_right _ _ (by rw[ug_ (xG_.app.1 h).1];omega),ug_ (xG_.app.1 h).1,show ys.length*28+j-ys.length*28=j by omega,hu,uh_,jr_]
structure CdV where
  c:CodeV
  tv:Value
  gv:Value
def cdC (x:CdV):List Value:=[.int .i64 (x.c.args:Int),x.tv,x.gv]
def zbT:List CdV->List Value
  | []=>[]
  | x::l=>cdC x++zbT l
theorem zej:∀l m,zbT (l++m)=zbT l++zbT m
  | [],_=>rfl
  | x::l,m=>by rw[List.cons_append,zbT,zbT,zej l m,List.append_assoc]
theorem zlM (x:CdV):zbT [x]=cdC x:=by simp[zbT]
theorem kh_:∀(l:List CdV)(k:Nat)(x:CdV)(j:Nat),l[k]?=some x->j<3->(zbT l)[k*3+j]?=(cdC x)[j]?
  | [],k,x,j,h,hj=>by simp at h
  | y::l,0,x,j,h,hj=>by
    simp at h;subst h;rw[zbT,List.getElem?_append_left (by simp[cdC];omega)];congr 1;omega
  | y::l,k+1,x,j,h,hj=>by
    simp at h;rw[zbT,List.getElem?_append_right (by simp[cdC];omega)];rw[<-kh_ l k x j h hj];congr 1;simp[cdC];omega
structure Cods (W:World) (v:Value) (xs:List CdV):Prop where
  own:W.ownsRow 0 165 3 v xs.length (zbT xs)
  toks:∀x∈xs,W.ownsRow 0 132 3 x.tv x.c.ts.length (vC_ x.c.ts)
  gos:∀x∈xs,W.ownsRow 0 3 1 x.gv x.c.go.length (nms x.c.go)
  few:∀x∈xs,x.c.ts.length<=512/\x.c.go.length=x.c.ts.length
  lenb:xs.length<=32
theorem Cods.keep {W W':World}{v:Value}{xs:List CdV}(h:Cods W v xs)(hc:Chg [] W W'):Cods W' v xs :=
 ⟨zf_ h.own hc,fun x hx=>zf_ (h.toks x hx) hc,fun x hx=>zf_ (h.gos x hx) hc,h.few,h.lenb⟩
theorem Cods.fe {W W':World}{v:Value}{xs:List CdV}{K:Nat->Prop}{TS:List TypeId}(h:Cods W v xs)(hf:Fe K TS W W')(h1:165∉TS)(h2:132∉TS)(h3:3∉TS):Cods W' v xs :=
 ⟨hf.own h.own h1,fun x hx=>hf.own (h.toks x hx) h2,fun x hx=>hf.own (h.gos x hx) h3,h.few,h.lenb⟩
structure EP where
  g:Nat
  us:List FnV
  pages:Int
  mst:Int
  A:Option Addr
  n:Nat
  c:Nat
  cv:Value
  xs:List CdV
  p:Nat
  most:Nat
  rp:Nat
  rs:List (Option Int)
  B:Nat
  T:List Nat
def EP.K (P:EP):Nat->Prop:=fun k=>P.B<=k\/k∈P.T
abbrev egT:List TypeId:=[112,2,169,105,5,4,117,267]
def wkC (P:EP)(fuel:Nat)(vs vc:Value):List Value:=[.int .i64 P.pages,.int .i64 P.mst,.slice P.A P.n P.c,P.cv,.pointer (some ⟨P.p,0,none⟩),.pointer (some ⟨P.rp,0,none⟩),.int .i64 (fuel:Int),vs,vc]
structure Eg (P:EP) (W:World) (vs vc:Value) (s:EgV):Prop where
  rec_:zb_ W P.g 112 (wkC P s.fuel vs vc)
  stk:W.ownsRow P.B 2 1 vs s.st.length (nms s.st)
  cal:W.ownsRow P.B 169 28 vc s.cs.length (gc_ s.cs)
  mem:∃gC gD X Y,Mm W P.p gC gD s.L X s.V Y P.most/\P.K gC/\P.K gD
  row:∃a q,Rq W P.rp P.rs s.qs a q/\∀i,q.ownBlock=some i->P.K i
  cod:Cods W P.cv P.xs
  fns:Fnr W P.A P.n P.c P.us
  foff:∀ad,P.A=some ad->¬P.K ad.block
  gB:P.B<=P.g
  room:P.B<=W.heap.size
  pK:P.K P.p
  rK:P.K P.rp
  loc:xG_ s.cs
  fuelb:s.fuel<=1048576
  stkb:s.st.length+s.fuel<=3000000
  calb:s.cs.length<=32
  qsb:s.qs.length+s.fuel<=900000000
theorem EP.new (P:EP){k:Nat}(h:P.B<=k):P.K k:=.inl h
theorem Src.fe {K:Nat->Prop}{TS:List TypeId}{W W':World}{A:Option Addr}{xs:List Value}(h:Src W A xs)(hf:Fe K TS W W')(hA:∀ad,A=some ad->¬K ad.block):Src W' A xs:=by
 intro h0;obtain⟨ad,rfl,hlt,hx⟩:=h h0;have hb:=hf.block ad.block hlt (.inl (hA ad rfl));refine⟨ad,rfl,Nat.lt_of_lt_of_le hlt hf.size,fun j u hj=>?_⟩;have:=hx j u hj;rw[<-this];have e2:(ad.add j).block=ad.block:=by unfold Addr.add;split<;>rfl
 refine World.cell?_of_block (w:=W) ?_;rw[e2];exact hb
section
variable {P:EP} {W W':World} {vs vc:Value} {s:EgV}
theorem Eg.keep (h:Eg P W vs vc s)(hc:Chg [] W W'):Eg P W' vs vc s:=by
 obtain⟨gC,gD,X,Y,hM,h1,h2⟩:=h.mem;obtain⟨a,q,hR,h3⟩:=h.row;exact { h with rec_:=h.rec_.keep hc,stk:=zf_ h.stk hc,cal:=zf_ h.cal hc,mem:=⟨gC,gD,X,Y,hM.keep hc,h1,h2⟩,row:=⟨a,q,hR.keep hc,h3⟩,cod:=h.cod.keep hc,fns:=h.fns.keep hc,room:=Nat.le_trans h.room hc.size }
theorem Eg.kg (h:Eg P W vs vc s):P.K P.g:=.inl h.gB
theorem Fnr.fe {K:Nat->Prop}{TS:List TypeId}{A:Option Addr}{n c:Nat}{l:List FnV}(h:Fnr W A n c l)(hf:Fe K TS W W')(hA:∀ad,A=some ad->¬K ad.block):Fnr W' A n c l:={ h with src:=h.src.fe hf hA }
theorem Eg.sslice (h:Eg P W vs vc s):∃A n c,vs=.slice A n c/\n=s.st.length/\n<=c:=by
 obtain⟨A,c,e,hc,_⟩:=zh_ h.stk;exact⟨A,_,c,e,rfl,hc⟩
theorem Eg.cslice (h:Eg P W vs vc s):∃A n c,vc=.slice A n c/\n=s.cs.length/\n<=c:=by
 obtain⟨A,c,e,hc,_⟩:=zh_ h.cal;exact⟨A,_,c,e,rfl,hc⟩
theorem Eg.upd {vs' vc':Value}{fuel:Nat}{st:List Int}{cs:List CallV}{TS:List TypeId}(h:Eg P W vs vc s)(hf:Fe P.K TS W W')(hT:∀t∈TS,t=112\/t=2\/t=169)
    (h1:zb_ W' P.g 112 (wkC P fuel vs' vc')) (h2:W'.ownsRow P.B 2 1 vs' st.length (nms st)) (h3:W'.ownsRow P.B 169 28 vc' cs.length (gc_ cs)) (h4:xG_ cs) (h5:fuel<=s.fuel) (h6:st.length+fuel<=3000000) (h7:cs.length<=32) :
    Eg P W' vs' vc' ⟨fuel,st,cs,s.L,s.V,s.qs⟩:=by
 obtain⟨gC,gD,X,Y,hM,k1,k2⟩:=h.mem;obtain⟨a,q,hR,k3⟩:=h.row;have no:∀t:TypeId,t≠112->t≠2->t≠169->t∉TS:=fun t a b c hm=>by
  rcases hT t hm with h|h|h
  · exact a h
  · exact b h
  · exact c h
 exact { rec_:=h1,stk:=h2,cal:=h3,mem:=⟨gC,gD,X,Y,hf.mm hM (no _ (by decide) (by decide) (by decide)) (no _ (by decide) (by decide) (by decide)) (no _ (by decide) (by decide) (by decide)),k1,k2⟩,
         row:=⟨a,q,hR.fe hf (no _ (by decide) (by decide) (by decide)) (no _ (by decide) (by decide) (by decide)) (no _ (by decide) (by decide) (by decide)),k3⟩,
         cod:=h.cod.fe hf (no _ (by decide) (by decide) (by decide)) (no _ (by decide) (by decide) (by decide)) (no _ (by decide) (by decide) (by decide)),
         fns:=h.fns.fe hf h.foff,foff:=h.foff,gB:=h.gB,room:=Nat.le_trans h.room hf.size,pK:=h.pK,rK:=h.rK,loc:=h4,fuelb:=by have:=h.fuelb;show fuel<=_;omega,stkb:=h6,calb:=h7,qsb:=by have:=h.qsb;show s.qs.length+fuel<=_;omega }
end
theorem uX_ {s s1:EgV}{x:Int}(h:s.pop=some (x,s1)):s1.cs=s.cs:=by
 unfold EgV.pop at h;split at h
 · cases h
 · injection h with h;injection h with _ h;subst h;rfl
theorem zih {s s1:EgV}{v:Int}(h:s.jump v=some s1):s1.cs.length=s.cs.length:=by
 unfold EgV.jump at h;split at h
 · cases h
 · rename_i c hc;split at h
   · cases h
   · injection h with h;subst h;have:0<s.cs.length:=List.length_pos_iff.2 (fun e=>by rw[e]at hc;simp at hc);simp[EgV.calls];omega
theorem zoz {cd:List CodeV}{k:Nat}{s s1:EgV}(h:ke_ cd k s=some s1):s1.cs.length=s.cs.length+1:=by
 unfold ke_ at h;split at h
 · cases h
 · split at h
   · cases h
   · injection h with h;subst h;simp
theorem zps {most:Nat}{sg tr:Int}{s s1:EgV}(h:zbR most sg s=some (tr,s1)):s1.cs=s.cs:=by
 unfold zbR at h;split at h
 · injection h with h;injection h with _ h;subst h;rfl
 · split at h
   · cases h
   · rename_i x s2 hp;have e:=uX_ hp;split at h
     · split at h<;>(injection h with h;injection h with _ h;subst h;exact e)
     · split at h
       · split at h<;>(injection h with h;injection h with _ h;subst h;exact e)
       · split at h
         · cases h
         · rename_i k s3 hp3;have e3:=uX_ hp3;by_cases hc:0<=k/\k+(if sg=36 then 8 else 1)<=(s3.L.length:Int)
           · rw[if_pos hc]at h;injection h with h;injection h with _ h;subst h;exact e3.trans e
           · rw[if_neg hc]at h;injection h with h;injection h with _ h;subst h;exact e3.trans e
theorem zhd {sg tr:Int}{s s1:EgV}(h:y1_ sg s=some (tr,s1)):s1.cs.length<=s.cs.length+1:=by
 unfold y1_ at h;split at h
 · split at h
   · cases h
   · split at h
     · cases h
     · injection h with h;injection h with _ h;subst h;simp[EgV.push]
 · split at h
   · split at h
     · cases h
     · rename_i x s2 hp;have e:=uX_ hp;split at h
       · cases h
       · injection h with h;injection h with _ h;subst h;simp[EgV.calls,e]
   · have hb:∀b s2,(if sg=33 then some ((0:Int),s) else s.pop)=some (b,s2)->s2.cs=s.cs:=fun b s2 hh=>(by
      by_cases h33:sg=33
      · rw[if_pos h33]at hh;injection hh with hh;injection hh with _ hh;subst hh;rfl
      · rw[if_neg h33]at hh;exact uX_ hh);generalize (if sg=33 then some ((0:Int),s) else s.pop)=q at h hb;cases q with
     | none=>cases h
     | some q =>
       obtain⟨b,s2⟩:=q;have e:=hb b s2 rfl;simp only at h;split at h
       · cases h
       · rename_i a s3 hp;have e3:=uX_ hp;injection h with h;injection h with _ h;subst h;split
         · show s3.cs.length<=_;rw[e3,e];omega
         · rw[e3,e];omega
theorem zgH {us:List FnV}{cd:List CodeV}{rs:List (Option Int)}{most:Nat}{t:TkV}{v tr:Int}{s s1:EgV}(h:kd_ us cd rs most t v s=some (tr,s1)):s1.cs.length<=s.cs.length+1:=by
 have fin:∀{q:Option EgV},(∀z,q=some z->z.cs.length<=s.cs.length+1)->q.map (fun z=>((0:Int),z))=some (tr,s1)->s1.cs.length<=s.cs.length+1:=fun {q} hq hh=>by
  cases q with
  | none=>cases hh
  | some z=>simp only[Option.map_some]at hh;injection hh with hh;injection hh with _ hh;subst hh;exact hq z rfl
 unfold kd_ at h;by_cases c1:t.sign=48
 · rw[if_pos c1]at h;injection h with h;injection h with _ h;subst h;simp[EgV.push]
 rw[if_neg c1]at h;by_cases c2:t.sign=46
 · rw[if_pos c2]at h;split at h
   · cases h
   · injection h with h;injection h with _ h;subst h;simp[EgV.push]
 rw[if_neg c2]at h;by_cases c3:t.sign=44
 · rw[if_pos c3]at h;cases hp:s.pop with
   | none=>rw[hp]at h;cases h
   | some q =>
     obtain⟨x,s2⟩:=q;rw[hp]at h;simp only[Option.map_some]at h;injection h with h;injection h with _ h;subst h;rw[uX_ hp];omega
 rw[if_neg c3]at h;by_cases c4:t.sign=63
 · rw[if_pos c4]at h;split at h
   · cases h
   · rename_i x s2 hp;have e:=uX_ hp;split at h
     · exact fin (fun z hz=>by rw[zih hz,e];omega) h
     · injection h with h;injection h with _ h;subst h;rw[e];omega
 rw[if_neg c4]at h;by_cases c5:t.sign=58\/t.sign=93\/t.sign=126
 · rw[if_pos c5]at h;exact fin (fun z hz=>by rw[zih hz];omega) h
 rw[if_neg c5]at h;by_cases c6:t.sign=59\/t.sign=91
 · rw[if_pos c6]at h;injection h with h;injection h with _ h;subst h;omega
 rw[if_neg c6]at h;by_cases c7:t.sign=35\/t.sign=164\/t.sign=64\/t.sign=169\/t.sign=36\/t.sign=174
 · rw[if_pos c7]at h;rw[zps h];omega
 rw[if_neg c7]at h;by_cases c8:t.sign=955
 · rw[if_pos c8]at h;split at h
   · injection h with h;injection h with _ h;subst h;omega
   · split at h
     · cases h
     · exact fin (fun z hz=>by rw[zoz hz];omega) h
 rw[if_neg c8]at h;by_cases c9:t.sign=960
 · rw[if_pos c9]at h;split at h
   · cases h
   · rename_i x s2 hp;have e:=uX_ hp;split at h
     · injection h with h;injection h with _ h;subst h;simp[e]
     · injection h with h;injection h with _ h;subst h;simp[e]
 rw[if_neg c9]at h;by_cases c10:t.sign=161
 · rw[if_pos c10]at h;injection h with h;injection h with _ h;subst h;omega
 · rw[if_neg c10]at h;exact zhd h
theorem zij:(Tryz.prog.info? 165).map (fun i=>(i.zero,i.size,i.bytes))=some (some (.agg #[.int .i64 0,.slice none 0 0,.slice none 0 0]),3,56):=by kernel_rfl
def zeu (l:List FnV):Prop:=∀f∈l,0<=f.args/\∃ts R,uJ_ f.code=some ts/\qC_ (yD_ ts)=some R
theorem zjh {f:FnV}{ts:List TkV}{R:List Int×Nat}(h1:uJ_ f.code=some ts)(h2:qC_ (yD_ ts)=some R):ve_ f=⟨f.args.toNat,ts,R.1⟩:=by
 unfold ve_;rw[h1];simp only;rw[h2]
structure Cdx (W:World) (xs:List CdV):Prop where
  toks:∀x∈xs,W.ownsRow 0 132 3 x.tv x.c.ts.length (vC_ x.c.ts)
  gos:∀x∈xs,W.ownsRow 0 3 1 x.gv x.c.go.length (nms x.c.go)
  few:∀x∈xs,x.c.ts.length<=512/\x.c.go.length=x.c.ts.length
theorem Cdx.keep {W W':World}{xs:List CdV}(h:Cdx W xs)(hc:Chg [] W W'):Cdx W' xs:=⟨fun x hx=>zf_ (h.toks x hx) hc,fun x hx=>zf_ (h.gos x hx) hc,h.few⟩
theorem Cdx.nil (W:World):Cdx W []:=⟨fun x hx=>by simp at hx,fun x hx=>by simp at hx,fun x hx=>by simp at hx⟩
theorem Cdx.cons {W:World}{xs:List CdV}{x:CdV}(h:Cdx W xs)(h1:W.ownsRow 0 132 3 x.tv x.c.ts.length (vC_ x.c.ts))(h2:W.ownsRow 0 3 1 x.gv x.c.go.length (nms x.c.go))(h3:x.c.ts.length<=512/\x.c.go.length=x.c.ts.length):Cdx W (xs++[x]):=by
 refine⟨fun y hy=>?_,fun y hy=>?_,fun y hy=>?_⟩<;>rcases List.mem_append.1 hy with hy|hy
 · exact h.toks y hy
 · rw[List.mem_singleton]at hy;subst hy;exact h1
 · exact h.gos y hy
 · rw[List.mem_singleton]at hy;subst hy;exact h2
 · exact h.few y hy
 · rw[List.mem_singleton]at hy;subst hy;exact h3
theorem Cdx.grown {W W':World}{B:Nat}{v:Value}{n:Nat}{ys:List Value}{xs:List CdV}(h:Cdx W xs)(ho:W.ownsRow B 165 3 v n ys)(hg:W.grownBy W' v.ownBlock):Cdx W' xs :=
 ⟨fun x hx=>yl_ (h.toks x hx) ho (by decide) hg,fun x hx=>yl_ (h.gos x hx) ho (by decide) hg,h.few⟩
def zbM (W:World)(l:List FnV)(e:Ending)(w':World):Prop:=∃v xs,e=.returned v/\w'.ownsRow W.heap.size 165 3 v xs.length (zbT xs)/\Cdx w' xs/\xs.map (·.c)=l.map ve_/\Chg [] W w'
section
variable {W:World} {A:Option Addr} {n c:Nat} {l:List FnV} {pages most:Int}
theorem zjg (h:Fnr W A n c l)(hr:zeu l)(h32:n<=32)(hsz:∀f∈l,f.code.size<=1000000):Calls Tryz.prog 52 #[yC_ pages most A n c] W (zbM W l):=by
 unfold yC_;obtain⟨i0,hi0,hz0,hz1,hz2⟩:=info_parts zij;have H:=hQ_ h;have HRD:=hQ_ hr;have HSZ:=hQ_ hsz;clear h hr hsz;go_enter Tryz.func52,Tryz.ntmps52;go_upto_region 2 with fail;have hN:=zb_.new W 25 [.int .i64 pages,.int .i64 most,.slice A n c];have hal:Chg [] W (W.alloc (.cells #[.int .i64 pages,.int .i64 most,.slice A n c] 25)):=(Chg.refl [] W).alloc _;have c2:=hN.cell 2;have HC:=hQ_ hal;obtain⟨g,hg⟩:∃g,g=W.heap.size:=⟨_,rfl⟩;rw[<-hg]at c2⊢;have HG:=hQ_ (show W.heap.size=g from hg.symm);generalize W.alloc (.cells #[.int .i64 pages,.int .i64 most,.slice A n c] 25)=w1 at c2 HC⊢;clear hN hal hg;go_wp2_with fail;go_loopw [3,13] (fun v i wr=>∃k:Nat,i=.int .i64 (k:Int)/\k<=n/\∃xs:List CdV,∃m:Nat,m=k/\Hid (m=xs.length)/\wr.ownsRow g 165 3 v m (zbT xs)/\Hid (Cdx wr xs)/\Hid (xs.map (·.c)=(l.take k).map ve_)/\Hid (Chg [] W wr)) (fun _ i _=>n-(intOf i).toNat);case atStart=>exact⟨0,rfl,by omega,[],0,rfl,hQ_ rfl,World.ownsRow_nil _ _ _ _,hQ_ (Cdx.nil _),hQ_ rfl,HC⟩
 case round =>
  obtain⟨k,rfl,hk,xs,m,hm,HXL,hown,HX,HM,HCr⟩:=hrel;obtain rfl:k=m:=hm.symm;clear hm;obtain⟨Av,cv,rfl,_⟩:=zh_ hown;have HOW:=hQ_ hown;clear hown;by_cases hkn:k<n
  · have hkI:(k:Int)<(n:Int):=(by omega);obtain⟨t,htk⟩:∃t,l[k]?=some t:=⟨l[k]'(by rw[H.o.len];exact hkn),by simp⟩;have hmem:t∈l:=List.mem_of_getElem? htk;obtain⟨ha0,ts,R,htok,hnest⟩:=HRD.o t hmem;have hcs:=HSZ.o t hmem;have HT:=hQ_ htk;have HTK:=hQ_ htok;have HNE:=hQ_ hnest;obtain⟨fb,fo,rfl,hfbl,e0,e1,e2⟩:=(H.o.keep HCr.o).cell htk;obtain⟨tn,ta,tc⟩:=t;simp only at e0 e1 e2 ha0 hcs htok;have ha:(ta.toNat:Int)=ta:=Int.toNat_of_nonneg ha0;have HA:=hQ_ ha;clear htk hmem htok hnest ha ha0;go_upto_region 5 with fail;have hX:=zb_.new wr 44 [.int .i32 tn,.int .i64 ta,.string tc];have x1:=hX.cell 1;have x2:=hX.cell 2;have hc2:=(Chg.refl [] wr).alloc (.cells #[.int .i32 tn,.int .i64 ta,.string tc] 44);have HC2:=hQ_ hc2;have HO2:=hQ_ (zf_ HOW.o hc2);generalize wr.heap.size=gx at x1 x2⊢;generalize wr.alloc (.cells #[.int .i32 tn,.int .i64 ta,.string tc] 44)=w3 at x1 x2 HC2 HO2⊢;clear hX e0 e1 e2 hfbl hc2;go_wp2_with fail;refine(uG_ tc (by omega)).mono ?_;rintro e w4 ⟨hc4,⟨ts',tv,ht',htl,rfl,ho4⟩|⟨hno,_⟩⟩;rotate_left
    · have:=HTK.o;rw[this]at hno;cases hno
    obtain rfl:ts=ts':=(by have:=HTK.o;rw[this]at ht';injection ht');obtain⟨At,ct,rfl,hTk⟩:=Tks.of_own ho4 (by omega);have HO4:=hQ_ (ym_ ho4 (Nat.zero_le _));have HC4:=hQ_ (HC2.o.new hc4);have y1:=zd_ x1 hc4;have HTS:=hQ_ hTk;have HTL:=hQ_ htl;clear hc4 x1 x2 ho4 hTk ht';go_wp2_with fail;refine(zhE HTS.o).mono ?_;rintro e w5 ⟨hc5,⟨tl,dd,gt,hto,htol,rfl,hW⟩|⟨hno,_⟩⟩;rotate_left
    · rw[uZ_,HNE.o]at hno;cases hno
    have hRe:R.1=tl:=(by rw[uZ_,HNE.o]at hto;injection hto with hto;rw[hto]);have HW5:=hQ_ hW;have z1:=zd_ y1 hc5;have HC5:=hQ_ (HC4.o.new hc5);have HO5:=hQ_ (zf_ HO4.o hc5);obtain⟨N,hN⟩:∃N,N=ts.length:=⟨_,rfl⟩;rw[<-hN]at HO5 htol htl⊢;have HTOK5:=hQ_ (show w5.ownsRow 0 132 3 (.slice At N ct) N (vC_ ts) from HO5.o);obtain⟨x,hx⟩:∃x:CdV,x=⟨⟨ta.toNat,ts,tl⟩,.slice At N ct,.slice (some ⟨gt,0,none⟩) N N⟩:=⟨_,rfl⟩;have HCX:=hQ_ (show cdC x=[.int .i64 ta,.slice At N ct,.slice (some ⟨gt,0,none⟩) N N] from by rw[hx];simp only[cdC];rw[HA.o]);have HGO5:=hQ_ (show w5.ownsRow 0 3 1 (.slice (some ⟨gt,0,none⟩) N N) N (nms tl) from by
     have:=zT_ (B:=0) (n:=N) (c:=N) HW5.o (Nat.zero_le _) (by rw[xi_];exact htol) (Nat.le_refl _) (by unfold maxLen;omega);rwa[List.take_of_length_le (by rw[xi_];omega)]at this);have HXC:=hQ_ (show x.c=ve_ ⟨tn,ta,tc⟩ from by rw[hx,zjh HTK.o HNE.o,hRe]);have HXX:=hQ_ (show w5.ownsRow 0 132 3 x.tv x.c.ts.length (vC_ x.c.ts)/\w5.ownsRow 0 3 1 x.gv x.c.go.length (nms x.c.go)/\(x.c.ts.length<=512/\x.c.go.length=x.c.ts.length) from by
     rw[hx];refine⟨by rw[<-hN];exact HTOK5.o,by rw[htol];exact HGO5.o,by rw[<-hN];exact htl,by rw[htol,hN]⟩);clear hc5 y1 hW hto hRe hN hx htol htl HO4 HTOK5 HGO5 HO5 HW5 HTS;have hal:Chg [] w5 (w5.alloc (.cells #[.int .i64 ta,.slice At N ct,.slice (some ⟨gt,0,none⟩) N N] 165)):=(Chg.refl [] w5).alloc _;have hc35:Chg [] wr w5:=HC5.o;have HO6:=hQ_ (zf_ (zf_ HOW.o hc35) hal);have HBZ:=hQ_ (show g<=(w5.alloc (.cells #[.int .i64 ta,.slice At N ct,.slice (some ⟨gt,0,none⟩) N N] 165)).heap.size from by have:=HG.o;have h1:=(HCr.o.new hc35).size;have h2:=hal.size;omega);have HAL:=hQ_ hal;clear hal hc35;go_wp2_with (
     at_builtin;refine wpList_append_own _ rfl (.tmp 28) (.tmp 34) _ rfl g 165 i0 _ 3 56 Tryz.underlying108 hi0 hz0 hz1 hz2 rfl (by decide) (.slice Av k cv) k (zbT xs) rfl HO6.o ⟨w5.heap.size,0,none⟩ 1 1 [.int .i64 ta,.slice At N ct,.slice (some ⟨gt,0,none⟩) N N] rfl rfl (vh_ _ _ _) (by simp[Value.oneCell']) (by simp only[maxLen];omega) (by omega) HBZ.o ?_;intro v' w6 ho hg _;have HO7:=hQ_ ho;have HG7:=hQ_ hg;obtain⟨A7,c7,rfl,_⟩:=zh_ ho;clear ho hg);go_roundw;case rel =>
     have hcx:=(HX.o.keep (HC5.o)).cons HXX.o.1 HXX.o.2.1 HXX.o.2.2;refine⟨k+1,by go_num,by omega,xs++[x],k+1,rfl,hQ_ (by rw[List.length_append,List.length_singleton,<-HXL.o]),?_,hQ_ ((hcx.keep HAL.o).grown HO6.o HG7.o),hQ_ ?_,hQ_ ?_⟩
     · rw[zej,zlM,HCX.o];exact HO7.o
     · rw[List.map_append,HM.o,List.take_succ_eq_append_getElem (by rw[H.o.len];exact hkn),List.map_append];congr 1;have:=HT.o;simp only[List.map_cons,List.map_nil];rw[HXC.o];congr 2;rw[List.getElem?_eq_getElem (by rw[H.o.len];exact hkn)]at this;injection this with this;exact this.symm
     · exact xD_ ((HCr.o.new HC5.o).new HAL.o) HG7.o fun q hq=>by have:=(HO6.o.lt q hq).1;have:=HG.o;omega
    case measure=>simp[intOf];omega
  · have hkI:(n:Int)<=(k:Int):=(by omega);have HP:=hQ_ (show zbM W l (.returned (.slice Av k cv)) wr from⟨_,xs,rfl,by rw[<-HXL.o,HG.o];exact HOW.o,HX.o,by rw[HM.o,List.take_of_length_le (by rw[H.o.len];omega)],HCr.o⟩);go_wp2_with fail;go_ret;exact HP.o
end
theorem zch {pages most:Int}{l:List FnV}(h:RightU pages most l):zeu l:=by
 intro f hf;obtain⟨k,hk⟩:=List.getElem?_of_mem hf;have hkl:=(List.getElem?_eq_some_iff.1 hk).1;refine⟨(h.fn k f hk).2.2.1,?_⟩;have h0:=h.ok k hkl;unfold rFn at h0;rw[if_neg (by omega),Int.toNat_natCast,hk]at h0;simp only at h0;unfold jR_ at h0;cases ht:uJ_ f.code with
 | none=>rw[ht]at h0;simp only[zeI]at h0;exfalso;revert h0;split<;>simp
 | some ts =>
   rw[ht]at h0;simp only at h0;cases hn:qC_ (yD_ ts) with
   | none=>rw[hn]at h0;simp at h0
   | some R=>exact⟨ts,R,rfl,hn⟩
def QSl (w:World)(v:Value)(qs:List (Int×Int)):Prop:=∃A c,v=.slice A qs.length c/\qs.length<=c/\Src w A (qsC qs)/\(∀ad,A=some ad->ad.spot=none)/\(0<qs.length->∀ad,A=some ad->∃cs fz,w.heap[ad.block]?=some (.cells cs 267 fz))
theorem QSl.keep {w w':World}{v:Value}{qs:List (Int×Int)}(h:QSl w v qs)(hc:Chg [] w w'):QSl w' v qs:=by
 obtain⟨A,c,e,h1,h2,h3,h4⟩:=h;refine⟨A,c,e,h1,h2.keep hc,h3,fun h0 ad ha=>?_⟩;obtain⟨cs,fz,hb⟩:=h4 h0 ad ha;have hlt:ad.block<w.heap.size:=by
  rcases Nat.lt_or_ge ad.block w.heap.size with h|h
  · exact h
  · rw[Array.getElem?_eq_none h]at hb;cases hb
 exact⟨cs,fz,(hc.block _ hlt (by simp)).trans hb⟩
theorem zkC {w:World}{B n k:Nat}{e:TypeId}{v:Value}{xs:List Value}(h:w.ownsRow B e k v n xs):∃A c,v=.slice A n c/\n<=c/\Src w A xs/\∀ad,A=some ad->ad.spot=none:=by
 have hx:=h.1;rcases h.2 with⟨rfl,rfl⟩|⟨g,cap,cur,rfl,hb,hg,hn,hc,hs,ht⟩
 · exact⟨none,0,rfl,Nat.le_refl _,fun h0=>by rw[hx]at h0;simp at h0,fun ad h=>by cases h⟩
 · refine⟨_,cap,rfl,hn,fun h0=>⟨_,rfl,?_,fun j u hj=>h.cells rfl j u hj⟩,fun ad h=>by injection h with h;subst h;rfl⟩;rcases Nat.lt_or_ge g w.heap.size with h|h
   · exact h
   · rw[Array.getElem?_eq_none h]at hg;cases hg
theorem zkN (qs:List (Int×Int)):∀n,qsC (qs.drop n)=(qsC qs).drop (n*2):=by
 induction qs with
 | nil=>intro n;simp[qsC]
 | cons x l ih =>
   intro n;cases n with
   | zero=>simp
   | succ n =>
     rw[List.drop_succ_cons,ih n,show(n+1)*2=n*2+1+1 from by omega];simp[qsC]
theorem zkM {w:World}{B m c n:Nat}{A:Option Addr}{qs:List (Int×Int)}(h:w.ownsRow B 267 2 (.slice A m c) m (qsC qs))(hm:m=qs.length)(hn:n<=m):QSl w (.slice (if c=n then A else Option.map (fun x=>x.add (n*2)) A) (m-n) (c-n)) (qs.drop n):=by
 obtain⟨A',c',e',hc,hs,hA⟩:=zkC h;injection e' with e1 _ e3;subst e1;subst e3;refine⟨_,c-n,by rw[List.length_drop,hm],by rw[List.length_drop];omega,fun h0=>?_,fun ad had=>?_,fun h0 ad had=>?_⟩
 · rw[uC_,List.length_drop]at h0;obtain⟨ad,rfl,hlt,hx⟩:=hs (by rw[uC_];omega);obtain⟨b,o,sp⟩:=ad;obtain rfl:sp=none:=hA _ rfl;rw[if_neg (by omega)];refine⟨⟨b,o+n*2,none⟩,by simp[zl_],hlt,fun j u hj=>?_⟩;have:=hx (n*2+j) u (by rw[zkN,List.getElem?_drop]at hj;exact hj);rw[zl_]at this⊢;rw[Nat.add_assoc];exact this
 · split at had
   · exact hA ad had
   · cases A with
     | none=>cases had
     | some x =>
       simp only[Option.map_some]at had;injection had with had;subst had;obtain⟨b,o,sp⟩:=x;obtain rfl:sp=none:=hA _ rfl;simp[zl_]
 · rw [List.length_drop]at h0;rcases h.2 with⟨e1,e2⟩|⟨g,cap,cur,e1,hb,hg,_⟩
   · subst e2;omega
   · injection e1 with e1 _ e3;subst e1;subst e3;have hbl:ad.block=g:=(by
      split at had
      · injection had with had;rw[<-had]
      · simp only[Option.map_some,Option.some.injEq]at had;rw[<-had,zl_]);rw[hbl];exact⟨_,_,hg⟩
section
variable {w:World} {p:Nat} {rs:List (Option Int)} {qs:List (Int×Int)} {a q:Value}
theorem ge_ (h:Rq w p rs qs a q)(hq:qs.length<=1000000000):Calls Tryz.prog 51 #[.pointer (some ⟨p,0,none⟩)] w (zag w qs):=by
 by_cases h0:0<qs.length
 · exact zlY h hq h0
 · obtain rfl:qs=[]:=List.eq_nil_of_length_eq_zero (by omega);obtain⟨i0,hi,hz0,hz1,hz2⟩:=info_parts j5_;obtain⟨A2,c2,rfl,_,hcm2,hsp⟩:=zh_ h.asks;have e1:=h.rec_.cell 1;have HSP:=hQ_ hsp;clear h h0 hsp;have HP:=hQ_ (show zag w [] (.returned (.slice none 0 0)) w from⟨_,rfl,World.ownsRow_nil _ _ _ _,Chg.refl _ _⟩);rcases A2 with _|⟨g,o,sp⟩
   · go_enter Tryz.func51,Tryz.ntmps51;go_wp2_with fail;go_ret;exact HP.o
   · obtain rfl:sp=none:=(HSP.o _ rfl).1;go_enter Tryz.func51,Tryz.ntmps51;go_wp2_with fail;go_ret;exact HP.o
end
def knF:List FnV:=[⟨102,1,⟨#[48,97,36,48,64]⟩⟩,⟨103,0,⟨#[48,32,57,36,194,161]⟩⟩]
def knM (n:Int):List UInt8:=stL (zm_ 64) 0 n 8
theorem zlf:knF.map z2_=knF:=by kernel_rfl
theorem zdI:RightU 1 2 knF:=by
 refine⟨by decide,by decide,by decide,by simp[knF],fun k f hf=>?_,fun k hk=>?_,fun f hf=>?_⟩
 · rcases k with _|_|k
   · simp only[knF,List.getElem?_cons_zero,Option.some.injEq]at hf;subst hf;exact⟨by decide,by decide,by decide,by decide⟩
   · simp only[knF,List.getElem?_cons_zero,List.getElem?_cons_succ,Option.some.injEq]at hf;subst hf;exact⟨by decide,by decide,by decide,by decide⟩
   · simp[knF]at hf
 · have hk2:k<2:=hk;rcases k with _|_|k
   · decide +kernel
   · decide +kernel
   · omega
 · simp only[knF,List.mem_cons,List.not_mem_nil,or_false]at hf;rcases hf with rfl|rfl<;>decide
theorem zof:∀f∈knF,-9223372036854775808<=f.args/\f.args<=9223372036854775807:=by decide
theorem zob:∀f∈knF,f.code.size<=9223372036854775807:=by decide
theorem zmx:Fit 1 2 knF 20 8:=⟨by decide +kernel,by decide +kernel,by decide +kernel⟩
theorem zoc:1+zs_ (zI_ 1 2 knF).1.length=2:=by decide +kernel
theorem kn_f (c n:Int)(hn:In64 n):eDo knF [] 2 0 99 [n] (knM c) [false] []=some (n,0,⟨94,[],[],knM n,[true],[]⟩):=by
 have h:eDo knF [] 2 0 99 [n] (knM c) [false] []=some (ldI (knM n) 0 8,0,⟨94,[],[],knM n,[true],[]⟩):=by kernel_rfl
 rw[h,show ldI (knM n) 0 8=n from zpu _ _ _ hn (by decide)]
theorem kn_g (c:Int):eDo knF [] 2 1 99 [] (knM c) [false] []=some (0,2,⟨95,[],[⟨1,4,List.replicate 26 0⟩],knM 9,[true],[]⟩):=by kernel_rfl
theorem zoa:knM 0=zm_ 64:=by decide +kernel
theorem zic (c:Int):(knM c).length=64:=by unfold knM;rw[gq_];rfl
theorem zle:(knM 7)[0]?=some 7:=by decide +kernel
theorem zel (P:Nat){T:List UInt8}{p:Nat}(h:xv_ (List.replicate P (zm_ 64)) T p):False:=by
 obtain⟨_,z,r,hz,hm,_⟩:=h;have hz0:z=zm_ 64:=by
  have h0:z∈List.replicate P (zm_ 64):=by rw[hz];exact List.mem_cons_self ..
  exact(List.mem_replicate.1 h0).2
 subst hz0;have hn:¬uu_ (zm_ 64):=by unfold uu_;decide +kernel
 exact hn hm
theorem zjw {P:Nat}{r:Int}(h:qF_ (List.replicate P (zm_ 64)) r):r=12:=by
 rcases h with⟨h,_⟩|⟨_,T,p,_,_,_,hr,_⟩
 · exact h
 · exact(zel P hr).elim
end Go.Proofs.YtcbcfcdmdedefaaGreatDoor
