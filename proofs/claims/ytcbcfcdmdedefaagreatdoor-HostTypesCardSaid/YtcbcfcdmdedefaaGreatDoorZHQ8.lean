import Derived.Test.YtcbcfcdmdedefaaGreatDoorZHQ7
set_option maxRecDepth 100000
set_option maxHeartbeats 16000000
namespace Go.Proofs.YtcbcfcdmdedefaaGreatDoor
open Go.RowKit
def zbO (s:St)(L P E:Int):List UInt8:=if zp_ L P E s.V.length=true then xI_ s L.toNat else []
section
variable {w:World} {p bL bS bW:Nat} {s:St}
theorem zaM (h:z9_ w p bL bS bW s)(L P E:Int) :
    Calls Tryz.prog 122 #[.pointer (some ⟨p,0,none⟩),zB_ L P E] w (ye_ (zp_ L P E s.V.length) w):=by
 have hr0:zB_ L P E=.agg #[.int .i64 L,.int .i64 P,.int .u32 E]:=rfl;rw[hr0];go_enter Tryz.func122,Tryz.ntmps122;go_wp2_with fail;have hR:=zb_.new w 82 [.int .i64 L,.int .i64 P,.int .u32 E];have hc1:Chg [] w (w.alloc (.cells #[.int .i64 L,.int .i64 P,.int .u32 E] 82)):=(Chg.refl [] w).alloc _;obtain⟨g,hg⟩:∃g,g=w.heap.size:=⟨_,rfl⟩;rw[<-hg]at hR⊢;generalize w.alloc (.cells #[.int .i64 L,.int .i64 P,.int .u32 E] 82)=w1 at hc1 hR⊢;clear hg;have hld:=fun (W:World)(hW:Chg [] w1.drew W)=>zq_ (hR.drew.keep hW);have kd:∀W,Chg [] w1.drew W->z9_ W p bL bS bW s:=fun W hW=>(Dsk.keep h hc1.drew).keep hW;refine wp_flow (by kernel_rfl) yn_ za_ (by kernel_rfl) ?_;refine flow_move_out za_ rfl rfl rfl ?_;refine flow2 (r:=.bool true) za_ rfl (.inn rfl) (.const _) rfl (fun ev W he e1 e2=>by go_simp) ?_;refine zP_ za_ rfl (zc_ _) (.inr (zc_ _)) rfl ?_;refine flow1h (r:=zB_ L P E) za_ rfl (.out rfl rfl) rfl (fun ev W he hW e1=>by obtain⟨c0,c1,c2,_,_,_⟩:=hld W hW;go_simp) ?_;refine flow_move_out za_ rfl rfl rfl ?_;refine zw_ (.int .i64 (s.V.length:Int)) (by kernel_rfl) rfl (.cons (.inn rfl) .nil) (fun W hW=>(xQ_ (kd W hW)).mono ?_) ?_
 · rintro e w' ⟨rfl,rfl⟩;exact⟨rfl,Chg.refl _ _⟩
 refine zw_ (.bool (zp_ L P E s.V.length)) (by kernel_rfl) rfl (.cons (.inn rfl) (.cons (.inn rfl) .nil)) (fun W hW=>(yb_ _ _ _ _).mono ?_) ?_
 · rintro e w' ⟨rfl,hc⟩;exact⟨rfl,hc⟩
 refine xt_ za_ rfl rfl rfl ?_;refine flow_assign za_ rfl (zc_ _) (.inr (zc_ _)) rfl ?_;intro vs W hW hF;have e4:vs 4=.bool (zp_ L P E s.V.length):=hF 4 _ rfl rfl;simp only[zW_,Act.put,List.setIfInBounds_toArray,List.set_cons_zero,List.set_cons_succ,e4];have HCW:=hQ_ (hc1.new (jA_ hW));clear hW hF hld hR hc1 kd e4;go_wp2_with fail;go_ret;exact⟨rfl,HCW.o⟩
theorem zfa (h:z9_ w p bL bS bW s)(L P E:Int) :
    Calls Tryz.prog 116 #[.pointer (some ⟨p,0,none⟩),zB_ L P E] w (xH_ w (zbO s L P E)):=by
 obtain⟨iu,hui,huz,hus,hub⟩:=info_parts yF_;have hr0:zB_ L P E=.agg #[.int .i64 L,.int .i64 P,.int .u32 E]:=rfl;have H:=hQ_ h;clear h;rw[hr0];go_enter Tryz.func116,Tryz.ntmps116;go_wp2_with fail;have hR:=zb_.new w 82 [.int .i64 L,.int .i64 P,.int .u32 E];have hc1:Chg [] w (w.alloc (.cells #[.int .i64 L,.int .i64 P,.int .u32 E] 82)):=(Chg.refl [] w).alloc _;obtain⟨g,hg⟩:∃g,g=w.heap.size:=⟨_,rfl⟩;rw[<-hg]at hR⊢;generalize w.alloc (.cells #[.int .i64 L,.int .i64 P,.int .u32 E] 82)=w1 at hc1 hR⊢;clear hg;obtain⟨c0,c1,c2,_,_,_⟩:=zq_ hR;go_wp2_with fail;refine(zaM (Dsk.keep H.o hc1) L P E).mono ?_;rintro e w2 ⟨rfl,hc2⟩;have HC2:=hQ_ (hc1.new hc2);have HR2:=hQ_ (hR.keep hc2);clear hc1 hc2 hR c0 c1 c2;cases hrr:zp_ L P E s.V.length with
 | false =>
   have HF:=hQ_ (show zbO s L P E=[] by unfold zbO;rw[if_neg (by rw[hrr];simp)]);go_wp2_with fail;go_ret;rw[HF.o];exact⟨_,rfl,vP_ _ _ _,HC2.o⟩
 | true =>
   have hrt:=zi_.1 hrr;obtain⟨l,rfl⟩:=Int.eq_ofNat_of_zero_le (show 0<=L by omega);have hl1:1<=l:=(by omega);have hl64:l<=64:=(by omega);have hlV:2+l<=s.V.length:=(by omega);have HF:=hQ_ (show zbO s l P E=xI_ s l by unfold zbO;rw[if_pos hrr,Int.toNat_natCast]);have HS:=hQ_ H.o.lenS;obtain⟨N,hN⟩:∃N,N=l*64:=⟨_,rfl⟩;have hNm:=hQ_ hN;have hN4:N<=4096:=(by omega);have hmk:∀W:World,(Instr.makeSlice 39 (.int .i64 0) (.int .i64 (N:Int))).run Tryz.prog W=.ok (.slice (some ⟨W.heap.size,0,none⟩) 0 N) (W.alloc (.cells (bts (zm_ N)).toArray 5)):=(by
    intro W;rw[yV_];exact x5_ (P:=Tryz.prog) 39 5 iu _ rfl Tryz.underlying39 hui huz hus N (by rw[hub];omega) (by omega) W);have hsz:uz_ (l:Int)=(N:Int):=(by unfold uz_;rw[if_neg (by omega),hN];omega);obtain⟨c0,c1,c2,_,_,_⟩:=zq_ HR2.o;clear hN hrt;go_wp2_with fail;refine(jg_ (l:Int) P E (by omega)).mono ?_;rintro e w3 ⟨rfl,hc3⟩;rw[hsz];have HC3:=hQ_ (HC2.o.new hc3);have HR3:=hQ_ (HR2.o.keep hc3);clear hc3 c0 c1 c2 hsz;obtain⟨c0,c1,c2,_,_,_⟩:=zq_ HR3.o;have d0:=zd_ c0 ((Chg.refl [] w3).alloc (.cells (bts (zm_ N)).toArray 5));go_wp2_with fail;have hW:=zb_.new w3 5 (bts (zm_ N));have hal:Chg [] w3 (w3.alloc (.cells (bts (zm_ N)).toArray 5)):=(Chg.refl [] w3).alloc _;have ho0:(w3.alloc (.cells (bts (zm_ N)).toArray 5)).ownsRow w3.heap.size 5 1 (.slice (some ⟨w3.heap.size,0,none⟩) 0 N) 0 []:=(by
    have:=zT_ (B:=w3.heap.size) (n:=0) (c:=N) hW (Nat.le_refl _) (by rw[zg_,zE_]) (by omega) (by unfold maxLen;omega);simpa using this);have HAL:=hQ_ hal;have HR4:=hQ_ (HR3.o.keep hal);have HC4:=hQ_ (HC3.o.new hal);generalize w3.alloc (.cells (bts (zm_ N)).toArray 5)=w4 at ho0 HR4 HC4 HAL⊢;obtain⟨B3,hB3⟩:∃B,B=w3.heap.size:=⟨_,rfl⟩;rw[<-hB3]at ho0⊢;have HB3:=hQ_ (show B3<=w4.heap.size/\w.heap.size<=B3 by rw[hB3];exact⟨HAL.o.size,HC3.o.size⟩);clear hW hal hB3 c0 c1 c2 d0 HAL hmk;go_loopw [5,18] (fun v i wr=>∃k:Nat,k<=l/\i=.int .i64 (k:Int)/\(∃n,Hid (n=k*64)/\wr.ownsRow B3 5 1 v n (bts (xI_ s k)))/\Hid (B3<=wr.heap.size)/\Hid (Chg [] w wr)) (fun _ i _=>l-(intOf i).toNat);(case atStart=>exact⟨0,by omega,rfl,⟨0,hQ_ rfl,by unfold xI_;simpa[bts] using ho0⟩,hQ_ HB3.o.1,HC4⟩);case round =>
    obtain⟨k,hk,rfl,⟨n,Hn,hown⟩,HBr,HCr⟩:=hrel;obtain⟨Av,cv,rfl,hvl,hvc,_⟩:=zr_ hown;by_cases hlt:k<l
    · have hkI:(k:Int)<(l:Int):=(by omega);obtain⟨q,hq⟩:∃q:Nat,(2:Int)+(k:Int)=(q:Int):=⟨2+k,by omega⟩;have HQ:=hQ_ (show q=2+k by omega);have hqV:q<s.V.length:=(by omega);go_wp2_with fail;refine(ji_ (Dsk.keep H.o HCr.o) q hqV).mono ?_;rintro e w5 ⟨rfl,hW5,hc5⟩;have hl5:((s.S.drop (q*64)).take 64).length=64:=(by rw[List.length_take,List.length_drop,HS.o];omega);have HNX:=hQ_ (show xI_ s (k+1)=xI_ s k++(s.S.drop (q*64)).take 64 by rw[u1_,HQ.o]);have HS5:=hQ_ (Src.of_all hW5);have hx1:=hQ_ (show(bts ((s.S.drop (q*64)).take 64)).length=64 by rw[zg_,hl5]);have how:=zk_ hown hc5;have hn4:n<=4096:=(by rw[Hn.o];omega);have hx2:=hQ_ (show n+64<=maxLen by unfold maxLen;omega);have hx3:=hQ_ (show(n+64)*1<=140737488355328 by omega);have hx4:=hQ_ (show B3<=w5.heap.size by have:=HBr.o;have:=hc5.size;omega);have HC5:=hQ_ (HCr.o.new hc5);have h1:=yd_ ((s.S.drop (q*64)).take 64);generalize (s.S.drop (q*64)).take 64=Z at hW5 HNX HS5 hx1 h1;obtain⟨g5,hg5⟩:∃g,g=wr.heap.size:=⟨_,rfl⟩;rw[<-hg5]at HS5⊢;clear hg5 hW5 hl5 hc5 hown;go_wp2_with (
       at_builtin;refine zC_ rfl (.tmp 28) (.tmp 29) 39 rfl B3 5 iu _ 1 Tryz.underlying39 hui huz hus hub uj_ (.slice Av n cv) n (bts (xI_ s k)) rfl how (some ⟨g5,0,none⟩) 64 64 (bts Z) rfl hx1.out HS5.o h1 hx2.out hx3.out hx4.out ?_;intro v6 w6 ho6 hg6 _);have hc6:=HC5.o.own how HB3.o.2 hg6;go_roundw;(case rel=>exact⟨k+1,by omega,by go_num,⟨n+64,hQ_ (by rw[Hn.o];omega),by rw[HNX.o,qk_];exact ho6⟩,hQ_ (Nat.le_trans hx4.out hg6.size),hQ_ hc6⟩);case measure=>simp[intOf];omega
    · have hkI:¬(k:Int)<(l:Int):=(by omega);have HK:=hQ_ (show k=l by omega);have HLen:=hQ_ (show(xI_ s l).length=n by rw[zkZ (by rw[HS.o];omega),Hn.o,HK.o]);clear hlt hk;go_wp2_with fail;go_ret;rw[HF.o];refine⟨_,rfl,?_,HCr.o⟩;rw[HLen.o,<-HK.o];exact z0_ hown HB3.o.2
def zlN (s:St)(L P E at_:Int)(n:Nat):Prop:=zp_ L P E s.V.length=true/\0<=at_/\at_<=L*64/\(n:Int)<=L*64-at_
def zoT (w:World)(p bL bS bW:Nat)(s:St)(L P E at_:Int)(l:List UInt8)(e:Ending)(w':World):Prop :=
 (zlN s L P E at_ l.length/\e=.returned (.bool true)/\z9_ w' p bL bS bW (apS s (128+at_.toNat) l)/\Chg [bS,bW] w w') \/
 (¬zlN s L P E at_ l.length/\e=.returned (.bool false)/\Chg [] w w')
theorem zga (h:z9_ w p bL bS bW s) (L P E at_:Int) (hL0:-9223372036854775808<=at_) (hL1:at_<=9223372036854775807) {A:Option Addr} {n c:Nat} {l:List UInt8} (hx:Bs w A n c l) (hA:0<n->∀ad,A=some ad->ad.block≠bS/\ad.block≠bW) :
    Calls Tryz.prog 83 #[.pointer (some ⟨p,0,none⟩),zB_ L P E,.int .i64 at_,.slice A n c] w (zoT w p bL bS bW s L P E at_ l):=by
 have hr0:zB_ L P E=.agg #[.int .i64 L,.int .i64 P,.int .u32 E]:=rfl;have H:=hQ_ h;have HX:=hQ_ hx;have hln:=hx.len;have HA:=hQ_ hA;have hnm:=hx.le;clear h hx hA;rw[hr0];go_enter Tryz.func83,Tryz.ntmps83;go_wp2_with fail;have hR:=zb_.new w 82 [.int .i64 L,.int .i64 P,.int .u32 E];have hc1:Chg [] w (w.alloc (.cells #[.int .i64 L,.int .i64 P,.int .u32 E] 82)):=(Chg.refl [] w).alloc _;obtain⟨g,hg⟩:∃g,g=w.heap.size:=⟨_,rfl⟩;rw[<-hg]at hR⊢;generalize w.alloc (.cells #[.int .i64 L,.int .i64 P,.int .u32 E] 82)=w1 at hc1 hR⊢;clear hg;obtain⟨c0,c1,c2,_,_,_⟩:=zq_ hR;go_wp2_with fail;refine(zaM (Dsk.keep H.o hc1) L P E).mono ?_;rintro e w2 ⟨rfl,hc2⟩;have HC2:=hQ_ (hc1.new hc2);have HR2:=hQ_ (hR.keep hc2);clear hc1 hc2 hR c0 c1 c2;have HLN:=hQ_ hln;clear hln;cases hrr:zp_ L P E s.V.length with
 | false =>
   have HF:=hQ_ (show ¬zlN s L P E at_ l.length from fun h=>by have:=h.1;rw[hrr]at this;cases this);go_wp2_with fail;go_ret;exact .inr ⟨HF.o,rfl,HC2.o⟩
 | true =>
   have hrt:=zi_.1 hrr;have hl1:1<=L:=hrt.1;have hl64:L<=64:=hrt.2.1;have hlV:=hQ_ (show 2+L+P<=s.V.length/\1<=P from⟨hrt.2.2.2.2.1,hrt.2.2.1⟩);have HCA:=hQ_ (show zlN s L P E at_ l.length↔(0<=at_/\at_<=L*64/\(n:Int)<=L*64-at_) by unfold zlN;rw[hrr,HLN.o];simp);have hsz:uz_ L=L*64:=(by unfold uz_;rw[if_neg (by omega)]);clear hrt;by_cases ha0:at_<0
   · have HF:=hQ_ (show ¬zlN s L P E at_ l.length from fun h=>by have:=(HCA.o.1 h).1;omega);go_wp2_with fail;go_ret;exact .inr ⟨HF.o,rfl,HC2.o⟩
   obtain⟨a,rfl⟩:=Int.eq_ofNat_of_zero_le (show 0<=at_ by omega);have ha0':¬((a:Int)<0):=ha0;clear ha0 hL0;obtain⟨c0,c1,c2,_,_,_⟩:=zq_ HR2.o;go_wp2_with fail;refine(jg_ L P E (by omega)).mono ?_;rintro e w3 ⟨rfl,hc3⟩;rw[hsz];have HC3:=hQ_ (HC2.o.new hc3);have HR3:=hQ_ (HR2.o.keep hc3);clear hc3 c0 c1 c2;obtain⟨N,hN,hN4⟩:∃N:Nat,L*64=(N:Int)/\N<=4096:=⟨(L*64).toNat,by omega,by omega⟩;rw[hN];rw[hN]at hsz HCA;have HNN:=hQ_ hN;clear hN;by_cases ha1:(N:Int)<(a:Int)
   · have HF:=hQ_ (show ¬zlN s L P E a l.length from fun h=>by have:=(HCA.o.1 h).2.1;omega);go_wp2_with fail;go_ret;exact .inr ⟨HF.o,rfl,HC3.o⟩
   have haN:a<=N:=(by omega);obtain⟨c0,c1,c2,_,_,_⟩:=zq_ HR3.o;go_wp2_with fail;refine(jg_ L P E (by omega)).mono ?_;rintro e w4 ⟨rfl,hc4⟩;rw[hsz];have HC4:=hQ_ (HC3.o.new hc4);clear hc4 c0 c1 c2 hsz;by_cases hn1:(N:Int)-(a:Int)<(n:Int)
   · have HF:=hQ_ (show ¬zlN s L P E a l.length from fun h=>by have:=(HCA.o.1 h).2.2;omega);go_wp2_with fail;go_ret;exact .inr ⟨HF.o,rfl,HC4.o⟩
   have hnN:a+n<=N:=(by omega);have HY:=hQ_ (HCA.o.2 ⟨by omega,by omega,by omega⟩);have HDs:=hQ_ (show 128+N<=s.S.length/\s.S.length=64*s.V.length by have:=H.o.lenS;have:=hlV.out;have:=HNN.o;omega);have h0:apS s (128+a) (l.take 0)=s:=(by rw[List.take_zero];exact zoH s _ (by have:=HDs.o;omega));have HD4:Hid (z9_ w4 p bL bS bW (apS s (128+a) (l.take 0))):=hQ_ (by rw[h0];exact Dsk.keep H.o HC4.o);have HX4:Hid (Bs w4 A (n-0) c (l.drop 0)):=hQ_ (HX.o.keep HC4.o);have HC4':=hQ_ (HC4.o.sub (T':=[bS,bW]) (by simp));have hlt4:=hQ_ (show bS<w4.heap.size/\bW<w4.heap.size by have hd:Dsk w4 p bL bS bW _ _ _:=HD4.o;exact⟨hd.seen.lt,hd.wait.lt⟩);have hd1:decide ((a:Int)<0)=false:=decide_eq_false (by omega);have hd2:decide ((N:Int)<(a:Int))=false:=decide_eq_false (by omega);have hd3:decide (N<a)=false:=decide_eq_false (by omega);have hd4:decide ((N:Int)-(a:Int)<(n:Int))=false:=decide_eq_false (by omega);clear h0 haN;go_wp2_with fail;go_loopw [2,3] (fun v b wr=>∃k:Nat,k<=n/\v=.int .i64 ((a+k:Nat):Int)/\(∃A' c',b=.slice A' (n-k) c'/\Hid (Bs wr A' (n-k) c' (l.drop k))/\Hid (0<n->∀ad,A'=some ad->ad.block≠bS/\ad.block≠bW))/\Hid (z9_ wr p bL bS bW (apS s (128+a) (l.take k)))/\Hid (Chg [bS,bW] w wr)) (fun v _ _=>a+n-(intOf v).toNat);(case atStart=>exact⟨0,by omega,rfl,⟨_,_,rfl,HX4,HA⟩,HD4,HC4'⟩);case round =>
    obtain⟨k,hk,rfl,⟨A',c',rfl,HXk,HAk⟩,HDk,HCk⟩:=hrel;clear HD4 HX4 HC4';by_cases hlt:k<n
    · obtain⟨m,hm,hm0⟩:∃m,m=n-k/\0<m:=⟨_,rfl,by omega⟩;rw[<-hm]at HXk⊢;have HM:=hQ_ hm;have hm0I:(0:Int)<(m:Int):=(by omega);have hm5:m<=4096:=(by omega);obtain⟨ad,rfl,_,_⟩:=HXk.o.src (by rw[zg_,HXk.o.len];omega);obtain⟨bb,oo,sb⟩:=ad;obtain rfl:sb=none:=HXk.o.spot hm0 _ rfl;obtain⟨x,hx,hxN⟩:∃x,x=a+k/\x<4096:=⟨_,rfl,by omega⟩;rw[<-hx];have HXe:=hQ_ hx;obtain⟨q0,hq0⟩:∃q0,q0=x/64:=⟨_,rfl⟩;obtain⟨f,hf,hf64⟩:∃f,f=x%64/\f<64:=⟨_,rfl,Nat.mod_lt _ (by omega)⟩;have hdiv:(x:Int).tdiv 64=(q0:Int):=(by rw[Int.tdiv_eq_ediv_of_nonneg (by omega)];omega);have hmod:(x:Int).tmod 64=(f:Int):=(by rw[Int.tmod_eq_emod_of_nonneg (by omega)];omega);obtain⟨q,hq⟩:∃q:Nat,(2:Int)+(q0:Int)=(q:Int):=⟨2+q0,by omega⟩;have HQ:=hQ_ (show q*64+f=128+a+k by omega);have hqV:q<(apS s (128+a) (l.take k)).V.length:=(by rw[zbH];have:=HDs.o;omega);have hq063:q0<=63:=(by omega);clear hq0 hf hm hx;go_wp2_with fail;refine(ji_ HDk.o q hqV).mono ?_;rintro e w5 ⟨rfl,hW5,hc5⟩;have hSl:(apS s (128+a) (l.take k)).S.length=s.S.length:=xw_ _ _ _ (by rw[List.length_take];have:=HDs.o;have:=HLN.o;omega);have hl5:(((apS s (128+a) (l.take k)).S.drop (q*64)).take 64).length=64:=(by rw[List.length_take,List.length_drop,hSl];rw[zbH]at hqV;have:=HDs.o;omega);obtain⟨n',hn',hn'1,hn'2,hn'3⟩:∃n',n'=min m (64-f)/\n'<=m/\f+n'<=64/\0<n':=⟨_,rfl,by omega,by omega,by omega⟩;have hHl:128+a+l.length<=s.S.length:=(by have:=HDs.o;have:=HLN.o;omega);have HSA:=hQ_ (zkp (S:=s.S) (b:=l) (a:=128+a) (k:=k) (m:=n') (q:=q) (f:=f) hHl (by rw[HLN.o];have:=HM.o;omega) HQ.o hn'2 (by rw[zbH]at hqV;have:=HDs.o;omega));have HST:=hQ_ (zma (s:=s) (a:=128+a) (b:=l) (k:=k) (k':=k+n') (q:=q) HDs.o.2 hHl (by omega) (by rw[HLN.o];have:=HM.o;omega) (by have:=HQ.o;omega) (by have:=HQ.o;omega) (by have:=HQ.o;omega) rfl);have hcl:=hQ_ (show(bts ((l.drop k).take n')).length=n' by rw[zg_,List.length_take,List.length_drop,HLN.o];have:=HM.o;omega);have hff:f+(bts ((l.drop k).take n')).length<=(bts (((apS s (128+a) (l.take k)).S.drop (q*64)).take 64)).length:=(by rw[zg_,zg_,hl5,List.length_take];omega);have hs5:Src w5 (some ⟨bb,oo,none⟩) (bts ((l.drop k).take n')):=(by have:=((HXk.o.keep hc5).take (m:=n') hn'1).src;exact this);have h1:=yd_ ((l.drop k).take n');have hspl:=hQ_ (show splice (bts (((apS s (128+a) (l.take k)).S.drop (q*64)).take 64)) f (bts ((l.drop k).take n'))=bts (((splice s.S (128+a) (l.take (k+n'))).drop (q*64)).take 64) by rw[vi_,<-HSA.o];rfl);have hxl:=hQ_ (show(((splice s.S (128+a) (l.take (k+n'))).drop (q*64)).take 64).length=64 by rw[List.length_take,List.length_drop,xw_ _ _ _ (by rw[List.length_take];have:=HLN.o;have:=HM.o;omega)];rw[zbH]at hqV;have:=HDs.o;omega);have HDk5:=hQ_ (Dsk.keep HDk.o hc5);have HXk5:=hQ_ (HXk.o.keep hc5);have HCk5:=hQ_ (HCk.o.trans (hc5.sub (by simp)));have HW5:=hW5;generalize bts (((apS s (128+a) (l.take k)).S.drop (q*64)).take 64)=Y5 at HW5 hff hspl;generalize bts ((l.drop k).take n')=Z5 at hcl hff hs5 h1 hspl;obtain⟨g5,hg5⟩:∃g,g=wr.heap.size:=⟨_,rfl⟩;rw[<-hg5]at HW5⊢;have HG5:=hQ_ hg5;have hz5:=hQ_ (show wr.heap.size<w5.heap.size from hg5 ▸ HW5.lt);have hc64:¬(64:Nat)=f:=(by omega);clear hg5 hW5 hc5 hSl hl5 HSA;have hcl2:=hQ_ (show Z5.length=Nat.min m (64-f) by rw[hcl.out,hn']);have HN':=hQ_ hn';clear hn';go_wp2_with (
       (with_reducible refine z7_ rfl (.tmp 53) (.tmp 54) _ _ rfl 5 Tryz.underlying39 xB_ (some ⟨g5,f,none⟩) (some ⟨bb,oo,none⟩) (64-f) (64-f) m c' rfl rfl g5 f 5 Y5 Z5 HW5 hcl2.out (fun _=>rfl) hs5 hff h1 ?_);intro w6 HG6 HC6);rw[hspl.out]at HG6;have hd5:Dsk w5 p bL bS bW _ _ _:=HDk5.o;have hne:p≠g5/\bL≠g5/\bS≠g5/\bW≠g5:=(by
       have hd:Dsk wr p bL bS bW _ _ _:=HDk.o;have h1:=hd.rec_.lt;have h2:=hd.last.lt;have h3:=hd.seen.lt;have h4:=hd.wait.lt;have:=HG5.o;exact⟨by omega,by omega,by omega,by omega⟩);have HD6:Hid (z9_ w6 p bL bS bW (apS s (128+a) (l.take k))):=hQ_ (hd5.away HC6 (by simp;exact hne.1) (by simp;exact hne.2.1) (by simp;exact hne.2.2.1) (by simp;exact hne.2.2.2));have hbg:bb≠g5:=(by
       obtain⟨ad,e,hb,_⟩:=HXk.o.src (by rw[zg_,HXk.o.len];exact hm0);injection e with e;have:=HG5.o;rw[<-e]at hb;have hb':bb<wr.heap.size:=hb;omega);have HX6:=hQ_ (show Bs w6 (some ⟨bb,oo,none⟩) m c' (l.drop k) from⟨HXk5.o.len,HXk5.o.src.chg HC6 (fun _ ad e=>by injection e with e;subst e;simp;exact hbg),HXk5.o.cap,HXk5.o.max,HXk5.o.spot⟩);have HC6':=hQ_ (show Chg [bS,bW] w w6 from HCk5.o.then_ HC6 fun i hi hlt=>by
       simp only[List.mem_cons,List.not_mem_nil,or_false]at hi;have h1:=HG5.o;have h2:=HCk.o.size;omega);have hs6:=hQ_ (Src.of_all HG6);have hZl:(Z5.length:Int)=(n':Int):=(by rw[hcl.out]);rw[hZl];clear hd5 hne hbg HG6 HC6 hs5 hff h1 hspl HW5 hZl HDk5 HXk5 HCk5;refine(uL_ HD6.o q hqV hxl.out hs6.out).mono ?_;rintro e w7 ⟨rfl,hD7,hc7⟩;have HD7:Hid (z9_ w7 p bL bS bW (apS s (128+a) (l.take (k+n')))):=hQ_ (by rw[<-HST.o];exact hD7);have HC7:=hQ_ (HC6'.out.trans hc7);have HX7:=hQ_ (show Bs w7 (some ⟨bb,oo,none⟩) m c' (l.drop k) from⟨HX6.o.len,HX6.o.src.chg hc7 (fun _ ad e=>by have:=HAk.o (by omega) ad e;exact not2' this.1 this.2),HX6.o.cap,HX6.o.max,HX6.o.spot⟩);have hcut:=HX7.o.cut (lo:=n') (hi:=m) hn'1 (Nat.le_refl _);rw[show((l.drop k).drop n').take (m-n')=(l.drop k).drop n' from List.take_of_length_le (by rw[List.length_drop,HX7.o.len];exact Nat.le_refl _)]at hcut;have hcap':=HX7.o.cap;have hmc:¬c'<m:=(by omega);have hmc2:¬m<n':=(by omega);have hmI:(n':Int)<=(m:Int):=(by omega);have hwx:IntKind.i64.wrap ((x:Int)+(n':Int))=(x:Int)+(n':Int):=(by simp[IntKind.wrap,IntKind.signed,IntKind.bits];omega);clear hD7 hc7 hqV;by_cases hcc:c'=n'
      · rw[if_pos hcc]at hcut;have HXc:=hQ_ hcut;clear hcut;go_wp2_with fail;refine wp_flow (by kernel_rfl) yn_ za_ (by kernel_rfl) ?_;refine flow_move_out za_ rfl rfl rfl ?_;refine flow_move_out za_ rfl rfl rfl ?_;refine flow2 (r:=.int .i64 ((x+n':Nat):Int)) za_ rfl (.inn rfl) (.inn rfl) rfl (fun ev W he e1 e2=>by go_simp) ?_;refine flow_move_out za_ rfl rfl rfl ?_;refine flow_move_out za_ rfl rfl rfl ?_;refine kb_ (r:=.slice (some ⟨bb,oo,none⟩) (m-n') (c'-n')) za_ (.inn rfl) (.inn rfl) (fun ev W he e1 e2=>by go_simp) rfl ?_;refine flow_assign za_ rfl (zc_ _) (.inr (zc_ _)) rfl ?_;refine flow_assign za_ rfl (zc_ _) (.inr (zc_ _)) rfl ?_;intro vs W hW hF;have e2:vs 2=.int .i64 ((x+n':Nat):Int):=hF 2 _ rfl rfl;have e3:vs 3=.slice (some ⟨bb,oo,none⟩) (m-n') (c'-n'):=hF 3 _ rfl rfl;simp only[zW_,Act.put,List.setIfInBounds_toArray,List.set_cons_zero,List.set_cons_succ,e2,e3];have HCW:=hQ_ (jA_ hW);clear hW hF e2 e3;go_wp2_with fail;go_roundw;case rel =>
         have hc:=HM.o;refine⟨k+n',by omega,by rw[HXe.o,Nat.add_assoc],⟨_,_,by rw[show n-(k+n')=m-n' by omega],hQ_ ?_,hQ_ ?_⟩,hQ_ (Dsk.keep HD7.o HCW.o),hQ_ (HC7.o.trans (HCW.o.sub (by simp)))⟩
         · have:=HXc.o.keep HCW.o;rw[List.drop_drop]at this;rw[show n-(k+n')=m-n' by omega];exact this
         · intro h0 ad e;injection e with e;subst e;exact HAk.o h0 ⟨bb,oo,none⟩ rfl
        case measure=>have:=HM.o;have:=HXe.o;simp[intOf];omega
      · rw[if_neg hcc,Option.map_some,zl_]at hcut;have HXc:=hQ_ hcut;clear hcut;go_wp2_with fail;refine wp_flow (by kernel_rfl) yn_ za_ (by kernel_rfl) ?_;refine flow_move_out za_ rfl rfl rfl ?_;refine flow_move_out za_ rfl rfl rfl ?_;refine flow2 (r:=.int .i64 ((x+n':Nat):Int)) za_ rfl (.inn rfl) (.inn rfl) rfl (fun ev W he e1 e2=>by go_simp) ?_;refine flow_move_out za_ rfl rfl rfl ?_;refine flow_move_out za_ rfl rfl rfl ?_;refine kb_ (r:=.slice (some ⟨bb,oo+n',none⟩) (m-n') (c'-n')) za_ (.inn rfl) (.inn rfl) (fun ev W he e1 e2=>by go_simp) rfl ?_;refine flow_assign za_ rfl (zc_ _) (.inr (zc_ _)) rfl ?_;refine flow_assign za_ rfl (zc_ _) (.inr (zc_ _)) rfl ?_;intro vs W hW hF;have e2:vs 2=.int .i64 ((x+n':Nat):Int):=hF 2 _ rfl rfl;have e3:vs 3=.slice (some ⟨bb,oo+n',none⟩) (m-n') (c'-n'):=hF 3 _ rfl rfl;simp only[zW_,Act.put,List.setIfInBounds_toArray,List.set_cons_zero,List.set_cons_succ,e2,e3];have HCW:=hQ_ (jA_ hW);clear hW hF e2 e3;go_wp2_with fail;go_roundw;case rel =>
         have hc:=HM.o;refine⟨k+n',by omega,by rw[HXe.o,Nat.add_assoc],⟨_,_,by rw[show n-(k+n')=m-n' by omega],hQ_ ?_,hQ_ ?_⟩,hQ_ (Dsk.keep HD7.o HCW.o),hQ_ (HC7.o.trans (HCW.o.sub (by simp)))⟩
         · have:=HXc.o.keep HCW.o;rw[List.drop_drop]at this;rw[show n-(k+n')=m-n' by omega];exact this
         · intro h0 ad e;injection e with e;subst e;exact HAk.o h0 ⟨bb,oo,none⟩ rfl
        case measure=>have:=HM.o;have:=HXe.o;simp[intOf];omega
    · have hk0:¬(0:Int)<((n-k:Nat):Int):=(by omega);have HK:=hQ_ (show l.take k=l from List.take_of_length_le (by rw[HLN.o];omega));obtain⟨m,hm⟩:∃m,m=n-k:=⟨_,rfl⟩;rw[<-hm]at hk0⊢;clear hm hlt;go_wp2_with fail;go_ret;refine .inl ⟨HY.o,rfl,?_,HCk.o⟩;have:=HDk.o;rw[HK.o]at this;rw[Int.toNat_natCast];exact this
end
noncomputable def stepS (l:List UInt8) (ep:Nat) (s:List (List UInt8)×Nat):List (List UInt8)×Nat :=
 open Classical in if zR_ (l.drop s.2) ep s.1.length then (s.1++[zge (l.drop s.2)],s.2+16+zz_ (l.drop s.2) 8) else s
noncomputable def itS (l:List UInt8) (ep:Nat):Nat->List (List UInt8)×Nat
  | 0=>([],0)
  | k+1=>stepS l ep (itS l ep k)
noncomputable def scanS (l:List UInt8) (ep:Nat):List (List UInt8)×Nat:=itS l ep (l.length+1)
theorem zau {l:List UInt8}{ep:Nat}{s:List (List UInt8)×Nat}(h:zR_ (l.drop s.2) ep s.1.length):stepS l ep s=(s.1++[zge (l.drop s.2)],s.2+16+zz_ (l.drop s.2) 8):=by
 unfold stepS;rw[if_pos h]
theorem zdf {l:List UInt8}{ep:Nat}{s:List (List UInt8)×Nat}(h:¬zR_ (l.drop s.2) ep s.1.length):stepS l ep s=s:=by
 unfold stepS;rw[if_neg h]
theorem zli {l:List UInt8}{ep k:Nat}(h:¬zR_ (l.drop (itS l ep k).2) ep (itS l ep k).1.length)(j:Nat):itS l ep (k+j)=itS l ep k:=by
 induction j with
 | zero=>rfl
 | succ j ih=>show stepS l ep (itS l ep (k+j))=_;rw[ih,zdf h]
theorem zkt {l:List UInt8}{ep k:Nat}(h:¬zR_ (l.drop (itS l ep k).2) ep (itS l ep k).1.length)(hk:k<=l.length+1):scanS l ep=itS l ep k:=by
 unfold scanS;have e:l.length+1=k+(l.length+1-k):=by omega
 rw[e,zli h]
def zaa (w:World)(l:List UInt8)(ep:Nat)(e:Ending)(w':World):Prop :=
 ∃v vs,e=.returned (.tuple #[v,.int .i64 ((scanS l ep).2:Nat)])/\w'.ownsRow w.heap.size 39 1 v (scanS l ep).1.length vs/\Rows w.heap.size w' vs (scanS l ep).1/\Chg [] w w'
structure At (l:List UInt8) (ep k:Nat) (rs:List (List UInt8)) (a:Nat):Prop where
  it:itS l ep k=(rs,a)
  len:rs.length=k
  low:16*k<=a
  top:a<=l.length
theorem At.zero (l:List UInt8)(ep:Nat):At l ep 0 [] 0:=⟨rfl,rfl,by omega,by omega⟩
theorem At.next {l:List UInt8}{ep k:Nat}{rs:List (List UInt8)}{a:Nat}(h:At l ep k rs a)(hr:zR_ (l.drop a) ep k):At l ep (k+1) (rs++[zge (l.drop a)]) (a+(16+zz_ (l.drop a) 8)):=by
 have h1:=hr.1;have h2:=hr.2.2.2.1;rw[List.length_drop]at h1 h2;refine⟨?_,by simp[h.len],by have:=h.low;omega,by have:=h.top;omega⟩;show stepS l ep (itS l ep k)=_;rw[h.it,zau (by simpa[h.len] using hr)];simp only[Nat.add_assoc]
theorem At.last {l:List UInt8}{ep k:Nat}{rs:List (List UInt8)}{a:Nat}(h:At l ep k rs a)(hr:¬zR_ (l.drop a) ep k):scanS l ep=(rs,a):=by
 have h1:=h.low;have h2:=h.top;rw[zkt (k:=k) (by rw[h.it];simpa[h.len] using hr) (by omega),h.it]
section
variable {w:World} {A:Option Addr} {n c:Nat} {l:List UInt8}
theorem zks (h:Bs w A n c l)(ep:Nat)(hn:n<=2147483648) :
    Calls Tryz.prog 115 #[.slice A n c,.int .u32 (ep:Int)] w (zaa w l ep):=by
 obtain⟨i,hi,hz,hs1,hb⟩:=info_parts kH_;go_enter Tryz.func115,Tryz.ntmps115;go_wp2_with fail;go_loopw [6,7] (fun v a wr=>∃k:Nat,∃m:Nat,∃rs vs,At l ep k rs m/\a=.int .i64 (m:Int)/\wr.ownsRow w.heap.size 39 1 v k vs/\Rows w.heap.size wr vs rs/\Chg [] w wr) (fun _ a _=>n-(intOf a).toNat);case atStart=>exact⟨0,0,[],[],At.zero l ep,rfl,vP_ _ _ _,Rows.nil _ _,Chg.refl _ _⟩
 case round =>
  obtain⟨k,m,rs,vs,hat,rfl,hown,hrows,hcr⟩:=hrel;obtain⟨Av,cv,rfl,hvl,hvc,_⟩:=zr_ hown;have hm:=hat.top;have hk:=hat.low;have hl:=h.len;have hcap:=h.cap;rw[hl]at hm;have hB:=(h.keep hcr).cut (lo:=m) (hi:=n) hm (Nat.le_refl _);have hdr:(l.drop m).take (n-m)=l.drop m:=List.take_of_length_le (by rw[List.length_drop];omega);rw[hdr]at hB;have e1:(k:Int)%4294967296=(k:Int):=by omega
  have e2:¬n<m:=by omega
  have e3:¬c<n:=by omega
  have hnx:zR_ (l.drop m) ep k->m+(16+zz_ (l.drop m) 8)<=n:=fun hr=>by have:=(hat.next hr).top;omega
  clear hdr hl;rcases Decidable.em (m=c) with hcm|hcm
  · have hok:¬zR_ (l.drop m) ep k:=fun hr=>(by have:=hnx hr;omega);have hnm:n=m:=(by omega);rw[if_pos hcm.symm]at hB;subst hcm;subst hnm;rw[Nat.sub_self]at hB;clear hnx;go_wp2_with fail;refine(jQ_ hB ep k (by omega)).mono ?_;rintro e w2 (⟨hyes,_⟩|⟨_,rfl,hc2⟩)
    · exact absurd hyes hok
    go_wp2_with fail;go_ret2;rw[zaa,hat.last hok];exact⟨_,vs,rfl,by rw[hat.len];exact zk_ hown hc2,hrows.keep hc2,hcr.new hc2⟩
  · rw [if_neg (Ne.symm hcm)]at hB;have e4:¬c=m:=Ne.symm hcm;by_cases hok:zR_ (l.drop m) ep k
    · have hnk:=hnx hok;go_wp2_with fail;refine(jQ_ hB ep k (by omega)).mono ?_;rintro e w2 (⟨_,v2,rfl,ho2,hc2⟩|⟨hno,_⟩);rotate_left
      · exact absurd hok hno
      obtain⟨A2,c2,rfl,_⟩:=zr_ ho2;have how:=zk_ hown hc2;have hrw:=hrows.keep hc2;have hx1:=hQ_ (show k+1<=maxLen by unfold maxLen;omega);have hx2:=hQ_ (show(k+1)*24<=140737488355328 by omega);have hx3:=hQ_ (show w.heap.size<=w2.heap.size from Nat.le_trans hcr.size hc2.size);go_wp2_with (
       at_builtin;refine zC_ rfl (.tmp 27) (.tmp 29) 96 rfl w.heap.size 39 i _ 24 Tryz.underlying96 hi hz hs1 hb qg_ (.slice Av k cv) k vs rfl (zk_ how ((Chg.refl _ _).alloc _)) (some ⟨w2.heap.size,0,none⟩) 1 1 [.slice A2 (zge (l.drop m)).length c2] rfl rfl (Src.of_all (zb_.new w2 39 [.slice A2 (zge (l.drop m)).length c2])) (fun u hu=>by simp at hu;rw[hu];rfl) hx1.out hx2.out (by simp;have:=hx3.out;omega) ?_;intro v4 w4 ho4 hg4 _);have hch4:Chg [] w w4:=((hcr.new hc2).alloc _).own (zk_ how ((Chg.refl _ _).alloc _)) (Nat.le_refl _) hg4;go_roundw;case rel =>
       refine⟨k+1,m+(16+zz_ (l.drop m) 8),_,_,hat.next hok,by go_num,ho4,?_,hch4⟩;exact((hrw.keep ((Chg.refl _ _).alloc _)).snoc (z0_ (zk_ ho2 ((Chg.refl _ _).alloc _)) hcr.size)).grown (zk_ how ((Chg.refl _ _).alloc _)) hg4
      case measure=>simp[intOf];omega
    · go_wp2_with fail;refine(jQ_ hB ep k (by omega)).mono ?_;rintro e w2 (⟨hyes,_⟩|⟨_,rfl,hc2⟩)
      · exact absurd hyes hok
      go_wp2_with fail;go_ret2;rw[zaa,hat.last hok];exact⟨_,vs,rfl,by rw[hat.len];exact zk_ hown hc2,hrows.keep hc2,hcr.new hc2⟩
end
def zaO (P:Int)(b:List UInt8):Prop:=2<=b.length/\b.length=2+v9_ b*66/\zF_ P (vf_ b (v9_ b))=true
instance (P:Int) (b:List UInt8):Decidable (zaO P b):=by unfold zaO;exact inferInstance
def zah (b:List UInt8):List ChV:=vf_ b (v9_ b)
def zai (P:Int):List (List UInt8)->List (List ChV)×Nat
  | []=>([],0)
  | b::rs=>if zaO P b then (zah b::(zai P rs).1,16+b.length+(zai P rs).2) else ([],0)
def lenS (rs:List (List UInt8)):Nat:=(rs.map fun b=>16+b.length).sum
theorem jP_ (P:Int):∀(rs:List (List UInt8))(k:Nat),k<=rs.length->(∀(j:Nat) b,j<k->rs[j]?=some b->zaO P b)->(∀b,rs[k]?=some b->¬zaO P b)->zai P rs=((rs.take k).map zah,lenS (rs.take k))
  | [],k,_,_,_=>by simp[zai,lenS]
  | b::rs,0,_,_,h=>by
    have:=h b rfl;simp[zai,this,lenS]
  | b::rs,k+1,hk,h1,h2=>by
    have hb:=h1 0 b (by omega) rfl;have ih:=jP_ P rs k (by simpa using hk) (fun j c hj hc=>h1 (j+1) c (by omega) (by simpa using hc)) (fun c hc=>h2 c (by simpa using hc));rw[zai,if_pos hb,ih];simp[lenS]
theorem zhV (rs:List (List UInt8))(k:Nat)(b:List UInt8)(h:rs[k]?=some b):lenS (rs.take (k+1))=lenS (rs.take k)+(16+b.length):=by
 obtain⟨hk,he⟩:=List.getElem?_eq_some_iff.1 h;unfold lenS;rw[List.take_succ_eq_append_getElem hk,List.map_append,List.sum_append,he];simp
theorem zhg (rs:List (List UInt8))(k:Nat)(b:List UInt8)(h:rs[k]?=some b):(rs.take (k+1)).map zah=(rs.take k).map zah++[zah b]:=by
 obtain⟨hk,he⟩:=List.getElem?_eq_some_iff.1 h;rw[List.take_succ_eq_append_getElem hk,List.map_append,he];rfl
theorem zdl (b:List UInt8):(zah b).length=v9_ b:=zjo b _
def zbL (B:Nat)(w:World)(vs:List Value)(ms:List (List ChV)):Prop :=
 vs.length=ms.length/\∀(i:Nat)(v:Value)(m:List ChV),vs[i]?=some v->ms[i]?=some m->∃ls,w.ownsRow B 123 2 v m.length (xY_ ls)/\(∀a∈ls,RMade w B a)/\ls.length=m.length/\asC ls m
theorem zbL.nil (B:Nat)(w:World):zbL B w [] []:=⟨rfl,fun i v m hv=>by simp at hv⟩
theorem zbL.keep {B:Nat}{w w':World}{vs:List Value}{ms:List (List ChV)}(h:zbL B w vs ms)(hc:Chg [] w w'):zbL B w' vs ms :=
 ⟨h.1,fun i v m hv hm=>by obtain⟨ls,h1,h2,h3⟩:=h.2 i v m hv hm;exact⟨ls,zS_ h1 hc (by simp),fun a ha=>(h2 a ha).chg hc (by simp),h3⟩⟩
theorem zbL.snoc {B:Nat}{w:World}{vs:List Value}{ms:List (List ChV)}(h:zbL B w vs ms){v:Value}{m ls:List ChV}(h1:w.ownsRow B 123 2 v m.length (xY_ ls))(h2:∀a∈ls,RMade w B a)(h3:ls.length=m.length)(h4:asC ls m):zbL B w (vs++[v]) (ms++[m]):=by
 refine⟨by simp[h.1],fun i u x hu hx=>?_⟩;rcases Nat.lt_trichotomy i vs.length with hi|hi|hi
 · rw[List.getElem?_append_left hi]at hu;rw[List.getElem?_append_left (by rw[<-h.1];exact hi)]at hx;exact h.2 i u x hu hx
 · subst hi;rw[List.getElem?_concat_length]at hu;rw[h.1,List.getElem?_concat_length]at hx;cases hu;cases hx;exact⟨ls,h1,h2,h3,h4⟩
 · rw[List.getElem?_eq_none (by simp;omega)]at hu;cases hu
theorem zce {w w':World}{B B2 n m k k2:Nat}{e e2:TypeId}{v v2:Value}{xs ys:List Value}(h:w.ownsRow B e k v n xs)(h2:w.ownsRow B2 e2 k2 v2 m ys)(hne:e≠e2)(hg:w.grownBy w' v2.ownBlock):w'.ownsRow B e k v n xs:=by
 refine⟨h.1,h.2.imp id ?_⟩;rintro⟨g,cap,cur,rfl,hb,hh,r⟩;exact⟨g,cap,cur,rfl,hb,(by
  have hW:w.heap[g]?=some (.cells cur.toList.toArray e (0,0)):=by simpa using hh
  have:=zn_ (show zb_ w g e cur.toList from hW) h2 hne hg;simpa[zb_] using this),r⟩
theorem RMade.grown2 {w w':World}{B0 B2 e2 k2 m:Nat}{v2:Value}{ys:List Value}{a:ChV}(h:RMade w B0 a)(h2:w.ownsRow B2 e2 k2 v2 m ys)(hne:5≠e2)(hg:w.grownBy w' v2.ownBlock):RMade w' B0 a:=by
 obtain⟨g,r,hg1,hB,hW,hr⟩:=h.b;exact { h with b:=⟨g,r,hg1,hB,zn_ hW h2 hne hg,hr⟩ }
theorem zbL.grown {B B2 m:Nat}{w w':World}{vs:List Value}{ms:List (List ChV)}(h:zbL B w vs ms){v2:Value}{ys:List Value}(h2:w.ownsRow B2 88 1 v2 m ys)(hg:w.grownBy w' v2.ownBlock):zbL B w' vs ms :=
 ⟨h.1,fun i v m hv hm=>by
  obtain⟨ls,h1,h2',h3⟩:=h.2 i v m hv hm;exact⟨ls,zce h1 h2 (by decide) hg,fun a ha=>(h2' a ha).grown2 h2 (by decide) hg,h3⟩⟩
theorem RMade.more {w:World}{B0 B1:Nat}{a:ChV}(h:RMade w B0 a)(hB:B1<=B0):RMade w B1 a:=by
 obtain⟨g,r,hg,hb,hW⟩:=h.b;exact { h with b:=⟨g,r,hg,Nat.le_trans hB hb,hW⟩ }
theorem qS_ {w:World}{B B' n k:Nat}{e:TypeId}{v:Value}{xs:List Value}(h:w.ownsRow B e k v n xs)(hB:B'<=B):w.ownsRow B' e k v n xs:=by
 refine⟨h.1,h.2.imp id ?_⟩;rintro⟨g,cap,cur,rfl,hb,r⟩;exact⟨g,cap,cur,rfl,Nat.le_trans hB hb,r⟩
theorem zbL.more {B B':Nat}{w:World}{vs:List Value}{ms:List (List ChV)}(h:zbL B w vs ms)(hB:B'<=B):zbL B' w vs ms :=
 ⟨h.1,fun i v m hv hm=>by obtain⟨ls,h1,h2,h3⟩:=h.2 i v m hv hm;exact⟨ls,qS_ h1 hB,fun a ha=>(h2 a ha).more hB,h3⟩⟩
def zoL (w:World)(x:List (List ChV)×Nat)(e:Ending)(w':World):Prop :=
 ∃v vs,e=.returned (.tuple #[v,.int .i64 (x.2:Int)])/\w'.ownsRow w.heap.size 88 1 v x.1.length vs/\zbL w.heap.size w' vs x.1/\Chg [] w w'
theorem zbc (l:List UInt8)(ep:Nat):∀k,(itS l ep k).1.length<=k/\∀r∈(itS l ep k).1,r.length<=l.length
  | 0=>⟨Nat.le_refl _,fun r hr=>by simp[itS]at hr⟩
  | k+1=>by
    obtain⟨h1,h2⟩:=zbc l ep k;show(stepS l ep (itS l ep k)).1.length<=k+1/\∀r∈(stepS l ep (itS l ep k)).1,r.length<=l.length;by_cases h:zR_ (l.drop (itS l ep k).2) ep (itS l ep k).1.length
    · rw[zau h];refine⟨by simp;omega,fun r hr=>?_⟩;rcases List.mem_append.1 hr with h3|h3
      · exact h2 r h3
      · simp only[List.mem_cons,List.not_mem_nil,or_false]at h3;subst h3;unfold zge;rw[List.length_take,List.length_drop,List.length_drop];omega
    · rw[zdf h];exact⟨by omega,h2⟩
theorem zcd (l:List UInt8)(ep:Nat):(scanS l ep).1.length<=l.length+1/\∀r∈(scanS l ep).1,r.length<=l.length:=zbc l ep _
theorem zfn (s:St)(L P E:Int):(zbO s L P E).length<=4096:=by
 unfold zbO;split
 · rename_i h;have:=zi_.1 h;unfold xI_;rw[List.length_take];omega
 · simp
noncomputable def recsS (s:St) (L P:Int) (ep:Nat):List (List ChV)×Nat:=zai P (scanS (zbO s L P ep) ep).1
def zku (B:Nat)(x:List (List UInt8)×Nat):yJ_:=fun v W=>∃v1 vs,v=.tuple #[v1,.int .i64 (x.2:Int)]/\W.ownsRow B 39 1 v1 x.1.length vs/\Rows B W vs x.1
theorem ua_ (B:Nat)(x:List (List UInt8)×Nat):zQ_ (Chg []) (zku B x):=fun _ _ _ ⟨v1,vs,h1,h2,h3⟩ hc=>⟨v1,vs,h1,zk_ h2 hc,h3.keep hc⟩
theorem zlm:(Tryz.prog.info? 88).map (fun i=>(i.zero,i.size,i.bytes))=some (some (.slice none 0 0),1,24):=by kernel_rfl
def zbQ (L P E i:Int)(n:Nat):Bool:=zp_ L P E n&&decide (0<=xR_ L P i)
theorem jm_ {L P i:Int}(h1:1<=L)(h2:L<=64)(h3:P<=64)(h4:0<=i)(h5:i<P):xR_ L P i=2+L+i:=by
 unfold xR_;rw[if_neg (by omega)];unfold wrap64;omega
theorem zil {L P i:Int}(h:i<0\/P<=i):xR_ L P i=-1:=by unfold xR_;rw[if_pos h]
theorem zdN {L P E i:Int}{n:Nat}(h:zbQ L P E i n=true):zp_ L P E n=true/\∃k:Nat,xR_ L P i=(k:Int)/\k<n/\(k:Int)=2+L+i/\0<=i/\i<P:=by
 unfold zbQ at h;rw[Bool.and_eq_true,decide_eq_true_iff]at h;obtain⟨h1,h2⟩:=h;refine⟨h1,?_⟩;obtain⟨a,b,c,d,e,f⟩:=zi_.1 h1;by_cases hi:i<0\/P<=i
 · rw[zil hi]at h2;omega
 · have:=jm_ (L:=L) (P:=P) (i:=i) a b d (by omega) (by omega);exact⟨(2+L+i).toNat,by rw[this];omega,by omega,by omega,by omega,by omega⟩
theorem zin {L P E i:Int}{n:Nat}(h:zp_ L P E n=true)(h4:0<=i)(h5:i<P):zbQ L P E i n=true:=by
 obtain⟨a,b,c,d,e,f⟩:=zi_.1 h;unfold zbQ;rw[h,jm_ a b d h4 h5];simp;omega
theorem q7_ {L P E i:Int}{n:Nat}(h:zp_ L P E n=false):zbQ L P E i n=false:=by
 unfold zbQ;rw[h];rfl
section
variable {w:World} {p bL bS bW:Nat} {s:St}
theorem zdM (h:z9_ w p bL bS bW s)(L P E i:Int) :
    Calls Tryz.prog 124 #[.pointer (some ⟨p,0,none⟩),zB_ L P E,.int .i64 i] w (ye_ (zbQ L P E i s.V.length) w):=by
 have hr0:zB_ L P E=.agg #[.int .i64 L,.int .i64 P,.int .u32 E]:=rfl;rw[hr0];go_enter Tryz.func124,Tryz.ntmps124;go_wp2_with fail;have hR:=zb_.new w 82 [.int .i64 L,.int .i64 P,.int .u32 E];have hc1:Chg [] w (w.alloc (.cells #[.int .i64 L,.int .i64 P,.int .u32 E] 82)):=(Chg.refl [] w).alloc _;obtain⟨g,hg⟩:∃g,g=w.heap.size:=⟨_,rfl⟩;rw[<-hg]at hR⊢;generalize w.alloc (.cells #[.int .i64 L,.int .i64 P,.int .u32 E] 82)=w1 at hc1 hR⊢;clear hg;have hld:=fun (W:World)(hW:Chg [] w1.drew W)=>zq_ (hR.drew.keep hW);have kd:∀W,Chg [] w1.drew W->z9_ W p bL bS bW s:=fun W hW=>(Dsk.keep h hc1.drew).keep hW;cases hrr:zp_ L P E s.V.length with
 | false =>
   have HF:=hQ_ (q7_ (i:=i) hrr);refine wp_flow (by kernel_rfl) yn_ za_ (by kernel_rfl) ?_;refine flow_move_out za_ rfl rfl rfl ?_;refine flow2 (r:=.bool true) za_ rfl (.inn rfl) (.const _) rfl (fun ev W he e1 e2=>by go_simp) ?_;refine zP_ za_ rfl (zc_ _) (.inr (zc_ _)) rfl ?_;refine flow1h (r:=zB_ L P E) za_ rfl (.out rfl rfl) rfl (fun ev W he hW e1=>by obtain⟨c0,c1,c2,_,_,_⟩:=hld W hW;go_simp) ?_;refine flow_move_out za_ rfl rfl rfl ?_;refine zw_ (.int .i64 (s.V.length:Int)) (by kernel_rfl) rfl (.cons (.inn rfl) .nil) (fun W hW=>(xQ_ (kd W hW)).mono ?_) ?_
   · rintro e w' ⟨rfl,rfl⟩;exact⟨rfl,Chg.refl _ _⟩
   refine zw_ (.bool false) (by kernel_rfl) rfl (.cons (.inn rfl) (.cons (.inn rfl) .nil)) (fun W hW=>(yb_ _ _ _ _).mono ?_) ?_
   · rintro e w' ⟨rfl,hc⟩;exact⟨by rw[hrr],hc⟩
   refine xt_ za_ rfl rfl rfl ?_;refine zP_ za_ rfl (zc_ _) (.inr (zc_ _)) rfl ?_;refine zA_ rfl ?_;refine zA_ rfl ?_;refine zA_ rfl ?_;refine zA_ rfl ?_;refine y7_ za_ rfl rfl rfl ?_;refine flow_assign za_ rfl (zc_ _) (.inr (zc_ _)) rfl ?_;intro vs W hW hF;have e40:vs 6=.bool false:=hF 6 _ rfl rfl;simp only[zW_,Act.put,List.setIfInBounds_toArray,List.set_cons_zero,List.set_cons_succ,e40];have HCW:=hQ_ (hc1.drew.new hW);clear hW hF hld hR hc1 kd;go_wp2_with fail;go_ret;exact⟨by rw[HF.o];rfl,HCW.o⟩
 | true =>
   have HF:=hQ_ (show decide (0<=xR_ L P i)=zbQ L P E i s.V.length by unfold zbQ;rw[hrr];rfl);refine wp_flow (by kernel_rfl) yn_ za_ (by kernel_rfl) ?_;refine flow_move_out za_ rfl rfl rfl ?_;refine flow2 (r:=.bool true) za_ rfl (.inn rfl) (.const _) rfl (fun ev W he e1 e2=>by go_simp) ?_;refine zP_ za_ rfl (zc_ _) (.inr (zc_ _)) rfl ?_;refine flow1h (r:=zB_ L P E) za_ rfl (.out rfl rfl) rfl (fun ev W he hW e1=>by obtain⟨c0,c1,c2,_,_,_⟩:=hld W hW;go_simp) ?_;refine flow_move_out za_ rfl rfl rfl ?_;refine zw_ (.int .i64 (s.V.length:Int)) (by kernel_rfl) rfl (.cons (.inn rfl) .nil) (fun W hW=>(xQ_ (kd W hW)).mono ?_) ?_
   · rintro e w' ⟨rfl,rfl⟩;exact⟨rfl,Chg.refl _ _⟩
   refine zw_ (.bool true) (by kernel_rfl) rfl (.cons (.inn rfl) (.cons (.inn rfl) .nil)) (fun W hW=>(yb_ _ _ _ _).mono ?_) ?_
   · rintro e w' ⟨rfl,hc⟩;exact⟨by rw[hrr],hc⟩
   refine xt_ za_ rfl rfl rfl ?_;refine zP_ za_ rfl (zc_ _) (.inr (zc_ _)) rfl ?_;refine flow1h (r:=zB_ L P E) za_ rfl (.out rfl rfl) rfl (fun ev W he hW e1=>by obtain⟨c0,c1,c2,_,_,_⟩:=hld W hW;go_simp) ?_;refine flow_move_out za_ rfl rfl rfl ?_;refine zw_ (.int .i64 (xR_ L P i)) (by kernel_rfl) rfl (.cons (.inn rfl) (.cons (.inn rfl) .nil)) (fun W hW=>(gK_ _ _ _ _).mono ?_) ?_
   · rintro e w' ⟨rfl,hc⟩;exact⟨rfl,hc⟩
   refine flow2 (r:=.bool (decide (0<=xR_ L P i))) za_ rfl (.inn rfl) (.const _) rfl (fun ev W he e1 e2=>by go_simp) ?_;refine xt_ za_ rfl rfl rfl ?_;refine flow_assign za_ rfl (zc_ _) (.inr (zc_ _)) rfl ?_;intro vs W hW hF;have e40:vs 6=.bool (decide (0<=xR_ L P i)):=hF 6 _ rfl rfl;simp only[zW_,Act.put,List.setIfInBounds_toArray,List.set_cons_zero,List.set_cons_succ,e40];have HCW:=hQ_ (hc1.drew.new hW);clear hW hF hld hR hc1 kd;go_wp2_with fail;go_ret;exact⟨by rw[HF.o];rfl,HCW.o⟩
def zme (w:World)(s:St)(L P E i:Int)(e:Ending)(w':World):Prop :=
 (zbQ L P E i s.V.length=true/\∃v,e=.returned (.tuple #[v,.bool true])/\w'.ownsRow w.heap.size 5 1 v 64 (bts (xb_ s.S s.V.length (xR_ L P i).toNat))/\Chg [] w w') \/
 (zbQ L P E i s.V.length=false/\e=.returned (.tuple #[.slice none 0 0,.bool false])/\Chg [] w w')
theorem uP_ {S:List UInt8}{n k:Nat}(h:S.length=64*n)(hk:k<n):(xb_ S n k).length=64:=by
 unfold xb_;rw[if_pos hk,List.length_take,List.length_drop];omega
theorem zbg (h:z9_ w p bL bS bW s)(L P E i:Int) :
    Calls Tryz.prog 114 #[.pointer (some ⟨p,0,none⟩),zB_ L P E,.int .i64 i] w (zme w s L P E i):=by
 have hr0:zB_ L P E=.agg #[.int .i64 L,.int .i64 P,.int .u32 E]:=rfl;have H:=hQ_ h;have hlS:=h.lenS;clear h;rw[hr0];go_enter Tryz.func114,Tryz.ntmps114;go_wp2_with fail;have hR:=zb_.new w 82 [.int .i64 L,.int .i64 P,.int .u32 E];have hc1:Chg [] w (w.alloc (.cells #[.int .i64 L,.int .i64 P,.int .u32 E] 82)):=(Chg.refl [] w).alloc _;obtain⟨g,hg⟩:∃g,g=w.heap.size:=⟨_,rfl⟩;rw[<-hg]at hR⊢;have hgw:w.heap.size<=g:=by omega
 generalize w.alloc (.cells #[.int .i64 L,.int .i64 P,.int .u32 E] 82)=w1 at hc1 hR⊢;clear hg;obtain⟨c0,c1,c2,_,_,_⟩:=zq_ hR;go_wp2_with fail;refine(zdM (Dsk.keep H.o hc1) L P E i).mono ?_;rintro e w2 ⟨rfl,hc2⟩;have HC2:=hQ_ (hc1.new hc2);have HR2:=hQ_ (hR.keep hc2);clear hc1 hc2 hR c0 c1 c2;cases hh:zbQ L P E i s.V.length with
 | false =>
   go_wp2_with fail;go_ret2;exact .inr ⟨hh,rfl,HC2.o⟩
 | true =>
   obtain⟨-,k,hk,hkn,-⟩:=zdN hh;obtain⟨c0,c1,c2,_,_,_⟩:=zq_ HR2.o;go_wp2_with fail;refine(gK_ L P E i).mono ?_;rintro e w3 ⟨rfl,hc3⟩;rw[hk];have HC3:=hQ_ (HC2.o.new hc3);have HH:=hQ_ hk;clear hc3 hk c0 c1 c2;go_wp2_with fail;refine(ji_ (Dsk.keep H.o HC3.o) k hkn).mono ?_;rintro e w4 ⟨rfl,hW4,hc4⟩;have hs:xb_ s.S s.V.length k=(s.S.drop (k*64)).take 64:=(by unfold xb_;rw[if_pos hkn]);rw[<-hs]at hW4;have hl:=uP_ (k:=k) hlS hkn;have ho:=zT_ (B:=w3.heap.size) (n:=64) (c:=64) hW4 (Nat.le_refl _) (by rw[zg_];exact hl) (by omega) (by unfold maxLen;omega);rw[List.take_of_length_le (by rw[zg_];omega)]at ho;have HO:=hQ_ (z0_ ho HC3.o.size);have HC4:=hQ_ (HC3.o.new hc4);clear hW4 hc4 ho hs hl;go_wp2_with fail;go_ret2;refine .inl ⟨hh,_,rfl,?_,HC4.o⟩;rw[HH.o,Int.toNat_natCast];exact HO.o
def zoM (w:World)(p bL bS bW:Nat)(s:St)(L P E i:Int)(x:List UInt8)(e:Ending)(w':World):Prop :=
 (zbQ L P E i s.V.length=true/\x.length=64/\e=.returned (.bool true)/\z9_ w' p bL bS bW (s.write (xR_ L P i).toNat x)/\Chg [bS,bW] w w') \/
 (¬(zbQ L P E i s.V.length=true/\x.length=64)/\e=.returned (.bool false)/\Chg [] w w')
theorem zlo (h:z9_ w p bL bS bW s)(L P E i:Int){A:Option Addr}{n c:Nat}{x:List UInt8}(hx:Bs w A n c x) :
    Calls Tryz.prog 84 #[.pointer (some ⟨p,0,none⟩),zB_ L P E,.int .i64 i,.slice A n c] w (zoM w p bL bS bW s L P E i x):=by
 have hr0:zB_ L P E=.agg #[.int .i64 L,.int .i64 P,.int .u32 E]:=rfl;have H:=hQ_ h;have HX:=hQ_ hx;clear h hx;rw[hr0];go_enter Tryz.func84,Tryz.ntmps84;go_wp2_with fail;have hR:=zb_.new w 82 [.int .i64 L,.int .i64 P,.int .u32 E];have hc1:Chg [] w (w.alloc (.cells #[.int .i64 L,.int .i64 P,.int .u32 E] 82)):=(Chg.refl [] w).alloc _;obtain⟨g,hg⟩:∃g,g=w.heap.size:=⟨_,rfl⟩;rw[<-hg]at hR⊢;generalize w.alloc (.cells #[.int .i64 L,.int .i64 P,.int .u32 E] 82)=w1 at hc1 hR⊢;clear hg;obtain⟨c0,c1,c2,_,_,_⟩:=zq_ hR;go_wp2_with fail;refine(zdM (Dsk.keep H.o hc1) L P E i).mono ?_;rintro e w2 ⟨rfl,hc2⟩;have HC2:=hQ_ (hc1.new hc2);have HR2:=hQ_ (hR.keep hc2);clear hc1 hc2 hR c0 c1 c2;cases hh:zbQ L P E i s.V.length with
 | false =>
   go_wp2_with fail;go_ret;exact .inr ⟨by rw[hh];simp,rfl,HC2.o⟩
 | true =>
   obtain⟨-,k,hk,hkn,-⟩:=zdN hh;obtain⟨c0,c1,c2,_,_,_⟩:=zq_ HR2.o;go_wp2_with fail;refine(gK_ L P E i).mono ?_;rintro e w3 ⟨rfl,hc3⟩;rw[hk];have HC3:=hQ_ (HC2.o.new hc3);have HH:=hQ_ hk;clear hc3 hk c0 c1 c2;have hxl:=HX.o.len;by_cases hn:n=64
   · subst hn;go_wp2_with fail;refine(uL_ (Dsk.keep H.o HC3.o) k hkn hxl (HX.o.src.keep HC3.o)).mono ?_;rintro e w4 ⟨rfl,hD4,hc4⟩;have HC4:=hQ_ ((HC3.o.sub (T':=[bS,bW]) (by simp)).trans hc4);have HD:=hQ_ hD4;clear hD4 hc4;go_wp2_with fail;go_ret;refine .inl ⟨hh,hxl,rfl,?_,?_⟩
     · rw[HH.o,Int.toNat_natCast];exact HD.o
     · exact HC4.o
   · go_wp2_with fail;refine(zjS (Dsk.keep H.o HC3.o) k A n c (.inr (.inr hn))).mono ?_;rintro e w4 ⟨rfl,rfl⟩;go_wp2_with fail;go_ret;exact .inr ⟨by rw[hh];simp;omega,rfl,HC3.o⟩
end
def z4_ (s:St)(L:Int)(n:Nat):List (List UInt8):=(List.range n).map fun i=>xb_ s.S s.V.length (2+L.toNat+i)
def zoJ (s:St)(L P E:Int):List (List UInt8):=if zp_ L P E s.V.length=true then z4_ s L P.toNat else []
theorem zcj (s:St)(L:Int)(n:Nat):z4_ s L (n+1)=z4_ s L n++[xb_ s.S s.V.length (2+L.toNat+n)]:=by
 unfold z4_;rw[List.range_succ,List.map_append];rfl
theorem yL_ (s:St)(L:Int)(n:Nat):(z4_ s L n).length=n:=by simp[z4_]
theorem zio {L P E:Int}{n k:Nat}(h:zp_ L P E n=true)(hk:(k:Int)<P):zbQ L P E k n=true/\(xR_ L P k).toNat=2+L.toNat+k/\2+L.toNat+k<n/\xR_ L P k=((2+L.toNat+k:Nat):Int):=by
 have h1:=zin (i:=k) h (by omega) hk;obtain⟨a,b,c,d,e,f⟩:=zi_.1 h;have e1:=jm_ (L:=L) (P:=P) (i:=k) a b d (by omega) hk;exact⟨h1,by rw[e1];omega,by omega,by rw[e1];omega⟩
def zmc (w:World)(ls:List (List UInt8))(e:Ending)(w':World):Prop :=
 ∃v vs,e=.returned v/\w'.ownsRow w.heap.size 39 1 v ls.length vs/\Rows w.heap.size w' vs ls/\Chg [] w w'
section
variable {w:World} {p bL bS bW:Nat} {s:St}
theorem zls (h:z9_ w p bL bS bW s)(L P E:Int) :
    Calls Tryz.prog 74 #[.pointer (some ⟨p,0,none⟩),zB_ L P E] w (zmc w (zoJ s L P E)):=by
 obtain⟨i0,hi,hz,hs1,hb⟩:=info_parts kH_;have hr0:zB_ L P E=.agg #[.int .i64 L,.int .i64 P,.int .u32 E]:=rfl;have H:=hQ_ h;clear h;rw[hr0];go_enter Tryz.func74,Tryz.ntmps74;go_wp2_with fail;have hR:=zb_.new w 82 [.int .i64 L,.int .i64 P,.int .u32 E];have hc1:Chg [] w (w.alloc (.cells #[.int .i64 L,.int .i64 P,.int .u32 E] 82)):=(Chg.refl [] w).alloc _;obtain⟨g,hg⟩:∃g,g=w.heap.size:=⟨_,rfl⟩;rw[<-hg]at hR⊢;generalize w.alloc (.cells #[.int .i64 L,.int .i64 P,.int .u32 E] 82)=w1 at hc1 hR⊢;clear hg;obtain⟨c0,c1,c2,_,_,_⟩:=zq_ hR;go_wp2_with fail;clear c0 c1 c2;cases hrr:zp_ L P E s.V.length with
 | false =>
   have HF:=hQ_ (show zoJ s L P E=[] by unfold zoJ;rw[if_neg (by rw[hrr];simp)]);go_loopw [5,11] (fun v i wr=>v=.slice none 0 0/\i=.int .i64 0/\Chg [] w1 wr) (fun _ _ _=>0);(case atStart=>exact⟨rfl,rfl,Chg.refl _ _⟩);case round =>
    obtain⟨rfl,rfl,hcr⟩:=hrel;by_cases hP:0<P
    · obtain⟨c0,c1,c2,_,_,_⟩:=zq_ (hR.keep hcr);go_wp2_with fail;refine(zbg (Dsk.keep H.o (hc1.new hcr)) L P E 0).mono ?_;rintro e w2 (⟨hyes,_⟩|⟨_,rfl,hc2⟩)
      · rw[q7_ hrr]at hyes;cases hyes
      clear c0 c1 c2;go_wp2_with fail;go_ret;rw[HF.o];exact⟨_,[],rfl,vP_ _ _ _,Rows.nil _ _,(hc1.new hcr).new hc2⟩
    · go_wp2_with fail;go_ret;rw[HF.o];exact⟨_,[],rfl,vP_ _ _ _,Rows.nil _ _,hc1.new hcr⟩
 | true =>
   have hP1:1<=P:=(zi_.1 hrr).2.2.1;have hP64:P<=64:=(zi_.1 hrr).2.2.2.1;have HF:=hQ_ (show zoJ s L P E=z4_ s L P.toNat by unfold zoJ;rw[if_pos hrr]);go_loopw [5,11] (fun v i wr=>∃k:Nat,∃vs,(k:Int)<=P/\i=.int .i64 (k:Int)/\wr.ownsRow w1.heap.size 39 1 v k vs/\Rows w.heap.size wr vs (z4_ s L k)/\Chg [] w1 wr) (fun _ i _=>P.toNat-(intOf i).toNat);(case atStart=>exact⟨0,[],by omega,rfl,vP_ _ _ _,Rows.nil _ _,Chg.refl _ _⟩);case round =>
    obtain⟨k,vs,hk,rfl,hown,hrows,hcr⟩:=hrel;obtain⟨Av,cv,rfl,hvl,hvc,_⟩:=zr_ hown;have hcw:=hQ_ (hc1.new hcr);by_cases hlt:(k:Int)<P
    · obtain⟨hh,hx,-,-⟩:=zio hrr hlt;have HX:=hQ_ hx;clear hx;obtain⟨c0,c1,c2,_,_,_⟩:=zq_ (hR.keep hcr);go_wp2_with fail;refine(zbg (Dsk.keep H.o hcw.out) L P E k).mono ?_;rintro e w2 (⟨_,v2,rfl,ho2,hc2⟩|⟨hno,_⟩);rotate_left
      · rw[hh]at hno;cases hno
      rw[HX.o]at ho2;obtain⟨A2,c2',rfl,_⟩:=zr_ ho2;have how:=zk_ hown hc2;have hrw:=hrows.keep hc2;have hb2:=Nat.le_trans hcr.size hc2.size;have hx1:=hQ_ (show k+1<=maxLen by unfold maxLen;omega);have hx2:=hQ_ (show(k+1)*24<=140737488355328 by omega);have hx3:=hQ_ hb2;clear c0 c1 c2 hb2;go_wp2_with (
       at_builtin;refine zC_ rfl (.tmp 23) (.tmp 25) 96 rfl w1.heap.size 39 i0 _ 24 Tryz.underlying96 hi hz hs1 hb qg_ (.slice Av k cv) k vs rfl (zk_ how ((Chg.refl _ _).alloc _)) (some ⟨w2.heap.size,0,none⟩) 1 1 [.slice A2 64 c2'] rfl rfl (Src.of_all (zb_.new w2 39 [.slice A2 64 c2'])) (fun u hu=>by simp at hu;rw[hu];rfl) hx1.out hx2.out (by simp;have:=hx3.out;omega) ?_;intro v4 w4 ho4 hg4 _);have hlen:=uP_ (k:=2+L.toNat+k) H.o.lenS (zio hrr hlt).2.2.1;have hch1:Chg [] w1 w4:=((hcr.new hc2).alloc _).own (zk_ how ((Chg.refl _ _).alloc _)) (Nat.le_refl _) hg4;go_roundw;case rel =>
       refine⟨k+1,_,by omega,by go_num,ho4,?_,hch1⟩;rw[zcj];exact((hrw.keep ((Chg.refl _ _).alloc _)).snoc (by rw[hlen];exact z0_ (zk_ ho2 ((Chg.refl _ _).alloc _)) hcw.out.size)).grown (zk_ how ((Chg.refl _ _).alloc _)) hg4
      case measure=>simp[intOf];omega
    · go_wp2_with fail;go_ret;rw[HF.o];have hkP:P.toNat=k:=(by omega);rw[hkP];exact⟨_,vs,rfl,by rw[yL_];exact z0_ hown hc1.size,hrows,hcw.out⟩
end
section
variable {P0:Program} {T:Turns} {w0:World} {a0:Act} {ops:List Oper} {Q:Exit->Act->World->Prop} {F:Said} {k:Nat} {rest:List Oper}
  {d:Option Tmp} {ty:TypeId} {pos:String} {af:Array Go.Edge} {g:Option (Nat×Bool)}
def zoY (B:Nat)(ls:List (List UInt8)):yJ_:=fun v W=>∃vs,W.ownsRow B 39 1 v ls.length vs/\Rows B W vs ls
theorem zaD {B B':Nat}{w:World}{vs:List Value}{rs:List (List UInt8)}(h:Rows B w vs rs)(hB:B'<=B):Rows B' w vs rs:=⟨h.1,fun i v l hv hl=>z0_ (h.2 i v l hv hl) hB⟩
theorem vc_ (B:Nat)(ls:List (List UInt8)):zQ_ (Chg []) (zoY B ls):=fun _ _ _ ⟨vs,h2,h3⟩ hc=>⟨vs,zk_ h2 hc,h3.keep hc⟩
theorem zfB {t:Tmp}{B:Nat}{x:List (List UInt8)×Nat}(hT:T.Ok)(hk:zQ_ T.R (zoY B x.1))(hf:T.soft.contains k=true\/zQ_ T.H (zoY B x.1))(hs:vw_ F t=some (zku B x))
    (hg:zy_ ops F true ⟨d,.extract (.tmp t) 0,ty,pos,af,g⟩) (h:Flow P0 T w0 a0 ops Q ((d,zoY B x.1)::F) (k+1) rest) :
    Flow P0 T w0 a0 ops Q F k (⟨d,.extract (.tmp t) 0,ty,pos,af,g⟩::rest):=by
 refine flow_op _ hk hf hg (fun ev W he hW hf=>?_) h;have hf1:z5_ a0 F (.tmp t) (ev (.tmp t)) W:=hf.1;simp only[z5_,hs]at hf1;obtain⟨v1,vs,e1,h1,h2⟩:=hf1;have:(execOp ev ⟨d,.extract (.tmp t) 0,ty,pos,af,g⟩).run P0 W=.ok (.value v1) W:=by go_simp
 rw[this];exact⟨hT.by_refl k W,vs,h1,h2⟩
theorem zfA {t:Tmp}{B:Nat}{x:List (List UInt8)×Nat}(hT:T.Ok)(hs:vw_ F t=some (zku B x))
    (hg:zy_ ops F true ⟨d,.extract (.tmp t) 1,ty,pos,af,g⟩) (h:Flow P0 T w0 a0 ops Q ((d,isV (.int .i64 (x.2:Int)))::F) (k+1) rest) :
    Flow P0 T w0 a0 ops Q F k (⟨d,.extract (.tmp t) 1,ty,pos,af,g⟩::rest):=by
 refine flow_op _ (zc_ _) (.inr (zc_ _)) hg (fun ev W he hW hf=>?_) h;have hf1:z5_ a0 F (.tmp t) (ev (.tmp t)) W:=hf.1;simp only[z5_,hs]at hf1;obtain⟨v1,vs,e1,h1,h2⟩:=hf1;have:(execOp ev ⟨d,.extract (.tmp t) 1,ty,pos,af,g⟩).run P0 W=.ok (.value (.int .i64 (x.2:Int))) W:=by go_simp
 rw[this];exact⟨hT.by_refl k W,rfl⟩
end
theorem zhW:∀(rs:List (List UInt8))(N:Nat),(∀r∈rs,r.length<=N)->lenS rs<=rs.length*(16+N)
  | [],N,_=>by simp[lenS]
  | r::rs,N,h=>by
    have h1:=h r (by simp);have h2:=zhW rs N (fun x hx=>h x (by simp[hx]));have e:lenS (r::rs)=16+r.length+lenS rs:=(by simp[lenS]);rw[e,List.length_cons,Nat.add_mul];omega
theorem zjt:(Value.slice none 0 0).cells.size=1:=rfl
section
variable {w:World} {p bL bS bW:Nat} {s:St}
theorem znv (h:z9_ w p bL bS bW s)(L P:Int)(ep:Nat) :
    Calls Tryz.prog 75 #[.pointer (some ⟨p,0,none⟩),zB_ L P (ep:Int)] w (zoL w (recsS s L P ep)):=by
 obtain⟨i,hi,hz,hs1,hb⟩:=info_parts zlm;have hr0:zB_ L P (ep:Int)=.agg #[.int .i64 L,.int .i64 P,.int .u32 (ep:Int)]:=rfl;have H:=hQ_ h;clear h;rw[hr0];go_enter Tryz.func75,Tryz.ntmps75;go_wp2_with fail;have hR:=zb_.new w 82 [.int .i64 L,.int .i64 P,.int .u32 (ep:Int)];have hc1:Chg [] w (w.alloc (.cells #[.int .i64 L,.int .i64 P,.int .u32 (ep:Int)] 82)):=(Chg.refl [] w).alloc _;obtain⟨g,hg⟩:∃g,g=w.heap.size:=⟨_,rfl⟩;rw[<-hg]at hR⊢;generalize w.alloc (.cells #[.int .i64 L,.int .i64 P,.int .u32 (ep:Int)] 82)=w1 at hc1 hR⊢;clear hg;have hld:=fun (W:World)(hW:Chg [] w1.drew W)=>zq_ (hR.drew.keep hW);have kd:∀W,Chg [] w1.drew W->z9_ W p bL bS bW s:=fun W hW=>(Dsk.keep H.o hc1.drew).keep hW;obtain⟨lg,hlg⟩:∃lg,lg=zbO s L P ep:=⟨_,rfl⟩;obtain⟨X,hX⟩:∃X,X=scanS lg ep:=⟨_,rfl⟩;have hll:lg.length<=4096:=by rw[hlg];exact zfn s L P ep
 have hXs:=zcd lg ep;rw[<-hX]at hXs;have HRS:=hQ_ (show recsS s L P ep=zai P X.1 by unfold recsS;rw[<-hlg,<-hX]);have hwz:w1.drew.heap.size=w1.heap.size:=rfl;refine wp_flow (by kernel_rfl) yn_ za_ (by kernel_rfl) ?_;refine flow_move_out za_ rfl rfl rfl ?_;refine flow1h (r:=zB_ L P ep) za_ rfl (.out rfl rfl) rfl (fun ev W he hW e1=>by obtain⟨c0,c1,c2,_,_,_⟩:=hld W hW;go_simp) ?_;refine flow_calld (jk_ w1.drew.heap.size 5 (bts lg)) (yj_ _ _ _) (.inr (yj_ _ _ _)) (by kernel_rfl) rfl (.cons (.inn rfl) (.cons (.inn rfl) .nil)) (fun W hW=>(zfa (kd W hW) L P ep).mono ?_) ?_
 · rintro e w' ⟨v,rfl,ho,hc⟩;rw[<-hlg]at ho;exact⟨_,rfl,hc,by rw[jk_,zg_];exact z0_ ho hW.size⟩
 refine flow1 (r:=.pointer (some ⟨g,2,none⟩)) za_ rfl (.out rfl rfl) rfl (fun ev W he e1=>by go_simp) ?_;refine flow1h (r:=.int .u32 (ep:Int)) za_ rfl (.inn rfl) rfl (fun ev W he hW e1=>by obtain⟨c0,c1,c2,_,_,_⟩:=hld W hW;go_simp) ?_;refine flow_call (zku w1.drew.heap.size X) (ua_ _ _) (.inr (ua_ _ _)) (by kernel_rfl) rfl (fun ev W he hW hf=>?_) ?_
 · have h1:(jk_ w1.drew.heap.size 5 (bts lg)) (ev (.tmp 17)) W:=hf.1;have h2:ev (.tmp 19)=.int .u32 (ep:Int):=hf.2.1;rw[jk_,zg_]at h1;obtain⟨A,c,e1,hB,_⟩:=Bs.of_own h1;show Calls _ _ #[ev (.tmp 17),ev (.tmp 19)] W _;rw[e1,h2];refine(zks hB ep (by omega)).mono ?_;rintro e w' ⟨v,vs,rfl,ho,hr,hc⟩;rw[<-hX]at ho hr⊢;exact⟨_,rfl,hc,v,vs,rfl,z0_ ho hW.size,zaD hr hW.size⟩
 refine zP_ za_ rfl (ua_ _ _) (.inr (ua_ _ _)) rfl ?_;refine zfB za_ (vc_ _ _) (.inr (vc_ _ _)) rfl rfl ?_;refine zfA za_ rfl rfl ?_;refine flow_assign za_ rfl (vc_ _ _) (.inr (vc_ _ _)) rfl ?_;refine flow_assign za_ rfl (zc_ _) (.inr (zc_ _)) rfl ?_;intro vs W hW hF;obtain⟨rs,ho,hrows⟩:=hF 6 _ rfl rfl;have e7:vs 7=.int .i64 (X.2:Int):=hF 7 _ rfl rfl;generalize hFv:vs 6=Fv at ho;simp only[zW_,Act.put,List.setIfInBounds_toArray,List.set_cons_zero,List.set_cons_succ,e7,hFv];obtain⟨Y,z⟩:=X;simp only at ho hrows HRS hXs⊢;obtain⟨n,hn⟩:∃n,n=Y.length:=⟨_,rfl⟩;rw[<-hn]at ho hXs;have HN:=hQ_ hn;obtain⟨A6,c6,rfl,hl6,_,hs6,hp6⟩:=zr_ ho;have HCW:=hQ_ (hc1.new (jA_ hW));have HRW:=hQ_ (hR.drew.keep hW);have HS6:=hQ_ hs6;have HP6:=hQ_ hp6;have HROW:=hQ_ hrows;have HYL:=hQ_ hXs.2;have hn4:n<=4097:=by omega
 have HL6:=hQ_ hl6;have HLG:=hQ_ hll;clear hW hF hld hR hc1 kd e7 hFv hs6 hp6 hrows ho hXs hlg hX hn hl6 hwz hll;go_wp2_with fail;go_loopw [8,9,25] (fun v a i wr=>∃k:Nat,k<=n/\i=.int .i64 (k:Int)/\(∃m:Nat,a=.int .i64 (m:Int)/\Hid (m=lenS (Y.take k)))/\(∃vs,wr.ownsRow W.heap.size 88 1 v k vs/\Hid (zbL W.heap.size wr vs ((Y.take k).map zah)))/\Hid (∀(j:Nat) b,j<k->Y[j]?=some b->zaO P b)/\Hid (Chg [] W wr)) (fun _ _ i _=>n-(intOf i).toNat);case atStart=>exact⟨0,Nat.zero_le _,rfl,⟨0,rfl,hQ_ rfl⟩,⟨[],vP_ _ _ _,hQ_ (by rw[List.take_zero];exact zbL.nil _ _)⟩,hQ_ (fun j b hj=>absurd hj (by omega)),hQ_ (Chg.refl _ _)⟩
 case round =>
  obtain⟨k,hk,rfl,⟨m,rfl,HM⟩,⟨vs,hown,HRC⟩,HOK,HCr⟩:=hrel;obtain⟨Av,cv,rfl,hvl,hvc,_⟩:=zr_ hown;have HCa:=hQ_ (HCW.o.new HCr.o);by_cases hlt:k<n
  · have hkI:(k:Int)<(n:Int):=(by omega);have HS:=hQ_ ((HS6.o).keep HCr.o);obtain⟨ad,rfl,_,hcell⟩:=HS.o (by rw[HL6.o];omega);obtain⟨b6,o6,s6⟩:=ad;obtain rfl:s6=none:=(HP6.o _ rfl).1;have hkl:k<rs.length:=(by rw[HL6.o];exact hlt);have hkY:k<Y.length:=(by rw[<-HN.o];exact hlt);have hc:=hcell k rs[k] (List.getElem?_eq_getElem hkl);have hfr:=HROW.o.2 k _ _ (List.getElem?_eq_getElem hkl) (List.getElem?_eq_getElem hkY);have hyl:=HYL.o _ (List.getElem_mem hkY);have hYk:=hQ_ (List.getElem?_eq_getElem hkY);generalize Y[k]=b at hfr hyl hYk;generalize rs[k]=fv at hc hfr;obtain⟨Ab,cb,rfl,hB,_⟩:=Bs.of_own (zk_ hfr HCr.o);rw[zl_]at hc;obtain⟨c0,c1,c2,_,_,_⟩:=zq_ (HRW.o.keep HCr.o);obtain⟨q,hq⟩:∃q,q=b.length:=⟨_,rfl⟩;rw[<-hq]at hB hyl hc;have HB:=hQ_ hB;have HQ:=hQ_ hq;have HLN:=hQ_ (zhV Y k b hYk.out);have HMN:=hQ_ (zhg Y k b hYk.out);have hq5:q<=4096:=(by have:=HLG.o;omega);clear hfr hB hq hcell hyl;go_wp2_with fail;refine(zja HB.o P).mono ?_;rintro e w2 (⟨h1,h2,h3,v2,ls,rfl,ho2,hm2,hl2,ha2,hc2⟩|⟨hno,rfl,hc2⟩)
    · have HOKb:=hQ_ (show zaO P b from⟨h1,h2,h3⟩);have how:=zk_ hown hc2;have HOV:=hQ_ (show w2.ownsRow W.heap.size 123 2 v2 (zah b).length (xY_ ls) by rw[zdl];exact qS_ ho2 HCr.o.size);have HM2:=hQ_ (show ∀a∈ls,RMade w2 W.heap.size a from fun a ha=>(hm2 a ha).more HCr.o.size);have HL2:=hQ_ (show ls.length=(zah b).length by rw[zdl];exact hl2);have HA2:=hQ_ (show asC ls (zah b) from ha2);have HC2:=hQ_ hc2;have hc2c:=zd_ c0 hc2;have hx1:=hQ_ (show k+1<=maxLen by unfold maxLen;omega);have hx2:=hQ_ (show(k+1)*24<=140737488355328 by omega);have hx3:=hQ_ (show W.heap.size<=w2.heap.size from Nat.le_trans HCr.o.size hc2.size);have hm4:m<=17000000:=(by
       have h:=zhW (Y.take k) 4096 (fun r hr=>Nat.le_trans (HYL.o r (List.mem_of_mem_take hr)) HLG.o);rw[List.length_take]at h;have:=HM.o;have h5:min k Y.length*(16+4096)<=4097*4112:=Nat.mul_le_mul (by omega) (by omega);omega);clear h1 h2 h3 ho2 hm2 hl2 ha2 hc2 c0 c1 c2 hown hc2c;obtain⟨A2,q2,rfl,_⟩:∃A2 q2,v2=.slice A2 (zah b).length q2/\True:=(by
       rcases HOV.o.2 with⟨e,h0⟩|⟨g,cap,cur,e,_⟩
       · exact⟨_,_,by rw[e,h0],trivial⟩
       · exact⟨_,_,e,trivial⟩);obtain⟨z2,hz2⟩:∃z,z=(zah b).length:=⟨_,rfl⟩;rw[<-hz2]at HOV HL2⊢;have HZ2:=hQ_ hz2;clear hz2;go_wp2_with (
       at_builtin;refine zC_ rfl (.tmp 38) (.tmp 40) 144 rfl W.heap.size 88 i _ 24 Tryz.underlying144 hi hz hs1 hb zjt (.slice Av k cv) k vs rfl (zk_ how ((Chg.refl _ _).alloc _)) (some ⟨w2.heap.size,0,none⟩) 1 1 [.slice A2 z2 q2] rfl rfl (Src.of_all (zb_.new w2 88 [.slice A2 z2 q2])) (fun u hu=>by simp at hu;rw[hu];rfl) hx1.out hx2.out (by simp;have:=hx3.out;omega) ?_;intro v4 w4 ho4 hg4 _);have hal:Chg [] w2 (w2.alloc (.cells #[.slice A2 z2 q2] 88)):=(Chg.refl [] w2).alloc _;go_roundw;case rel =>
       refine⟨k+1,by omega,by go_num,⟨m+(16+q),by go_num,hQ_ (by rw[HLN.o,HM.o,HQ.o])⟩,⟨_,ho4,hQ_ ?_⟩,hQ_ (fun j c hj hcx=>?_),hQ_ (((HCr.o.new HC2.o).alloc _).own (zk_ how hal) ?_ hg4)⟩
       · rw[HMN.o];refine((HRC.o.keep HC2.o).keep hal |>.snoc ?_ (fun a ha=>(HM2.o a ha).chg hal (by simp)) ?_ HA2.o).grown (zk_ how hal) hg4
         · rw[<-HZ2.o];exact zS_ HOV.o hal (by simp)
         · rw[<-HZ2.o];exact HL2.o
       · rcases Nat.lt_or_ge j k with h|h
         · exact HOK.o j c h hcx
         · obtain rfl:j=k:=(by omega);rw[hYk.out]at hcx;cases hcx;exact HOKb.o
       · exact Nat.le_refl _
      case measure=>simp[intOf];omega
    · have HNO:=hQ_ hno;have HC2:=hQ_ hc2;have how:=zk_ hown hc2;clear hno hc2 c0 c1 c2;go_wp2_with fail;go_ret2;rw[HRS.o,jP_ P Y k (Nat.le_of_lt hkY) HOK.o (fun c hc=>by rw[hYk.out]at hc;cases hc;exact HNO.o),<-HM.o];exact⟨_,vs,rfl,by simpa[(Nat.le_of_lt hkY)] using z0_ how HCW.o.size,(HRC.o.keep HC2.o).more HCW.o.size,HCa.o.new HC2.o⟩
  · have hkI:¬(k:Int)<(n:Int):=(by omega);have hkn:k=Y.length:=(by rw[<-HN.o];omega);have HKN:=hQ_ hkn;clear hkn;go_wp2_with fail;go_ret2;rw[HRS.o,jP_ P Y k (by rw[HKN.o];exact Nat.le_refl _) HOK.o (fun c hc=>by rw[List.getElem?_eq_none (by rw[HKN.o];exact Nat.le_refl _)]at hc;cases hc),<-HM.o];exact⟨_,vs,rfl,by simpa[HKN.o] using z0_ hown HCW.o.size,HRC.o.more HCW.o.size,HCa.o⟩
end
section
variable (ep sq:Nat) (r m:List UInt8)
theorem ga_ (he:ep<4294967296)(hs:sq<4294967296)(hr:r.length<4294967296) :
    zz_ (zU_ ep sq r++m) ((0:Nat):Int)=ep/\zz_ (zU_ ep sq r++m) ((4:Nat):Int)=sq/\zz_ (zU_ ep sq r++m) ((8:Nat):Int)=r.length /\
    zz_ (zU_ ep sq r++m) ((12+r.length:Nat):Int)=kk_ (xS_ ep sq r)/\(zU_ ep sq r++m).take (12+r.length)=xS_ ep sq r:=by
 have hm:r.length%4294967296=r.length:=Nat.mod_eq_of_lt hr;refine⟨?_,?_,?_,?_,?_⟩
 · have e:zU_ ep sq r++m=[]++(be4 ep++(be4 sq++be4 (r.length%4294967296)++r++be4 (kk_ (xS_ ep sq r))++m)):=(by
    simp only[zU_,xS_,List.append_assoc,List.nil_append]);rw[e];exact y5_ _ _ ep he _ rfl
 · have e:zU_ ep sq r++m=be4 ep++(be4 sq++(be4 (r.length%4294967296)++r++be4 (kk_ (xS_ ep sq r))++m)):=(by
    simp only[zU_,xS_,List.append_assoc]);rw[e];exact y5_ _ _ sq hs _ rfl
 · have e:zU_ ep sq r++m=(be4 ep++be4 sq)++(be4 (r.length%4294967296)++(r++be4 (kk_ (xS_ ep sq r))++m)):=(by
    simp only[zU_,xS_,List.append_assoc]);rw[e,hm];exact y5_ _ _ _ hr _ rfl
 · have e:zU_ ep sq r++m=xS_ ep sq r++(be4 (kk_ (xS_ ep sq r))++m):=(by
    simp only[zU_,List.append_assoc]);rw[e];exact y5_ _ _ _ (gp_ _) _ (by rw[j8_])
 · have e:zU_ ep sq r++m=xS_ ep sq r++(be4 (kk_ (xS_ ep sq r))++m):=(by
    simp only[zU_,List.append_assoc]);rw[e];exact List.take_left' (j8_ _ _ _)
theorem zdT (he:ep<4294967296)(hs:sq<4294967296)(hr:r.length<4294967296):zR_ (zU_ ep sq r++m) ep sq:=by
 obtain⟨h0,h4,h8,h12,ht⟩:=ga_ ep sq r m he hs hr;have e8:zz_ (zU_ ep sq r++m) 8=r.length:=h8;refine⟨by rw[List.length_append,yN_];omega,h0,h4,?_,?_⟩
 · rw[e8,List.length_append,yN_];omega
 · rw[e8,h12,ht]
theorem zbn (he:ep<4294967296)(hs:sq<4294967296)(hr:r.length<4294967296):zz_ (zU_ ep sq r++m) 8=r.length:=(ga_ ep sq r m he hs hr).2.2.1
theorem ziB (he:ep<4294967296)(hs:sq<4294967296)(hr:r.length<4294967296):zge (zU_ ep sq r++m)=r:=by
 unfold zge;rw[zbn ep sq r m he hs hr];have e:zU_ ep sq r++m=(be4 ep++be4 sq++be4 (r.length%4294967296))++(r++(be4 (kk_ (xS_ ep sq r))++m)):=by
  simp only[zU_,xS_,List.append_assoc]
 rw[e,List.drop_left' (by simp only[List.length_append,vY_]),List.take_left' rfl]
end
section
variable {W:World} {gm gt B n:Nat} {m:NSt} {vo:Value}
theorem kF_ (h:Mt W gm gt B n m vo []):Calls Tryz.prog 186 #[.pointer (some ⟨gm,0,none⟩)] W fun e w' =>
 e=.returned (.tuple #[.agg #[.bool false,.int .i64 0,.int .i64 0,.slice none 0 0],.bool false])/\Chg [] W w':=by
 obtain⟨A,c,rfl,_,_,_⟩:=zh_ h.own;have hr:=h.rec_;simp only[List.length_nil]at hr;clear h;go_enter Tryz.func186,Tryz.ntmps186;go_upto_region 1 with fail;have hal:Chg [] W (W.alloc (.cells #[.bool false,.int .i64 0,.int .i64 0,.slice none 0 0] 265)):=(Chg.refl [] W).alloc _;have c2:=(hr.keep hal).cell 2;have hN:zb_ (W.alloc (.cells #[.bool false,.int .i64 0,.int .i64 0,.slice none 0 0] 265)) W.heap.size 265 [.bool false,.int .i64 0,.int .i64 0,.slice none 0 0]:=zb_.new W 265 [.bool false,.int .i64 0,.int .i64 0,.slice none 0 0];obtain⟨g9,hg9⟩:∃g,g=W.heap.size:=⟨_,rfl⟩;rw[<-hg9]at hN⊢;generalize W.alloc (.cells #[.bool false,.int .i64 0,.int .i64 0,.slice none 0 0] 265)=w1 at hal c2 hN⊢;have f0:=hN.frozen 0;have f1:=hN.frozen 1;have f2:=hN.frozen 2;have f3:=hN.frozen 3;have k0:=hN.cell 0;have k1:=hN.cell 1;have k2:=hN.cell 2;have k3:=hN.cell 3;have HC:=hQ_ (show Chg [] W (w1) from hal);have HN:=hQ_ hN;have HG:=hQ_ hg9;clear hal hN hg9 hr;go_wp2_with fail;have hz:=(((HN.o.set_ 0 (.bool false)).set_ 1 (.int .i64 0)).set_ 2 (.int .i64 0)).set_ 3 (.slice none 0 0);simp only[List.set_cons_zero,List.set_cons_succ]at hz;have HCz:=hQ_ (((((HC.o.setCell (p:=⟨g9,0,none⟩) (fun h=>absurd h (by have:=HG.o;simp only;omega)) (.bool false)).setCell (p:=⟨g9,1,none⟩) (fun h=>absurd h (by have:=HG.o;simp only;omega)) (.int .i64 0)).setCell (p:=⟨g9,2,none⟩) (fun h=>absurd h (by have:=HG.o;simp only;omega)) (.int .i64 0)).setCell (p:=⟨g9,3,none⟩) (fun h=>absurd h (by have:=HG.o;simp only;omega)) (.slice none 0 0)));generalize (((w1.setCell ⟨g9,0,none⟩ (.bool false)).setCell ⟨g9,1,none⟩ (.int .i64 0)).setCell ⟨g9,2,none⟩ (.int .i64 0)).setCell ⟨g9,3,none⟩ (.slice none 0 0)=w9 at hz HCz⊢;clear k0 k1 k2 k3 f0 f1 f2 f3 c2;have k0:=hz.cell 0;have k1:=hz.cell 1;have k2:=hz.cell 2;have k3:=hz.cell 3;exact bodyPost_ret (v:=.tuple #[.agg #[.bool false,.int .i64 0,.int .i64 0,.slice none 0 0],.bool false]) (by simp[results,Tryz.results186,go_sem,k0,k1,k2,k3]) rfl ⟨rfl,HCz.o⟩
theorem xz_ {ys:List PV}{x:PV}(h:Mt W gm gt B n m vo (ys++[x])):Calls Tryz.prog 186 #[.pointer (some ⟨gm,0,none⟩)] W fun e w' =>
 e=.returned (.tuple #[.agg #[.bool x.p.loop,.int .i64 (x.p.at_:Int),.int .i64 (x.p.waits:Int),x.v],.bool true])/\Chg [] W w':=by
 obtain⟨px,vx⟩:=x;obtain⟨Av,cv,e,_⟩:=zr_ (h.left ⟨px,vx⟩ (by simp));simp only at e;subst e;have hl:(ys++[(⟨px,.slice Av px.left.length cv⟩:PV)]).length=ys.length+1:=by simp
 obtain⟨A,c,rfl,hc1,hc2,_⟩:=zh_ h.own;have hr:=h.rec_;rw[hl]at hr hc1;have hf:=h.few;rw[hl]at hf;have hal:Chg [] W (W.alloc (.cells #[.bool false,.int .i64 0,.int .i64 0,.slice none 0 0] 265)):=(Chg.refl [] W).alloc _;have hg:∀j u,(pvC ⟨px,.slice Av px.left.length cv⟩)[j]?=some u->j<4->(kl_ (ys++[⟨px,.slice Av px.left.length cv⟩]))[ys.length*4+j]?=some u:=fun j u hu hj=>(y4_ (ys++[⟨px,.slice Av px.left.length cv⟩]) ys.length ⟨px,.slice Av px.left.length cv⟩ j (by simp) hj).trans hu;obtain⟨g,rfl,j0⟩:=zv_ (zf_ h.own hal) rfl (hg 0 _ rfl (by omega));obtain⟨g',e,j1⟩:=zv_ (zf_ h.own hal) rfl (hg 1 _ rfl (by omega));injection e with e;injection e with e;subst e;obtain⟨g',e,j2⟩:=zv_ (zf_ h.own hal) rfl (hg 2 _ rfl (by omega));injection e with e;injection e with e;subst e;obtain⟨g',e,j3⟩:=zv_ (zf_ h.own hal) rfl (hg 3 _ rfl (by omega));injection e with e;injection e with e;subst e;generalize ys.length=q at *;clear hg hl h;rw[Nat.add_zero]at j0;have hsub:IntKind.i64.wrap (((q+1:Nat):Int)-1)=(q:Int):=by rw[IntWalk.i64_in _ (by omega)];omega
 have hne:(((q+1:Nat):Int)==0)=false:=by simp;omega
 have hq0:(0:Int)<=(q:Int):=by omega
 have hq1:(q:Int)<((q+1:Nat):Int):=by omega
 go_enter Tryz.func186,Tryz.ntmps186;go_upto_region 1 with fail;have c2:=(hr.keep hal).cell 2;have hN:zb_ (W.alloc (.cells #[.bool false,.int .i64 0,.int .i64 0,.slice none 0 0] 265)) W.heap.size 265 [.bool false,.int .i64 0,.int .i64 0,.slice none 0 0]:=zb_.new W 265 [.bool false,.int .i64 0,.int .i64 0,.slice none 0 0];obtain⟨g9,hg9⟩:∃g,g=W.heap.size:=⟨_,rfl⟩;rw[<-hg9]at hN⊢;generalize W.alloc (.cells #[.bool false,.int .i64 0,.int .i64 0,.slice none 0 0] 265)=w1 at hal c2 hN j0 j1 j2 j3⊢;have f0:=hN.frozen 0;have f1:=hN.frozen 1;have f2:=hN.frozen 2;have f3:=hN.frozen 3;have k0:=hN.cell 0;have k1:=hN.cell 1;have k2:=hN.cell 2;have k3:=hN.cell 3;have HC:=hQ_ (show Chg [] W (w1) from hal);have HN:=hQ_ hN;have HG:=hQ_ hg9;clear hal hN hg9 hr;go_wp2_with fail;go_region;have hz:=(((HN.o.set_ 0 (.bool px.loop)).set_ 1 (.int .i64 (px.at_:Int))).set_ 2 (.int .i64 (px.waits:Int))).set_ 3 (.slice Av px.left.length cv);simp only[List.set_cons_zero,List.set_cons_succ]at hz;have HCz:=hQ_ (((((HC.o.setCell (p:=⟨g9,0,none⟩) (fun h=>absurd h (by have:=HG.o;simp only;omega)) (.bool px.loop)).setCell (p:=⟨g9,1,none⟩) (fun h=>absurd h (by have:=HG.o;simp only;omega)) (.int .i64 (px.at_:Int))).setCell (p:=⟨g9,2,none⟩) (fun h=>absurd h (by have:=HG.o;simp only;omega)) (.int .i64 (px.waits:Int))).setCell (p:=⟨g9,3,none⟩) (fun h=>absurd h (by have:=HG.o;simp only;omega)) (.slice Av px.left.length cv)));have hz2:=hz.drew;have HCz2:=hQ_ HCz.o.drew;generalize ((((w1.setCell ⟨g9,0,none⟩ (.bool px.loop)).setCell ⟨g9,1,none⟩ (.int .i64 (px.at_:Int))).setCell ⟨g9,2,none⟩ (.int .i64 (px.waits:Int))).setCell ⟨g9,3,none⟩ (.slice Av px.left.length cv)).drew=w9 at hz2 HCz2⊢;clear k0 k1 k2 k3 f0 f1 f2 f3 c2 j0 j1 j2 j3 hz HCz;have k0:=hz2.cell 0;have k1:=hz2.cell 1;have k2:=hz2.cell 2;have k3:=hz2.cell 3;go_wp2_with fail;exact bodyPost_ret (v:=.tuple #[.agg #[.bool px.loop,.int .i64 (px.at_:Int),.int .i64 (px.waits:Int),.slice Av px.left.length cv],.bool true]) (by simp[results,Tryz.results186,go_sem,k0,k1,k2,k3]) rfl ⟨rfl,HCz2.o⟩
end
section
variable {W W':World} {g:Nat} {v:Value} {ys:List TkV} {ph:GPh}
theorem Gl.done_ (h:Gl W g v ys ph)(hw:waits ph=false)(hf:ys.length<=900):Gl (W.setCell ⟨g,1,none⟩ (.bool false)) g v (ys++pend ph) .idle/\Fr g glT W (W.setCell ⟨g,1,none⟩ (.bool false)):=by
 have hp:=zdx ph;refine⟨⟨?_,?_,by rw[List.length_append];omega,fun m e=>by cases e⟩,(Fr.refl g glT W).setw h.rec_ (Nat.le_refl _) (by simp[glT]) _⟩
 · have:=h.rec_.set_ 1 (.bool false);rw[hw]at this;exact this
 · have:=zG_ (p:=⟨g,1,none⟩) (u:=.bool false) h.own (fun e=>h.away e);rw[List.length_append];simpa[pend] using this
theorem Gl.more_ {W2 w3:World}{v':Value}{n1:Nat}{t:TkV}(h:Gl W g v ys .idle)(hc:Chg [] W W2)(hn1:n1=ys.length+1)(ho:w3.ownsRow (g+1) 132 3 v' n1 (vC_ ys++tkC t))(hg:W2.grownBy w3 v.ownBlock)(hf:ys.length<=950) :
    Gl (w3.setCell ⟨g,0,none⟩ v') g v' (ys++[t]) .idle/\Fr g glT W (w3.setCell ⟨g,0,none⟩ v'):=by
 subst hn1;have ho1:W.ownsRow (g+1) 132 3 v ys.length (vC_ ys):=by have:=h.own;simpa[pend] using this
 have hr3:=zn_ (h.rec_.keep hc) (zf_ ho1 hc) (by decide) hg;refine⟨⟨?_,?_,by rw[List.length_append];simp;omega,fun m e=>by cases e⟩,?_⟩
 · have:=hr3.set_ 0 v';simpa[xm_,waits] using this
 · have:=zG_ (p:=⟨g,0,none⟩) (u:=v') ho (fun e=>by have:=(ho.lt g e).1;omega);rw[List.append_assoc,y2_,show vC_ ([t]++pend .idle)=tkC t from by simp[pend,vC_],List.length_append];exact this
 · exact(((Fr.of_chg hc:Fr g glT W W2)).grown (zf_ ho1 hc) (Nat.le_succ g) (by simp[glT]) hg).setw hr3 (Nat.le_refl _) (by simp[glT]) _
theorem Gl.waits_ {q:Nat}(h:Gl W g v (ys++[⟨(q:Int),0,0⟩]) .idle):Gl (W.setCell ⟨g,2,none⟩ (.bool true)) g v ys (.wait q):=by
 refine⟨?_,?_,by have:=h.few;rw[List.length_append]at this;omega,fun m e=>by cases e⟩
 · have:=h.rec_.set_ 2 (.bool true);simpa[xm_,waits] using this
 · have:=zG_ (p:=⟨g,2,none⟩) (u:=.bool true) h.own (fun e=>h.away e);simpa[pend] using this
theorem Gl.not_ (h:Gl W g v ys .idle):Gl (W.setCell ⟨g,2,none⟩ (.bool false)) g v ys .idle:=by
 refine⟨?_,?_,h.few,fun m e=>by cases e⟩
 · have:=h.rec_.set_ 2 (.bool false);simpa[xm_,waits] using this
 · exact zG_ (p:=⟨g,2,none⟩) (u:=.bool false) h.own (fun e=>h.away e)
theorem Gl.name_ {gr c q:Nat}(h:Gl W g (.slice (some ⟨gr,0,none⟩) (ys.length+1) c) ys (.wait q)){W1:World}(hW:Chg [] (W.setCell ⟨g,2,none⟩ (.bool false)) W1)(r:Int)(hf:ys.length<=900) :
    Gl (W1.setCell ⟨gr,ys.length*3+2,none⟩ (.int .i32 r)) g (.slice (some ⟨gr,0,none⟩) (ys.length+1) c) (ys++[⟨(q:Int),0,r⟩]) .idle/\Fr g glT W (W1.setCell ⟨gr,ys.length*3+2,none⟩ (.int .i32 r)):=by
 have hgr:=(h.own.lt gr rfl).1;have h0:zb_ (W.setCell ⟨g,2,none⟩ (.bool false)) g 130 [.slice (some ⟨gr,0,none⟩) (ys.length+1) c,.bool false,.bool false]:=by have:=h.rec_.set_ 2 (.bool false);simpa[xm_,waits] using this
 have h1:=h0.keep hW;have h2:=zf_ (zG_ (p:=⟨g,2,none⟩) (u:=.bool false) h.own (fun e=>h.away e)) hW;have hL0:Fr g glT W (W.setCell ⟨g,2,none⟩ (.bool false)):=(Fr.refl g glT W).setw h.rec_ (Nat.le_refl _) (by simp[glT]) _;refine⟨⟨h1.far (by simp only;omega) _,?_,by rw[List.length_append];simp;omega,fun m e=>by cases e⟩,(hL0.new hW).seto h2 (Nat.le_succ g) (by simp[glT]) _⟩;have h3:=v7_ (j:=ys.length*3+2) (u:=.int .i32 r) h2;have e:(vC_ (ys++pend (.wait q))).set (ys.length*3+2) (.int .i32 r)=vC_ (ys++[⟨(q:Int),0,r⟩]++pend .idle):=by
  rw[y2_,y2_,y2_,List.set_append_right _ _ (by rw[yG_];omega),yG_,show ys.length*3+2-ys.length*3=2 from by omega];simp[pend,vC_,tkC]
 rw[e]at h3;have e2:(ys++[(⟨(q:Int),0,r⟩:TkV)]).length+(pend .idle).length=ys.length+(pend (.wait q)).length:=by simp[pend]
 rw[e2];exact h3
end
section
variable {W:World} {g:Nat} {v:Value} {ys:List TkV}
theorem zft {q:Nat}(h:Gl W g v ys (.wait q))(r:Nat)(hfew:ys.length<=900):Calls Tryz.prog 63 #[.pointer (some ⟨g,0,none⟩),.int .i32 (r:Int)] W (kU_ W g (zO_ ys (.wait q) r)):=by
 obtain⟨A,n,c,rfl,hn⟩:=h.slice;have hn2:n=ys.length+1:=hn;obtain⟨gr,hgr,y2⟩:=zv_ h.own (j:=ys.length*3+2) (u:=.int .i32 0) (by rw[<-hn]) (by rw[y2_,List.getElem?_append_right (by rw[yG_];omega),yG_,show ys.length*3+2-ys.length*3=2 from by omega];rfl);subst hgr;have hown:=h.own;rw[<-hn]at hown;have fy2:=y0_ (j:=ys.length*3+2) hown;have hgr:=(hown.lt gr rfl).1;have r2:=h.rec_.cell 2;have f2:=h.rec_.frozen 2;clear hn hown;subst hn2;have H:=hQ_ h;clear h;obtain⟨k,hk⟩:∃k,k=ys.length:=⟨_,rfl⟩;have HK:=hQ_ hk;rw[<-hk]at y2 fy2 hfew r2;rw[<-hk]at H;have HNM:=hQ_ (fun (W1:World)(hW:Chg [] (W.setCell ⟨g,2,none⟩ (.bool false)) W1)=>show Gl (W1.setCell ⟨gr,k*3+2,none⟩ (.int .i32 (r:Int))) g (.slice (some ⟨gr,0,none⟩) (k+1) c) (ys++[⟨(q:Int),0,(r:Int)⟩]) .idle/\Fr g glT W (W1.setCell ⟨gr,k*3+2,none⟩ (.int .i32 (r:Int))) from by
  have h:=H.o;rw[hk]at h⊢;exact h.name_ hW (r:Int) (by omega));clear hk;go_enter Tryz.func63,Tryz.ntmps63;go_upto_region 3 with fail;have hr1:zb_ (W.setCell ⟨g,2,none⟩ (.bool false)) g 130 [.slice (some ⟨gr,0,none⟩) (k+1) c,.bool false,.bool false]:=by have:=H.o.rec_.set_ 2 (.bool false);simpa[xm_,waits] using this
 have z2:(W.setCell ⟨g,2,none⟩ (.bool false)).cell? ⟨gr,k*3+2,none⟩=some (.int .i32 0):=by rw[<-y2];exact World.cell?_of_block (w:=W) (Below.heap_setCell W _ _ _ (by simp only;omega))
 have fz2:(W.setCell ⟨g,2,none⟩ (.bool false)).frozen? ⟨gr,k*3+2,none⟩=false:=by rw[<-fy2];exact World.frozen?_of_block (w:=W) (Below.heap_setCell W _ _ _ (by simp only;omega))
 generalize W.setCell ⟨g,2,none⟩ (.bool false)=w1 at HNM hr1 z2 fz2⊢;have hdw:Chg [] (w1.setCell ⟨gr,k*3+2,none⟩ (.int .i32 (r:Int))) (w1.setCell ⟨gr,k*3+2,none⟩ (.int .i32 (r:Int))).drew:=(Chg.refl [] _).drew;have HG1:=hQ_ (And.intro ((HNM.o _ (Chg.refl [] w1)).1.keep hdw) ((HNM.o _ (Chg.refl [] w1)).2.new hdw));clear hdw;have hk1:IntKind.i64.wrap ((k:Int)+1-1)=(k:Int):=by rw[show(k:Int)+1-1=(k:Int) from by omega];exact IntWalk.i64_in _ (by omega)
 have hk2:IntKind.i64.wrap (k:Int)=(k:Int):=IntWalk.i64_in _ (by omega);have hk3:(k:Int).toNat=k:=Int.toNat_natCast _;have hk4:(0:Int)<=(k:Int):=by omega
 have hk5:(k:Int)<(k:Int)+1:=by omega
 have d0:w1.drew.cell? ⟨g,0,none⟩=some (.slice (some ⟨gr,0,none⟩) (k+1) c):=hr1.drew.cell 0;have c0:=hr1.cell 0;clear y2 fy2 r2 f2;go_still_tail 13,(by kernel_rfl);change wpList _ _ _ _ _ w1.drew;go_wp2_with fail;generalize (w1.setCell ⟨gr,k*3+2,none⟩ (.int .i32 (r:Int))).drew=w2 at HG1⊢;refine(u7_ (r:Int) _).mono ?_;rintro e w3 ⟨rfl,rfl⟩;have HP:=hQ_ (show kU_ W g (zO_ ys (.wait q) r) (.returned (.bool (yr_ (r:Int)))) w2 from⟨HG1.o.2,by
  cases hb:yr_ (r:Int) with
  | false=>exact .inl ⟨by rw[zO_,if_neg (by rw[hb];decide)],rfl⟩
  | true=>exact .inr ⟨_,_,_,by rw[zO_,if_pos hb],rfl,HG1.o.1⟩⟩);go_wp2_with fail;go_ret;exact HP.o
theorem zcC {ph:GPh}(h:Gl W g v ys ph)(hw:waits ph=false)(r:Nat)(hr:48<=r/\r<=57)(hfew:ys.length<=900):Calls Tryz.prog 63 #[.pointer (some ⟨g,0,none⟩),.int .i32 (r:Int)] W (kU_ W g (zO_ ys ph r)):=by
 have e:zO_ ys ph r=yz_ ys (zaP ph) (r-48):=by
  cases ph with
  | wait q=>cases hw
  | num m=>rw[zO_,if_pos hr];rfl
  | idle=>rw[zO_,if_pos hr];rfl
 rw[e];have hd:kf_ (r:Int)=true:=by unfold kf_;simp;omega
 have HD:=hQ_ hd;have HC:=hQ_ (zfw h hw (r-48) (by omega) hfew);rw[show((r-48:Nat):Int)=(r:Int)-48 from by omega]at HC;have r2:W.cell? ⟨g,2,none⟩=some (.bool false):=by have:=h.rec_.cell 2;rw[hw]at this;exact this
 obtain⟨hr1,hr2⟩:=hr;have hr1I:(48:Int)<=(r:Int):=by omega
 have hr2I:(r:Int)<=57:=by omega
 clear h hd e hw;go_enter Tryz.func63,Tryz.ntmps63;go_wp2_with fail;refine(zbw (r:Int) _).mono ?_;rw[HD.o];rintro e w3 ⟨rfl,rfl⟩;go_wp2_with fail;refine HC.o.mono ?_;rintro e w2 ⟨hl,hp⟩;rcases hp with⟨ho,rfl⟩|⟨ys',ph',v',ho,rfl,hG⟩
 · have HP:=hQ_ (show kU_ W g (yz_ ys (zaP ph) (r-48)) (.returned (.bool false)) w2 from⟨hl,.inl ⟨ho,rfl⟩⟩);clear ho hl;go_wp2_with fail;go_ret;exact HP.o
 · have HP:=hQ_ (show kU_ W g (yz_ ys (zaP ph) (r-48)) (.returned (.bool true)) w2 from⟨hl,.inr ⟨ys',ph',v',ho,rfl,hG⟩⟩);clear ho hl hG;go_wp2_with fail;go_ret;exact HP.o
theorem zcB {ph:GPh} (h:Gl W g v ys ph) (hw:waits ph=false) (r:Nat) (hr:¬(48<=r/\r<=57)) (hrm:r<=2147483647) (hfew:ys.length<=900):Calls Tryz.prog 63 #[.pointer (some ⟨g,0,none⟩),.int .i32 (r:Int)] W (kU_ W g (zO_ ys ph r)):=by
 obtain⟨i0,hi0,hz0,hz1,hz2⟩:=info_parts q5_;have e:zO_ ys ph r=yo_ (ys++pend ph) r:=by
  cases ph with
  | wait q=>cases hw
  | num m=>rw[zO_,if_neg hr];rfl
  | idle=>rw[zO_,if_neg hr,pend,List.append_nil]
 rw[e];have hd:kf_ (r:Int)=false:=by unfold kf_;simp;omega
 have HD:=hQ_ hd;have r2:W.cell? ⟨g,2,none⟩=some (.bool false):=by have:=h.rec_.cell 2;rw[hw]at this;exact this
 have r1:=h.rec_.cell 1;have f1:=h.rec_.frozen 1;have HG:=hQ_ (h.done_ hw hfew);have hbl:(ys++pend ph).length<=901:=by rw[List.length_append];have:=zdx ph;omega
 generalize ys++pend ph=bs at HG hbl⊢;clear h hd e hw hr hfew;go_enter Tryz.func63,Tryz.ntmps63;go_wp2_with fail;refine(zbw (r:Int) _).mono ?_;rw[HD.o];rintro e w3 ⟨rfl,rfl⟩;go_upto_region 8 with fail;generalize W.setCell ⟨g,1,none⟩ (.bool false)=w1 at HG⊢;clear r1 r2 f1;by_cases h32:r=32
 · subst h32;have HP:=hQ_ (show kU_ W g (yo_ bs 32) (.returned (.bool true)) w1 from⟨HG.o.2,.inr ⟨bs,.idle,v,rfl,rfl,HG.o.1⟩⟩);go_wp2_with fail;go_ret;exact HP.o
 · have q32:((r:Int)==32)=false:=(by simp;omega);obtain⟨A,n,c,rfl,hn⟩:=HG.o.1.slice;have hn2:n=bs.length:=(by simpa[pend] using hn);have c0:=HG.o.1.rec_.cell 0;have hal:Chg [] w1 (w1.alloc (.cells #[.int .i32 (r:Int),.int .i64 0,.int .i32 0] 132)):=(Chg.refl [] w1).alloc _;have ho1:w1.ownsRow (g+1) 132 3 (.slice A n c) n (vC_ bs):=(by have:=HG.o.1.own;rw[<-hn]at this;simpa[pend] using this);have HO2:=hQ_ (zf_ ho1 hal);have HAL:=hQ_ hal;have HR2:=hQ_ (HG.o.1.rec_.keep hal);have HBZ:=hQ_ (show g+1<=(w1.alloc (.cells #[.int .i32 (r:Int),.int .i64 0,.int .i32 0] 132)).heap.size from by have:=hal.size;have:=HG.o.1.rec_.lt;omega);have HN:=hQ_ hn2;have hn9:n<=901:=(by omega);clear hn hn2 ho1 hal h32;go_upto_region 11 with(
    at_builtin;refine wpList_append_own _ rfl (.tmp 43) (.tmp 46) _ rfl (g+1) 132 i0 _ 3 24 Tryz.underlying72 hi0 hz0 hz1 hz2 rfl (by decide) (.slice A n c) n (vC_ bs) rfl HO2.o ⟨w1.heap.size,0,none⟩ 1 1 [.int .i32 (r:Int),.int .i64 0,.int .i32 0] rfl rfl (zK_ _ _ _) (by simp[Value.oneCell']) (by simp only[maxLen];omega) (by omega) HBZ.o ?_;intro v' w3 ho3 hg3 _;have HO3:=hQ_ ho3;have HG3:=hQ_ hg3;have hr3:=zn_ HR2.o HO2.o (by decide) hg3;have c3:=hr3.cell 0;have f3:=hr3.frozen 0;obtain⟨A3,c3',rfl,_⟩:=zh_ ho3;clear ho3 hg3 hr3);obtain⟨hm1,hm2⟩:=HG.o.1.more_ (t:=⟨(r:Int),0,0⟩) HAL.o (by have:=HN.o;omega) HO3.o HG3.o (by omega);have HM:=hQ_ hm1;have HL:=hQ_ (HG.o.2.trans hm2);generalize w3.setCell ⟨g,0,none⟩ (.slice A3 (n+1) c3')=w4 at HM HL⊢;clear hm1 hm2 c3 f3 c0 HO2 HO3 HG3 HAL HR2 HBZ;have s2:=HM.o.rec_.cell 2;have t2:=HM.o.rec_.frozen 2;go_wp2_with fail;refine(zaQ (r:Int) _).mono ?_;rintro e w5 ⟨rfl,rfl⟩;cases hnm:yh_ (r:Int) with
   | true =>
     have hkn:yi_ (r:Int)=true:=by rcases(jZ_ r).1 hnm with rfl|rfl<;>decide
     have HP:=hQ_ (fun (W':World)(hc:Chg [] (w4.setCell ⟨g,2,none⟩ (.bool true)) W')=>show kU_ W g (yo_ bs r) (.returned (.bool (yi_ (r:Int)))) W' from
       ⟨(HL.o.setw HM.o.rec_ (Nat.le_refl _) (by simp[glT]) _).new hc,.inr ⟨bs,.wait r,_,by unfold yo_;rw[if_neg (by intro e;subst e;revert hnm;decide),if_pos hkn,if_pos hnm],by rw[hkn],HM.o.waits_.keep hc⟩⟩);clear hnm hkn;go_wp2_with fail;refine(kK_ (r:Int) _).mono ?_;rintro e w6 ⟨rfl,hc6⟩;have HQ:=hQ_ (HP.o w6 hc6);clear hc6;go_wp2_with fail;go_ret;exact HQ.o
   | false =>
     have h32:¬r=32:=(by intro e;subst e;revert q32;decide);have HP:=hQ_ (fun (W':World)(hc:Chg [] (w4.setCell ⟨g,2,none⟩ (.bool false)) W')=>show kU_ W g (yo_ bs r) (.returned (.bool (yi_ (r:Int)))) W' from
       ⟨(HL.o.setw HM.o.rec_ (Nat.le_refl _) (by simp[glT]) _).new hc,by
        cases hkn:yi_ (r:Int) with
        | true=>exact .inr ⟨_,.idle,_,by unfold yo_;rw[if_neg h32,if_pos hkn,if_neg (by rw[hnm];decide)],rfl,HM.o.not_.keep hc⟩
        | false=>exact .inl ⟨by unfold yo_;rw[if_neg h32,if_neg (by rw[hkn];decide)],rfl⟩⟩);clear hnm h32;go_wp2_with fail;refine(kK_ (r:Int) _).mono ?_;rintro e w6 ⟨rfl,hc6⟩;have HQ:=hQ_ (HP.o w6 hc6);clear hc6;go_wp2_with fail;go_ret;exact HQ.o
theorem zir {ph:GPh}(h:Gl W g v ys ph)(r:Nat)(hrm:r<=2147483647)(hfew:ys.length<=900):Calls Tryz.prog 63 #[.pointer (some ⟨g,0,none⟩),.int .i32 (r:Int)] W (kU_ W g (zO_ ys ph r)):=by
 cases hw:waits ph with
 | true =>
   cases ph with
   | wait q=>exact zft h r hfew
   | num m=>cases hw
   | idle=>cases hw
 | false =>
   by_cases hr:48<=r/\r<=57
   · exact zcC h hw r hr hfew
   · exact zcB h hw r hr hrm hfew
end
theorem ziy {rs:List Nat}{r:Nat}{ys ys':List TkV}{ph ph':GPh}(h:zO_ ys ph r=some (ys',ph')):uv_ (r::rs) ys ph=uv_ rs ys' ph':=by rw[uv_,h]
theorem ziw {rs:List Nat}{r:Nat}{ys:List TkV}{ph:GPh}(h:zO_ ys ph r=none):uv_ (r::rs) ys ph=none:=by rw[uv_,h]
theorem zeZ {w w':World}{B n k:Nat}{e:TypeId}{v:Value}{xs:List Value}{T:List Nat}(h:w.ownsRow B e k v n xs)(hc:Chg T w w')(hT:∀g,v.ownBlock=some g->g∉T):w'.ownsRow B e k v n xs:=by
 refine⟨h.1,?_⟩;rcases h.2 with h1|⟨g,cap,cur,rfl,hb,hg,r⟩
 · exact .inl h1
 · refine .inr ⟨g,cap,cur,rfl,hb,?_,r⟩;have hlt:g<w.heap.size:=by
    rcases Nat.lt_or_ge g w.heap.size with h|h
    · exact h
    · rw[Array.getElem?_eq_none h]at hg;cases hg
   exact(hc.block g hlt (hT g rfl)).trans hg
theorem zaN {w:World}{B n k b:Nat}{e:TypeId}{v:Value}{xs:List Value}{s:ByteArray}{pos:Nat}(h:w.ownsRow B e k v n xs)(hb:w.heap[b]?=some (.stringIter s pos)):v.ownBlock≠some b:=by
 intro hv;rcases h.2 with⟨rfl,_⟩|⟨g,cap,cur,rfl,_,hg,_⟩
 · simp[Value.ownBlock]at hv
 · simp[Value.ownBlock]at hv;subst hv;rw[hg]at hb;injection hb with hb;cases hb
theorem Gl.chg {W W':World}{g:Nat}{v:Value}{ys:List TkV}{ph:GPh}{T:List Nat}(h:Gl W g v ys ph)(hc:Chg T W W')(hg:g∉T)(hv:∀b,v.ownBlock=some b->b∉T):Gl W' g v ys ph:=⟨h.rec_.chg hc hg,zeZ h.own hc hv,h.few,h.big⟩
section
variable {w:World}
theorem uG_ (s:ByteArray)(hs:s.size<=9223372036854775807):Calls Tryz.prog 30 #[.string s] w (kT_ s w):=by
 by_cases hlong:512<s.size
 · have hlI:(512:Int)<(s.size:Int):=(by omega);have HPO:=hQ_ (show kT_ s w (.returned (.tuple #[.slice none 0 0,.int .i64 3])) w from⟨Chg.refl _ _,.inr ⟨by unfold uJ_;rw[if_pos hlong],by unfold zeI;rw[if_pos hlong]⟩⟩);go_enter Tryz.func30,Tryz.ntmps30;go_wp2_with fail;go_ret2;exact HPO.o
 have hlI:¬(512:Int)<(s.size:Int):=by omega
 have HRT:=hQ_ (gO_ s hlong);have HE:=hQ_ (show zeI s=12 from by unfold zeI;rw[if_neg hlong]);have hsz:s.size<=512:=by omega
 clear hlong;go_enter Tryz.func30,Tryz.ntmps30;go_upto_region 5 with fail;have hr1:=zb_.new w 130 [.slice none 0 0,.bool false,.bool false];have hc1:=(Chg.refl [] w).alloc (.cells #[.slice none 0 0,.bool false,.bool false] 130);have hz1:(w.alloc (.cells #[.slice none 0 0,.bool false,.bool false] 130)).heap.size=w.heap.size+1:=Array.size_push _;obtain⟨g,hg⟩:∃g,g=w.heap.size:=⟨_,rfl⟩;rw[<-hg]at hr1 hz1⊢;generalize w.alloc (.cells #[.slice none 0 0,.bool false,.bool false] 130)=w1 at hr1 hc1 hz1⊢;have hI:(w1.iter s 0).heap[w1.heap.size]?=some (.stringIter s 0):=World.iter_heap w1 s 0;have hc0:Chg [] w1 (w1.iter s 0):=(Chg.refl [] w1).alloc _;rw[hz1]at hI;obtain⟨kI,hkI⟩:∃k,k=g+1:=⟨_,rfl⟩;have HK:=hQ_ (show g<kI from by omega);have HGW:=hQ_ (show w.heap.size=g from hg.symm);have HG1:=hQ_ (show Gl (w1.iter s 0) g (.slice none 0 0) [] .idle from⟨hr1.keep hc0,World.ownsRow_nil _ _ _ _,by simp,fun m e=>by cases e⟩);rw[<-hkI]at hI⊢;have HC0:=hQ_ (hc1.new hc0);generalize w1.iter s 0=w2 at hI hc0 HG1 HC0⊢;have HI:=hQ_ hI;clear hI hc0 hkI hr1 hc1 hz1 hg;go_loopw [6] (fun _ wr=>(∃(pos f:Nat)(v:Value)(ys:List TkV)(ph:GPh),Hid (wr.heap[kI]?=some (.stringIter s pos))/\s.size-pos<=f/\Hid (Gl wr g v ys ph)/\Hid (uJ_ s=uv_ (zN_ s f pos) ys ph)/\ys.length+(pend ph).length+f<=s.size)/\Hid (Chg [] w wr)) (fun _ wr=>s.size-wr.iterPos kI);case atStart=>exact⟨⟨0,s.size,_,_,_,HI,by omega,HG1,hQ_ (by rw[HRT.o];rfl),by simp[pend]⟩,HC0⟩
 case round =>
  obtain⟨⟨pos,f,v,ys,ph,HIr,hf,HG,HR,hyl⟩,HC⟩:=hrel;by_cases hlt:pos<s.size
  · obtain⟨f',rfl⟩:∃f',f=f'+1:=⟨f-1,by omega⟩;have hnx:=fun ty=>Lib.run_next_any_at (P:=Tryz.prog) wr kI s pos ty HIr.o hlt;go_upto_region 7 with fail;obtain⟨d,hd⟩:∃d,d=(Utf8.decode s pos).2:=⟨_,rfl⟩;obtain⟨x,hx⟩:∃r,r=(Utf8.decode s pos).1:=⟨_,rfl⟩;have hw:=vL_ s pos hlt;have hxm:x<=2147483647:=(by rw[hx];exact decode_le s pos);rw[<-hd]at hw;have HR2:=hQ_ (show uJ_ s=uv_ (x::zN_ s f' (pos+d)) ys ph from by rw[HR.o,zN_,if_pos hlt,<-hd,<-hx]);have hci:Chg [kI] wr (wr.iterAt kI s (pos+d)):=⟨rfl,rfl,rfl,by rw[Lib.iterAt_size];exact Nat.le_refl _,fun i _ hn=>Lib.iterAt_other wr kI i s (pos+d) (by simpa using hn)⟩;have HI2:=hQ_ (Lib.iterAt_heap wr kI s pos (pos+d) HIr.o);have HC2:=hQ_ (show Chg [] w (wr.iterAt kI s (pos+d)) from HC.o.then_ hci (fun i hi hl=>by have:=HK.o;have:=HGW.o;simp only[List.mem_cons,List.not_mem_nil,or_false]at hi;omega));have HG2:=hQ_ (show Gl (wr.iterAt kI s (pos+d)) g v ys ph from HG.o.chg hci (by have:=HK.o;simp;omega) (fun b hb=>by
     have:=zaN HG.o.own HIr.o;intro hm;simp only[List.mem_cons,List.not_mem_nil,or_false]at hm;subst hm;exact this hb));rw[<-hd,<-hx];have HMP:=hQ_ (show wr.iterPos kI=pos from by unfold World.iterPos;rw[HIr.o]);have HP2:=hQ_ (show(wr.iterAt kI s (pos+d)).iterPos kI=pos+d from by unfold World.iterPos;rw[HI2.o]);generalize wr.iterAt kI s (pos+d)=w3 at HI2 HC2 HP2 HG2⊢;clear hx hd hnx hci;go_wp2_with fail;refine(zir HG2.o x hxm (by omega)).mono ?_;rintro e w4 ⟨hfr,ho⟩;have HI4:=hQ_ (hfr.obj HI2.o (by intro _ _ _ h;cases h));have HP4:=hQ_ (show w4.iterPos kI=pos+d from by unfold World.iterPos;rw[HI4.o]);have HC4:=hQ_ (show Chg [] w w4 from(Fr.chg (B:=g) (TS:=glT) ((Fr.of_chg HC2.o).trans hfr) (by have:=HGW.o;omega)));clear hfr;rcases ho with⟨ho,rfl⟩|⟨ys',ph',v',ho,rfl,hG⟩
    · have HPO:=hQ_ (show kT_ s w (.returned (.tuple #[.slice none 0 0,.int .i64 12])) w4 from⟨HC4.o,.inr ⟨by rw[HR2.o,ziw ho],by rw[HE.o]⟩⟩);clear ho;go_wp2_with fail;go_ret2;exact HPO.o
    · have hyl':ys'.length+(pend ph').length+f'<=s.size:=(by have:=ziv ho;omega);have HR4:=hQ_ (show uJ_ s=uv_ (zN_ s f' (pos+d)) ys' ph' from by rw[HR2.o,ziy ho]);have HG4:=hQ_ hG;clear ho hG;go_wp2_with fail;go_roundw;(case rel=>exact⟨⟨pos+d,f',v',ys',ph',HI4,by omega,HG4,HR4,hyl'⟩,HC4⟩);case measure=>rw[HP4.o,HMP.o];omega
  · have hnx:=fun ty=>Lib.run_next_end_at (P:=Tryz.prog) wr kI s pos ty HIr.o hlt;have HRE:=hQ_ (show uJ_ s=zdS ys ph from by
     rw[HR.o];cases f with
     | zero=>simp[zN_,uv_]
     | succ f=>rw[zN_,if_neg hlt,uv_]);have c2:=HG.o.rec_.cell 2;have c0:=HG.o.rec_.cell 0;cases hwt:waits ph with
    | true =>
      have HPO:=hQ_ (show kT_ s w (.returned (.tuple #[.slice none 0 0,.int .i64 12])) wr from⟨HC.o,.inr ⟨(by
       rw[HRE.o];cases ph with
       | wait q=>rfl
       | num m=>cases hwt
       | idle=>cases hwt),by rw[HE.o]⟩⟩);rw[hwt]at c2;clear hwt;go_wp2_with fail;go_ret2;exact HPO.o
    | false =>
      have HPO:=hQ_ (show kT_ s w (.returned (.tuple #[v,.int .i64 0])) wr from⟨HC.o,.inl ⟨ys++pend ph,v,(by
       rw[HRE.o];cases ph with
       | wait q=>cases hwt
       | num m=>rfl
       | idle=>rw[pend,List.append_nil];rfl),by rw[List.length_append];omega,rfl,by
       have:=HG.o.own;rw[List.length_append];exact ym_ this (by have:=HGW.o;omega)⟩⟩);rw[hwt]at c2;obtain⟨A5,n5,c5,rfl,hn5⟩:=HG.o.slice;clear hwt hn5;go_wp2_with fail;go_ret2;exact HPO.o
end
end Go.Proofs.YtcbcfcdmdedefaaGreatDoor
