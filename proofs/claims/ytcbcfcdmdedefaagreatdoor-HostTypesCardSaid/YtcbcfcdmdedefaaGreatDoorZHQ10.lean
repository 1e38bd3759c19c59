import Derived.Test.YtcbcfcdmdedefaaGreatDoorZHQ8
set_option maxRecDepth 100000
set_option maxHeartbeats 16000000
namespace Go.Proofs.YtcbcfcdmdedefaaGreatDoor
open Go.RowKit
section
variable {w:World} {p bL bS bW:Nat} {s:St}
def zae (w:World)(p bL bS bW:Nat)(s:St)(L P:Int)(e:Ending)(w':World):Prop :=
 (zp_ L P 1 s.V.length=true/\e=.returned (.int .i64 0)/\z9_ w' p bL bS bW (fmt s L.toNat P.toNat)/\Chg [bL,bS,bW] w w') \/
 (zp_ L P 1 s.V.length=false/\e=.returned (.int .i64 25)/\Chg [] w w')
theorem zfy (h:z9_ w p bL bS bW s)(L P:Int) :
    Calls Tryz.prog 15 #[.pointer (some ⟨p,0,none⟩),.int .i64 L,.int .i64 P] w (zae w p bL bS bW s L P):=by
 have H:=hQ_ h;have HB:=hQ_ (show p<w.heap.size/\bL<w.heap.size/\bS<w.heap.size/\bW<w.heap.size from⟨(Dsk.rec_ h).lt,(Dsk.last h).lt,(Dsk.seen h).lt,(Dsk.wait h).lt⟩);clear h;go_enter Tryz.func15,Tryz.ntmps15;go_upto_region 4 with fail;have hR:=zb_.new w 82 [.int .i64 L,.int .i64 P,.int .u32 1];have hal:=(Chg.refl [] w).alloc (.cells #[.int .i64 L,.int .i64 P,.int .u32 1] 82);have HD:=hQ_ (H.o.keep hal);have HC:=hQ_ hal;obtain⟨gr,hgr⟩:∃g,g=w.heap.size:=⟨_,rfl⟩;have HG:=hQ_ hgr;rw[<-hgr]at hR⊢;generalize w.alloc (.cells #[.int .i64 L,.int .i64 P,.int .u32 1] 82)=w1 at hR HD HC⊢;have HR:=hQ_ hR;clear hR hal hgr;refine wp_flow (by kernel_rfl) yn_ za_ (by kernel_rfl) ?_;refine flow1h (r:=zB_ L P 1) za_ rfl (.out rfl rfl) rfl (fun ev W he hW e1=>by have hx:=HR.o.keep ((Chg.refl [] w1).drew.new hW);have r0:=hx.cell 0;have r1:=hx.cell 1;have r2:=hx.cell 2;clear hW hx;unfold zB_;go_simp) ?_;refine flow_move_out za_ rfl rfl rfl ?_;refine zw_ (.int .i64 (s.V.length:Int)) (by kernel_rfl) rfl (.cons (.inn rfl) .nil) (fun W hW=>(xQ_ (HD.o.keep ((Chg.refl [] w1).drew.new hW))).mono ?_) ?_
 · rintro e w' ⟨rfl,rfl⟩;exact⟨rfl,Chg.refl _ _⟩
 refine zw_ (.bool (zp_ L P 1 s.V.length)) (by kernel_rfl) rfl (.cons (.inn rfl) (.cons (.inn rfl) .nil)) (fun W hW=>(yb_ L P 1 _).mono ?_) ?_
 · rintro e w' ⟨rfl,hc⟩;exact⟨rfl,hc⟩
 refine flow1 (r:=.bool (!zp_ L P 1 s.V.length)) za_ rfl (.inn rfl) rfl (fun ev W he e1=>by go_simp) ?_;intro vs W hW hF;have e17:vs 17=.bool (!zp_ L P 1 s.V.length):=hF 17 _ rfl rfl;have hcw:Chg [] w1 W:=(Chg.refl [] w1).drew.new hW;have HD2:=hQ_ (HD.o.keep hcw);have HR2:=hQ_ (HR.o.keep hcw);have HC2:=hQ_ (HC.o.new hcw);simp only[zW_,Act.put,List.setIfInBounds_toArray,List.set_cons_zero,List.set_cons_succ];rw[e17];clear hF hW e17 hcw;obtain⟨w2,hw2⟩:∃w2:World,w2=W:=⟨_,rfl⟩;rw[<-hw2]at HD2 HR2 HC2⊢;clear hw2;by_cases hr:zp_ L P 1 s.V.length=true
 · obtain⟨a1,a2,a3,a4,a5,_⟩:=zi_.1 hr;have HRT:=hQ_ hr;have HLP:=hQ_ (show L=(L.toNat:Int)/\P=(P.toNat:Int) from⟨by omega,by omega⟩);rw[hr];obtain⟨l,hl⟩:∃l,l=L.toNat:=⟨_,rfl⟩;obtain⟨q,hq⟩:∃q,q=P.toNat:=⟨_,rfl⟩;have HLQ:=hQ_ (And.intro hl hq);obtain rfl:L=(l:Int):=(by omega);obtain rfl:P=(q:Int):=(by omega);have hlq:1<=l/\l<=64/\1<=q/\q<=64/\2+l+q<=s.V.length:=(by omega);obtain⟨m1,hm1⟩:∃m1,m1=2+l:=⟨_,rfl⟩;obtain⟨m,hm⟩:∃m,m=2+l+q:=⟨_,rfl⟩;have hs1:IntKind.i64.wrap (2+(l:Int))=(m1:Int):=(by rw[IntKind.wrap_i64];omega);have hs2:IntKind.i64.wrap ((m1:Int)+(q:Int))=(m:Int):=(by rw[IntKind.wrap_i64];omega);have HL2:=hQ_ hlq;have HM:=hQ_ hm;clear a1 a2 a3 a4 a5 hl hq hr HLP hm hm1 hlq;go_wp2_with fail;refine(zcZ HD2.o 0 2 (by omega) (by have:=HL2.o;omega)).mono ?_;rintro e w3 ⟨rfl,hd3,hc3⟩;have HD3:=hQ_ hd3;have HR3:=hQ_ (HR2.o.chg hc3 (fun hm=>by have h1:=HB.o;have h2:=HG.o;simp only[List.mem_cons,List.not_mem_nil,or_false]at hm;omega));have HC3:=hQ_ ((HC2.o.sub (T':=[bL,bS,bW]) (fun _ h=>by cases h)).trans hc3);clear hd3 hc3;go_wp2_with fail;refine(zcZ HD3.o 2 m (by have:=HM.o;omega) (by have h1:=HL2.o;have h2:=HM.o;rw[zJ_,zX_];omega)).mono ?_;rintro e w4 ⟨rfl,hd4,hc4⟩;have HD4:=hQ_ hd4;have hr4:=HR3.o.chg hc4 (fun hm=>by have h1:=HB.o;have h2:=HG.o;simp only[List.mem_cons,List.not_mem_nil,or_false]at hm;omega);have r0:=hr4.cell 0;have r1:=hr4.cell 1;have r2:=hr4.cell 2;have HC4:=hQ_ (HC3.o.trans hc4);clear hd4 hc4 hr4;go_wp2_with fail;have hpr:=jS_ HD4.o l q 1 (by have:=HL2.o;omega) (by have:=HL2.o;omega) (by omega) (by have h1:=HL2.o;rw[zJ_,zX_,zJ_,zX_];omega);unfold zB_ at hpr;refine hpr.mono ?_;rintro e w5 ⟨rfl,hd5,hc5⟩;have HP:=hQ_ (show zae w p bL bS bW s (l:Int) (q:Int) (.returned (.int .i64 0)) w5 from .inl ⟨HRT.o,rfl,by
    unfold fmt;have h1:=HLQ.o;have h2:=HM.o;rw[<-h1.1,<-h1.2,show l+q=m-2 by omega];exact hd5,HC4.o.trans hc5⟩);clear hd5 hc5 hpr r0 r1 r2;go_wp2_with fail;go_ret;exact HP.o
 · have hr':zp_ L P 1 s.V.length=false:=(by simpa using hr);have HP:=hQ_ (show zae w p bL bS bW s L P (.returned (.int .i64 25)) w2 from .inr ⟨hr',rfl,HC2.o⟩);rw[hr'];clear hr hr';go_wp2_with fail;go_ret;exact HP.o
end
def xW_ (w:World)(l:List UInt8)(k most:Nat)(e:Ending)(w':World):Prop :=
 ∃p gC gD,e=.returned (.pointer (some ⟨p,0,none⟩))/\Mm w' p gC gD l [] (zH_ k) [] most/\w.heap.size<=p/\w.heap.size<=gC/\w.heap.size<=gD/\Chg [] w w'
section
variable {w:World}
theorem xW_.drew {l:List UInt8}{k most:Nat}{e:Ending}{w':World}(h:xW_ w l k most e w'):xW_ w l k most e w'.drew:=by
 obtain⟨p,gC,gD,he,hM,h1,h2,h3,hc⟩:=h;exact⟨p,gC,gD,he,hM.keep (Chg.refl [] w').drew,h1,h2,h3,hc.drew⟩
theorem zhG {W:World}{q gC gD k most n:Nat}{l:List UInt8}(hq:q=W.heap.size)(hC:zb_ W gC 5 (bts l))(hD:zb_ W gD 4 (bls (zH_ k)))(hn:l.length=n)(hl:n=64*k)(h1:k<=most)(h2:most<=64)
    (hc:Chg [] w W) (b1:w.heap.size<=gC) (b2:w.heap.size<=gD) :
    xW_ w l k most (.returned (.pointer (some ⟨q,0,none⟩))) (W.alloc (.cells #[.slice (some ⟨gC,0,none⟩) n n,.int .i64 (most:Int),.slice (some ⟨gD,0,none⟩) k k] 105)):=by
 subst hq hn;have hk:∀o,Chg [] W (W.alloc o):=fun o=>(Chg.refl [] W).alloc o;refine⟨W.heap.size,gC,gD,rfl,⟨?_,by simpa using hC.keep (hk _),by simpa using hD.keep (hk _),by rw[yx_];exact hl,by rw[yx_];exact h1,h2,by unfold maxLen;simp;omega,by unfold maxLen;simp[yx_];omega⟩,hc.size,b1,b2,hc.alloc _⟩;have:=zb_.new W 105 [.slice (some ⟨gC,0,none⟩) l.length l.length,.int .i64 (most:Int),.slice (some ⟨gD,0,none⟩) k k];simpa[yx_] using this
theorem cnew_no (k most:Int)(h:k<0\/most<k\/64<most) :
    Calls Tryz.prog 90 #[.int .i64 k,.int .i64 most] w fun e w'=>e=.returned (.pointer none)/\w=w':=by
 by_cases h1:k<0
 · have hd:decide (k<0)=true:=(by simpa using h1);clear h;go_enter Tryz.func90,Tryz.ntmps90;go_wp2_with fail;go_ret;exact⟨rfl,rfl⟩
 · have hd1:decide (k<0)=false:=(by simpa using h1);by_cases h2:most<k
   · have hd:decide (most<k)=true:=(by simpa using h2);clear h;go_enter Tryz.func90,Tryz.ntmps90;go_wp2_with fail;go_ret;exact⟨rfl,rfl⟩
   · have hd2:decide (most<k)=false:=(by simpa using h2);have hd3:decide (64<most)=true:=(by simp;omega);clear h;go_enter Tryz.func90,Tryz.ntmps90;go_wp2_with fail;go_ret;exact⟨rfl,rfl⟩
theorem zlJ (k most:Nat)(h1:k<=most)(h2:most<=64) :
    Calls Tryz.prog 90 #[.int .i64 (k:Int),.int .i64 (most:Int)] w (xW_ w (zm_ (k*64)) k most):=by
 have hd2:decide ((most:Int)<(k:Int))=false:=by simp;omega
 have hd3:decide (64<(most:Int))=false:=by simp;omega
 have hmk:∀W:World,(Instr.makeSlice 39 (.int .i64 ((k:Int)*64)) (.int .i64 ((k:Int)*64))).run Tryz.prog W=.ok (.slice (some ⟨W.heap.size,0,none⟩) (k*64) (k*64)) (W.alloc (.cells (bts (zm_ (k*64))).toArray 5)) :=
  fun W=>by
   have:=j1_ (k*64) (by omega) W;simpa using this
 have hmb:∀W:World,(Instr.makeSlice 99 (.int .i64 (k:Int)) (.int .i64 (k:Int))).run Tryz.prog W=.ok (.slice (some ⟨W.heap.size,0,none⟩) k k) (W.alloc (.cells (bls (zH_ k)).toArray 4)) :=
  fun W=>j2_ k (by omega) W;have hz:(zm_ (k*64)).length=k*64:=zE_ _;have HZ:=hQ_ hz;clear hz;have hw:IntKind.i64.wrap ((k:Int)*64)=(k:Int)*64:=IntWalk.i64_in _ (by omega);go_enter Tryz.func90,Tryz.ntmps90;go_wp2_with fail;go_region_with fail;all_goals
   go_wp2_with fail;go_ret
 · have hA:=zb_.new w 5 (bts (zm_ (k*64)));have hB:=zb_.new (w.alloc (.cells (bts (zm_ (k*64))).toArray 5)) 4 (bls (zH_ k));rw[show(w.alloc (.cells (bts (zm_ (k*64))).toArray 5)).heap.size=w.heap.size+1 by simp]at hB;exact(zhG (W:=(w.alloc (.cells (bts (zm_ (k*64))).toArray 5)).alloc (.cells (bls (zH_ k)).toArray 4)) (by simp) (hA.keep ((Chg.refl [] _).alloc _)) hB HZ.o (by omega) h1 h2 (((Chg.refl [] w).alloc _).alloc _) (Nat.le_refl _) (by omega)).drew
 · have hA:=zb_.new w 4 (bls (zH_ k));have hB:=zb_.new (w.alloc (.cells (bls (zH_ k)).toArray 4)) 5 (bts (zm_ (k*64)));rw[show(w.alloc (.cells (bls (zH_ k)).toArray 4)).heap.size=w.heap.size+1 by simp]at hB;exact(zhG (W:=(w.alloc (.cells (bls (zH_ k)).toArray 4)).alloc (.cells (bts (zm_ (k*64))).toArray 5)) (by simp) hB (hA.keep ((Chg.refl [] _).alloc _)) HZ.o (by omega) h1 h2 (((Chg.refl [] w).alloc _).alloc _) (by omega) (Nat.le_refl _)).drew
variable {A:Option Addr} {n c:Nat} {l:List UInt8}
theorem zhy {w1 w2:World}{p gC gD k most:Nat}{z:List UInt8}(hM:Mm w1 p gC gD z [] (zH_ k) [] most)(hz:z.length=l.length)(hc1:Chg [] w w1)(b0:w.heap.size<=p)(b1:w.heap.size<=gC)(b2:w.heap.size<=gD)
    (HG:zb_ w2 gC 5 (splice (bts z) 0 (bts l))) (HC:Chg [gC] w1 w2):xW_ w l k most (.returned (.pointer (some ⟨p,0,none⟩))) w2:=by
      have d0:=hM.rec_.ne_ hM.cel (by decide);have d1:=hM.dir.ne_ hM.cel (by decide);rw[x0_ _ _ (by rw[zg_,zg_,hz])]at HG;have hr:=hM.rec_.chg HC (by simpa using d0);have hd:=hM.dir.chg HC (by simpa using d1);have h1:=hM.len;have h2:=hM.capX;rw[hz]at hr h1 h2;refine⟨p,gC,gD,rfl,⟨hr,by simpa using HG,hd,h1,hM.le,hM.top,h2,hM.capY⟩,b0,b1,b2,?_⟩;exact hc1.then_ HC fun i hi hlt=>by
       simp only[List.mem_cons,List.not_mem_nil,or_false]at hi;omega
theorem zjf (hl:l.length=n)(hs:Src w A (bts l))(most:Nat)(h1:n%64=0)(h2:n/64<=most)(h3:most<=64) :
    Calls Tryz.prog 49 #[.slice A n c,.int .i64 (most:Int)] w (xW_ w l (n/64) most):=by
 have hd:((n:Int)%64 != 0)=false:=by simp;omega
 have hq:((n:Int)/64)=((n/64:Nat):Int):=by omega
 have HL:=hQ_ hl;have HQ:=hQ_ hq;have H1:=hQ_ h1;have hb:=yd_ l;clear hl hq h1;go_enter Tryz.func49,Tryz.ntmps49;go_wp2_with (first
  | (go_at_call 90;rw[HQ.o];refine(zlJ (n/64) most h2 h3).mono ?_;rintro e w1 ⟨p,gC,gD,rfl,hM,b0,b1,b2,hc1⟩;have hz:(zm_ (n/64*64)).length=n:=(by rw[zE_];have:=H1.o;omega);have hsr:=hs.keep hc1;have c0:=hM.rec_.cell 0;have hcel:=hM.cel;rw[List.append_nil]at hcel;have Hn:=hQ_ (show(bts l).length=Nat.min n n by rw[zg_,HL.o];exact(Nat.min_self n).symm);have Hf:0+(bts l).length<=(bts (zm_ (n/64*64))).length:=(by rw[zg_,zg_,hz,HL.o];omega);have HM:=hQ_ hM;have HZ:=hQ_ hz;simp only[List.length_nil,Nat.add_zero,hz]at c0;obtain⟨Y,hY⟩:∃Y,Y=bts l:=⟨_,rfl⟩;have HY:=hQ_ hY;rw[<-hY]at hb hsr Hn Hf;clear hY hM hz)
  | ((with_reducible refine z7_ rfl (.tmp 20) (.tmp 21) _ _ rfl 5 Tryz.underlying39 xB_ (some ⟨gC,0,none⟩) A n n n c rfl rfl gC 0 5 (bts (zm_ (n/64*64))) Y hcel Hn.o (fun _=>rfl) hsr Hf hb ?_);intro w2 HG HC));go_ret;rw[HY.o]at HG;exact zhy HM.o (by rw[HZ.o,HL.o]) hc1 b0 b1 b2 HG HC
end
def zoO (w:World)(l:List UInt8)(e:Ending)(w':World):Prop:=∃v,e=.returned v/\w'.ownsRow w.heap.size 5 1 v l.length (bts l)/\Chg [] w w'
section
variable {w:World} {p gC gD:Nat} {L:List UInt8} {X:List Value} {V:List Bool} {Y:List Value} {most:Nat}
theorem kC_ (h:Mm w p gC gD L X V Y most):Calls Tryz.prog 34 #[.pointer (some ⟨p,0,none⟩)] w (zoO w L):=by
 obtain⟨i,hi,hz,hs1,hb⟩:=info_parts j4_;have c0:=h.rec_.cell 0;have hsr:=h.src;have hl:=hQ_ (zg_ L);have h1:=yd_ L;have b1:=h.small;have x1:=hQ_ (show 0+L.length<=maxLen by unfold maxLen;omega);have x2:=hQ_ (show(0+L.length)*1<=140737488355328 by omega);go_enter Tryz.func34,Tryz.ntmps34;go_wp2_with (
  at_builtin;refine zC_ rfl (.const (.slice none 0 0)) (.tmp 6) 39 rfl w.heap.size 5 i _ 1 Tryz.underlying39 hi hz hs1 hb uj_ (.slice none 0 0) 0 [] rfl (vP_ _ _ _) (some ⟨gC,0,none⟩) L.length (L.length+X.length) (bts L) rfl hl.out hsr h1 x1.out x2.out (Nat.le_refl _) ?_;intro v4 w4 ho4 hg4 _);go_ret;rw[Nat.zero_add,List.nil_append]at ho4;exact⟨v4,rfl,ho4,Chg.of_grown hg4 (fun g hg=>by simp[Value.ownBlock]at hg)⟩
def newF (B:Nat)(l:List UInt8)(k most:Nat):yJ_:=fun v W=>∃p gC gD,v=.pointer (some ⟨p,0,none⟩)/\Mm W p gC gD l [] (zH_ k) [] most/\B<=p/\B<=gC/\B<=gD
theorem uc_ (B:Nat)(l:List UInt8)(k most:Nat):zQ_ (Chg []) (newF B l k most):=fun _ _ _ ⟨p,gC,gD,h,hM,h1,h2,h3⟩ hc=>⟨p,gC,gD,h,hM.keep hc,h1,h2,h3⟩
theorem zaU (h:Mm w p gC gD L X V Y most):Calls Tryz.prog 24 #[.pointer (some ⟨p,0,none⟩)] w (xW_ w L V.length most):=by
 have c0:=h.rec_.cell 0;have c1:=h.rec_.cell 1;have hlen:=h.len;have hle:=h.le;have htop:=h.top;have H1:=hQ_ (show L.length%64=0 by omega);have H2:=hQ_ (show L.length/64=V.length by omega);have H3:=hQ_ (show L.length/64<=most by omega);clear hlen;go_enter Tryz.func24,Tryz.ntmps24;go_wp2_with fail;have hd:=h.keep (Chg.refl [] w).drew;clear c0 c1;refine wp_flow (by kernel_rfl) yn_ za_ (by kernel_rfl) ?_;refine flow_move_out za_ rfl rfl rfl ?_;refine flow1 (r:=.pointer (some ⟨p,0,none⟩)) za_ rfl (.inn rfl) rfl (fun ev W he e1=>by go_simp) ?_;refine flow1 (r:=.pointer (some ⟨p,0,none⟩)) za_ rfl (.inn rfl) rfl (fun ev W he e1=>by go_simp) ?_;refine flow1h (r:=.slice (some ⟨gC,0,none⟩) L.length (L.length+X.length)) za_ rfl (.inn rfl) rfl (fun ev W he hW e1=>by have c0:=(hd.keep hW).rec_.cell 0;go_simp) ?_;refine flow_move_out za_ rfl rfl rfl ?_;refine flow1 (r:=.pointer (some ⟨p,0,none⟩)) za_ rfl (.inn rfl) rfl (fun ev W he e1=>by go_simp) ?_;refine flow1 (r:=.pointer (some ⟨p,1,none⟩)) za_ rfl (.inn rfl) rfl (fun ev W he e1=>by go_simp) ?_;refine flow1h (r:=.int .i64 (most:Int)) za_ rfl (.inn rfl) rfl (fun ev W he hW e1=>by have c1:=(hd.keep hW).rec_.cell 1;go_simp) ?_;refine flow_calld (newF w.heap.size L V.length most) (uc_ _ _ _ _) (.inr (uc_ _ _ _ _)) (by kernel_rfl) rfl (.cons (.inn rfl) (.cons (.inn rfl) .nil)) (fun W hW=>(zjf (l:=L) rfl (hd.keep hW).src most H1.o H3.o htop).mono ?_) ?_
 · rintro e w' hp;rw[H2.o]at hp;obtain⟨p',gC',gD',rfl,hM,h1,h2,h3,hc⟩:=hp;have hz:w.heap.size<=W.heap.size:=hW.size;exact⟨_,rfl,hc,p',gC',gD',rfl,hM,by omega,by omega,by omega⟩
 refine flow_assign za_ rfl (uc_ _ _ _ _) (.inr (uc_ _ _ _ _)) rfl ?_;intro vs W hW hF;obtain⟨p',gC',gD',e2,hM,h1,h2,h3⟩:=hF 2 _ rfl rfl;simp only[zW_,Act.put,List.setIfInBounds_toArray,List.set_cons_zero,List.set_cons_succ,e2];go_wp2_with fail;go_ret;have hz:w.heap.size=w.drew.heap.size:=rfl;exact⟨p',gC',gD',rfl,hM,h1,h2,h3,(Chg.refl [] w).drew.new hW⟩
end
def pg (L:List UInt8)(i:Nat):List UInt8:=(L.drop (i*64)).take 64
theorem zmq {L:List UInt8}{i:Nat}(h:(i+1)*64<=L.length):(pg L i).length=64:=by
 unfold pg;rw[List.length_take,List.length_drop];omega
def ku_ (L M:List UInt8)(i:Nat):Bool:=decide (i<L.length/64/\pg L i=pg M i)
def vl_ (L M:List UInt8)(f:Nat):Nat->List (Nat×List UInt8)
  | 0=>[]
  | k+1=>vl_ L M f k++(if ku_ L M k then [] else [(f+k,pg M k)])
def qx_ (ls:List ChV)(cs:List (Nat×List UInt8)):Prop:=ls.map (fun a=>(a.page,a.B))=cs.map (fun c=>((c.1:Int),c.2))
theorem qx_.len {ls:List ChV}{cs:List (Nat×List UInt8)}(h:qx_ ls cs):ls.length=cs.length:=by
 have:=congrArg List.length h;simpa using this
theorem qx_.snoc {ls:List ChV}{cs:List (Nat×List UInt8)}(h:qx_ ls cs){a:ChV}{p:Nat}(hp:a.page=(p:Int)):qx_ (ls++[a]) (cs++[(p,a.B)]):=by
 unfold qx_ at *;rw[List.map_append,List.map_append,h];simp[hp]
theorem qx_.at {ls:List ChV}{cs:List (Nat×List UInt8)}(h:qx_ ls cs){k:Nat}{a:ChV}{c:Nat×List UInt8}(ha:ls[k]?=some a)(hc:cs[k]?=some c):a.page=(c.1:Int)/\a.B=c.2:=by
 have:=congrArg (fun l:List (Int×List UInt8)=>l[k]?) h;simp only[List.getElem?_map,ha,hc,Option.map_some]at this;injection this with this;injection this with h1 h2;exact⟨h1,h2⟩
def zmO (w:World)(cs:List (Nat×List UInt8))(e:Ending)(w':World):Prop :=
 ∃v ls,e=.returned v/\w'.ownsRow w.heap.size 123 2 v ls.length (xY_ ls)/\(∀a∈ls,MadeCh w' w.heap.size a)/\qx_ ls cs/\Chg [] w w'
theorem MadeCh.more {w:World}{B0 B1:Nat}{a:ChV}(h:MadeCh w B0 a)(hB:B1<=B0):MadeCh w B1 a:=by
 obtain⟨g,hg,hb,hW⟩:=h.b;exact { h with b:=⟨g,hg,Nat.le_trans hB hb,hW⟩ }
theorem uT_ {w:World}{B B' n k:Nat}{e:TypeId}{v:Value}{xs:List Value}(h:w.ownsRow B e k v n xs)(hB:B'<=B):w.ownsRow B' e k v n xs:=by
 refine⟨h.1,h.2.imp id ?_⟩;rintro⟨g,cap,cur,rfl,hb,r⟩;exact⟨g,cap,cur,rfl,Nat.le_trans hB hb,r⟩
section
variable {w:World} {A:Option Addr} {n c:Nat} {l:List UInt8}
theorem vp_ (h:Bs w A n c l)(hn:n<=1000000) :
    Calls Tryz.prog 96 #[.slice A n c] w fun e w'=>e=.returned (.slice (some ⟨w.heap.size,0,none⟩) n n)/\zb_ w' w.heap.size 5 (bts l)/\Chg [] w w':=by
 have hl:(bts l).length=n:=by rw[zg_,h.len]
 have hs:=h.src;have h1:=yd_ l;generalize bts l=xs at hl hs h1;have hmk:=j1_ n hn;go_enter Tryz.func96,Tryz.ntmps96;go_wp2_with (first
  | ((with_reducible refine wpList_copy_splice rfl (.tmp 7) (.tmp 8) _ _ rfl 5 Tryz.underlying39 xB_ (some ⟨w.heap.size,0,none⟩) A n n n c rfl rfl w.heap.size 0 (bts (zm_ n)) 5 ?c1 xs ?c2 ?c3 ?c4 h1 w.heap.size w ?c5 (Nat.le_refl _) ?_);(case c1=>exact heap_alloc_new w _);(case c2=>simp[hl]);case c3 =>
      intro hp;obtain⟨ad,e,_,hx⟩:=(hs.keep ((Chg.refl [] w).alloc _)) hp;exact⟨rfl,ad,e,hx⟩
     (case c4=>simp[hl,zg_,zE_]);(case c5=>exact(Below.refl _ _).alloc (Nat.le_refl _) _);intro w1 HG hB));go_ret;have HG':=HG.o;rw[x0_ _ _ (by simp[hl,zg_,zE_])]at HG';exact⟨rfl,HG',Chg.of_below hB⟩
theorem qM_ (h:Bs w A n c l)(i:Nat)(hi:(i+1)*64<=n)(hn:n<=1000000) :
    Calls Tryz.prog 94 #[.slice A n c,.int .i64 (i:Int)] w fun e w'=>∃A' c',e=.returned (.slice A' 64 c')/\Bs w A' 64 c' (pg l i)/\w=w':=by
 have hcut:=h.cut (lo:=i*64) (hi:=(i+1)*64) (by omega) hi;have e64:(i+1)*64-i*64=64:=by omega
 rw[e64]at hcut;have hne:¬c=i*64:=by have:=h.cap;omega
 rw[if_neg hne]at hcut;have hc:=h.cap;obtain⟨ad,hA⟩:∃ad,A=some ad:=by
  obtain⟨ad,e,_⟩:=h.src (by rw[zg_,h.len];omega);exact⟨ad,e⟩
 have hsp:=h.spot (by omega);subst hA;obtain⟨b,o,s⟩:=ad;obtain rfl:s=none:=hsp _ rfl;rw[Option.map_some,zl_]at hcut;have HC:=hQ_ hcut;have H64:=hQ_ e64;clear hcut e64;go_enter Tryz.func94,Tryz.ntmps94;go_wp2_with fail;go_ret;exact⟨_,_,by rw[H64.o];rfl,HC.o,rfl⟩
end
section
variable {w:World} {p gC gD p2 gC2 gD2:Nat} {L L2:List UInt8} {X X2:List Value} {V V2:List Bool} {Y Y2:List Value} {most most2:Nat}
theorem gs_ (h:Mm w p gC gD L X V Y most) (h2:Mm w p2 gC2 gD2 L2 X2 V2 Y2 most2) (f:Nat) (hf:f<=60000) :
    Calls Tryz.prog 56 #[.pointer (some ⟨p,0,none⟩),.pointer (some ⟨p2,0,none⟩),.int .i64 (f:Int)] w (zmO w (vl_ L L2 f V2.length)):=by
 obtain⟨i0,hi,hz0,hz1,hz2⟩:=info_parts vy_;have HM:=hQ_ h;have HM2:=hQ_ h2;have HL:=hQ_ (show L.length=64*V.length/\V.length<=64 from⟨h.len,h.smallV⟩);have HL2:=hQ_ (show L2.length=64*V2.length from h2.len);have hV2:=h2.smallV;clear h h2;go_enter Tryz.func56,Tryz.ntmps56;go_wp2_with fail;refine(kC_ HM.o).mono ?_;rintro e w1 ⟨v1,rfl,ho1,hc1⟩;obtain⟨A1,c1,rfl,hB1,_⟩:=Bs.of_own ho1;have HB1:=hQ_ hB1;have HC1:=hQ_ hc1;clear ho1 hB1 hc1;go_wp2_with fail;refine(kC_ (HM2.o.keep HC1.o)).mono ?_;rintro e w2 ⟨v2,rfl,ho2,hc2⟩;obtain⟨A2,c2,rfl,hB2,_⟩:=Bs.of_own ho2;have HB2:=hQ_ hB2;have HB1':=hQ_ (HB1.o.keep hc2);have HC2:=hQ_ (HC1.o.new hc2);clear ho2 hB2 hc2;go_wp2_with fail;refine(xf_ (HM2.o.keep HC2.o)).mono ?_;rintro e w' ⟨rfl,rfl⟩;go_wp2_with fail;go_loopw [9,24] (fun v i wr=>∃(k:Nat)(ls:List ChV),k<=V2.length/\i=.int .i64 (k:Int)/\ls.length<=k/\wr.ownsRow w2.heap.size 123 2 v ls.length (xY_ ls)/\Hid (∀a∈ls,MadeCh wr w2.heap.size a)/\Hid (qx_ ls (vl_ L L2 f k))/\Hid (Chg [] w2 wr)) (fun _ i _=>V2.length-(intOf i).toNat);case atStart=>exact⟨0,[],Nat.zero_le _,rfl,Nat.le_refl _,World.ownsRow_nil _ _ _ _,hQ_ (by simp),hQ_ rfl,hQ_ (Chg.refl _ _)⟩
 case round =>
  obtain⟨k,ls,hk,rfl,hlen,hown,HMade,HCs,HCr⟩:=hrel;by_cases hlt:k<V2.length
  · have hkI:(k:Int)<(V2.length:Int):=(by omega);have hk2:(k+1)*64<=L2.length:=(by rw[HL2.o];omega);go_wp2_with fail;refine(qM_ (HB2.o.keep HCr.o) k hk2 (by rw[HL2.o];omega)).mono ?_;rintro e w' ⟨A3,c3,rfl,hB3,rfl⟩;have HB3:=hQ_ hB3;clear hB3;go_wp2_with fail;refine(xf_ (HM.o.keep (HC2.o.new HCr.o))).mono ?_;rintro e w' ⟨rfl,rfl⟩;by_cases hkv:k<V.length
    · have hkvI:(k:Int)<(V.length:Int):=(by omega);go_wp2_with fail;refine(qM_ (HB1'.out.keep HCr.o) k (by have:=HL.o;omega) (by have:=HL.o;omega)).mono ?_;rintro e w' ⟨A4,c4,rfl,hB4,rfl⟩;go_wp2_with fail;refine(kR_ hB4 HB3.o).mono ?_;rintro e w' ⟨rfl,rfl⟩;by_cases heq:pg L k=pg L2 k
      · have hde:decide (pg L k=pg L2 k)=true:=decide_eq_true heq;have HS:=hQ_ (show vl_ L L2 f (k+1)=vl_ L L2 f k by rw[vl_,show ku_ L L2 k=true from decide_eq_true ⟨by have:=HL.o;omega,heq⟩];simp);rw[hde];clear heq hde hB4;go_wp2_with fail;go_roundw;(case rel=>exact⟨k+1,ls,by omega,by go_num,by omega,hown,HMade,hQ_ (by rw[HS.o];exact HCs.o),HCr⟩);case measure=>simp[intOf];omega
      · have hde:decide (pg L k=pg L2 k)=false:=decide_eq_false heq;have hsame:ku_ L L2 k=false:=decide_eq_false (fun h=>heq h.2);rw[hde];clear heq hde hB4;go_wp2_with fail;refine(vp_ HB3.o (by omega)).mono ?_;rintro e w5 ⟨rfl,hW5,hc5⟩;obtain⟨g,hg⟩:∃g,g=wr.heap.size:=⟨_,rfl⟩;rw[<-hg]at hW5⊢;have hB0:=HCr.o.size;have hnew:MadeCh w5 w2.heap.size ⟨((f+k:Nat):Int),some ⟨g,0,none⟩,64,64,pg L2 k⟩:=⟨⟨g,rfl,by omega,hW5⟩,zmq hk2,rfl,rfl,by simp only;omega⟩;have HN5:=hQ_ hnew;have HM5:=hQ_ (show ∀a∈ls,MadeCh w5 w2.heap.size a from fun a ha=>(HMade.o a ha).chg hc5 (by simp));have hown5:=zS_ hown hc5 (by simp);have HC5:=hQ_ (HCr.o.new hc5);have HS:=hQ_ (show vl_ L L2 f (k+1)=vl_ L L2 f k++[(f+k,pg L2 k)] by rw[vl_,hsame];rfl);obtain⟨X,hX⟩:∃X,X=xY_ ls:=⟨_,rfl⟩;obtain⟨N,hN⟩:∃N,N=ls.length:=⟨_,rfl⟩;rw[<-hX,<-hN]at hown5;rw[<-hN]at hlen;have HX:=hQ_ hX;have HN:=hQ_ hN;have hw5:=HC5.o.size;have HFK:=hQ_ (show(f:Int)+(k:Int)=((f+k:Nat):Int) by omega);clear hX hN hown hnew hW5 hc5 hB0 hg hsame;go_wp2_with (first
         | (at_builtin;refine wpList_append_own _ rfl (.tmp 41) (.tmp 48) _ rfl w2.heap.size 123 i0 _ 2 32 Tryz.underlying88 hi hz0 hz1 hz2 rfl (by decide) _ N X rfl (zS_ hown5 ((Chg.refl [] w5).alloc _) (by simp)) ⟨w5.heap.size,0,none⟩ 1 1 [.int .i64 ((f:Int)+(k:Int)),.slice (some ⟨g,0,none⟩) 64 64] rfl rfl ?c1 ?c2 ?c3 ?c4 ?c5 ?_;(case c1=>exact zK_ _ _ _);(case c2=>simp[Value.oneCell']);(case c3=>simp only[maxLen];omega);(case c4=>omega);(case c5=>simp;omega);intro v' w6 hown' hg' _));have HAL6:=hQ_ (zS_ hown5 ((Chg.refl [] w5).alloc (.cells #[.int .i64 ((f:Int)+(k:Int)),.slice (some ⟨g,0,none⟩) 64 64] 123)) (by simp));have hc6:Chg [] w2 w6:=xD_ (HC5.o.alloc _) hg' fun g hgg=>(HAL6.o.lt g hgg).1;go_roundw;case rel =>
         refine⟨k+1,ls++[⟨((f+k:Nat):Int),some ⟨g,0,none⟩,64,64,pg L2 k⟩],by omega,by go_num,?_,?_,hQ_ ?_,hQ_ ?_,hQ_ hc6⟩
         · rw[List.length_append,<-HN.o];simp;omega
         · rw[ui_,kg_,<-HX.o,List.length_append,<-HN.o];rw[HFK.o]at hown';exact hown'
         · intro a ha;rcases List.mem_append.1 ha with h|h
           · exact((HM5.o a h).chg ((Chg.refl [] w5).alloc _) (by simp)).grown HAL6.o hg'
           · simp only[List.mem_cons,List.not_mem_nil,or_false]at h;subst h;exact(HN5.o.chg ((Chg.refl [] w5).alloc _) (by simp)).grown HAL6.o hg'
         · rw[HS.o];exact HCs.o.snoc (a:=⟨((f+k:Nat):Int),some ⟨g,0,none⟩,64,64,pg L2 k⟩) rfl
        case measure=>simp[intOf];omega
    · have hkvI:¬(k:Int)<(V.length:Int):=(by omega);have hsame:ku_ L L2 k=false:=decide_eq_false (fun h=>by have:=HL.o;omega);go_wp2_with fail;refine(vp_ HB3.o (by omega)).mono ?_;rintro e w5 ⟨rfl,hW5,hc5⟩;obtain⟨g,hg⟩:∃g,g=wr.heap.size:=⟨_,rfl⟩;rw[<-hg]at hW5⊢;have hB0:=HCr.o.size;have hnew:MadeCh w5 w2.heap.size ⟨((f+k:Nat):Int),some ⟨g,0,none⟩,64,64,pg L2 k⟩:=⟨⟨g,rfl,by omega,hW5⟩,zmq hk2,rfl,rfl,by simp only;omega⟩;have HN5:=hQ_ hnew;have HM5:=hQ_ (show ∀a∈ls,MadeCh w5 w2.heap.size a from fun a ha=>(HMade.o a ha).chg hc5 (by simp));have hown5:=zS_ hown hc5 (by simp);have HC5:=hQ_ (HCr.o.new hc5);have HS:=hQ_ (show vl_ L L2 f (k+1)=vl_ L L2 f k++[(f+k,pg L2 k)] by rw[vl_,hsame];rfl);obtain⟨X,hX⟩:∃X,X=xY_ ls:=⟨_,rfl⟩;obtain⟨N,hN⟩:∃N,N=ls.length:=⟨_,rfl⟩;rw[<-hX,<-hN]at hown5;rw[<-hN]at hlen;have HX:=hQ_ hX;have HN:=hQ_ hN;have hw5:=HC5.o.size;have HFK:=hQ_ (show(f:Int)+(k:Int)=((f+k:Nat):Int) by omega);clear hX hN hown hnew hW5 hc5 hB0 hg hsame;go_wp2_with (first
       | (at_builtin;refine wpList_append_own _ rfl (.tmp 41) (.tmp 48) _ rfl w2.heap.size 123 i0 _ 2 32 Tryz.underlying88 hi hz0 hz1 hz2 rfl (by decide) _ N X rfl (zS_ hown5 ((Chg.refl [] w5).alloc _) (by simp)) ⟨w5.heap.size,0,none⟩ 1 1 [.int .i64 ((f:Int)+(k:Int)),.slice (some ⟨g,0,none⟩) 64 64] rfl rfl ?c1 ?c2 ?c3 ?c4 ?c5 ?_;(case c1=>exact zK_ _ _ _);(case c2=>simp[Value.oneCell']);(case c3=>simp only[maxLen];omega);(case c4=>omega);(case c5=>simp;omega);intro v' w6 hown' hg' _));have HAL6:=hQ_ (zS_ hown5 ((Chg.refl [] w5).alloc (.cells #[.int .i64 ((f:Int)+(k:Int)),.slice (some ⟨g,0,none⟩) 64 64] 123)) (by simp));have hc6:Chg [] w2 w6:=xD_ (HC5.o.alloc _) hg' fun g hgg=>(HAL6.o.lt g hgg).1;go_roundw;case rel =>
       refine⟨k+1,ls++[⟨((f+k:Nat):Int),some ⟨g,0,none⟩,64,64,pg L2 k⟩],by omega,by go_num,?_,?_,hQ_ ?_,hQ_ ?_,hQ_ hc6⟩
       · rw[List.length_append,<-HN.o];simp;omega
       · rw[ui_,kg_,<-HX.o,List.length_append,<-HN.o];rw[HFK.o]at hown';exact hown'
       · intro a ha;rcases List.mem_append.1 ha with h|h
         · exact((HM5.o a h).chg ((Chg.refl [] w5).alloc _) (by simp)).grown HAL6.o hg'
         · simp only[List.mem_cons,List.not_mem_nil,or_false]at h;subst h;exact(HN5.o.chg ((Chg.refl [] w5).alloc _) (by simp)).grown HAL6.o hg'
       · rw[HS.o];exact HCs.o.snoc (a:=⟨((f+k:Nat):Int),some ⟨g,0,none⟩,64,64,pg L2 k⟩) rfl
      case measure=>simp[intOf];omega
  · have hge:¬(k:Int)<(V2.length:Int):=(by omega);have HK:=hQ_ (show k=V2.length by omega);clear hlt;go_wp2_with fail;go_ret;refine⟨_,ls,rfl,uT_ hown HC2.o.size,fun a ha=>(HMade.o a ha).more HC2.o.size,?_,HC2.o.new HCr.o⟩;rw[<-HK.o];exact HCs.o
end
def yX_ (P:List (List UInt8))(a:ChV):List (List UInt8):=if 0<=a.page/\a.page<P.length then P.set a.page.toNat a.B else P
def zY_ (P:List (List UInt8))(ls:List ChV):List (List UInt8):=ls.foldl yX_ P
theorem gg_ (P:List (List UInt8))(a:ChV):(yX_ P a).length=P.length:=by unfold yX_;split<;>simp
theorem yP_:∀(ls:List ChV)(P:List (List UInt8)),(zY_ P ls).length=P.length
  | [],_=>rfl
  | a::ls,P=>by show(zY_ (yX_ P a) ls).length=_;rw[yP_ ls,gg_]
theorem qp_ (P:List (List UInt8))(ls:List ChV)(k:Nat)(a:ChV)(h:ls[k]?=some a):zY_ P (ls.take (k+1))=yX_ (zY_ P (ls.take k)) a:=by
 obtain⟨hk,he⟩:=List.getElem?_eq_some_iff.1 h;unfold zY_;rw[List.take_succ_eq_append_getElem hk,List.foldl_append,he];rfl
structure ShFr (B:Nat) (w:World) (g n:Nat) (us:List Value) (P:List (List UInt8)) (k:Nat):Prop where
  len:us.length=n
  lenP:P.length=n
  row:zb_ w g 39 us
  at_:∀j,j<k->∀r,P[j]?=some r->∃x,us[j]?=some (.slice (some ⟨x,0,none⟩) r.length r.length)/\zb_ w x 5 (bts r)/\B<=x
theorem ShFr.keep {B:Nat}{w w':World}{g n:Nat}{us:List Value}{P:List (List UInt8)}{k:Nat}(h:ShFr B w g n us P k)(hc:Chg [] w w'):ShFr B w' g n us P k :=
 ⟨h.len,h.lenP,h.row.keep hc,fun j hj r hr=>by obtain⟨x,h1,h2,h3⟩:=h.at_ j hj r hr;exact⟨x,h1,h2.keep hc,h3⟩⟩
theorem ShFr.set_ {B:Nat}{w:World}{g n:Nat}{us:List Value}{P:List (List UInt8)}{k k' j x:Nat}{r:List UInt8}(h:ShFr B w g n us P k)(hj:j<n)(hx:zb_ w x 5 (bts r))(hB:B<=x)(hk:∀i,i<k'->i<k\/i=j) :
    ShFr B (w.setCell ⟨g,j,none⟩ (.slice (some ⟨x,0,none⟩) r.length r.length)) g n (us.set j (.slice (some ⟨x,0,none⟩) r.length r.length)) (P.set j r) k':=by
 refine⟨by rw[List.length_set,h.len],by rw[List.length_set,h.lenP],h.row.set_ j _,fun i hi q hq=>?_⟩;by_cases e:j=i
 · subst e;rw[List.getElem?_set_self (by rw[h.lenP];exact hj)]at hq;injection hq with hq;subst hq;refine⟨x,by rw[List.getElem?_set_self (by rw[h.len];exact hj)],hx.far (hx.ne_ h.row (by decide)) _,hB⟩
 · rw[List.getElem?_set_ne e]at hq;obtain⟨y,h1,h2,h3⟩:=h.at_ i (by have:=hk i hi;omega) q hq;exact⟨y,by rw[List.getElem?_set_ne e];exact h1,h2.far (h2.ne_ h.row (by decide)) _,h3⟩
def zoX (n:Nat):List Value:=List.replicate n (.slice none 0 0)
theorem zkW (n:Nat):(zoX n).length=n:=by simp[zoX]
theorem zay (n:Nat)(h:n<=1000000)(w:World):(Instr.makeSlice 96 (.int .i64 (n:Int)) (.int .i64 (n:Int))).run Tryz.prog w=.ok (.slice (some ⟨w.heap.size,0,none⟩) n n) (w.alloc (.cells (zoX n).toArray 39)):=by
 obtain⟨i,hi,hz,hs,hb⟩:=info_parts kH_;exact x4_ (P:=Tryz.prog) 96 39 i _ rfl Tryz.underlying96 hi hz hs n (by rw[hb];omega) (by omega) w
def zjJ (w:World)(P:List (List UInt8))(e:Ending)(w':World):Prop :=
 ∃g us,e=.returned (.slice (some ⟨g,0,none⟩) P.length P.length)/\ShFr w.heap.size w' g P.length us P P.length/\w.heap.size<=g/\Chg [] w w'
section
variable {w:World} {A C:Option Addr} {n c m d:Nat} {vs:List Value} {P:List (List UInt8)} {ls:List ChV}
theorem zbG (hA:Src w A vs)(hsp:0<n->∀ad,A=some ad->ad.spot=none)(hn:vs.length=n)(hn1:n<=1000)(hL:zgd w vs P)(hP:∀l∈P,l.length<=1000000)(hC:Chs w C ls)(hm:ls.length=m)(hm1:m<=1000)(hls:∀a∈ls,a.B.length<=1000000) :
    Calls Tryz.prog 88 #[.slice A n c,.slice C m d] w (zjJ w (zY_ P ls)):=by
 have hmk:=zay n (by omega);have hPn:P.length=n:=by rw[<-hL.1,hn]
 have HA:=hQ_ hA;have HL:=hQ_ hL;have HC:=hQ_ hC;have HP:=hQ_ hP;have HN:=hQ_ hn;have HM:=hQ_ hm;have HPN:=hQ_ hPn;have HLS:=hQ_ hls;clear hA hL hC hP hn hm hPn hls;go_enter Tryz.func88,Tryz.ntmps88;go_wp2_with fail;have hW:=zb_.new w 39 (zoX n);have hc1:Chg [] w (w.alloc (.cells (zoX n).toArray 39)):=(Chg.refl [] w).alloc _;obtain⟨g,hg⟩:∃g,g=w.heap.size:=⟨_,rfl⟩;rw[<-hg]at hW⊢;have hgw:=hQ_ (show w.heap.size<=g by omega);have HC1:=hQ_ hc1;generalize w.alloc (.cells (zoX n).toArray 39)=w1 at hW HC1⊢;clear hg hc1;go_loopw [15] (fun v wr=>∃(k:Nat)(us:List Value),k<=n/\v=.int .i64 (k:Int)/\Hid (ShFr w.heap.size wr g n us P k)/\Hid (Chg [] w wr)) (fun v _=>n-(intOf v).toNat);case atStart=>exact⟨0,_,Nat.zero_le _,rfl,hQ_ ⟨zkW n,HPN.o,hW,fun j hj=>absurd hj (by omega)⟩,HC1⟩
 case round =>
  obtain⟨k,us,hk,rfl,HF,HCr⟩:=hrel;by_cases hlt:k<n
  · have hkI:(k:Int)<(n:Int):=(by omega);obtain⟨⟨bA,oA,sA⟩,rfl,_,hxA⟩:=(HA.o.keep HCr.o) (by rw[HN.o];omega);obtain rfl:sA=none:=hsp (by omega) _ rfl;obtain⟨xv,hxv⟩:∃x,vs[k]?=some x:=⟨_,List.getElem?_eq_getElem (by rw[HN.o];exact hlt)⟩;obtain⟨X,hX⟩:∃X,P[k]?=some X:=⟨_,List.getElem?_eq_getElem (by rw[HPN.o];exact hlt)⟩;obtain⟨A5,n5,c5,rfl,hB5⟩:=HL.o.2 k xv X hxv hX;have ck:=hxA k _ hxv;rw[zl_]at ck;have hXl:=HP.o X (List.mem_of_getElem? hX);have hlX:=hB5.len;have HB5:=hQ_ (hB5.keep HCr.o);have HXk:=hQ_ hX;clear hxA hxv hX hB5;go_wp2_with fail;refine(vp_ HB5.o (by omega)).mono ?_;rintro e w5 ⟨rfl,hW5,hc5⟩;have HF5:=hQ_ (HF.o.keep hc5);have HC5:=hQ_ (HCr.o.new hc5);have HW5:=hQ_ hW5;have hge:=HCr.o.size;have HGE:=hQ_ hge;have c7:=HF5.o.row.cell k;have f7:=HF5.o.row.frozen k;obtain⟨uk,huk⟩:∃u,us[k]?=some u:=⟨_,List.getElem?_eq_getElem (by rw[HF.o.len];exact hlt)⟩;rw[huk]at c7;clear hW5 hc5 ck huk hge;go_wp2_with fail;go_roundw;case rel =>
     have hPs:P.set k X=P:=(by
      apply List.ext_getElem?;intro i;by_cases e:k=i
      · subst e;rw[List.getElem?_set_self (by rw[HPN.o];exact hlt),HXk.o]
      · rw[List.getElem?_set_ne e]);have:=HF5.o.set_ (k':=k+1) hlt HW5.o HGE.o (fun i hi=>by omega);rw[hPs,hlX]at this;exact⟨k+1,_,by omega,by go_num,hQ_ this,hQ_ (HC5.o.setCell (fun h=>absurd h (by have:=hgw.out;show ¬g<_;omega)) _)⟩
    case measure=>simp[intOf];omega
  · have hkI:¬(k:Int)<(n:Int):=(by omega);have hkn:=hQ_ (show k=n by omega);have HF0:Hid (ShFr w.heap.size wr g n us P n):=hQ_ (by have:=HF.o;rwa[hkn.out]at this);clear hk hlt HF hkn;go_wp2_with fail;go_loopw [28] (fun v w5=>∃(k:Nat) (us:List Value),k<=m/\v=.int .i64 (k:Int)/\Hid (ShFr w.heap.size w5 g n us (zY_ P (ls.take k)) n)/\Hid (Chg [] w w5)) (fun v _=>m-(intOf v).toNat);(case atStart=>exact⟨0,us,Nat.zero_le _,rfl,HF0,HCr⟩);case round =>
     obtain⟨q,us2,hq,rfl,HF,HC2⟩:=hrel;clear HF0 HCr;by_cases hlt:q<m
     · have hqI:(q:Int)<(m:Int):=(by omega);obtain⟨gc,o,rfl,hgc,hat⟩:=(HC.o.keep HC2.o).cells (by rw[HM.o];omega);obtain⟨a,ha⟩:∃a,ls[q]?=some a:=⟨_,List.getElem?_eq_getElem (by rw[HM.o];exact hlt)⟩;obtain⟨d0,d1⟩:=hat q a ha;have hok:=HC.o.ok a (List.mem_of_getElem? ha);have HBa:=hQ_ (hok.bs.keep HC2.o);have hal:=HLS.o a (List.mem_of_getElem? ha);have hbn:=hok.bs.len;have HAt:=hQ_ (qp_ P ls q a ha);clear hat ha hok;obtain⟨pgv,bA,bn,bc,B⟩:=a;simp only at d0 d1 HBa hal hbn;have hn1':=hn1;by_cases hp:0<=pgv/\pgv<(n:Int)
       · obtain⟨hp0,hp1⟩:=hp;have HApp:=hQ_ (show zY_ P (ls.take (q+1))=(zY_ P (ls.take q)).set pgv.toNat B by rw[HAt.o,yX_,if_pos (by rw[yP_,HPN.o];exact⟨hp0,hp1⟩)]);have HB0:=hQ_ (show wr.heap.size=wr.heap.size from rfl);go_upto_region 11 with fail;have hwc:=zb_.new wr 123 [.int .i64 pgv,.slice bA bn bc];have hal1:Chg [] wr (wr.alloc (.cells #[.int .i64 pgv,.slice bA bn bc] 123)):=(Chg.refl [] wr).alloc _;obtain⟨g9,hg9⟩:∃g9,g9=wr.heap.size:=⟨_,rfl⟩;rw[<-hg9]at hwc⊢;have HF6:=hQ_ (HF.o.keep hal1);have HB6:=hQ_ (HBa.o.keep hal1);have HC6:=hQ_ (HC2.o.new hal1);generalize wr.alloc (.cells #[.int .i64 pgv,.slice bA bn bc] 123)=w6 at hwc HF6 HB6 HC6⊢;have k0:=hwc.cell 0;have k1:=hwc.cell 1;have kg:=hwc.lt;have HK:=hQ_ (show w6.heap.size=w6.heap.size from rfl);clear hg9 HB0;obtain⟨pn,hpn⟩:∃pn:Nat,pgv=(pn:Int):=⟨pgv.toNat,by omega⟩;subst hpn;have hpl:pn<n:=(by omega);rw[Int.toNat_natCast]at HApp;obtain⟨uk,huk⟩:∃u,us2[pn]?=some u:=⟨_,List.getElem?_eq_getElem (by rw[HF6.o.len];exact hpl)⟩;have HUK:=hQ_ huk;clear huk;go_region_with (
          go_at_call 96;refine(vp_ (HB6.o.keep (jA_ (Chg.refl [] _))) (by omega)).mono ?_;rintro e w7 ⟨rfl,hW7,hc7⟩;have k7:=(HF6.o.row.keep (jA_ hc7)).cell pn;have f7:=(HF6.o.row.keep (jA_ hc7)).frozen pn;rw[HUK.o]at k7;have d7:=zd_ k0 (jA_ hc7);have d8:=zd_ k1 (jA_ hc7));(all_goals go_wp2_with fail);(all_goals go_roundw);all_goals first
           | (simp[intOf];omega)
           | (have hfr:=(HF6.o.keep (jA_ hc7)).set_ (k':=n) (r:=B) hpl hW7 HC6.o.size (fun i hi=>.inl hi);rw[hbn]at hfr;exact⟨q+1,_,by omega,by go_num,hQ_ (by rw[HApp.o];exact hfr),hQ_ ((HC6.o.new (jA_ hc7)).setCell (fun h=>absurd h (by have:=hgw.out;show ¬g<_;omega)) _)⟩)
       · have HApp:=hQ_ (show zY_ P (ls.take (q+1))=zY_ P (ls.take q) by rw[HAt.o,yX_,if_neg (by rw[yP_,HPN.o];exact hp)]);by_cases hp0:0<=pgv
         · have hp1:¬pgv<(n:Int):=fun h=>hp ⟨hp0,h⟩;go_wp2_with fail;go_roundw;(case rel=>exact⟨q+1,us2,by omega,by go_num,hQ_ (by rw[HApp.o];exact HF.o.keep ((Chg.refl _ _).alloc _)),hQ_ (HC2.o.alloc _)⟩);case measure=>simp[intOf];omega
         · go_wp2_with fail;go_roundw;(case rel=>exact⟨q+1,us2,by omega,by go_num,hQ_ (by rw[HApp.o];exact HF.o.keep ((Chg.refl _ _).alloc _)),hQ_ (HC2.o.alloc _)⟩);case measure=>simp[intOf];omega
     · have hqI:¬(q:Int)<(m:Int):=(by omega);have HQ:=hQ_ (show ls.take q=ls from List.take_of_length_le (by rw[HM.o];omega));have hlen:(zY_ P ls).length=n:=(by rw[yP_,HPN.o]);clear hlt;go_wp2_with fail;go_ret;refine⟨g,us2,by rw[hlen];rfl,?_,hgw.out,HC2.o⟩;rw[hlen,<-HQ.o];rw[HQ.o];have:=HF.o;rw[HQ.o]at this;exact this
end
structure SK where
  p:Nat
  bL:Nat
  bS:Nat
  bW:Nat
  g:Nat
  gN:Nat
  ex:List Nat
structure SV where
  L:Nat
  P:Nat
  E:Nat
  pages:List (List UInt8)
  named:List Bool
  used:Nat
  seq:Nat
def SK.D (k:SK):List Nat:=k.p::k.bL::k.bS::k.bW::k.g::k.gN::k.ex
def uI_ (T:List Nat)(w:World)(v:Value)(ps:List (List UInt8)):Prop :=
 ∃A c us,v=.slice A ps.length c/\ps.length<=c/\Src w A us/\us.length=ps.length/\(∀ad,A=some ad->ad.spot=none/\ad.block∉T)/\∀(i:Nat) u l,us[i]?=some u->ps[i]?=some l->∃A' n' c',u=.slice A' n' c'/\Bs w A' n' c' l/\∀ad,A'=some ad->ad.block∉T
theorem zgK {w w':World}{A:Option Addr}{xs:List Value}{T:List Nat}(h:Src w A xs)(hc:Chg T w w')(hA:∀ad,A=some ad->ad.block∉T):Src w' A xs:=h.chg hc fun _ ad e=>hA ad e
theorem zqa {w w':World}{A:Option Addr}{n c:Nat}{l:List UInt8}{T:List Nat}(h:Bs w A n c l)(hc:Chg T w w')(hA:∀ad,A=some ad->ad.block∉T):Bs w' A n c l:={ h with src:=zgK h.src hc hA }
theorem uI_.chg {T T':List Nat}{w w':World}{v:Value}{ps:List (List UInt8)}(h:uI_ T w v ps)(hc:Chg T' w w')(hT:∀i∈T',i∈T):uI_ T w' v ps:=by
 obtain⟨A,c,us,e,h1,h2,h3,h4,h5⟩:=h;refine⟨A,c,us,e,h1,zgK h2 hc (fun ad e hm=>(h4 ad e).2 (hT _ hm)),h3,h4,fun i u l hu hl=>?_⟩;obtain⟨A',n',c',e',hB,hD⟩:=h5 i u l hu hl;exact⟨A',n',c',e',zqa hB hc (fun ad e hm=>hD ad e (hT _ hm)),hD⟩
theorem uI_.lists {T:List Nat}{w:World}{v:Value}{ps:List (List UInt8)}(h:uI_ T w v ps):∃A c us,v=.slice A ps.length c/\ps.length<=c/\Src w A us/\us.length=ps.length/\(∀ad,A=some ad->ad.spot=none)/\zgd w us ps:=by
 obtain⟨A,c,us,e,h1,h2,h3,h4,h5⟩:=h;exact⟨A,c,us,e,h1,h2,h3,fun ad e=>(h4 ad e).1,h3,fun i u l hu hl=>by
  obtain⟨A',n',c',e',hB,_⟩:=h5 i u l hu hl;exact⟨A',n',c',e',hB⟩⟩
theorem uI_.of_fr {T:List Nat}{B:Nat}{w:World}{g n:Nat}{us:List Value}{ps:List (List UInt8)}(h:ShFr B w g n us ps n)(hg:B<=g)(hT:∀i∈T,i<B)(hps:∀l∈ps,l.length<=1000000):uI_ T w (.slice (some ⟨g,0,none⟩) n n) ps:=by
 have hpl:=h.lenP;refine⟨some ⟨g,0,none⟩,n,us,by rw[hpl],by omega,Src.of_all h.row,by rw[h.len,hpl],fun ad e=>by injection e with e;subst e;exact⟨rfl,fun hm=>by have:=hT _ hm;simp only at this;omega⟩,fun i u l hu hl=>?_⟩;have hi:i<n:=by rw[<-hpl];exact(List.getElem?_eq_some_iff.1 hl).1
 obtain⟨x,h1,h2,h3⟩:=h.at_ i hi l hl;rw[h1]at hu;injection hu with hu;subst hu;exact⟨_,_,_,rfl,Bs.of_all h2 (by have:=hps l (List.mem_of_getElem? hl);omega),fun ad e=>by injection e with e;subst e;exact fun hm=>by have:=hT _ hm;simp only at this;omega⟩
structure Sto (w:World) (k:SK) (s:St) (x:SV) (vP:Value):Prop where
  dsk:z9_ w k.p k.bL k.bS k.bW s
  rec_:zb_ w k.g 101 [.pointer (some ⟨k.p,0,none⟩),.int .i64 (x.L:Int),.int .i64 (x.P:Int),.int .u32 (x.E:Int),vP,.slice (some ⟨k.gN,0,none⟩) x.P x.P,.int .i64 (x.used:Int),.int .u32 (x.seq:Int)]
  pgs:uI_ k.D w vP x.pages
  nm:zb_ w k.gN 4 (bls x.named)
  ng:k.gN≠k.bW
  rt:zp_ (x.L:Int) (x.P:Int) (x.E:Int) s.V.length=true
  ep:x.E<4294967296
  pl:x.pages.length=x.P
  nl:x.named.length=x.P
  p64:∀l∈x.pages,l.length=64
  us:x.used<=4096
  sq:x.seq*18<=x.used
  exl:∀i∈k.ex,i<w.heap.size
def va_ (N:List Bool)(ls:List ChV):List Bool:=ls.foldl (fun N a=>N.set a.page.toNat true) N
theorem vQ_:∀(ls:List ChV)(N:List Bool),(va_ N ls).length=N.length
  | [],_=>rfl
  | a::ls,N=>by show(va_ (N.set _ _) ls).length=_;rw[vQ_ ls,List.length_set]
theorem zfk (N:List Bool)(ls:List ChV)(j:Nat)(a:ChV)(h:ls[j]?=some a):va_ N (ls.take (j+1))=(va_ N (ls.take j)).set a.page.toNat true:=by
 obtain⟨hj,he⟩:=List.getElem?_eq_some_iff.1 h;unfold va_;rw[List.take_succ_eq_append_getElem hj,List.foldl_append,he];rfl
def zZ_ (x:SV)(ls:List ChV):SV:=⟨x.L,x.P,x.E,zY_ x.pages ls,va_ x.named ls,x.used,x.seq⟩
def InP (P:Nat)(ls:List ChV):Prop:=∀a∈ls,0<=a.page/\a.page<(P:Int)/\a.B.length=64
def zer (w:World)(k:SK)(s:St)(x:SV)(ls:List ChV)(e:Ending)(w':World):Prop:=e=.returned (.tuple #[])/\(∃v,Sto w' k s (zZ_ x ls) v)/\Chg [k.g,k.gN] w w'
theorem qq_:∀(ls:List ChV)(ps:List (List UInt8)),(∀l∈ps,l.length=64)->(∀a∈ls,a.B.length=64)->∀l∈zY_ ps ls,l.length=64
  | [],_,h,_=>h
  | a :: ls,ps,h,ha=>by
    show ∀l∈zY_ (yX_ ps a) ls,l.length=64;refine qq_ ls _ (fun l hl=>?_) (fun b hb=>ha b (List.mem_cons_of_mem _ hb));unfold yX_ at hl;split at hl
    · rcases List.mem_or_eq_of_mem_set hl with h1|h1
      · exact h l h1
      · rw[h1];exact ha a List.mem_cons_self
    · exact h l hl
section
variable {w:World} {k:SK} {s:St} {x:SV} {vP:Value} {C:Option Addr} {m d:Nat} {ls:List ChV}
theorem Sto.lts (h:Sto w k s x vP):∀i∈k.D,i<w.heap.size:=fun i hi=>by
 simp only[SK.D,List.mem_cons]at hi;rcases hi with rfl|rfl|rfl|rfl|rfl|rfl|hi
 · exact(Dsk.rec_ h.dsk).lt
 · exact(Dsk.last h.dsk).lt
 · exact(Dsk.seen h.dsk).lt
 · exact(Dsk.wait h.dsk).lt
 · exact h.rec_.lt
 · exact h.nm.lt
 · exact h.exl i hi
theorem Sto.keep {w':World}(h:Sto w k s x vP)(hc:Chg [] w w'):Sto w' k s x vP :=
 { h with dsk:=Dsk.keep h.dsk hc,rec_:=h.rec_.keep hc,pgs:=h.pgs.chg hc (fun _ h=>by cases h),nm:=h.nm.keep hc,exl:=fun i hi=>Nat.lt_of_lt_of_le (h.exl i hi) hc.size }
end
section
variable {w:World} {k:SK} {s:St} {x:SV} {vP:Value} {C:Option Addr} {m d:Nat} {ls:List ChV}
theorem zdc (h:Sto w k s x vP)(hC:Chs w C ls)(hm:ls.length=m)(hm1:m<=1000)(hin:InP x.P ls)(hCb:0<ls.length->∀ad,C=some ad->ad.block∉[k.g,k.gN]) :
    Calls Tryz.prog 76 #[.pointer (some ⟨k.g,0,none⟩),.slice C m d] w (zer w k s x ls):=by
 obtain⟨A,c,us,rfl,hcp,hsrc,hul,hsp,hli⟩:=h.pgs.lists;have hP64:x.P<=64:=by have:=zi_.1 h.rt;omega
 have hap:=zbG (d:=d) (c:=c) hsrc (fun _ ad e=>hsp ad e) hul (by rw[h.pl];omega) hli (fun l hl=>by have:=h.p64 l hl;omega) hC hm hm1 (fun a ha=>by have:=(hin a ha).2.2;omega);have HAP:=hQ_ hap;have H:=hQ_ h;have HCH:=hQ_ hC;have HLM:=hQ_ hm;have HIN:=hQ_ hin;have HCB:=hQ_ hCb;have e4:=h.rec_.cell 4;clear hap h hC hm hin hCb hsrc hul hsp hli hcp;go_enter Tryz.func76,Tryz.ntmps76;go_wp2_with fail;refine HAP.o.mono ?_;rintro e w2 ⟨gp,us2,rfl,hfr,hgp,hc2⟩;have HFR:=hQ_ (And.intro hfr hgp);have HC2:=hQ_ hc2;have hr2:=H.o.rec_.keep hc2;have c4:=hr2.cell 4;have f4:=hr2.frozen 4;have HR2:=hQ_ hr2;obtain⟨n,hn⟩:∃n,n=(zY_ x.pages ls).length:=⟨_,rfl⟩;have HN:=hQ_ (show n=x.P from by rw[hn,yP_,H.o.pl]);rw[<-hn]at HFR⊢;clear e4 hfr hgp hc2 hr2 hn HAP;go_upto_region 1 with fail;have hR3:=hQ_ (HR2.o.set_ 4 (.slice (some ⟨gp,0,none⟩) n n));have HCH3:=hQ_ (show Chg [k.g] w2 (w2.setCell ⟨k.g,4,none⟩ (.slice (some ⟨gp,0,none⟩) n n)) from(Chg.refl [k.g] w2).setCell (p:=⟨k.g,4,none⟩) (fun _=>by simp) _);generalize w2.setCell ⟨k.g,4,none⟩ (.slice (some ⟨gp,0,none⟩) n n)=w3 at hR3 HCH3⊢;have HGN:=hQ_ (show k.g≠k.gN from fun e=>(H.o.rec_.ne_ H.o.nm (by decide)) e);have hN3:=hQ_ ((H.o.nm.keep HC2.o).chg HCH3.o (fun hm=>HGN.o (by simp only[List.mem_singleton]at hm;exact hm.symm)));go_wp2_with fail;go_loopw [17] (fun i wr=>∃j:Nat,i=.int .i64 (j:Int)/\j<=m/\Hid (zb_ wr k.gN 4 (bls (va_ x.named (ls.take j))))/\Hid (Chg [k.gN] w3 wr)) (fun i _=>m-(intOf i).toNat);case atStart=>exact⟨0,rfl,Nat.zero_le _,hN3,hQ_ (Chg.refl _ _)⟩
 case round =>
  obtain⟨j,rfl,hj,HNr,HCr⟩:=hrel;have HRr:=hQ_ (hR3.out.chg HCr.o (fun hm=>HGN.o (by simpa using hm)));by_cases hlt:j<m
  · have hjI:(j:Int)<(m:Int):=(by omega);have hj0:(0:Int)<=(j:Int):=(by omega);have hjl:j<ls.length:=(by have:=HLM.o;omega);obtain⟨a,ha⟩:∃a,ls[j]?=some a:=⟨ls[j],List.getElem?_eq_getElem hjl⟩;obtain⟨gc,oc,rfl,hgc,hcc⟩:=HCH.o.cells (by omega);obtain⟨q0,q1⟩:=hcc j a ha;obtain⟨hp0,hp1,hp2⟩:=HIN.o a (List.mem_of_getElem? ha);have hcb:=HCB.o (by omega) _ rfl;have hbl:∀i,wr.cell? ⟨gc,i,none⟩=w.cell? ⟨gc,i,none⟩:=fun i=>(by
     refine World.cell?_of_block (w:=w) ?_;have h1:=HC2.o.block gc hgc (by simp);have h2:=HCH3.o.block gc (Nat.lt_of_lt_of_le hgc HC2.o.size) (fun hm=>hcb (by simp only[List.mem_singleton]at hm;simp[hm]));have h3:=HCr.o.block gc (Nat.lt_of_lt_of_le hgc (Nat.le_trans HC2.o.size HCH3.o.size)) (fun hm=>hcb (by simp only[List.mem_singleton]at hm;simp[hm]));rw[h3,h2,h1]);have k0:=(hbl _).trans q0;have k1:=(hbl _).trans q1;have HNX:=hQ_ (zfk x.named ls j a ha);have hNl:(va_ x.named (ls.take j)).length=x.P:=(by rw[vQ_,H.o.nl]);obtain⟨q,hq⟩:∃q:Nat,a.page=(q:Int):=⟨a.page.toNat,by omega⟩;rw[hq]at k0 hp1 HNX;rw[Int.toNat_natCast]at HNX;generalize va_ x.named (ls.take j)=Nj at HNr HNX hNl;have hqP:q<x.P:=(by omega);have hold:=HNr.o.cell q;rw[vW_ Nj q (by omega)]at hold;have hof:=HNr.o.frozen q;generalize Nj[q]'(by omega)=ob at hold;have hqI:(q:Int)<(x.P:Int):=(by omega);have hqI0:(0:Int)<=(q:Int):=(by omega);clear hcc q0 q1 hbl ha hp0 hp1 hp2 hq hcb hjl;go_upto_region 4 with fail;have hX:=zb_.new wr 123 [.int .i64 (q:Int),.slice a.bA a.bn a.bc];have hal:=(Chg.refl [] wr).alloc (.cells #[.int .i64 (q:Int),.slice a.bA a.bn a.bc] 123);have hN4:=HNr.o.keep hal;have hR4:=HRr.o.keep hal;have HC4:=hQ_ (HCr.o.new hal);generalize wr.heap.size=gx at hX⊢;generalize wr.alloc (.cells #[.int .i64 (q:Int),.slice a.bA a.bn a.bc] 123)=w4 at hX hN4 hR4 HC4⊢;have HN4:=hQ_ hN4;have x0:=hX.cell 0;have d5:=hR4.cell 5;have dold:=hN4.cell q;have dfr:=hN4.frozen q;simp only[List.getElem?_cons_zero,List.getElem?_cons_succ,List.set_cons_zero,List.set_cons_succ]at d5;rw[vW_ Nj q (by omega)]at dold;clear hX hal hN4 hR4 k0 k1 hold hof;go_region;have hNs:=HN4.o.drew.set_ q (.bool true);rw[g6_]at hNs;have HN5:=hQ_ hNs;have HC5:=hQ_ (show Chg [k.gN] w3 (w4.drew.setCell ⟨k.gN,q,none⟩ (.bool true)) from(HC4.o.drew).setCell (p:=⟨k.gN,q,none⟩) (fun _=>by simp) _);clear hNs;go_wp2_with fail;go_roundw;(case rel=>exact⟨j+1,by go_num,by omega,hQ_ (by rw[HNX.o];exact HN5.o),HC5⟩);case measure=>simp[intOf];omega
  · obtain rfl:m=j:=(by omega);have hjI:¬(m:Int)<(m:Int):=(by omega);have HP:=hQ_ (show zer w k s x ls (.returned (.tuple #[])) wr from by
     have hc:Chg [k.g,k.gN] w wr:=((HC2.o.sub (T':=[k.g,k.gN]) (fun _ h=>by cases h)).trans (znd HCH3.o)).trans (znd HCr.o);have hlt:=H.o.lts;have ht:ls.take m=ls:=List.take_of_length_le (by rw[HLM.o];exact Nat.le_refl _);have hN:=HNr.o;rw[ht]at hN;have hdsk:z9_ wr k.p k.bL k.bS k.bW s:=Dsk.away H.o.dsk hc
       (by
         simp only[List.mem_cons,List.not_mem_nil,or_false];rintro(e|e)
         · exact((Dsk.rec_ H.o.dsk).ne_ H.o.rec_ (by decide)) e
         · exact((Dsk.rec_ H.o.dsk).ne_ H.o.nm (by decide)) e)
       (by
         simp only[List.mem_cons,List.not_mem_nil,or_false];rintro(e|e)
         · exact((Dsk.last H.o.dsk).ne_ H.o.rec_ (by decide)) e
         · exact((Dsk.last H.o.dsk).ne_ H.o.nm (by decide)) e)
       (by
         simp only[List.mem_cons,List.not_mem_nil,or_false];rintro(e|e)
         · exact((Dsk.seen H.o.dsk).ne_ H.o.rec_ (by decide)) e
         · exact((Dsk.seen H.o.dsk).ne_ H.o.nm (by decide)) e)
       (by
         simp only[List.mem_cons,List.not_mem_nil,or_false];rintro(e|e)
         · exact((Dsk.wait H.o.dsk).ne_ H.o.rec_ (by decide)) e
         · exact H.o.ng e.symm);have h64:=qq_ ls x.pages H.o.p64 (fun a ha=>(HIN.o a ha).2.2);have hpg:=uI_.of_fr (T:=k.D) HFR.o.1 HFR.o.2 hlt (fun l hl=>by have:=h64 l hl;omega);refine⟨rfl,⟨.slice (some ⟨gp,0,none⟩) n n,?_⟩,hc⟩;exact { dsk:=hdsk,rec_:=HRr.o,pgs:=(hpg.chg HCH3.o (by simp[SK.D])).chg HCr.o (by simp[SK.D]),nm:=hN,ng:=H.o.ng,rt:=H.o.rt,ep:=H.o.ep,pl:=by show(zY_ x.pages ls).length=_;rw[yP_,H.o.pl];rfl,nl:=by show(va_ x.named ls).length=_;rw[vQ_,H.o.nl];rfl,p64:=h64,us:=H.o.us,sq:=H.o.sq,exl:=fun i hi=>Nat.lt_of_lt_of_le (H.o.exl i hi) hc.size });go_wp2_with fail
    go_end0
    exact HP.o
end
end Go.Proofs.YtcbcfcdmdedefaaGreatDoor
