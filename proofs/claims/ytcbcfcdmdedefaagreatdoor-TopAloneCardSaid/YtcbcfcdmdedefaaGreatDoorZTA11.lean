import Derived.Test.YtcbcfcdmdedefaaGreatDoorZTA10
set_option maxRecDepth 100000
set_option maxHeartbeats 16000000
namespace Go.Proofs.YtcbcfcdmdedefaaGreatDoor
open Go.RowKit
def x9_ (h:Int)(bs:List BkV)(k:Nat):Int×Int×List BkV:=match x6_ h bs k with|(true,h',bs')=>(0,h',bs')|(false,h',bs')=>(14,h',bs')
theorem zhX {h:Int}{bs:List BkV}{k:Nat}{y:BkV}(hk:bs[k]?=some y)(hy:y.sign≠91):x9_ h bs (k+1)=x9_ h bs k:=by
 unfold x9_;rw[x6_,hk];simp only;rw[if_neg hy]
theorem zhY {h:Int}{bs:List BkV}{k:Nat}{y:BkV}(hk:bs[k]?=some y)(hy:y.sign=91):x9_ h bs (k+1)=if h=y.base then (0,-1,bs.set k ⟨y.sign,y.base,y.other,true⟩) else (14,-1,bs.set k ⟨y.sign,y.base,y.other,true⟩):=by
 unfold x9_;rw[x6_,hk];simp only;rw[if_pos hy];by_cases e:h=y.base
 · rw[if_pos e,show(h==y.base)=true from by simpa using e]
 · rw[if_neg e,show(h==y.base)=false from by simpa using e]
section
variable {W:World} {g:Nat} {h:Int} {v:Value} {bs ys:List BkV} {x:BkV}
theorem Wk.part (s:Wk W g h v bs){k:Nat}{y:BkV}(hk:bs[k]?=some y):∃gr c,v=.slice (some ⟨gr,0,none⟩) bs.length c/\bs.length<=c/\g+1<=gr/\W.cell? ⟨gr,k*5,none⟩=some (.bool (y.sign==91))/\W.cell? ⟨gr,k*5+1,none⟩=some (.int .i64 y.base)/\W.cell? ⟨gr,k*5+4,none⟩=some (.bool y.left)/\W.frozen? ⟨gr,k*5+4,none⟩=false:=by
 obtain⟨A,n,c,rfl,hn,hc⟩:=s.slice;subst hn;obtain⟨gr,rfl,c0⟩:=zv_ s.own rfl ((uU_ _ _ _ 0 hk (by omega)).trans rfl);obtain⟨_,e,c1⟩:=zv_ s.own rfl ((uU_ _ _ _ 1 hk (by omega)).trans rfl);injection e with e;injection e with e;subst e;obtain⟨_,e,c4⟩:=zv_ s.own rfl ((uU_ _ _ _ 4 hk (by omega)).trans rfl);injection e with e;injection e with e;subst e;exact⟨gr,c,rfl,hc,(s.own.lt gr rfl).1,c0,c1,c4,y0_ s.own⟩
theorem zev (s:Wk W g h v bs)(hx:∃x∈bs,x.sign=91):Calls Tryz.prog 164 #[.pointer (some ⟨g,0,none⟩)] W (yw_ W g (x9_ h bs bs.length)):=by
 have h0:0<bs.length:=by obtain⟨x,hx,_⟩:=hx;exact List.length_pos_of_mem hx
 have HR:=hQ_ (show ∃q:Nat,bs.length=q+1 from⟨bs.length-1,by omega⟩);generalize hRR:x9_ h bs bs.length=R;obtain⟨q,hq⟩:=HR.o;have HQ:=hQ_ hq;have HRR:=hQ_ hRR;have hfew:=s.few;have hq99:q<=99:=by omega
 obtain⟨y0,hy0⟩:∃y,bs[q]?=some y:=⟨bs[q]'(by omega),by simp⟩;obtain⟨gr,c,rfl,hc,hgr,_⟩:=s.part hy0;have HS:=hQ_ s;have c0:=s.rec_.cell 0;have c1:=s.rec_.cell 1;have g0:=s.rec_.frozen 0;have HX:=hQ_ (show ∃j≤q,∃x,bs[j]?=some x/\x.sign=91 from by
  obtain⟨x,hx,hs⟩:=hx;obtain⟨j,hj,rfl⟩:=List.getElem_of_mem hx;exact⟨j,by omega,_,List.getElem?_eq_getElem hj,hs⟩);rw[hq]at c1 hc HS;clear s hx h0 HR hq hRR hfew hy0;have hq0:(0:Int)<=(q:Int):=by omega
 go_enter Tryz.func164,Tryz.ntmps164;go_wp2_with fail;go_loopw [3] (fun i wr=>∃k:Nat,i=.int .i64 (k:Int)/\k<=q/\Hid (R=x9_ h bs (k+1))/\Hid (∃j≤k,∃x,bs[j]?=some x/\x.sign=91)/\wr=W) (fun i _=>(intOf i).toNat);case atStart=>exact⟨q,rfl,by omega,hQ_ (by rw[<-HRR.o,HQ.o]),HX,rfl⟩
 case round =>
  obtain⟨k,rfl,hk,HRk,HXk,hwr⟩:=hrel;subst hwr;obtain⟨y,hy⟩:∃y,bs[k]?=some y:=⟨bs[k]'(by have:=HQ.o;omega),by simp⟩;obtain⟨gr',c',e,_,_,y0',y1,y4,fy4⟩:=HS.o.part hy;injection e with e1 e2 e3;injection e1 with e1;injection e1 with e1;subst e1;have hkI:(k:Int)<(q:Int)+1:=by omega
  have hkI2:(k:Int)<((q+1:Nat):Int):=by omega
  have hk0:(0:Int)<=(k:Int):=by omega
  by_cases h91:y.sign=91
  · have q91:(y.sign==91)=true:=(by simpa using h91);rw[q91]at y0';have HRE:=hQ_ (HRk.o.trans (zhY hy h91));have HY:=hQ_ hy;clear h91 q91 hy e2 e3;by_cases hb:h=y.base
    · have qb:(h != y.base)=false:=(by simpa using hb);have qb2:(h==y.base)=true:=(by simpa using hb);have HE:=hQ_ (HRE.o.trans (if_pos hb));clear hb;go_upto_region 4 with fail;go_quiet (fail);have hcd:=(Chg.refl [] wr).drewN nq;have HS2:=hQ_ (HS.o.keep hcd);have z4:=zd_ y4 hcd;have HC2:=hQ_ hcd;have HM:=hQ_ (HS2.o.mark (k:=k) (y:=y) HQ.o.symm HY.o);have fz4:(wr.drewN nq).frozen? ⟨gr,k*5+4,none⟩=false:=fy4;generalize wr.drewN nq=w2 at HS2 z4 HC2 HM fz4⊢;clear hcd c0 c1 g0 y0' y1 y4 fy4;have c1:=HS2.o.rec_.cell 1;go_upto_region 7 with fail;generalize w2.setCell ⟨gr,k*5+4,none⟩ (.bool true)=w3 at HM⊢;clear c1;have c0:=HM.o.1.rec_.cell 0;have g0:=HM.o.1.rec_.frozen 0;obtain⟨hP,hF⟩:=HM.o.1.high (-1) (by omega);have HP:=hQ_ (show yw_ wr g R (.returned (.int .i64 0)) _ from⟨((Fr.of_chg HC2.o).trans HM.o.2).trans hF,by rw[HE.o],fun _=>by rw[HE.o];exact⟨_,hP⟩⟩);clear hP hF;go_wp2_with fail;go_ret;exact HP.o
    · have qb:(h != y.base)=true:=(by simpa using hb);have qb2:(h==y.base)=false:=(by simpa using hb);have HE:=hQ_ (HRE.o.trans (if_neg hb));clear hb;go_upto_region 4 with fail;go_quiet (fail);have HP:=hQ_ (show yw_ wr g R (.returned (.int .i64 14)) (wr.drewN nq) from⟨Fr.of_chg ((Chg.refl [] wr).drewN nq),by rw[HE.o],fun hh=>by rw[HE.o]at hh;exact absurd hh (by simp)⟩);go_wp2_with fail;go_ret;exact HP.o
  · have q91:(y.sign==91)=false:=(by simpa using h91);rw[q91]at y0';obtain⟨j,hj,x,hxj,hxs⟩:=HXk.o;have hjk:j<k:=by
     rcases Nat.lt_or_ge j k with h'|h'
     · exact h'
     · exfalso;have:j=k:=(by omega);subst this;rw[hy]at hxj;injection hxj with e;subst e;exact h91 hxs
    have HR2:=hQ_ (show R=x9_ h bs (k-1+1) from by rw[HRk.o,zhX hy h91,show k-1+1=k from by omega]);have HX2:=hQ_ (show ∃j≤k-1,∃x,bs[j]?=some x/\x.sign=91 from⟨j,by omega,x,hxj,hxs⟩);have hk1:(1:Int)<=(k:Int):=(by omega);clear h91 q91 hy e2 e3 hxj;go_wp2_with fail;go_roundw;(case rel=>exact⟨k-1,by rw[show((k-1:Nat):Int)=(k:Int)-1 from by omega],by omega,HR2,HX2,by first|rfl|trivial⟩);case measure=>simp[intOf];omega
end
def Top (sg:Int)(bs:List BkV):Prop:=(sg=58->∃ys x,bs=ys++[x]/\x.sign=63)/\(sg=59->∃ys x,bs=ys++[x]/\x.sign≠91)/\(sg=93->∃ys x,bs=ys++[x]/\x.sign=91)/\(sg=126->∃x∈bs,x.sign=91)
def yS_ (h:Int)(bs:List BkV)(s:Int):Int×Int×List BkV :=
 if vu_ s then (match bs.getLast? with
   | none=>(14,h,bs)
   | some x=>gO_ h bs.dropLast x s)
 else if s=63\/s=91 then (0,h,bs++[⟨s,h,0,false⟩])
 else if s=126 then x9_ h bs bs.length
 else if s=161 then (0,-1,bs)
 else (0,h,bs)
theorem vU_ {h:Int}{ys:List BkV}{x:BkV}{s:Int}(hs:vu_ s):yS_ h (ys++[x]) s=gO_ h ys x s:=by
 unfold yS_;rw[if_pos hs];simp only[List.getLast?_append,List.getLast?_singleton,Option.some_or,List.dropLast_concat]
section
variable {W:World} {g:Nat} {h:Int} {v:Value} {bs ys:List BkV} {x:BkV}
theorem zjY (s:Wk W g h v bs)(h0:0<=h)(hf:bs.length<=99):Calls Tryz.prog 139 #[.pointer (some ⟨g,0,none⟩),.int .i32 63] W (yw_ W g (0,h,bs++[⟨63,h,0,false⟩])):=by
 obtain⟨i0,hi0,hz0,hz1,hz2⟩:=info_parts kD_;obtain⟨A3,n3,c3,rfl,hn3,hc3⟩:=s.slice;have HS:=hQ_ s;have k1:=s.rec_.cell 1;have k0:=s.rec_.cell 0;have hal:Chg [] W (W.alloc (.cells #[.bool false,.int .i64 h,.bool false,.int .i64 0,.bool false] 252)):=(Chg.refl [] W).alloc _;have q1:(W.alloc (.cells #[.bool false,.int .i64 h,.bool false,.int .i64 0,.bool false] 252)).cell? ⟨g,1,none⟩=some (.slice A3 n3 c3):=zd_ (by simpa using k1) hal;have q0:(W.alloc (.cells #[.bool false,.int .i64 h,.bool false,.int .i64 0,.bool false] 252)).cell? ⟨g,0,none⟩=some (.int .i64 h):=zd_ (by simpa using k0) hal;have HOW:=hQ_ (show W.ownsRow (g+1) 252 5 (.slice A3 n3 c3) n3 (k8_ bs) from by have:=s.own;rw[<-hn3]at this;exact this);have hBW:g+1<=W.heap.size:=s.rec_.lt;have HN:=hQ_ hn3;have hn99:n3<=99:=by omega
 have HHR:=hQ_ s.hr;clear hn3 hal s;go_enter Tryz.func139,Tryz.ntmps139;go_wp2_with fail;go_region_law (
   (refine yt_ rfl (.tmp 13) (.tmp 21) 178 rfl (g+1) 252 i0 _ 5 40 Tryz.underlying178 hi0 hz0 hz1 hz2 rfl (by decide) (.slice A3 n3 c3) n3 (k8_ bs) rfl (ze_ HOW.o (((Chg.refl [] W).alloc _).drew)) ⟨W.heap.size,0,none⟩ 1 1 [.bool false,.int .i64 h,.bool false,.int .i64 0,.bool false] rfl rfl (zL_ W _ _) (by simp[Value.oneCell']) (by unfold maxLen;omega) (by omega) (by simp;omega) ?_;intro v' w' ho hg;obtain⟨A6,k6,rfl,_⟩:=zh_ ho;have HO:=hQ_ ho;have HG:=hQ_ hg;have HR6:=hQ_ (zn_ (HS.o.rec_.keep (((Chg.refl [] W).alloc (.cells #[.bool false,.int .i64 h,.bool false,.int .i64 0,.bool false] 252)).drew)) (ze_ HS.o.own (((Chg.refl [] W).alloc (.cells #[.bool false,.int .i64 h,.bool false,.int .i64 0,.bool false] 252)).drew)) (by decide) hg);have f1:=HR6.o.frozen 1;have k1:=HR6.o.cell 1;clear ho hg));all_goals
   obtain⟨hP,hF⟩:=HS.o.push (x:=⟨63,h,0,false⟩) (((Chg.refl [] W).alloc (.cells #[.bool false,.int .i64 h,.bool false,.int .i64 0,.bool false] 252)).drew) (by have:=HN.o;omega) HO.o HG.o hf (by have:=HHR.o;simp only;omega);have HP:=hQ_ (show yw_ W g (0,h,bs++[⟨63,h,0,false⟩]) (.returned (.int .i64 0)) _ from⟨hF,rfl,fun _=>⟨_,hP⟩⟩);clear hP hF;go_wp2_with fail;go_ret;exact HP.o
theorem zjX (s:Wk W g h v bs)(h0:0<=h)(hf:bs.length<=99):Calls Tryz.prog 139 #[.pointer (some ⟨g,0,none⟩),.int .i32 91] W (yw_ W g (0,h,bs++[⟨91,h,0,false⟩])):=by
 obtain⟨i0,hi0,hz0,hz1,hz2⟩:=info_parts kD_;obtain⟨A3,n3,c3,rfl,hn3,hc3⟩:=s.slice;have HS:=hQ_ s;have k1:=s.rec_.cell 1;have k0:=s.rec_.cell 0;have hal:Chg [] W (W.alloc (.cells #[.bool true,.int .i64 h,.bool false,.int .i64 0,.bool false] 252)):=(Chg.refl [] W).alloc _;have q1:(W.alloc (.cells #[.bool true,.int .i64 h,.bool false,.int .i64 0,.bool false] 252)).cell? ⟨g,1,none⟩=some (.slice A3 n3 c3):=zd_ (by simpa using k1) hal;have q0:(W.alloc (.cells #[.bool true,.int .i64 h,.bool false,.int .i64 0,.bool false] 252)).cell? ⟨g,0,none⟩=some (.int .i64 h):=zd_ (by simpa using k0) hal;have HOW:=hQ_ (show W.ownsRow (g+1) 252 5 (.slice A3 n3 c3) n3 (k8_ bs) from by have:=s.own;rw[<-hn3]at this;exact this);have hBW:g+1<=W.heap.size:=s.rec_.lt;have HN:=hQ_ hn3;have hn99:n3<=99:=by omega
 have HHR:=hQ_ s.hr;clear hn3 hal s;go_enter Tryz.func139,Tryz.ntmps139;go_wp2_with fail;go_region_law (
   (refine yt_ rfl (.tmp 13) (.tmp 21) 178 rfl (g+1) 252 i0 _ 5 40 Tryz.underlying178 hi0 hz0 hz1 hz2 rfl (by decide) (.slice A3 n3 c3) n3 (k8_ bs) rfl (ze_ HOW.o (((Chg.refl [] W).alloc _).drew)) ⟨W.heap.size,0,none⟩ 1 1 [.bool true,.int .i64 h,.bool false,.int .i64 0,.bool false] rfl rfl (zL_ W _ _) (by simp[Value.oneCell']) (by unfold maxLen;omega) (by omega) (by simp;omega) ?_;intro v' w' ho hg;obtain⟨A6,k6,rfl,_⟩:=zh_ ho;have HO:=hQ_ ho;have HG:=hQ_ hg;have HR6:=hQ_ (zn_ (HS.o.rec_.keep (((Chg.refl [] W).alloc (.cells #[.bool true,.int .i64 h,.bool false,.int .i64 0,.bool false] 252)).drew)) (ze_ HS.o.own (((Chg.refl [] W).alloc (.cells #[.bool true,.int .i64 h,.bool false,.int .i64 0,.bool false] 252)).drew)) (by decide) hg);have f1:=HR6.o.frozen 1;have k1:=HR6.o.cell 1;clear ho hg));all_goals
   obtain⟨hP,hF⟩:=HS.o.push (x:=⟨91,h,0,false⟩) (((Chg.refl [] W).alloc (.cells #[.bool true,.int .i64 h,.bool false,.int .i64 0,.bool false] 252)).drew) (by have:=HN.o;omega) HO.o HG.o hf (by have:=HHR.o;simp only;omega);have HP:=hQ_ (show yw_ W g (0,h,bs++[⟨91,h,0,false⟩]) (.returned (.int .i64 0)) _ from⟨hF,rfl,fun _=>⟨_,hP⟩⟩);clear hP hF;go_wp2_with fail;go_ret;exact HP.o
theorem uJ_ (s:Wk W g h v bs)(sg:Int)(ht:Top sg bs)(h0:(sg=63\/sg=91)->0<=h/\bs.length<=99):Calls Tryz.prog 139 #[.pointer (some ⟨g,0,none⟩),.int .i32 sg] W (yw_ W g (yS_ h bs sg)):=by
 by_cases h63:sg=63
 · subst h63;exact zjY s (h0 (.inl rfl)).1 (h0 (.inl rfl)).2
 by_cases h91:sg=91
 · subst h91;exact zjX s (h0 (.inr rfl)).1 (h0 (.inr rfl)).2
 have q63:(sg==63)=false:=by simpa using h63
 have q91:(sg==91)=false:=by simpa using h91
 by_cases h58:sg=58
 · subst h58;obtain⟨ys,x,rfl,hx⟩:=ht.1 rfl;have HH:=hQ_ (zex s hx);have HR:=hQ_ (show yS_ h (ys++[x]) 58=(0,x.base,ys++[⟨58,x.base,h,x.left⟩]) from by rw[vU_ (.inl rfl)];rfl);generalize yS_ h (ys++[x]) 58=R at HR⊢;clear s ht h0 hx h63 h91;go_enter Tryz.func139,Tryz.ntmps139;go_wp2_with fail;refine HH.o.mono ?_;rintro e w1 ⟨rfl,v1,hw1,hf1⟩;have HP:=hQ_ (show yw_ W g R (.returned (.int .i64 0)) w1 from⟨hf1,by rw[HR.o],fun _=>by rw[HR.o];exact⟨_,hw1⟩⟩);clear hw1 hf1;go_wp2_with fail;go_ret;exact HP.o
 have q58:(sg==58)=false:=by simpa using h58
 by_cases h59:sg=59
 · subst h59;obtain⟨ys,x,rfl,hx⟩:=ht.2.1 rfl;have HH:=hQ_ (zey s hx);have HR:=hQ_ (show yS_ h (ys++[x]) 59=gO_ h ys x 59 from vU_ (.inr (.inl rfl)));generalize hRR:yS_ h (ys++[x]) 59=R at HR⊢;clear s ht h0 h63 h91 h58 hx hRR;go_enter Tryz.func139,Tryz.ntmps139;go_wp2_with fail;refine HH.o.mono ?_;rw[<-HR.o];obtain⟨er,rh,rb⟩:=R;rintro e w1 ⟨hf1,rfl,hw1⟩;have HP:=hQ_ (show yw_ W g (er,rh,rb) (.returned (.int .i64 er)) w1 from⟨hf1,rfl,hw1⟩);clear hw1 hf1;go_wp2_with fail;go_ret;exact HP.o
 have q59:(sg==59)=false:=by simpa using h59
 by_cases h93:sg=93
 · subst h93;obtain⟨ys,x,rfl,hx⟩:=ht.2.2.1 rfl;have HH:=hQ_ (zag s hx);have HR:=hQ_ (show yS_ h (ys++[x]) 93=gO_ h ys x 93 from vU_ (.inr (.inr rfl)));generalize hRR:yS_ h (ys++[x]) 93=R at HR⊢;clear s ht h0 h63 h91 h58 hx h59 hRR;go_enter Tryz.func139,Tryz.ntmps139;go_wp2_with fail;refine HH.o.mono ?_;rw[<-HR.o];obtain⟨er,rh,rb⟩:=R;rintro e w1 ⟨hf1,rfl,hw1⟩;have HP:=hQ_ (show yw_ W g (er,rh,rb) (.returned (.int .i64 er)) w1 from⟨hf1,rfl,hw1⟩);clear hw1 hf1;go_wp2_with fail;go_ret;exact HP.o
 have q93:(sg==93)=false:=by simpa using h93
 by_cases h126:sg=126
 · subst h126;have HH:=hQ_ (zev s (ht.2.2.2 rfl));have HR:=hQ_ (show yS_ h bs 126=x9_ h bs bs.length from rfl);generalize hRR:yS_ h bs 126=R at HR⊢;clear s ht h0 h63 h91 h58 h59 h93 hRR;go_enter Tryz.func139,Tryz.ntmps139;go_wp2_with fail;refine HH.o.mono ?_;rw[<-HR.o];obtain⟨er,rh,rb⟩:=R;rintro e w1 ⟨hf1,rfl,hw1⟩;have HP:=hQ_ (show yw_ W g (er,rh,rb) (.returned (.int .i64 er)) w1 from⟨hf1,rfl,hw1⟩);clear hw1 hf1;go_wp2_with fail;go_ret;exact HP.o
 have q126:(sg==126)=false:=by simpa using h126
 by_cases h161:sg=161
 · subst h161;have c0:=s.rec_.cell 0;have g0:=s.rec_.frozen 0;obtain⟨hP,hF⟩:=s.high (-1) (by omega);have HP:=hQ_ (show yw_ W g (yS_ h bs 161) (.returned (.int .i64 0)) _ from⟨hF,rfl,fun _=>⟨_,hP⟩⟩);clear s ht h0 hP hF h63 h91 h58 h59 h93 h126;go_enter Tryz.func139,Tryz.ntmps139;go_wp2_with fail;go_ret;exact HP.o
 · have q161:(sg==161)=false:=(by simpa using h161);have HR:=hQ_ (show yS_ h bs sg=(0,h,bs) from by
    have hne:¬vu_ sg:=(by unfold vu_;omega);unfold yS_;rw[if_neg hne,if_neg (by omega),if_neg (by omega),if_neg (by omega)]);have HP:=hQ_ (show yw_ W g (yS_ h bs sg) (.returned (.int .i64 0)) W from⟨Fr.refl _ _ _,by rw[HR.o],fun _=>by rw[HR.o];exact⟨_,s⟩⟩);clear s ht h0 h63 h91 h58 h59 h93 h126 h161;go_enter Tryz.func139,Tryz.ntmps139;go_wp2_with fail;go_ret;exact HP.o
end
structure Bas (h:Int) (bs:List BkV):Prop where
  sorted:bs.Pairwise fun a b=>a.base<=b.base
  oth:∀x∈bs,x.sign=58->x.other=-1\/x.base<=x.other
  top:0<=h->∀x∈bs,x.base<=h
theorem Bas.base {h:Int}{bs:List BkV}(hb:Bas h bs)(h0:0<=h):xn_ bs<=h:=by
 unfold xn_;cases hl:bs.getLast? with
 | none=>exact h0
 | some x=>exact hb.top h0 x (List.mem_of_getLast? hl)
theorem qI_ {l:List FnV}{s:Int}(hs:vu_ s)(name:Int):xd_ l s name=(0,0,true):=by
 rcases hs with rfl|rfl|rfl<;>rfl
theorem zaD {l:List FnV}{h:Int}{bs:List BkV}{s name:Int}(h0:h<0):qw_ l h bs s name=if vu_ s then yS_ h bs s else (15,h,bs):=by
 unfold qw_ yS_;by_cases he:vu_ s
 · rw[if_pos he,if_pos he,if_pos he];rfl
 · rw[if_neg he,if_neg he,if_pos h0]
theorem zaC {l:List FnV}{h:Int}{bs:List BkV}{s name p g:Int}(h0:0<=h)(ht:xd_ l s name=(p,g,false)):qw_ l h bs s name=(22,h,bs):=by
 have he:¬vu_ s:=fun he=>by rw[qI_ he]at ht;simp at ht
 unfold qw_;rw[if_neg he,if_neg (by omega),ht]
theorem qS_ {l:List FnV}{h:Int}{bs:List BkV}{s name p g:Int}(h0:0<=h)(h64:h<=64)(hb:xn_ bs<=h)(ht:xd_ l s name=(p,g,true)):qw_ l h bs s name=if h-xn_ bs<p\/64<h-p+g then (14,h,bs) else yS_ (h-p+g) bs s:=by
 by_cases he:vu_ s
 · rw[qI_ he]at ht;injection ht with h1 h2;injection h2 with h2 _;subst h1;subst h2;rw[if_neg (by omega),show h-0+0=h from by omega];unfold qw_ yS_;rw[if_pos he,if_pos he];rfl
 · unfold qw_ yS_;rw[if_neg he,if_neg (by omega),ht,if_neg he];rfl
section
variable {W:World} {g:Nat} {h:Int} {v:Value} {bs:List BkV} {A:Option Addr} {n c:Nat} {l:List FnV} {pages most:Int}
theorem zge (s:Wk W g h v bs)(hF:Fnr W A n c l)(t:TkV)(hb:Bas h bs)(htop:Top t.sign bs)(hfew:bs.length<=99):Calls Tryz.prog 102 #[.pointer (some ⟨g,0,none⟩),yH_ pages most A n c,.agg (tkC t).toArray] W (yw_ W g (qw_ l h bs t.sign t.name)):=by
 unfold yH_;obtain⟨r,tn,nm⟩:=t;simp only at htop;simp only[tkC];obtain⟨R,hR⟩:∃R,R=qw_ l h bs r nm:=⟨_,rfl⟩;rw[<-hR];have HR:=hQ_ hR;have HTOP:=hQ_ htop;have HS:=hQ_ s;have HF:=hQ_ hF;have HB:=hQ_ hb;obtain⟨hr0,hr1⟩:=s.hr;clear hR htop s hF hb;go_enter Tryz.func102,Tryz.ntmps102;go_upto_region 1 with fail;have hN:=zb_.new W 25 [.int .i64 pages,.int .i64 most,.slice A n c];have hal:Chg [] W (W.alloc (.cells #[.int .i64 pages,.int .i64 most,.slice A n c] 25)):=(Chg.refl [] W).alloc _;have hsz:(W.alloc (.cells #[.int .i64 pages,.int .i64 most,.slice A n c] 25)).heap.size=W.heap.size+1:=Array.size_push _;obtain⟨w1,hw1⟩:∃w1,w1=W.alloc (.cells #[.int .i64 pages,.int .i64 most,.slice A n c] 25):=⟨_,rfl⟩;rw[<-hw1]at hN hal hsz⊢;have hN2:=zb_.new w1 132 [.int .i32 r,.int .i64 tn,.int .i32 nm];have hal2:Chg [] w1 (w1.alloc (.cells #[.int .i32 r,.int .i64 tn,.int .i32 nm] 132)):=(Chg.refl [] w1).alloc _;rw[hsz]at hN2;have hU2:=hN.keep hal2;have hc:=hal.trans hal2;generalize w1.alloc (.cells #[.int .i32 r,.int .i64 tn,.int .i32 nm] 132)=w2 at hN2 hU2 hc⊢;have HF2:=hQ_ (HF.o.keep hc);have HS2:=hQ_ (HS.o.keep hc);have HGU:=hQ_ (show g<W.heap.size from HS.o.rec_.lt);generalize W.heap.size=gu at hU2 hN2 HGU⊢;have HU2:=hQ_ hU2;have HT2:=hQ_ hN2;have HC2:=hQ_ hc;clear hN hal hsz hw1 hN2 hal2 hU2 hc;have c0:=HS2.o.rec_.cell 0;have t0:=HT2.o.cell 0;have t1:=HT2.o.cell 1;have t2:=HT2.o.cell 2;have u0:=HU2.o.cell 0;have u1:=HU2.o.cell 1;have u2:=HU2.o.cell 2;by_cases hdead:h=-1
 · have HRD:=hQ_ (HR.o.trans (zaD (by omega)));subst hdead;by_cases h58:r=58
   · subst h58;have HRE:=hQ_ (HRD.o.trans (if_pos (.inl rfl)));have HTC:=hQ_ (uJ_ HS2.o 58 HTOP.o (fun hh=>by omega));rw[<-HRE.o]at HTC;go_wp2_with fail;refine HTC.o.mono ?_;obtain⟨er,rh,rb⟩:=R;rintro e w9 ⟨hf9,rfl,hw9⟩;have HP:=hQ_ (show yw_ W g (er,rh,rb) (.returned (.int .i64 er)) w9 from⟨(Fr.of_chg HC2.o).trans hf9,rfl,hw9⟩);clear hf9 hw9;go_wp2_with fail;go_ret;exact HP.o
   have q58:(r==58)=false:=(by simpa using h58);have p58:(r != 58)=true:=(by simpa using h58);by_cases h59:r=59
   · subst h59;have HRE:=hQ_ (HRD.o.trans (if_pos (.inr (.inl rfl))));have HTC:=hQ_ (uJ_ HS2.o 59 HTOP.o (fun hh=>by omega));rw[<-HRE.o]at HTC;go_wp2_with fail;refine HTC.o.mono ?_;obtain⟨er,rh,rb⟩:=R;rintro e w9 ⟨hf9,rfl,hw9⟩;have HP:=hQ_ (show yw_ W g (er,rh,rb) (.returned (.int .i64 er)) w9 from⟨(Fr.of_chg HC2.o).trans hf9,rfl,hw9⟩);clear hf9 hw9;go_wp2_with fail;go_ret;exact HP.o
   have q59:(r==59)=false:=(by simpa using h59);have p59:(r != 59)=true:=(by simpa using h59);by_cases h93:r=93
   · subst h93;have HRE:=hQ_ (HRD.o.trans (if_pos (.inr (.inr rfl))));have HTC:=hQ_ (uJ_ HS2.o 93 HTOP.o (fun hh=>by omega));rw[<-HRE.o]at HTC;go_wp2_with fail;refine HTC.o.mono ?_;obtain⟨er,rh,rb⟩:=R;rintro e w9 ⟨hf9,rfl,hw9⟩;have HP:=hQ_ (show yw_ W g (er,rh,rb) (.returned (.int .i64 er)) w9 from⟨(Fr.of_chg HC2.o).trans hf9,rfl,hw9⟩);clear hf9 hw9;go_wp2_with fail;go_ret;exact HP.o
   have q93:(r==93)=false:=(by simpa using h93);have p93:(r != 93)=true:=(by simpa using h93);have HRE:=hQ_ (HRD.o.trans (if_neg (show ¬vu_ r from by unfold vu_;omega)));have HP:=hQ_ (show yw_ W g R (.returned (.int .i64 15)) w2 from⟨Fr.of_chg HC2.o,by rw[HRE.o],fun hh=>by rw[HRE.o]at hh;exact absurd hh (by simp)⟩);clear h58 h59 h93;go_wp2_with fail;go_ret;exact HP.o
 have qdead:(h == -1)=false:=by simpa using hdead
 have h0:0<=h:=by omega
 have HBB:=hQ_ (HB.o.base h0);clear hdead;obtain⟨T,hT⟩:∃T,T=xd_ l r nm:=⟨_,rfl⟩;have HT:=hQ_ hT;have hin:=zaE l r nm;rw[<-hT]at hin;clear hT;go_wp2_with fail;refine(zfP HF2.o ⟨r,tn,nm⟩).mono ?_;rw[<-HT.o];obtain⟨p,q,ok⟩:=T;simp only at hin;rintro e w3 ⟨rfl,hc3⟩;have HS3:=hQ_ (HS2.o.keep hc3);have HT3:=hQ_ (HT2.o.keep hc3);have HC3:=hQ_ (HC2.o.new hc3);clear hc3 c0 t0 t1 t2 u0 u1 u2 HF2 HU2 HS2 HT2 HC2;cases ok with
 | false =>
   have HRE:=hQ_ (HR.o.trans (zaC h0 HT.o.symm));have HP:=hQ_ (show yw_ W g R (.returned (.int .i64 22)) w3 from⟨Fr.of_chg HC3.o,by rw[HRE.o],fun hh=>by rw[HRE.o]at hh;exact absurd hh (by simp)⟩);go_wp2_with fail;go_ret;exact HP.o
 | true =>
   have HR2:=hQ_ (HR.o.trans (qS_ h0 hr1 HBB.o HT.o.symm));obtain⟨b0,hb0⟩:∃b,b=xn_ bs:=⟨_,rfl⟩;have hbr:0<=b0/\b0<=64:=by
    rw[hb0];unfold xn_;cases hl:bs.getLast? with
    | none=>exact⟨Int.le_refl 0,by decide⟩
    | some x=>have:=HS3.o.rb x (List.mem_of_getLast? hl);exact⟨this.1,this.2.1⟩
   rw[<-hb0]at HR2;have HBO:=hQ_ hb0;clear hb0;go_upto_region 8 with fail;have c3:=HS3.o.rec_.cell 0;have HDR:=hQ_ ((Chg.refl [] w3).drew);have HCB:=hQ_ (fun (V:World)(hV:Chg [] w3 V)=>show Calls Tryz.prog 141 #[.pointer (some ⟨g,0,none⟩)] V (jw_ b0 V) from by rw[HBO.o];exact zgk (HS3.o.keep hV));by_cases hlow:h-b0<p
   · have qlow:decide (h-b0<p)=true:=(by simpa using hlow);have HRE:=hQ_ (HR2.o.trans (if_pos (.inl hlow)));clear hlow;refine wp_flow (by kernel_rfl) yl_ za_ (by kernel_rfl) ?_;refine flow_move_out za_ rfl rfl rfl ?_;refine flow1 (r:=.pointer (some ⟨g,0,none⟩)) za_ rfl (.inn rfl) rfl (fun ev W he e1=>by go_simp) ?_;refine flow1 (r:=.pointer (some ⟨g,0,none⟩)) za_ rfl (.inn rfl) rfl (fun ev W he e1=>by go_simp) ?_;refine flow1h (r:=.int .i64 h) za_ rfl (.inn rfl) rfl (fun ev W he hW e1=>by have c0:=zd_ (by simpa using c3:w3.cell? ⟨g,0,none⟩=some (.int .i64 h)) (HDR.o.trans (show Chg [] w3.drew _ from hW));go_simp) ?_;refine flow_move_out za_ rfl rfl rfl ?_;refine zw_ (.int .i64 b0) (by kernel_rfl) rfl (.cons (.inn rfl) .nil) (fun V hV=>(HCB.o V (HDR.o.trans (show Chg [] w3.drew _ from hV))).mono fun e w' hb=>⟨hb.1,by rw[xJ_];exact hb.2⟩) ?_;refine flow2 (r:=.int .i64 (h-b0)) za_ rfl (.inn rfl) (.inn rfl) rfl (fun ev W he e1 e2=>by have hw:IntKind.i64.wrap (h-b0)=h-b0:=IntWalk.i64_in _ (by omega);go_simp) ?_;refine flow_move_out za_ rfl rfl rfl ?_;refine flow2 (r:=.bool true) za_ rfl (.inn rfl) (.inn rfl) rfl (fun ev W he e1 e2=>by go_simp) ?_;refine zP_ za_ rfl (zc_ _) (.inr (zc_ _)) rfl ?_;refine zA_ rfl ?_;refine zA_ rfl ?_;refine zA_ rfl ?_;refine zA_ rfl ?_;refine zA_ rfl ?_;refine zA_ rfl ?_;refine zA_ rfl ?_;refine zA_ rfl ?_;refine zA_ rfl ?_;refine zbk za_ rfl rfl rfl ?_;intro vs V hV hG;obtain e60:vs 60=.bool true:=hG 60 _ rfl (by kernel_rfl);have hV':Chg [] w3 V:=HDR.o.trans (show Chg [] w3.drew _ from hV);have HS4:=hQ_ (HS3.o.keep hV');have HT4:=hQ_ (HT3.o.keep hV');have HC4:=hQ_ (HC3.o.new hV');simp only[zV_,Act.put,List.setIfInBounds_toArray,List.set_cons_zero,List.set_cons_succ,e60];clear hG hV hV' e60 c3 HCB;have HP:=hQ_ (show yw_ W g R (.returned (.int .i64 14)) V from⟨Fr.of_chg HC4.o,by rw[HRE.o],fun hh=>by rw[HRE.o]at hh;exact absurd hh (by simp)⟩);go_wp2_with fail;go_ret;exact HP.o
   · have qlow:decide (h-b0<p)=false:=(by simpa using hlow);by_cases hbig:64<h-p+q
     · have qbig:decide (64<h-p+q)=true:=(by simpa using hbig);have HRE:=hQ_ (HR2.o.trans (if_pos (.inr hbig)));refine wp_flow (by kernel_rfl) yl_ za_ (by kernel_rfl) ?_;refine flow_move_out za_ rfl rfl rfl ?_;refine flow1 (r:=.pointer (some ⟨g,0,none⟩)) za_ rfl (.inn rfl) rfl (fun ev W he e1=>by go_simp) ?_;refine flow1 (r:=.pointer (some ⟨g,0,none⟩)) za_ rfl (.inn rfl) rfl (fun ev W he e1=>by go_simp) ?_;refine flow1h (r:=.int .i64 h) za_ rfl (.inn rfl) rfl (fun ev W he hW e1=>by have c0:=zd_ (by simpa using c3:w3.cell? ⟨g,0,none⟩=some (.int .i64 h)) (HDR.o.trans (show Chg [] w3.drew _ from hW));go_simp) ?_;refine flow_move_out za_ rfl rfl rfl ?_;refine zw_ (.int .i64 b0) (by kernel_rfl) rfl (.cons (.inn rfl) .nil) (fun V hV=>(HCB.o V (HDR.o.trans (show Chg [] w3.drew _ from hV))).mono fun e w' hb=>⟨hb.1,by rw[xJ_];exact hb.2⟩) ?_;refine flow2 (r:=.int .i64 (h-b0)) za_ rfl (.inn rfl) (.inn rfl) rfl (fun ev W he e1 e2=>by have hw:IntKind.i64.wrap (h-b0)=h-b0:=IntWalk.i64_in _ (by omega);go_simp) ?_;refine flow_move_out za_ rfl rfl rfl ?_;refine flow2 (r:=.bool false) za_ rfl (.inn rfl) (.inn rfl) rfl (fun ev W he e1 e2=>by go_simp) ?_;refine zP_ za_ rfl (zc_ _) (.inr (zc_ _)) rfl ?_;refine flow_move_out za_ rfl rfl rfl ?_;refine flow1 (r:=.pointer (some ⟨g,0,none⟩)) za_ rfl (.inn rfl) rfl (fun ev W he e1=>by go_simp) ?_;refine flow1 (r:=.pointer (some ⟨g,0,none⟩)) za_ rfl (.inn rfl) rfl (fun ev W he e1=>by go_simp) ?_;refine flow1h (r:=.int .i64 h) za_ rfl (.inn rfl) rfl (fun ev W he hW e1=>by have c0:=zd_ (by simpa using c3:w3.cell? ⟨g,0,none⟩=some (.int .i64 h)) (HDR.o.trans (show Chg [] w3.drew _ from hW));go_simp) ?_;refine flow_move_out za_ rfl rfl rfl ?_;refine flow2 (r:=.int .i64 (h-p)) za_ rfl (.inn rfl) (.inn rfl) rfl (fun ev W he e1 e2=>by have hw:IntKind.i64.wrap (h-p)=h-p:=IntWalk.i64_in _ (by omega);go_simp) ?_;refine flow_move_out za_ rfl rfl rfl ?_;refine flow2 (r:=.int .i64 (h-p+q)) za_ rfl (.inn rfl) (.inn rfl) rfl (fun ev W he e1 e2=>by have hw:IntKind.i64.wrap (h-p+q)=h-p+q:=IntWalk.i64_in _ (by omega);go_simp) ?_;refine flow2 (r:=.bool true) za_ rfl (.inn rfl) (.const _) rfl (fun ev W he e1 e2=>by go_simp) ?_;refine ka_ za_ rfl rfl rfl ?_;intro vs V hV hG;obtain e60:vs 60=.bool true:=hG 60 _ rfl (by kernel_rfl);have hV':Chg [] w3 V:=HDR.o.trans (show Chg [] w3.drew _ from hV);have HS4:=hQ_ (HS3.o.keep hV');have HT4:=hQ_ (HT3.o.keep hV');have HC4:=hQ_ (HC3.o.new hV');simp only[zV_,Act.put,List.setIfInBounds_toArray,List.set_cons_zero,List.set_cons_succ,e60];clear hG hV hV' e60 c3 HCB;have HP:=hQ_ (show yw_ W g R (.returned (.int .i64 14)) V from⟨Fr.of_chg HC4.o,by rw[HRE.o],fun hh=>by rw[HRE.o]at hh;exact absurd hh (by simp)⟩);go_wp2_with fail;go_ret;exact HP.o
     · have qbig:decide (64<h-p+q)=false:=(by simpa using hbig);have HRE:=hQ_ (HR2.o.trans (if_neg (by omega)));have hlo:0<=h-p+q:=(by omega);have hhi:h-p+q<=64:=(by omega);refine wp_flow (by kernel_rfl) yl_ za_ (by kernel_rfl) ?_;refine flow_move_out za_ rfl rfl rfl ?_;refine flow1 (r:=.pointer (some ⟨g,0,none⟩)) za_ rfl (.inn rfl) rfl (fun ev W he e1=>by go_simp) ?_;refine flow1 (r:=.pointer (some ⟨g,0,none⟩)) za_ rfl (.inn rfl) rfl (fun ev W he e1=>by go_simp) ?_;refine flow1h (r:=.int .i64 h) za_ rfl (.inn rfl) rfl (fun ev W he hW e1=>by have c0:=zd_ (by simpa using c3:w3.cell? ⟨g,0,none⟩=some (.int .i64 h)) (HDR.o.trans (show Chg [] w3.drew _ from hW));go_simp) ?_;refine flow_move_out za_ rfl rfl rfl ?_;refine zw_ (.int .i64 b0) (by kernel_rfl) rfl (.cons (.inn rfl) .nil) (fun V hV=>(HCB.o V (HDR.o.trans (show Chg [] w3.drew _ from hV))).mono fun e w' hb=>⟨hb.1,by rw[xJ_];exact hb.2⟩) ?_;refine flow2 (r:=.int .i64 (h-b0)) za_ rfl (.inn rfl) (.inn rfl) rfl (fun ev W he e1 e2=>by have hw:IntKind.i64.wrap (h-b0)=h-b0:=IntWalk.i64_in _ (by omega);go_simp) ?_;refine flow_move_out za_ rfl rfl rfl ?_;refine flow2 (r:=.bool false) za_ rfl (.inn rfl) (.inn rfl) rfl (fun ev W he e1 e2=>by go_simp) ?_;refine zP_ za_ rfl (zc_ _) (.inr (zc_ _)) rfl ?_;refine flow_move_out za_ rfl rfl rfl ?_;refine flow1 (r:=.pointer (some ⟨g,0,none⟩)) za_ rfl (.inn rfl) rfl (fun ev W he e1=>by go_simp) ?_;refine flow1 (r:=.pointer (some ⟨g,0,none⟩)) za_ rfl (.inn rfl) rfl (fun ev W he e1=>by go_simp) ?_;refine flow1h (r:=.int .i64 h) za_ rfl (.inn rfl) rfl (fun ev W he hW e1=>by have c0:=zd_ (by simpa using c3:w3.cell? ⟨g,0,none⟩=some (.int .i64 h)) (HDR.o.trans (show Chg [] w3.drew _ from hW));go_simp) ?_;refine flow_move_out za_ rfl rfl rfl ?_;refine flow2 (r:=.int .i64 (h-p)) za_ rfl (.inn rfl) (.inn rfl) rfl (fun ev W he e1 e2=>by have hw:IntKind.i64.wrap (h-p)=h-p:=IntWalk.i64_in _ (by omega);go_simp) ?_;refine flow_move_out za_ rfl rfl rfl ?_;refine flow2 (r:=.int .i64 (h-p+q)) za_ rfl (.inn rfl) (.inn rfl) rfl (fun ev W he e1 e2=>by have hw:IntKind.i64.wrap (h-p+q)=h-p+q:=IntWalk.i64_in _ (by omega);go_simp) ?_;refine flow2 (r:=.bool false) za_ rfl (.inn rfl) (.const _) rfl (fun ev W he e1 e2=>by go_simp) ?_;refine ka_ za_ rfl rfl rfl ?_;intro vs V hV hG;obtain e60:vs 60=.bool false:=hG 60 _ rfl (by kernel_rfl);have hV':Chg [] w3 V:=HDR.o.trans (show Chg [] w3.drew _ from hV);have HS4:=hQ_ (HS3.o.keep hV');have HT4:=hQ_ (HT3.o.keep hV');have HC4:=hQ_ (HC3.o.new hV');simp only[zV_,Act.put,List.setIfInBounds_toArray,List.set_cons_zero,List.set_cons_succ,e60];clear hG hV hV' e60 c3 HCB;have c0:=HS4.o.rec_.cell 0;have f0:=HS4.o.rec_.frozen 0;have he5:h+(q-p)=h-p+q:=(by omega);have HE5:=hQ_ he5;clear he5;go_upto_region 11 with fail;rw[HE5.o];generalize h-p+q=h5 at *;have HS5:=hQ_ (HS4.o.high h5 (by omega));have HT5:=hQ_ (HT4.o.far (p:=⟨g,0,none⟩) (by have:=HGU.o;simp only;omega) (.int .i64 h5));generalize V.setCell ⟨g,0,none⟩ (.int .i64 h5)=w5 at HS5 HT5⊢;clear c0 f0 hlow hbig qlow qbig HR2;have t0:=HT5.o.cell 0;have HTC:=hQ_ (uJ_ HS5.o.1 r HTOP.o (fun _=>⟨hlo,hfew⟩));rw[<-HRE.o]at HTC;go_wp2_with fail;refine HTC.o.mono ?_;obtain⟨er,rh,rb⟩:=R;rintro e w9 ⟨hf9,rfl,hw9⟩;have HP:=hQ_ (show yw_ W g (er,rh,rb) (.returned (.int .i64 er)) w9 from⟨((Fr.of_chg HC4.o).trans HS5.o.2).trans hf9,rfl,hw9⟩);clear hf9 hw9;go_wp2_with fail;go_ret;exact HP.o
end
def uy_ (s:Int)(st:List Int):List Int:=if s=63\/s=91 then st++[s] else if s=58 then st.dropLast++[58] else if s=59\/s=93 then st.dropLast else st
def zqe (s:Int)(st:List Int):Prop:=(s=58->∃y,st=y++[63])/\(s=59->∃y t,st=y++[t]/\t≠91)/\(s=93->∃y,st=y++[91])/\(s=126->91∈st)/\((s=63\/s=91)->st.length+1<=16)
def SOk:List Int->List Int->Prop
  | [],_=>True
  | s::r,st=>zqe s st/\SOk r (uy_ s st)
def sgn (p:NPart):Int:=if p.loop=true then 91 else if p.waits=p.at_ then 63 else 58
def stk (m:NSt):List Int:=(m.op.map sgn).reverse
theorem xG_ (p:NPart)(r:List NPart)(t:List Int)(d:Nat):stk ⟨t,d,p::r⟩=stk ⟨t,d,r⟩++[sgn p]:=by simp[stk]
theorem q0_ {i:Nat}:∀{l o:List NPart},yL_ i l=some o->o.map sgn=l.map sgn/\(91∈l.map sgn)/\∀q∈o,∃p∈l,q.at_=p.at_/\q.waits=p.waits
  | [],o,h=>by cases h
  | p :: r,o,h=>by
    unfold yL_ at h;by_cases hl:p.loop=true
    · rw[if_pos hl]at h;injection h with h;subst h;refine⟨by simp[sgn],by simp[sgn,hl],fun q hq=>?_⟩;rcases List.mem_cons.1 hq with rfl|hq
      · exact⟨p,by simp,rfl,rfl⟩
      · exact⟨q,by simp[hq],rfl,rfl⟩
    · rw[if_neg hl]at h;cases hr:yL_ i r with
      | none=>rw[hr]at h;cases h
      | some o' =>
        rw[hr]at h;injection h with h;subst h;obtain⟨h1,h2,h3⟩:=q0_ hr;refine⟨by simp[h1],by simp at h2⊢;exact .inr h2,fun q hq=>?_⟩;rcases List.mem_cons.1 hq with rfl|hq
        · exact⟨_,by simp,rfl,rfl⟩
        · obtain⟨p',hp,e⟩:=h3 q hq;exact⟨p',by simp[hp],e⟩
theorem zhF {i:Nat}{s:Int}{m m':NSt}(h:yX_ i s m=some m')(hm:∀p∈m.op,p.at_<i):zqe s (stk m)/\stk m'=uy_ s (stk m)/\∀p∈m'.op,p.at_<i+1:=by
 obtain⟨t,d,op⟩:=m;simp only at hm;have hm1:∀p∈op,p.at_<i+1:=fun p hp=>by have:=hm p hp;omega
 unfold yX_ at h;simp only at h;split at h
 · rename_i hs;split at h
   · rename_i h16;injection h with h;subst h;refine⟨⟨fun e=>by omega,fun e=>by omega,fun e=>by omega,fun e=>by omega,fun _=>by simp[stk];omega⟩,?_,fun p hp=>?_⟩
     · rw[xG_,uy_,if_pos hs];congr 1;rcases hs with rfl|rfl<;>simp[sgn]
     · rcases List.mem_cons.1 hp with rfl|hp
       · simp
       · exact hm1 p hp
   · cases h
 rename_i hs;split at h
 · rename_i h58;subst h58;split at h
   · rename_i p r;split at h
     · rename_i hc;injection h with h;subst h;have hpa:=hm p (by simp);have e1:sgn p=63:=(by unfold sgn;rw[if_neg (by rw[hc.1];decide),if_pos hc.2]);refine⟨⟨fun _=>⟨_,by rw[xG_,e1]⟩,fun e=>by omega,fun e=>by omega,fun e=>by omega,fun e=>by omega⟩,?_,fun q hq=>?_⟩
       · rw[xG_,xG_,uy_,if_neg (by omega),if_pos rfl,List.dropLast_concat];have e2:sgn ⟨p.loop,p.at_,i,p.left⟩=58:=(by unfold sgn;simp only;rw[if_neg (by rw[hc.1];decide),if_neg (by omega)]);rw[e2];rfl
       · rcases List.mem_cons.1 hq with rfl|hq
         · simp only;omega
         · exact hm1 q (by simp[hq])
     · cases h
   · cases h
 rename_i h58;split at h
 · rename_i h59;subst h59;split at h
   · rename_i p r;split at h
     · rename_i hc;injection h with h;subst h;refine⟨⟨fun e=>by omega,fun _=>⟨_,_,xG_ _ _ _ _,by unfold sgn;rw[if_neg (by rw[hc];decide)];split<;>decide⟩,fun e=>by omega,fun e=>by omega,fun e=>by omega⟩,?_,fun q hq=>hm1 q (by simp[hq])⟩;rw[xG_,uy_,if_neg (by omega),if_neg (by omega),if_pos (.inl rfl),List.dropLast_concat];rfl
     · cases h
   · cases h
 rename_i h59;split at h
 · rename_i h93;subst h93;split at h
   · rename_i p r;split at h
     · rename_i hc;injection h with h;subst h;have e1:sgn p=91:=(by unfold sgn;rw[if_pos hc]);refine⟨⟨fun e=>by omega,fun e=>by omega,fun _=>⟨_,by rw[xG_,e1]⟩,fun e=>by omega,fun e=>by omega⟩,?_,fun q hq=>hm1 q (by simp[hq])⟩;rw[xG_,uy_,if_neg (by omega),if_neg (by omega),if_pos (.inr rfl),List.dropLast_concat];rfl
     · cases h
   · cases h
 rename_i h93;split at h
 · rename_i h126;subst h126;cases hl:yL_ i op with
   | none=>rw[hl]at h;cases h
   | some o =>
     rw[hl]at h;injection h with h;subst h;obtain⟨h1,h2,h3⟩:=q0_ hl;refine⟨⟨fun e=>by omega,fun e=>by omega,fun e=>by omega,fun _=>by unfold stk;simpa using h2,fun e=>by omega⟩,?_,fun q hq=>?_⟩
     · rw[uy_,if_neg (by omega),if_neg (by omega),if_neg (by omega)];unfold stk;simp only;rw[h1]
     · obtain⟨p,hp,e,_⟩:=h3 q hq;have:=hm p hp;omega
 · rename_i h126;injection h with h;subst h;exact⟨⟨fun e=>absurd e h58,fun e=>absurd e h59,fun e=>absurd e h93,fun e=>absurd e h126,fun e=>absurd e hs⟩,by rw[uy_,if_neg hs,if_neg h58,if_neg (by omega)],hm1⟩
theorem zgR:∀(rest:List Int)(i:Nat)(m m':NSt),(∀p∈m.op,p.at_<i)->gA_ i rest m=some m'->SOk rest (stk m)
  | [],_,_,_,_,_=>trivial
  | s :: rest,i,m,m',hm,h=>by
    unfold gA_ at h;cases ht:yX_ i s ⟨m.tO.set i (-1),m.deep,m.op⟩ with
    | none=>rw[ht]at h;cases h
    | some m2 =>
      rw[ht]at h;obtain⟨h1,h2,h3⟩:=zhF ht hm;refine⟨h1,?_⟩;have:=zgR rest (i+1) m2 m' h3 h;rw[h2]at this;exact this
theorem zkE {ss:List Int}{R:List Int×Nat}(h:ks_ ss=some R):SOk ss []:=by
 rw[<-uY_]at h;unfold ky_ at h;cases hr:gA_ 0 ss ⟨List.replicate ss.length 0,0,[]⟩ with
 | none=>rw[hr]at h;cases h
 | some m=>exact zgR ss 0 _ m (fun p hp=>by simp at hp) hr
theorem kn_ {α β:Type}{f:α->β}{l:List α}{y:List β}{b:β}(h:l.map f=y++[b]):∃ys x,l=ys++[x]/\f x=b:=by
 rcases List.eq_nil_or_concat l with rfl|⟨ys,x,rfl⟩
 · simp at h
 · rw[List.concat_eq_append]at h⊢;rw[List.map_append]at h;have:=List.append_inj' h (by simp);exact⟨ys,x,rfl,by simpa using this.2⟩
theorem zkf {s:Int}{bs:List BkV}(h:zqe s (bs.map (·.sign))):Top s bs:=by
 refine⟨fun e=>?_,fun e=>?_,fun e=>?_,fun e=>?_⟩
 · obtain⟨y,hy⟩:=h.1 e;obtain⟨ys,x,h1,h2⟩:=kn_ hy;exact⟨ys,x,h1,h2⟩
 · obtain⟨y,t,hy,ht⟩:=h.2.1 e;obtain⟨ys,x,h1,h2⟩:=kn_ hy;exact⟨ys,x,h1,by rw[h2];exact ht⟩
 · obtain⟨y,hy⟩:=h.2.2.1 e;obtain⟨ys,x,h1,h2⟩:=kn_ hy;exact⟨ys,x,h1,h2⟩
 · have:=h.2.2.2.1 e;obtain⟨x,hx,hs⟩:=List.mem_map.1 this;exact⟨x,hx,hs⟩
theorem kt_ {β:Type} (f:BkV->β) (hf:∀x:BkV,f ⟨x.sign,x.base,x.other,true⟩=f x) (h:Int) (bs:List BkV):∀k,(x6_ h bs k).2.2.map f=bs.map f
  | 0=>rfl
  | k+1=>by
    rw[x6_];split
    · rfl
    · rename_i x hx;split
      · simp only[List.map_set];apply List.ext_getElem?;intro j;rw[List.getElem?_set];split
        · rename_i e;subst e;have hl:=(List.getElem?_eq_some_iff.1 hx).1;rw[if_pos (by simpa using hl)];simp[hx,hf]
        · rfl
      · exact kt_ f hf h bs k
theorem zaG (h:Int)(bs:List BkV)(k:Nat):(x6_ h bs k).2.2.map (·.sign)=bs.map (·.sign):=kt_ _ (fun _=>rfl) h bs k
theorem zdh (h:Int)(bs:List BkV):∀k,(x6_ h bs k).1=true->(x6_ h bs k).2.1=-1
  | 0,e=>by cases e
  | k+1,e=>by
    rw[x6_]at e⊢;split
    · rename_i hx;rw[hx]at e;cases e
    · rename_i x hx;rw[hx]at e;simp only at e;split
      · rfl
      · rename_i hn;rw[if_neg hn]at e;exact zdh h bs k e
theorem ziZ {h:Int}{ys:List BkV}{x:BkV}{s:Int}(he:(gO_ h ys x s).1=0):(uz_ h ys x s).1=true/\(gO_ h ys x s).2=(uz_ h ys x s).2:=by
 unfold gO_ at he⊢;rcases hr:uz_ h ys x s with⟨b,h',bs'⟩;rw[hr]at he;cases b with
 | true=>exact⟨rfl,rfl⟩
 | false=>simp at he
theorem gs_ {h:Int}{ys:List BkV}{x:BkV}{s:Int}(hs:s≠58):(uz_ h ys x s).2.2=ys:=by
 unfold uz_;rw[if_neg hs];split
 · split<;>rfl
 · split<;>rfl
theorem ga_ {h:Int}{bs:List BkV}{s:Int}(he:(yS_ h bs s).1=0):(yS_ h bs s).2.2.map (·.sign)=uy_ s (bs.map (·.sign)):=by
 by_cases hs:vu_ s
 · rcases List.eq_nil_or_concat bs with rfl|⟨ys,x,rfl⟩
   · unfold yS_ at he;rw[if_pos hs]at he;simp at he
   · rw[List.concat_eq_append]at he⊢;rw[vU_ hs]at he⊢;obtain⟨h1,h2⟩:=ziZ he;rw[h2];unfold uy_;rcases hs with rfl|rfl|rfl
     · unfold uz_;rw[if_pos rfl,if_neg (by omega),if_pos rfl];simp
     · rw[gs_ (by decide),if_neg (by omega),if_neg (by omega),if_pos (.inl rfl)];simp
     · rw[gs_ (by decide),if_neg (by omega),if_neg (by omega),if_pos (.inr rfl)];simp
 · unfold yS_ at he⊢;rw[if_neg hs]at he⊢;unfold vu_ at hs;unfold uy_;by_cases h1:s=63\/s=91
   · rw[if_pos h1,if_pos h1];simp
   · rw[if_neg h1,if_neg h1,if_neg (show ¬s=58 by omega),if_neg (show ¬(s=59\/s=93) by omega)];rw[if_neg h1]at he;by_cases h2:s=126
     · rw[if_pos h2]at he⊢;unfold x9_ at he⊢;have hk:=zaG h bs bs.length;rcases hr:x6_ h bs bs.length with⟨b,h',bs'⟩;rw[hr]at hk he;cases b with
       | true=>exact hk
       | false=>simp at he
     · rw[if_neg h2];by_cases h3:s=161
       · rw[if_pos h3]
       · rw[if_neg h3]
def zjy (x:BkV):Int×Int×Int:=(x.sign,x.base,x.other)
theorem Bas.of_key {h h':Int}{bs bs':List BkV}(hb:Bas h bs)(hk:bs'.map zjy=bs.map zjy)(ht:0<=h'->∀x∈bs,x.base<=h'):Bas h' bs':=by
 refine⟨?_,fun x hx hs=>?_,fun h0 x hx=>?_⟩
 · have h1:(bs.map zjy).Pairwise fun a b=>a.2.1<=b.2.1:=List.pairwise_map.2 hb.sorted;rw[<-hk]at h1;exact(List.pairwise_map (f:=zjy) (R:=fun a b=>a.2.1<=b.2.1)).1 h1
 · have:zjy x∈bs.map zjy:=(by rw[<-hk];exact List.mem_map_of_mem hx);obtain⟨y,hy,e⟩:=List.mem_map.1 this;simp only[zjy,Prod.mk.injEq]at e;have:=hb.oth y hy (by omega);omega
 · have:zjy x∈bs.map zjy:=(by rw[<-hk];exact List.mem_map_of_mem hx);obtain⟨y,hy,e⟩:=List.mem_map.1 this;simp only[zjy,Prod.mk.injEq]at e;have:=ht h0 y hy;omega
theorem Bas.turn {h:Int} {bs:List BkV} {s:Int} (hb:Bas h bs) (hh:-1<=h) (hpos:(s=63\/s=91)->0<=h) (he:(yS_ h bs s).1=0):Bas (yS_ h bs s).2.1 (yS_ h bs s).2.2:=by
 by_cases hs:vu_ s
 · rcases List.eq_nil_or_concat bs with rfl|⟨ys,x,rfl⟩
   · unfold yS_ at he;rw[if_pos hs]at he;simp at he
   · rw [List.concat_eq_append]at *;rw[vU_ hs]at he⊢;obtain⟨h1,h2⟩:=ziZ he;rw[h2];obtain⟨hsy,_,hyx⟩:=List.pairwise_append.1 hb.sorted;have hyx':∀y∈ys,y.base<=x.base:=fun y hy=>hyx y hy x (by simp);have htx:0<=h->x.base<=h:=fun h0=>hb.top h0 x (by simp);have hox:=hb.oth x (by simp);by_cases h58:s=58
     · subst h58;unfold uz_;rw[if_pos rfl];refine⟨List.pairwise_append.2 ⟨hsy,by simp,fun y hy z hz=>by simp at hz;subst hz;exact hyx' y hy⟩,fun z hz hz58=>?_,fun _ z hz=>?_⟩
       · rcases List.mem_append.1 hz with hz|hz
         · exact hb.oth z (by simp[hz]) hz58
         · simp at hz;subst hz;simp only;rcases Int.lt_or_le h 0 with h3|h3
           · left;omega
           · exact .inr (htx h3)
       · rcases List.mem_append.1 hz with hz|hz
         · exact hyx' z hz
         · simp at hz;subst hz;simp
     · have hq:(uz_ h ys x s).2.1<0\/x.base<=(uz_ h ys x s).2.1:=by
        unfold uz_ at h1⊢;rw[if_neg h58]at h1⊢;split
        · rename_i hx58;rw[if_pos hx58]at h1;split
          · rename_i hc;rw[if_pos hc]at h1;cases h1
          · simp only;have:=hox hx58;rcases Int.lt_or_le h 0 with h3|h3
            · omega
            · have:=htx h3;omega
        · rename_i hx58;rw[if_neg hx58]at h1;split
          · rename_i hc;rw[if_pos hc]at h1;cases h1
          · simp only;split<;>omega
       rw[gs_ h58];refine⟨hsy,fun z hz=>hb.oth z (by simp[hz]),fun h0 z hz=>?_⟩;have:=hyx' z hz;omega
 · unfold yS_ at he⊢;rw[if_neg hs]at he⊢;by_cases h1:s=63\/s=91
   · rw[if_pos h1];have h0:=hpos h1;refine⟨List.pairwise_append.2 ⟨hb.sorted,by simp,fun y hy z hz=>by simp at hz;subst hz;exact hb.top h0 y hy⟩,fun z hz hz58=>?_,fun _ z hz=>?_⟩
     · rcases List.mem_append.1 hz with hz|hz
       · exact hb.oth z hz hz58
       · simp at hz;subst hz;simp only at hz58;omega
     · rcases List.mem_append.1 hz with hz|hz
       · exact hb.top h0 z hz
       · simp at hz;subst hz;simp
   · rw[if_neg h1]at he⊢;by_cases h2:s=126
     · rw[if_pos h2]at he⊢;unfold x9_ at he⊢;have hk:=kt_ zjy (fun _=>rfl) h bs bs.length;have hl:=zdh h bs bs.length;rcases hr:x6_ h bs bs.length with⟨b,h',bs'⟩;rw[hr]at hk he hl;cases b with
       | true =>
         have e:h'=-1:=hl rfl;exact hb.of_key hk (fun h0=>by simp only at h0;omega)
       | false=>simp at he
     · rw[if_neg h2];by_cases h3:s=161
       · rw[if_pos h3];exact⟨hb.sorted,hb.oth,fun h0=>by simp only at h0;omega⟩
       · rw[if_neg h3];exact hb
theorem zny {l:List FnV} {h:Int} {bs:List BkV} {s name:Int} (hb:Bas h bs) (hb0:∀x∈bs,0<=x.base) (hr:-1<=h/\h<=64) (he:(qw_ l h bs s name).1=0) :
    Bas (qw_ l h bs s name).2.1 (qw_ l h bs s name).2.2/\(qw_ l h bs s name).2.2.map (·.sign)=uy_ s (bs.map (·.sign)):=by
 by_cases h0:h<0
 · rw[zaD h0]at he⊢;by_cases hs:vu_ s
   · rw[if_pos hs]at he⊢;exact⟨hb.turn hr.1 (fun h=>by unfold vu_ at hs;omega) he,ga_ he⟩
   · rw[if_neg hs]at he;simp at he
 · obtain⟨T,hT⟩:∃T,T=xd_ l s name:=⟨_,rfl⟩;obtain⟨p,q,ok⟩:=T;cases ok with
   | false=>rw[zaC (by omega) hT.symm]at he;simp at he
   | true =>
     rw[qS_ (by omega) hr.2 (hb.base (by omega)) hT.symm]at he⊢;have hin:=zaE l s name;rw[<-hT]at hin;simp only at hin;by_cases hc:h-xn_ bs<p\/64<h-p+q
     · rw[if_pos hc]at he;simp at he
     · rw[if_neg hc]at he⊢;have hb2:Bas (h-p+q) bs:=by
        refine⟨hb.sorted,hb.oth,fun _ x hx=>?_⟩;have h1:x.base<=xn_ bs:=by
         rcases List.eq_nil_or_concat bs with rfl|⟨ys,y,rfl⟩
         · simp at hx
         · rw[List.concat_eq_append]at *;have e:xn_ (ys++[y])=y.base:=(by simp[xn_]);rw[e];rcases List.mem_append.1 hx with hx|hx
           · exact(List.pairwise_append.1 hb.sorted).2.2 x hx y (by simp)
           · simp at hx;subst hx;exact Int.le_refl _
        omega
       have hb5:0<=h-p+q:=by
        have h1:0<=xn_ bs:=by
         unfold xn_;cases hl:bs.getLast? with
         | none=>exact Int.le_refl 0
         | some x=>exact hb0 x (List.mem_of_getLast? hl)
        omega
       exact⟨hb2.turn (by omega) (fun _=>hb5) he,ga_ he⟩
section
variable {A:Option Addr} {n c:Nat} {l:List FnV} {pages most:Int}
theorem Fr.whole' {B:Nat}{TS:List TypeId}{a b:World}(h:Fr B TS a b){g t:Nat}{cs:List Value}(hW:zb_ a g t cs)(ht:TS.contains t=false):zb_ b g t cs:=h.whole hW (by simpa using ht)
theorem zbs {w:World}(hF:Fnr w A n c l)(hcode:∀f∈l,f.code.size<=9223372036854775807)(k:Int):Calls Tryz.prog 61 #[yH_ pages most A n c,.int .i64 k] w (v0_ (rFn l k) w):=by
 unfold yH_;obtain⟨i0,hi0,hz0,hz1,hz2⟩:=info_parts gD_;obtain⟨R,hR⟩:∃R,R=rFn l k:=⟨_,rfl⟩;rw[<-hR];unfold rFn at hR;rw[hF.len]at hR;have HR:=hQ_ hR;have H:=hQ_ hF;have hmax:=hF.max;clear hF hR;go_enter Tryz.func61,Tryz.ntmps61;go_upto_region 1 with fail;have hN:=zb_.new w 25 [.int .i64 pages,.int .i64 most,.slice A n c];have hal:Chg [] w (w.alloc (.cells #[.int .i64 pages,.int .i64 most,.slice A n c] 25)):=(Chg.refl [] w).alloc _;have HF1:=hQ_ (H.o.keep hal);have HU1:=hQ_ hN;have HC1:=hQ_ hal;have HBW:=hQ_ (show w.heap.size<=w.heap.size from Nat.le_refl _);obtain⟨gu,hgu⟩:∃g,g=w.heap.size:=⟨_,rfl⟩;rw[<-hgu]at HU1⊢;generalize w.alloc (.cells #[.int .i64 pages,.int .i64 most,.slice A n c] 25)=w1 at HF1 HU1 HC1⊢;clear hN hal hgu;have u2:=HU1.o.cell 2;by_cases hk0:k<0
 · have qk:decide (k<0)=true:=(by simpa using hk0);have HP:=hQ_ (show v0_ R w (.returned (.tuple #[.slice none 0 0,.int .i64 23])) w1 from zfu 23 (by rw[HR.o,if_pos (.inl hk0)]) HC1.o);clear hk0;go_wp2_with fail;go_ret2;exact HP.o
 have qk:decide (k<0)=false:=by simpa using hk0
 by_cases hkn:(n:Int)<=k
 · have qn:decide ((n:Int)<=k)=true:=(by simpa using hkn);have HP:=hQ_ (show v0_ R w (.returned (.tuple #[.slice none 0 0,.int .i64 23])) w1 from zfu 23 (by rw[HR.o,if_pos (.inr hkn)]) HC1.o);clear hkn hk0;go_wp2_with fail;go_ret2;exact HP.o
 have qn:decide ((n:Int)<=k)=false:=by simpa using hkn
 obtain⟨q,rfl⟩:∃q:Nat,k=(q:Int):=⟨k.toNat,by omega⟩;have hqn:q<n:=by omega
 obtain⟨f,hfk⟩:∃f,l[q]?=some f:=⟨l[q]'(by rw[HF1.o.len];exact hqn),by simp⟩;have HR1:=hQ_ (show R=jT_ l f.code from by rw[HR.o,if_neg (by omega),show((q:Int)).toNat=q from rfl,hfk]);have hcd:=hcode f (List.mem_of_getElem? hfk);obtain⟨fb,fo,rfl,hfbl,e0,e1,e2⟩:=HF1.o.cell hfk;have hqI:(q:Int)<(n:Int):=by omega
 clear hfk hk0 hkn hcode e0 e1 HR;go_wp2_with fail;refine(uE_ f.code (by omega)).mono ?_;rintro e w2 ⟨hc2,hT⟩;have HC2:=hQ_ (HC1.o.new hc2);have HF2:=hQ_ (HF1.o.keep hc2);have HU2:=hQ_ (HU1.o.keep hc2);clear u2 e2 hfbl;rcases hT with⟨ts,v2,hts,htl,rfl,ho2⟩|⟨hts,rfl⟩;rotate_left
 · have hE:zeE f.code=3\/zeE f.code=12:=(by unfold zeE;split<;>simp);have HP:=hQ_ (show v0_ R w (.returned (.tuple #[.slice none 0 0,.int .i64 (zeE f.code)])) w2 from zfu _ (by rw[HR1.o,jT_,hts]) HC2.o);clear hts hc2;generalize zeE f.code=te at hE HP⊢;have qe:(te != 0)=true:=(by simp;omega);clear hE;go_wp2_with fail;go_ret2;exact HP.o
 obtain⟨TA,tc,rfl,hTk⟩:=Tks.of_own ho2 (by omega);have HT2:=hQ_ hTk;have HR2:=hQ_ (show R=match ks_ (yn_ ts) with|none=>(13,[])|some _=>k7_ l ts 0 [] [] from by rw[HR1.o,jT_,hts];rfl);clear hts hc2 ho2 hTk HR1;obtain⟨tn,htn⟩:∃tn,tn=ts.length:=⟨_,rfl⟩;rw[<-htn]at HT2 htl⊢;have HTN:=hQ_ htn;clear htn;go_wp2_with fail;refine(zhB HT2.o).mono ?_;rintro e w3 ⟨hc3,hT⟩;have HC3:=hQ_ (HC2.o.new hc3);have HF3:=hQ_ (HF2.o.keep hc3);have HU3:=hQ_ (HU2.o.keep hc3);have HT3:=hQ_ (HT2.o.keep hc3);clear hc3;rw[uY_]at hT;rcases hT with⟨t3,d3,g3,hn3,_,rfl,_⟩|⟨hn3,rfl⟩;rotate_left
 · have HP:=hQ_ (show v0_ R w (.returned (.tuple #[.slice none 0 0,.int .i64 13])) w3 from zfu 13 (by rw[HR2.o,hn3]) HC3.o);clear hn3;go_wp2_with fail;go_ret2;exact HP.o
 have HR3:=hQ_ (show R=k7_ l ts 0 [] [] from by rw[HR2.o,hn3]);have HD:=hQ_ (zkE hn3);clear hn3;have hN4:=zb_.new w3 180 [.int .i64 0,.slice none 0 0];have hal4:Chg [] w3 (w3.alloc (.cells #[.int .i64 0,.slice none 0 0] 180)):=(Chg.refl [] w3).alloc _;have hsz4:(w3.alloc (.cells #[.int .i64 0,.slice none 0 0] 180)).heap.size=w3.heap.size+1:=Array.size_push _;go_upto_region 10 with fail;have HC4:=hQ_ (HC3.o.new hal4);have HGS:=hQ_ (show w.heap.size<=w3.heap.size from HC3.o.size);generalize w3.alloc (.cells #[.int .i64 0,.slice none 0 0] 180)=w4 at hN4 hal4 hsz4 HC4⊢;have HC34:=hQ_ hal4;obtain⟨gs,hgs⟩:∃g,g=w3.heap.size:=⟨_,rfl⟩;rw[<-hgs]at hN4 hsz4 HGS⊢;have HW4:=hQ_ (show Wk w4 gs 0 (.slice none 0 0) [] from⟨hN4,World.ownsRow_nil _ _ _ _,by simp,by omega,fun b hb=>by simp at hb⟩);have HG3:=hQ_ hgs;have HZ4:=hQ_ hsz4;clear hN4 hal4 hsz4 hgs HC3 HC2 HF2 HU2 HT2 HC1 HF1 HU1;have HTL:=hQ_ htl;have hmk:∀W:World,(Instr.makeSlice 126 (.int .i64 0) (.int .i64 (tn:Int))).run Tryz.prog W=.ok (.slice (some ⟨W.heap.size,0,none⟩) 0 tn) (W.alloc (.cells (List.replicate tn (.int .i64 0)).toArray 3)):=fun W =>
  x1_ (P:=Tryz.prog) 126 3 i0 _ rfl Tryz.underlying126 hi0 hz0 hz1 tn (by rw[hz2];omega) (by omega) W;go_upto_region 12 with fail;have hM:=zb_.new w4 3 (List.replicate tn (.int .i64 0));have hal5:Chg [] w4 (w4.alloc (.cells (List.replicate tn (.int .i64 0)).toArray 3)):=(Chg.refl [] w4).alloc _;have HO4:=hQ_ (show(w4.alloc (.cells (List.replicate tn (.int .i64 0)).toArray 3)).ownsRow (gs+1) 3 1 (.slice (some ⟨w4.heap.size,0,none⟩) 0 tn) 0 (nms []) from by
  have h:=z0_ (n:=0) hM (show gs+1<=w4.heap.size from by have:=HZ4.o;omega) (by simp) (Nat.zero_le tn) (by unfold maxLen;omega);simpa[nms] using h);have HW5:=hQ_ (HW4.o.keep hal5);have HC5':=hQ_ (HC4.o.new hal5);have HC35:=hQ_ (HC34.o.new hal5);rw[show(List.replicate tn (Value.int .i64 0)).toArray=Array.replicate tn (Value.int .i64 0) from by simp]at HO4 HW5 HC5' HC35;generalize w4.heap.size=gm at HO4⊢;generalize w4.alloc (.cells (Array.replicate tn (.int .i64 0)) 3)=w5' at HO4 HW5 HC5' HC35⊢;clear hM hal5 hmk HW4 HC4 HC34;go_loopw [9,47] (fun v i wr=>∃(j:Nat)(h:Int)(bs:List BkV)(vo:Value)(out:List Int),i=.int .i64 (j:Int)/\j<=tn/\Hid (Wk wr gs h vo bs)/\Hid (wr.ownsRow (gs+1) 3 1 v j (nms out)) /\
   Hid (SOk (yn_ (ts.drop j)) (bs.map (·.sign)))/\Hid (Bas h bs)/\Hid (bs.length<=16)/\Hid (R=k7_ l (ts.drop j) h bs out)/\Hid (Chg [] w wr)/\Hid (Chg [] w3 wr)) (fun _ i _=>tn-(intOf i).toNat);case atStart=>exact⟨0,0,[],_,[],rfl,by omega,HW5,HO4,HD,hQ_ ⟨by simp,fun x hx=>by simp at hx,fun _ x hx=>by simp at hx⟩,hQ_ (by simp),HR3,HC5',HC35⟩
 case round =>
  obtain⟨j,h,bs,vo,out,rfl,hj,HS,HO,HDR,HBA,HB16,HRW,HC,HCW⟩:=hrel;obtain⟨AO,co,rfl,_⟩:=zr_ HO.o;by_cases hjn:j<tn
  · have hjI:(j:Int)<(tn:Int):=(by omega);obtain⟨t,htj⟩:∃t,ts[j]?=some t:=⟨ts[j]'(by rw[<-HTN.o];exact hjn),by simp⟩;have HDJ:=hQ_ (show ts.drop j=t::ts.drop (j+1) from List.drop_eq_getElem?_toList_append.trans (by rw[htj];rfl));have HTr:=hQ_ (HT3.o.keep HCW.o);obtain⟨b,o,rfl,hbl,t0,t1,t2⟩:=HTr.o.cell htj;clear htj;go_upto_region 14 with fail;have hal5:Chg [] wr (wr.alloc (.cells #[.int .i32 t.sign,.int .i64 t.n,.int .i32 t.name] 132)):=(Chg.refl [] wr).alloc _;have HT5:=hQ_ (zb_.new wr 132 [.int .i32 t.sign,.int .i64 t.n,.int .i32 t.name]);have HS5:=hQ_ (HS.o.keep hal5);have HO5:=hQ_ (ze_ HO.o hal5);have HU5:=hQ_ (HU3.o.keep (HCW.o.new hal5));have HC5:=hQ_ (HC.o.new hal5);have HCW5:=hQ_ (HCW.o.new hal5);obtain⟨gt,hgt⟩:∃g,g=wr.heap.size:=⟨_,rfl⟩;rw[<-hgt]at HT5⊢;generalize wr.alloc (.cells #[.int .i32 t.sign,.int .i64 t.n,.int .i32 t.name] 132)=w5 at hal5 HT5 HS5 HO5 HU5 HC5 HCW5⊢;clear hal5 hgt t0 t1 t2 hbl HTr HC HCW HO HS;have c0:=HS5.o.rec_.cell 0;have HAL:=hQ_ (show Chg [] w5 (w5.alloc (.cells #[.int .i64 h] 3)) from(Chg.refl [] w5).alloc _);have HO6:=hQ_ (ze_ HO5.o HAL.o);have HRM:=hQ_ (show gs+1<=(w5.alloc (.cells #[.int .i64 h] 3)).heap.size from by have:=HAL.o.size;have:=HS5.o.rec_.lt;omega);have hjb:=HTL.o;clear htl;have HDD:=hQ_ (show zqe t.sign (bs.map (·.sign))/\SOk (yn_ (ts.drop (j+1))) (uy_ t.sign (bs.map (·.sign))) from by have:=HDR.o;rw[HDJ.o]at this;exact this);obtain⟨RT,hRT⟩:∃RT,RT=qw_ l h bs t.sign t.name:=⟨_,rfl⟩;have HRW2:=hQ_ (show R=if RT.1=0 then k7_ l (ts.drop (j+1)) RT.2.1 RT.2.2 (out++[h]) else (RT.1,[]) from by rw[HRW.o,HDJ.o,kr_,hRT]);have HLN:=hQ_ (show RT.1=0->Bas RT.2.1 RT.2.2/\RT.2.2.map (·.sign)=uy_ t.sign (bs.map (·.sign)) from fun he=>by rw[hRT]at he⊢;exact zny HBA.o (fun x hx=>(HS5.o.rb x hx).1) HS5.o.hr he);have HRT:=hQ_ hRT;clear hRT;go_wp2_with (
     at_builtin;refine wpList_append_own _ rfl (.tmp 51) (.tmp 54) _ rfl (gs+1) 3 i0 _ 1 8 Tryz.underlying126 hi0 hz0 hz1 hz2 rfl (by decide) (.slice AO j co) j (nms out) rfl HO6.o ⟨w5.heap.size,0,none⟩ 1 1 [.int .i64 h] rfl rfl (zL_ _ _ _) (by simp[Value.oneCell']) (by simp only[maxLen];omega) (by omega) HRM.o ?_;intro v' w6 ho6 hg6 _;obtain⟨A6,c6,rfl,_⟩:=zr_ ho6;have HO7:=hQ_ ho6;have HG7:=hQ_ hg6;have HU6:=hQ_ (zn_ (HU5.o.keep HAL.o) HO6.o (by decide) hg6);have HT6:=hQ_ (zn_ (HT5.o.keep HAL.o) HO6.o (by decide) hg6);have HC6:=hQ_ (show Chg [] w w6 from vd_ (HC5.o.new HAL.o) hg6 (fun g hg=>by have:=(HO6.o.lt g hg).1;have:=HGS.o;omega));have HCW6:=hQ_ (show Chg [] w3 w6 from vd_ (HCW5.o.new HAL.o) hg6 (fun g hg=>by have:=(HO6.o.lt g hg).1;have:=HG3.o;omega));have HS7:=hQ_ (show Wk w6 gs h vo bs from⟨zn_ (HS5.o.keep HAL.o).rec_ HO6.o (by decide) HG7.o,yj_ (HS5.o.keep HAL.o).own HO6.o (by decide) HG7.o,HS5.o.few,HS5.o.hr,HS5.o.rb⟩);have u0:=HU6.o.cell 0;have u1:=HU6.o.cell 1;have u2:=HU6.o.cell 2;have t0:=HT6.o.cell 0;have t1:=HT6.o.cell 1;have t2:=HT6.o.cell 2;clear ho6 hg6);have HTK:=hQ_ (zge (pages:=pages) (most:=most) HS7.o (HF3.o.keep HCW6.o) t HBA.o (zkf HDD.o.1) (by have:=HB16.o;omega));rw[<-HRT.o]at HTK;refine HTK.o.mono ?_;rintro e w7 ⟨hfr,rfl,hS8⟩;have HC7:=hQ_ (show Chg [] w w7 from((Fr.of_chg HC6.o).trans (hfr.sub HGS.o (fun _ h=>h))).chg (Nat.le_refl _));have HCW7:=hQ_ (show Chg [] w3 w7 from((Fr.of_chg HCW6.o).trans (hfr.sub (show w3.heap.size<=gs from by have:=HG3.o;omega) (fun _ h=>h))).chg (Nat.le_refl _));have HO8:=hQ_ (hfr.own HO7.o (by decide));have HU8:=hQ_ (hfr.whole' HU6.o (by decide));clear hfr u0 u1 u2 t0 t1 t2 c0;by_cases her:RT.1=0
    · obtain⟨vo8,hS9⟩:=hS8 her;have HS9:=hQ_ hS9;have HR9:=hQ_ (HRW2.o.trans (if_pos her));have HD9:=hQ_ (show SOk (yn_ (ts.drop (j+1))) (RT.2.2.map (·.sign)) from by rw[(HLN.o her).2];exact HDD.o.2);have HBA9:=hQ_ (HLN.o her).1;have HB9:=hQ_ (show RT.2.2.length<=16 from by
       have h1:=congrArg List.length (HLN.o her).2;rw[List.length_map]at h1;rw[h1];have h2:=HDD.o.1;have h3:=HB16.o;unfold uy_;split
       · rename_i hs;have:=h2.2.2.2.2 hs;simp at this⊢;omega
       · split
         · rename_i hs;obtain⟨y,hy⟩:=h2.1 hs;have h4:=congrArg List.length hy;simp at h4⊢;omega
         · split
           · simp;omega
           · simp;exact h3);rw[her];clear hS8 hS9 her;go_wp2_with fail;go_roundw;(case rel=>exact⟨j+1,RT.2.1,RT.2.2,vo8,out++[h],by go_num,by omega,HS9,hQ_ (by have:=HO8.o;simpa[nms] using this),HD9,HBA9,HB9,HR9,HC7,HCW7⟩);case measure=>simp[intOf];omega
    · have qe:(RT.1 != 0)=true:=(by simpa using her);have HP:=hQ_ (show v0_ R w (.returned (.tuple #[.slice none 0 0,.int .i64 RT.1])) w7 from zfu _ (HRW2.o.trans (if_neg her)) HC7.o);clear hS8 her;go_wp2_with fail;go_ret2;exact HP.o
  · have hjI:(tn:Int)<=(j:Int):=(by omega);have HRZ:=hQ_ (show R=if h≠1/\0<=h then (14,[]) else (0,out) from by rw[HRW.o,List.drop_eq_nil_of_le (by rw[<-HTN.o];omega),k7_]);have c0:=HS.o.rec_.cell 0;have hhr:=HS.o.hr;have HOW:=hQ_ (yk_ HO.o (show w.heap.size<=gs+1 from by have:=HGS.o;omega));have HJO:=hQ_ (show j=out.length from by have:=HO.o.1;simpa[nms] using this.symm);by_cases h1:h=1
    · have q1:(h != 1)=false:=(by simpa using h1);have q2:(h != -1)=true:=(by simp;omega);have HP:=hQ_ (show v0_ R w (.returned (.tuple #[.slice AO j co,.int .i64 0])) wr from by
       rw[HRZ.o,if_neg (by omega)];exact⟨_,rfl,by rw[<-HJO.o];exact HOW.o,HC.o⟩);clear h1;go_wp2_with fail;go_ret2;exact HP.o
    · have q1:(h != 1)=true:=(by simpa using h1);by_cases h0:0<=h
      · have q0:(h != -1)=true:=(by simp;omega);have HP:=hQ_ (show v0_ R w (.returned (.tuple #[.slice none 0 0,.int .i64 14])) wr from zfu 14 (by rw[HRZ.o,if_pos ⟨h1,h0⟩]) HC.o);clear h1 h0;go_wp2_with fail;go_ret2;exact HP.o
      · have q0:(h != -1)=false:=(by simp;omega);have HP:=hQ_ (show v0_ R w (.returned (.tuple #[.slice AO j co,.int .i64 0])) wr from by
         rw[HRZ.o,if_neg (by omega)];exact⟨_,rfl,by rw[<-HJO.o];exact HOW.o,HC.o⟩);clear h1 h0;go_wp2_with fail;go_ret2;exact HP.o
theorem zju {w:World}(hF:Fnr w A n c l)(hcode:∀f∈l,f.code.size<=1000000)(k:Int):Calls Tryz.prog 61 #[yH_ pages most A n c,.int .i64 k] w (v0_ (rFn l k) w):=zbs hF (fun f hf=>Nat.le_trans (hcode f hf) (by omega)) k
end
end Go.Proofs.YtcbcfcdmdedefaaGreatDoor
