import Derived.Test.YtcbcfcdmdedefaaGreatDoorZTA9
import Derived.Lib.BufferOwn
set_option maxRecDepth 100000
set_option maxHeartbeats 16000000
namespace Go.Proofs.YtcbcfcdmdedefaaGreatDoor
section
open Go.RowKit
def ptC (x:BkV):List Value:=[.bool (x.sign==91),.int .i64 x.base,.bool (x.sign==58),.int .i64 x.other,.bool x.left]
def k8_:List BkV->List Value
  | []=>[]
  | x::l=>ptC x++k8_ l
theorem zdk:∀l,(k8_ l).length=l.length*5
  | []=>rfl
  | t::l=>by rw[k8_,List.length_append,zdk l];simp[ptC];omega
theorem gv_:∀l m,k8_ (l++m)=k8_ l++k8_ m
  | [],m=>rfl
  | t::l,m=>by rw[List.cons_append,k8_,k8_,gv_ l m,List.append_assoc]
theorem zkT (x:BkV):k8_ [x]=ptC x:=by simp[k8_]
theorem uU_:∀(l:List BkV)(k:Nat)(t:BkV)(j:Nat),l[k]?=some t->j<5->(k8_ l)[k*5+j]?=(ptC t)[j]?
  | [],k,t,j,h,hj=>by simp at h
  | u::l,0,t,j,h,hj=>by
    simp at h;subst h;rw[k8_,List.getElem?_append_left (by simp[ptC];omega)];congr 1;omega
  | u::l,k+1,t,j,h,hj=>by
    simp at h;rw[k8_,List.getElem?_append_right (by simp[ptC];omega)];rw[<-uU_ l k t j h hj];congr 1;simp[ptC];omega
theorem zdj:∀(l:List BkV)(k:Nat)(x y:BkV)(j:Nat)(u:Value),l[k]?=some x->j<5->(ptC x).set j u=ptC y->(k8_ l).set (k*5+j) u=k8_ (l.set k y)
  | [],k,x,y,j,u,h,hj,hu=>by simp at h
  | z::l,0,x,y,j,u,h,hj,hu=>by
    simp at h;subst h;rw[k8_,List.set_append_left _ _ (by simp[ptC];omega),Nat.zero_mul,Nat.zero_add,hu];rfl
  | z::l,k+1,x,y,j,u,h,hj,hu=>by
    simp at h;rw[k8_,List.set_append_right _ _ (by simp[ptC];omega)];rw[show(k+1)*5+j-(ptC z).length=k*5+j from by simp[ptC];omega,zdj l k x y j u h hj hu];rfl
theorem kD_:(Tryz.prog.info? 252).map (fun i=>(i.zero,i.size,i.bytes))=some (some (.agg #[.bool false,.int .i64 0,.bool false,.int .i64 0,.bool false]),5,40):=by kernel_rfl
abbrev wkT:List TypeId:=[252,180]
structure Wk (W:World) (g:Nat) (h:Int) (v:Value) (bs:List BkV):Prop where
  rec_:zb_ W g 180 [.int .i64 h,v]
  own:W.ownsRow (g+1) 252 5 v bs.length (k8_ bs)
  few:bs.length<=100
  hr:-1<=h/\h<=64
  rb:∀x∈bs,0<=x.base/\x.base<=64/\-1<=x.other/\x.other<=64
def yw_ (W:World)(g:Nat)(R:Int×Int×List BkV)(e:Ending)(w':World):Prop :=
 Fr g wkT W w'/\e=.returned (.int .i64 R.1)/\(R.1=0->∃v',Wk w' g R.2.1 v' R.2.2)
section
variable {W W':World} {g:Nat} {h:Int} {v:Value} {bs ys:List BkV} {x:BkV}
theorem Wk.keep (s:Wk W g h v bs)(hc:Chg [] W W'):Wk W' g h v bs:=⟨s.rec_.keep hc,ze_ s.own hc,s.few,s.hr,s.rb⟩
theorem Wk.away (s:Wk W g h v bs):v.ownBlock≠some g:=fun e=>by have:=(s.own.lt g e).1;omega
theorem Wk.slice (s:Wk W g h v bs):∃A n c,v=.slice A n c/\n=bs.length/\n<=c:=by
 obtain⟨A,c,e,hc,_⟩:=zh_ s.own;exact⟨A,_,c,e,rfl,hc⟩
theorem Wk.high (s:Wk W g h v bs)(h':Int)(hr:-1<=h'/\h'<=64):Wk (W.setCell ⟨g,0,none⟩ (.int .i64 h')) g h' v bs/\Fr g wkT W (W.setCell ⟨g,0,none⟩ (.int .i64 h')) :=
 ⟨⟨s.rec_.set_ 0 _,zG_ s.own (fun e=>s.away e),s.few,hr,s.rb⟩,(Fr.refl g wkT W).setw s.rec_ (Nat.le_refl _) (by simp[wkT]) _⟩
theorem Wk.last (s:Wk W g h v (ys++[x])):∃gr c,v=.slice (some ⟨gr,0,none⟩) (ys.length+1) c/\ys.length+1<=c/\g+1<=gr/\W.cell? ⟨gr,ys.length*5,none⟩=some (.bool (x.sign==91))/\W.cell? ⟨gr,ys.length*5+1,none⟩=some (.int .i64 x.base) /\
    W.cell? ⟨gr,ys.length*5+2,none⟩=some (.bool (x.sign==58))/\W.cell? ⟨gr,ys.length*5+3,none⟩=some (.int .i64 x.other)/\W.cell? ⟨gr,ys.length*5+4,none⟩=some (.bool x.left):=by
 have hl:(ys++[x]).length=ys.length+1:=by simp
 obtain⟨A,n,c,rfl,hn,hc⟩:=s.slice;rw[hl]at hn;subst hn;have hx:(ys++[x])[ys.length]?=some x:=by simp
 have k:∀j u,j<5->(ptC x)[j]?=some u->∃gr,A=some ⟨gr,0,none⟩/\W.cell? ⟨gr,ys.length*5+j,none⟩=some u:=fun j u hj hu=>zv_ s.own (by rw[hl]) ((uU_ _ _ _ j hx hj).trans hu);obtain⟨gr,rfl,c0⟩:=k 0 _ (by omega) rfl;obtain⟨_,e,c1⟩:=k 1 _ (by omega) rfl;injection e with e;injection e with e;subst e;obtain⟨_,e,c2⟩:=k 2 _ (by omega) rfl;injection e with e;injection e with e;subst e;obtain⟨_,e,c3⟩:=k 3 _ (by omega) rfl;injection e with e;injection e with e;subst e;obtain⟨_,e,c4⟩:=k 4 _ (by omega) rfl;injection e with e;injection e with e;subst e;exact⟨gr,c,rfl,hc,(s.own.lt gr rfl).1,c0,c1,c2,c3,c4⟩
theorem Wk.pop {gr c:Nat}(s:Wk W g h (.slice (some ⟨gr,0,none⟩) (ys.length+1) c) (ys++[x])){W1:World}(hc:Chg [] W W1) :
    Wk (W1.setCell ⟨g,1,none⟩ (.slice (some ⟨gr,0,none⟩) ys.length c)) g h (.slice (some ⟨gr,0,none⟩) ys.length c) ys/\Fr g wkT W (W1.setCell ⟨g,1,none⟩ (.slice (some ⟨gr,0,none⟩) ys.length c)):=by
 have s1:=s.keep hc;have hl:(ys++[x]).length=ys.length+1:=by simp
 have ho:=s1.own;rw[hl]at ho;have h2:=x2_ (q':=ys.length) ho (by omega) (by simp);rw[gv_,List.take_left' (by rw[zdk])]at h2;refine⟨⟨s1.rec_.set_ 1 _,zG_ h2 (fun e=>by have:=(h2.lt g e).1;omega),by have:=s.few;omega,s.hr,fun y hy=>s.rb y (by simp[hy])⟩,(Fr.of_chg hc).setw s1.rec_ (Nat.le_refl _) (by simp[wkT]) _⟩
theorem Wk.push {W2 w3:World}{v':Value}{n1:Nat}(s:Wk W g h v bs)(hc:Chg [] W W2)(hn1:n1=bs.length+1)(ho:w3.ownsRow (g+1) 252 5 v' n1 (k8_ bs++ptC x))(hg:W2.grownBy w3 v.ownBlock)(hf:bs.length<=99)(hx:0<=x.base/\x.base<=64/\-1<=x.other/\x.other<=64) :
    Wk (w3.setCell ⟨g,1,none⟩ v') g h v' (bs++[x])/\Fr g wkT W (w3.setCell ⟨g,1,none⟩ v'):=by
 subst hn1;have s2:=s.keep hc;have hr3:=zn_ s2.rec_ s2.own (by decide) hg;refine⟨⟨hr3.set_ 1 _,?_,by simp;omega,s.hr,fun y hy=>?_⟩,((Fr.of_chg hc).grown s2.own (Nat.le_succ g) (by simp[wkT]) hg).setw hr3 (Nat.le_refl _) (by simp[wkT]) _⟩
 · rw[gv_,zkT,List.length_append,List.length_singleton];exact zG_ ho (fun e=>by have:=(ho.lt g e).1;omega)
 · rcases List.mem_append.1 hy with hy|hy
   · exact s.rb y hy
   · rw[List.mem_singleton]at hy;subst hy;exact hx
theorem Wk.mark {gr c n k:Nat}{y:BkV}(s:Wk W g h (.slice (some ⟨gr,0,none⟩) n c) bs)(hn:n=bs.length)(hk:bs[k]?=some y):Wk (W.setCell ⟨gr,k*5+4,none⟩ (.bool true)) g h (.slice (some ⟨gr,0,none⟩) n c) (bs.set k ⟨y.sign,y.base,y.other,true⟩)/\Fr g wkT W (W.setCell ⟨gr,k*5+4,none⟩ (.bool true)):=by
 subst hn;have hgr:=(s.own.lt gr rfl).1;refine⟨⟨s.rec_.far (by simp only;omega) _,?_,by simpa using s.few,s.hr,fun z hz=>?_⟩,(Fr.refl g wkT W).seto s.own (Nat.le_succ g) (by simp[wkT]) _⟩
 · have:=v7_ (j:=k*5+4) (u:=.bool true) s.own;rw[zdj bs k y ⟨y.sign,y.base,y.other,true⟩ 4 _ hk (by omega) rfl]at this;rw[List.length_set];exact this
 · rcases List.mem_or_eq_of_mem_set hz with hz|rfl
   · exact s.rb z hz
   · exact s.rb y (List.mem_of_getElem? hk)
end
section
variable {W:World} {g:Nat} {h:Int} {v:Value} {bs ys:List BkV} {x:BkV}
theorem zgk (s:Wk W g h v bs):Calls Tryz.prog 141 #[.pointer (some ⟨g,0,none⟩)] W (jw_ (xn_ bs) W):=by
 obtain⟨b0,hb0⟩:∃b,b=xn_ bs:=⟨_,rfl⟩;rw[<-hb0];rcases List.eq_nil_or_concat bs with rfl|⟨ys,x,rfl⟩
 · obtain⟨A,n,c,rfl,hn,_⟩:=s.slice;have hn0:n=0:=hn;subst hn0;have c1:=s.rec_.cell 1;have HC:=hQ_ (show jw_ b0 W (.returned (.int .i64 0)) W from⟨by rw[hb0];rfl,Chg.refl [] W⟩);clear s hb0 hn;go_enter Tryz.func141,Tryz.ntmps141;go_wp2_with fail;go_ret;exact HC.o
 · rw[List.concat_eq_append]at s;obtain⟨gr,c,rfl,hc,hgr,j0,j1,j2,j3,j4⟩:=s.last;have c1:=s.rec_.cell 1;have hf:=s.few;rw[List.length_append,List.length_singleton]at hf;have HB:=hQ_ (show b0=x.base by rw[hb0];simp[xn_]);clear s j0 j2 j3 j4 hb0;generalize ys.length=q at *;have hsub:IntKind.i64.wrap (((q+1:Nat):Int)-1)=(q:Int):=(by rw[IntWalk.i64_in _ (by omega)];omega);have hne:(((q+1:Nat):Int)==0)=false:=(by simp;omega);have hq0:(0:Int)<=(q:Int):=(by omega);have hq1:(q:Int)<((q+1:Nat):Int):=(by omega);go_enter Tryz.func141,Tryz.ntmps141;go_wp2_with fail;go_quiet (fail);have HP:=hQ_ (show jw_ b0 W (.returned (.int .i64 x.base)) (W.drewN nq) from⟨by rw[HB.o],(Chg.refl [] W).drewN nq⟩);go_wp2_with fail;go_ret;exact HP.o
theorem Wk.far {W:World}{g:Nat}{h:Int}{v:Value}{bs:List BkV}(s:Wk W g h v bs){p:Addr}(hp:g≠p.block)(hv:v.ownBlock≠some p.block)(u:Value):Wk (W.setCell p u) g h v bs:=⟨s.rec_.far hp u,zG_ s.own hv,s.few,s.hr,s.rb⟩
theorem Wk.ret5 {W W3:World}{g gR:Nat}{h:Int}{v:Value}{bs:List BkV}{z0 z1 z2 z3 z4:Value}(s:Wk W3 g h v bs)(hf:Fr g wkT W W3)(hR:zb_ W3 gR 252 [z0,z1,z2,z3,z4])(hg:g<gR)(hv:v.ownBlock≠some gR)(u0 u1 u2 u3 u4:Value) :
    let w4:=((((W3.setCell ⟨gR,0,none⟩ u0).setCell ⟨gR,1,none⟩ u1).setCell ⟨gR,2,none⟩ u2).setCell ⟨gR,3,none⟩ u3).setCell ⟨gR,4,none⟩ u4
    Hid (Wk w4 g h v bs)/\Hid (Fr g wkT W w4)/\Hid (zb_ w4 gR 252 [u0,u1,u2,u3,u4]):=by
 have hne:g≠gR:=by omega
 have r1:=hR.set_ 0 u0;have r2:=r1.set_ 1 u1;have r3:=r2.set_ 2 u2;have r4:=r3.set_ 3 u3;have r5:=r4.set_ 4 u4;refine⟨hQ_ (((((s.far hne hv _).far hne hv _).far hne hv _).far hne hv _).far hne hv _),hQ_ (((((hf.setw hR (by omega) (by simp[wkT]) _).setw r1 (by omega) (by simp[wkT]) _).setw r2 (by omega) (by simp[wkT]) _).setw r3 (by omega) (by simp[wkT]) _).setw r4 (by omega) (by simp[wkT]) _),hQ_ ?_⟩;simpa using r5
def zek (W:World)(g:Nat)(h:Int)(ys:List BkV)(x:BkV)(e:Ending)(w':World):Prop:=∃v',e=.returned (.agg (ptC x).toArray)/\Wk w' g h v' ys/\Fr g wkT W w'
theorem gm_ (s:Wk W g h v (ys++[x])):Calls Tryz.prog 182 #[.pointer (some ⟨g,0,none⟩)] W (zek W g h ys x):=by
 obtain⟨gr,c,rfl,hc,hgr,j0,j1,j2,j3,j4⟩:=s.last;have hf:=s.few;rw[List.length_append,List.length_singleton]at hf;have HS:=hQ_ s;obtain⟨q,hq⟩:∃q,q=ys.length:=⟨_,rfl⟩;rw[<-hq]at hc j0 j1 j2 j3 j4 hf HS;have HPOP:=hQ_ (fun (W1:World)(hc:Chg [] W W1)=>show Wk (W1.setCell ⟨g,1,none⟩ (.slice (some ⟨gr,0,none⟩) q c)) g h (.slice (some ⟨gr,0,none⟩) q c) ys/\Fr g wkT W (W1.setCell ⟨g,1,none⟩ (.slice (some ⟨gr,0,none⟩) q c)) from by rw[hq];exact s.pop hc);clear s hq;generalize hb91:(x.sign==91)=b91 at j0;generalize hb58:(x.sign==58)=b58 at j2;have HPX:=hQ_ (show ptC x=[.bool b91,.int .i64 x.base,.bool b58,.int .i64 x.other,.bool x.left] from by unfold ptC;rw[hb91,hb58]);clear hb91 hb58;generalize x.base=xb at j1 HPX;generalize x.other=xo at j3 HPX;generalize x.left=xl at j4 HPX;go_enter Tryz.func182,Tryz.ntmps182;go_upto_region 1 with fail;have hN:=zb_.new W 252 [.bool false,.int .i64 0,.bool false,.int .i64 0,.bool false];have hal:=(Chg.refl [] W).alloc (.cells #[.bool false,.int .i64 0,.bool false,.int .i64 0,.bool false] 252);have hz1:(W.alloc (.cells #[.bool false,.int .i64 0,.bool false,.int .i64 0,.bool false] 252)).heap.size=W.heap.size+1:=Array.size_push _;have HW1:=hQ_ (HS.o.keep hal);have HC1:=hQ_ hal;have HR1:=hQ_ hN;have HZ1:=hQ_ hz1;obtain⟨gR,hgR⟩:∃gR,gR=W.heap.size:=⟨_,rfl⟩;have HGR:=hQ_ (show W.heap.size<=gR from by omega);have HGG:=hQ_ (show gr<gR/\g<gR from by
  have h1:=HS.o.rec_.lt;have h2:=block_lt_of_cell j0;simp only at h2;omega);rw[<-hgR]at HR1 HZ1⊢;have k0:=zd_ j0 hal;have k1:=zd_ j1 hal;have k2:=zd_ j2 hal;have k3:=zd_ j3 hal;have k4:=zd_ j4 hal;generalize W.alloc (.cells #[.bool false,.int .i64 0,.bool false,.int .i64 0,.bool false] 252)=w1 at HW1 HC1 HR1 HZ1 k0 k1 k2 k3 k4⊢;clear hN hal hz1 hgR j0 j1 j2 j3 j4;have c1:=HW1.o.rec_.cell 1;have hq0:(0:Int)<=(q:Int):=by omega
 have hq1:(q:Int)<((q+1:Nat):Int):=by omega
 go_upto_region 3 with fail;have hX:=zb_.new w1 252 [.bool b91,.int .i64 xb,.bool b58,.int .i64 xo,.bool xl];have hal:=(Chg.refl [] w1).alloc (.cells #[.bool b91,.int .i64 xb,.bool b58,.int .i64 xo,.bool xl] 252);obtain⟨gX,hgX⟩:∃gX,gX=w1.heap.size:=⟨_,rfl⟩;have HGX:=hQ_ (show gR<gX from by have:=HZ1.o;omega);rw[<-hgX]at hX⊢;have HX:=hQ_ hX;have HW2:=hQ_ (HW1.o.keep hal);have HC2:=hQ_ (HC1.o.new hal);have HR2:=hQ_ (HR1.o.keep hal);generalize w1.alloc (.cells #[.bool b91,.int .i64 xb,.bool b58,.int .i64 xo,.bool xl] 252)=w2 at HX HW2 HC2 HR2⊢;clear hX hal hgX k0 k1 k2 k3 k4 c1 HW1 HC1 HR1 HZ1;have c1:=HW2.o.rec_.cell 1;have f1:=HW2.o.rec_.frozen 1;have hqc:q<=c:=by omega
 go_upto_region 4 with fail;obtain⟨hw3,hf3⟩:=HPOP.o w2 HC2.o;have hX3:=HX.o.far (p:=⟨g,1,none⟩) (by have:=HGX.o;have:=HGG.o;simp only;omega) (.slice (some ⟨gr,0,none⟩) q c);have hR3:=HR2.o.far (p:=⟨g,1,none⟩) (by have:=HGG.o;simp only;omega) (.slice (some ⟨gr,0,none⟩) q c);obtain⟨HW4,HF4,HR4⟩:=hw3.ret5 hf3 hR3 HGG.o.2 (by have:=HGG.o.1;simp[Value.ownBlock];omega) (.bool b91) (.int .i64 xb) (.bool b58) (.int .i64 xo) (.bool xl);have HP:=hQ_ (show zek W g h ys x (.returned (.agg #[.bool b91,.int .i64 xb,.bool b58,.int .i64 xo,.bool xl])) _ from⟨_,by rw[HPX.o],HW4.o,HF4.o⟩);generalize w2.setCell ⟨g,1,none⟩ (.slice (some ⟨gr,0,none⟩) q c)=w3 at hX3 hR3 HR4 HP⊢;have x0:=hX3.cell 0;have x1:=hX3.cell 1;have x2:=hX3.cell 2;have x3:=hX3.cell 3;have x4:=hX3.cell 4;have y0:=hR3.cell 0;have y1:=hR3.cell 1;have y2:=hR3.cell 2;have y3:=hR3.cell 3;have y4:=hR3.cell 4;have f0:=hR3.frozen 0;have f1:=hR3.frozen 1;have f2:=hR3.frozen 2;have f3:=hR3.frozen 3;have f4:=hR3.frozen 4;clear hX3 hR3 hw3 hf3 HW4 HF4;go_wp2_with fail;have e0:=HR4.o.cell 0;have e1:=HR4.o.cell 1;have e2:=HR4.o.cell 2;have e3:=HR4.o.cell 3;have e4:=HR4.o.cell 4;generalize ((((w3.setCell ⟨gR,0,none⟩ (.bool b91)).setCell ⟨gR,1,none⟩ (.int .i64 xb)).setCell ⟨gR,2,none⟩ (.bool b58)).setCell ⟨gR,3,none⟩ (.int .i64 xo)).setCell ⟨gR,4,none⟩ (.bool xl)=wf at HP e0 e1 e2 e3 e4⊢;simp only[List.getElem?_cons_zero,List.getElem?_cons_succ]at e0 e1 e2 e3 e4;refine bodyPost_ret (v:=.agg #[.bool b91,.int .i64 xb,.bool b58,.int .i64 xo,.bool xl]) (by simp[results,Tryz.results182,go_sem,e0,e1,e2,e3,e4]) rfl HP.o
end
end
section
open Go.RowKit
theorem zb_.grownNe {w w':World}{g t:Nat}{cs:List Value}{row:Option Nat}(h:zb_ w g t cs)(hg:w.grownBy w' row)(hne:row≠some g):zb_ w' g t cs:=(hg.block g h.lt (fun e=>hne e.symm)).trans h
section
variable {W:World} {g:Nat} {h:Int} {v:Value} {bs ys:List BkV} {x:BkV}
def zpV (W:World)(g:Nat)(h:Int)(bs:List BkV)(e:Ending)(w':World):Prop:=e=.returned (.tuple #[])/\∃v',Wk w' g h v' bs/\Fr g wkT W w'
theorem zex (s:Wk W g h v (ys++[x]))(hx:x.sign=63):Calls Tryz.prog 161 #[.pointer (some ⟨g,0,none⟩)] W (zpV W g x.base (ys++[⟨58,x.base,h,x.left⟩])):=by
 obtain⟨i0,hi0,hz0,hz1,hz2⟩:=info_parts kD_;have HRB:=hQ_ (s.rb x (by simp));have HSH:=hQ_ (gm_ s);have hf:ys.length<=99:=by have:=s.few;rw[List.length_append,List.length_singleton]at this;omega
 have HHR:=hQ_ s.hr;obtain⟨sg,xb,xo,xl⟩:=x;simp only at hx HRB;subst hx;simp only;clear s;go_enter Tryz.func161,Tryz.ntmps161;go_wp2_with fail;refine HSH.o.mono ?_;rintro e w1 ⟨v1,rfl,hw1,hf1⟩;have HW1:=hQ_ hw1;have HF1:=hQ_ hf1;have c0:=hw1.rec_.cell 0;clear hw1 hf1;have e1:(ptC ⟨63,xb,xo,xl⟩).toArray=#[.bool false,.int .i64 xb,.bool false,.int .i64 xo,.bool xl]:=rfl;rw[e1];clear e1;go_upto_region 1 with fail;have hX:=zb_.new w1 252 [.bool false,.int .i64 xb,.bool false,.int .i64 xo,.bool xl];have hal:=(Chg.refl [] w1).alloc (.cells #[.bool false,.int .i64 xb,.bool false,.int .i64 xo,.bool xl] 252);obtain⟨gX,hgX⟩:∃gX,gX=w1.heap.size:=⟨_,rfl⟩;have HGX:=hQ_ (show g<gX/\∀b,v1.ownBlock=some b->b<gX from⟨by have:=HW1.o.rec_.lt;omega,fun b hb=>by have:=(HW1.o.own.lt b hb).2;omega⟩);rw[<-hgX]at hX⊢;have HX:=hQ_ hX;have HW2:=hQ_ (HW1.o.keep hal);have HF2:=hQ_ (HF1.o.new hal);generalize w1.alloc (.cells #[.bool false,.int .i64 xb,.bool false,.int .i64 xo,.bool xl] 252)=w2 at HX HW2 HF2⊢;clear hX hal hgX c0 HW1 HF1;have c0:=HW2.o.rec_.cell 0;have x2:=HX.o.cell 2;have x3:=HX.o.cell 3;have f2:=HX.o.frozen 2;have f3:=HX.o.frozen 3;go_upto_region 3 with fail;have hne:g≠gX:=by have:=HGX.o.1;omega
 have hnv:v1.ownBlock≠some gX:=fun e=>by have:=HGX.o.2 gX e;omega
 have HX3:=hQ_ (show zb_ ((w2.setCell ⟨gX,2,none⟩ (.bool true)).setCell ⟨gX,3,none⟩ (.int .i64 h)) gX 252 [.bool false,.int .i64 xb,.bool true,.int .i64 h,.bool xl] from by have:=(HX.o.set_ 2 (.bool true)).set_ 3 (.int .i64 h);simpa using this);have HW3:=hQ_ ((HW2.o.far (p:=⟨gX,2,none⟩) hne hnv (.bool true)).far (p:=⟨gX,3,none⟩) hne hnv (.int .i64 h));have HF3:=hQ_ ((HF2.o.setw HX.o (j:=2) (by have:=HGX.o.1;omega) (by simp[wkT]) (.bool true)).setw (HX.o.set_ 2 (.bool true)) (j:=3) (by have:=HGX.o.1;omega) (by simp[wkT]) (.int .i64 h));generalize (w2.setCell ⟨gX,2,none⟩ (.bool true)).setCell ⟨gX,3,none⟩ (.int .i64 h)=w3 at HX3 HW3 HF3⊢;clear c0 x2 x3 f2 f3 hne hnv HX HW2 HF2;have x0:=HX3.o.cell 0;have x1:=HX3.o.cell 1;have x2:=HX3.o.cell 2;have x3:=HX3.o.cell 3;have x4:=HX3.o.cell 4;obtain⟨A3,n3,c3,hv1,hn3,hc3⟩:=HW3.o.slice;subst hv1;have k1:=HW3.o.rec_.cell 1;have hal:Chg [] w3 (w3.alloc (.cells #[.bool false,.int .i64 xb,.bool true,.int .i64 h,.bool xl] 252)):=(Chg.refl [] w3).alloc _;have q1:(w3.alloc (.cells #[.bool false,.int .i64 xb,.bool true,.int .i64 h,.bool xl] 252)).cell? ⟨g,1,none⟩=some (.slice A3 n3 c3):=zd_ (by simpa using k1) hal;have HOW:=hQ_ (show w3.ownsRow (g+1) 252 5 (.slice A3 n3 c3) n3 (k8_ ys) from by have:=HW3.o.own;rw[<-hn3]at this;exact this);have hBW:g+1<=w3.heap.size:=HW3.o.rec_.lt;have HN:=hQ_ hn3;have hn99:n3<=99:=by omega
 clear hn3 hal;go_region_law (
   (refine yt_ rfl (.tmp 15) (.tmp 17) 178 rfl (g+1) 252 i0 _ 5 40 Tryz.underlying178 hi0 hz0 hz1 hz2 rfl (by decide) (.slice A3 n3 c3) n3 (k8_ ys) rfl (ze_ HOW.o (((Chg.refl [] w3).alloc _).drew)) ⟨w3.heap.size,0,none⟩ 1 1 [.bool false,.int .i64 xb,.bool true,.int .i64 h,.bool xl] rfl rfl (zL_ w3 _ _) (by simp[Value.oneCell']) (by unfold maxLen;omega) (by omega) (by simp;omega) ?_;intro v' w' ho hg;obtain⟨A6,k6,rfl,_⟩:=zh_ ho;have HO:=hQ_ ho;have HG:=hQ_ hg;have HR6:=hQ_ (zn_ (HW3.o.rec_.keep (((Chg.refl [] w3).alloc (.cells #[.bool false,.int .i64 xb,.bool true,.int .i64 h,.bool xl] 252)).drew)) (ze_ HW3.o.own (((Chg.refl [] w3).alloc (.cells #[.bool false,.int .i64 xb,.bool true,.int .i64 h,.bool xl] 252)).drew)) (by decide) hg);have f1:=HR6.o.frozen 1;have k1:=HR6.o.cell 1;clear ho hg));all_goals
   obtain⟨hP,hF⟩:=HW3.o.push (x:=⟨58,xb,h,xl⟩) (((Chg.refl [] w3).alloc (.cells #[.bool false,.int .i64 xb,.bool true,.int .i64 h,.bool xl] 252)).drew) (by have:=HN.o;omega) HO.o HG.o hf (by have:=HRB.o;have:=HHR.o;simp only;omega);have HP:=hQ_ hP;have HFF:=hQ_ (HF3.o.trans hF);have HXw:=hQ_ ((HX3.o.keep (((Chg.refl [] w3).alloc (.cells #[.bool false,.int .i64 xb,.bool true,.int .i64 h,.bool xl] 252)).drew)).grownNe HG.o (fun e=>by have:=HGX.o.2 gX e;omega));have HXv:=hQ_ (HXw.o.far (p:=⟨g,1,none⟩) (by have:=HGX.o.1;simp only;omega) (.slice A6 (n3+1) k6));clear hP hF;go_upto_region 4 with fail;generalize hw5:w'.setCell ⟨g,1,none⟩ (.slice A6 (n3+1) k6)=w5 at HP HFF HXv⊢;clear hw5 f1 k1 HXw HO HG HR6;have c0:=HP.o.rec_.cell 0;have f0:=HP.o.rec_.frozen 0;have x1:=HXv.o.cell 1;go_wp2_with fail;obtain⟨hP2,hF2⟩:=HP.o.high xb (by have:=HRB.o;omega);have HQ:=hQ_ (show zpV W g xb (ys++[⟨58,xb,h,xl⟩]) (.returned (.tuple #[])) _ from⟨rfl,_,hP2,HFF.o.trans hF2⟩)
   go_end0
   exact HQ.o
end
end
section
open Go.RowKit
def gO_ (h:Int)(ys:List BkV)(x:BkV)(r:Int):Int×Int×List BkV:=match uz_ h ys x r with|(true,h',bs')=>(0,h',bs')|(false,h',bs')=>(14,h',bs')
theorem zpv {h:Int}{ys:List BkV}{x:BkV}(hx:x.sign=58)(ho:-1<=x.other)(hh:-1<=h):gO_ h ys x 59=if h=-1 then (0,x.other,ys) else if x.other≠-1/\x.other≠h then (14,h,ys) else (0,h,ys):=by
 unfold gO_ uz_;rw[if_neg (by omega),if_pos hx];by_cases h1:h=-1
 · rw[if_pos h1,if_neg (by omega)];simp only;rw[show max h x.other=x.other from by omega]
 · rw[if_neg h1];by_cases h2:x.other≠-1/\x.other≠h
   · rw[if_pos h2,if_pos (by omega)]
   · rw[if_neg h2,if_neg (by omega)];simp only;rw[show max h x.other=h from by omega]
theorem zpu {h:Int}{ys:List BkV}{x:BkV}(hx:x.sign≠58)(hx2:x.sign≠91)(ho:0<=x.base)(hh:-1<=h):gO_ h ys x 59=if h=-1 then (0,x.base,ys) else if x.base≠-1/\x.base≠h then (14,h,ys) else (0,h,ys):=by
 unfold gO_ uz_;rw[if_neg (by omega),if_neg hx];by_cases h1:h=-1
 · rw[if_pos h1,if_neg (by omega)];simp only;rw[if_neg (fun hc=>hx2 hc.1)]
 · rw[if_neg h1];by_cases h2:x.base≠-1/\x.base≠h
   · rw[if_pos h2,if_pos (by omega)]
   · rw[if_neg h2,if_neg (by omega)];simp only;rw[if_neg (fun hc=>hx2 hc.1),show x.base=h from by omega]
theorem zpt {h:Int}{ys:List BkV}{x:BkV}(hx:x.sign=91)(hh:-1<=h):gO_ h ys x 93=if h≠-1/\h≠x.base then (14,h,ys) else if x.left=true then (0,x.base,ys) else (0,-1,ys):=by
 unfold gO_ uz_;rw[if_neg (by omega),if_neg (by omega)];by_cases h1:h≠-1/\h≠x.base
 · rw[if_pos h1,if_pos (by omega)]
 · rw[if_neg h1,if_neg (by omega)];simp only;cases hl:x.left with
   | true=>rw[if_neg (by simp),if_pos rfl]
   | false=>rw[if_pos ⟨hx,rfl⟩,if_neg (by simp)]
section
variable {W:World} {g:Nat} {h:Int} {v:Value} {bs ys:List BkV} {x:BkV}
theorem zey (s:Wk W g h v (ys++[x]))(hx:x.sign≠91):Calls Tryz.prog 162 #[.pointer (some ⟨g,0,none⟩)] W (yw_ W g (gO_ h ys x 59)):=by
 have HRB:=hQ_ (s.rb x (by simp));have HSH:=hQ_ (gm_ s);have HHR:=hQ_ s.hr;generalize hb91:(x.sign==91)=b91;generalize hb58:(x.sign==58)=b58;have HPX:=hQ_ (show(ptC x).toArray=#[.bool b91,.int .i64 x.base,.bool b58,.int .i64 x.other,.bool x.left] from by unfold ptC;rw[hb91,hb58]);have HE:=hQ_ (show b58=true->gO_ h ys x 59=if h=-1 then (0,x.other,ys) else if x.other≠-1/\x.other≠h then (14,h,ys) else (0,h,ys) from fun hb=>zpv (by rw[hb]at hb58;simpa using hb58) HRB.o.2.2.1 HHR.o.1);have HE2:=hQ_ (show b58=false->gO_ h ys x 59=if h=-1 then (0,x.base,ys) else if x.base≠-1/\x.base≠h then (14,h,ys) else (0,h,ys) from fun hb=>zpu (by rw[hb]at hb58;simpa using hb58) hx HRB.o.1 HHR.o.1);generalize gO_ h ys x 59=R at HE HE2⊢;clear s hb91 hb58 hx;generalize x.base=xb at *;generalize x.other=xo at *;generalize x.left=xl at *;go_enter Tryz.func162,Tryz.ntmps162;go_wp2_with fail;refine HSH.o.mono ?_;rintro e w1 ⟨v1,rfl,hw1,hf1⟩;rw[HPX.o];have HW1:=hQ_ hw1;have HF1:=hQ_ hf1;clear hw1 hf1;go_upto_region 2 with fail;have hX:=zb_.new w1 252 [.bool b91,.int .i64 xb,.bool b58,.int .i64 xo,.bool xl];have hal:=(Chg.refl [] w1).alloc (.cells #[.bool b91,.int .i64 xb,.bool b58,.int .i64 xo,.bool xl] 252);obtain⟨gX,hgX⟩:∃gX,gX=w1.heap.size:=⟨_,rfl⟩;have hgg:g<gX:=by have:=HW1.o.rec_.lt;omega
 have hgv:∀b,v1.ownBlock=some b->b<gX:=fun b hb=>by have:=(HW1.o.own.lt b hb).2;omega
 have HGX:=hQ_ (And.intro hgg hgv);clear hgg hgv;rw[<-hgX]at hX⊢;have HX:=hQ_ hX;have HW2:=hQ_ (HW1.o.keep hal);have HF2:=hQ_ (HF1.o.new hal);generalize w1.alloc (.cells #[.bool b91,.int .i64 xb,.bool b58,.int .i64 xo,.bool xl] 252)=w2 at HX HW2 HF2⊢;clear hX hal hgX HW1 HF1;have c0:=HW2.o.rec_.cell 0;have g0:=HW2.o.rec_.frozen 0;have x1:=HX.o.cell 1;have x2:=HX.o.cell 2;have x3:=HX.o.cell 3;have x4:=HX.o.cell 4;have f3:=HX.o.frozen 3;have hne:g≠gX:=by have:=HGX.o.1;omega
 have hnv:v1.ownBlock≠some gX:=fun e=>by have:=HGX.o.2 gX e;omega
 have HHI:=hQ_ (show -1<=xo/\xo<=64/\0<=xb/\xb<=64 from⟨HRB.o.2.2.1,HRB.o.2.2.2,HRB.o.1,HRB.o.2.1⟩);go_upto_if 8 with fail;go_cut [] (fun wx=>∃t:Int,Hid (R=if h=-1 then (0,t,ys) else if t≠-1/\t≠h then (14,h,ys) else (0,h,ys))/\Hid (-1<=t/\t<=64)/\Hid (zb_ wx gX 252 [.bool b91,.int .i64 xb,.bool b58,.int .i64 t,.bool xl])/\Hid (Wk wx g h v1 ys)/\Hid (Fr g wkT W wx));case first =>
  cases b58 with
  | true =>
    go_wp2_with fail;go_meet;exact⟨xo,hQ_ (HE.o (by first|rfl|trivial)),hQ_ ⟨HHI.o.1,HHI.o.2.1⟩,HX,HW2,HF2⟩
  | false =>
    have hX3:=HX.o.set_ 3 (.int .i64 xb);have hW3:=HW2.o.far (p:=⟨gX,3,none⟩) hne hnv (.int .i64 xb);have hF3:=HF2.o.setw HX.o (j:=3) (by have:=HGX.o.1;omega) (by simp[wkT]) (.int .i64 xb);go_wp2_with fail;go_meet;exact⟨xb,hQ_ (HE2.o (by first|rfl|trivial)),hQ_ ⟨by have:=HHI.o.2.2.1;omega,HHI.o.2.2.2⟩,hQ_ (by simpa using hX3),hQ_ hW3,hQ_ hF3⟩
 case rest =>
  obtain⟨t,HR,HT,HXt,HWt,HFt⟩:=hcut;obtain⟨w3,rfl⟩:∃w3:World,w3=wc:=⟨_,rfl⟩;clear c0 g0 x1 x2 x3 x4 f3 HX HW2 HF2;have c0:=HWt.o.rec_.cell 0;have g0:=HWt.o.rec_.frozen 0;have x3:=HXt.o.cell 3;by_cases h1:h=-1
  · subst h1;obtain⟨hP2,hF2⟩:=HWt.o.high t HT.o;have HQ:=hQ_ (show yw_ W g R (.returned (.int .i64 0)) _ from⟨HFt.o.trans hF2,by rw[HR.o,if_pos rfl],fun _=>by rw[HR.o,if_pos rfl];exact⟨_,hP2⟩⟩);clear hP2 hF2;go_wp2_with fail;go_ret;exact HQ.o
  · have q1:(h == -1)=false:=(by simpa using h1);by_cases ht:t=-1
    · have qt:(t != -1)=false:=(by simpa using ht);have HQ:=hQ_ (fun (W':World)(hc:Chg [] w3 W')=>show yw_ W g R (.returned (.int .i64 0)) W' from⟨HFt.o.new hc,by rw[HR.o,if_neg h1,if_neg (fun hh=>hh.1 ht)],fun _=>by rw[HR.o,if_neg h1,if_neg (fun hh=>hh.1 ht)];exact⟨_,HWt.o.keep hc⟩⟩);have qt2:(t == -1)=true:=(by simpa using ht);clear ht h1;go_upto_region 6 with fail;go_quiet (fail);have HQ2:=hQ_ (HQ.o _ ((Chg.refl [] w3).drewN nq));go_wp2_with fail;go_ret;exact HQ2.o
    · have qt:(t != -1)=true:=(by simpa using ht);have qt2:(t == -1)=false:=(by simpa using ht);by_cases hth:t=h
      · have qh:(t != h)=false:=(by simpa using hth);have qh2:(t==h)=true:=(by simpa using hth);have HQ:=hQ_ (fun (W':World)(hc:Chg [] w3 W')=>show yw_ W g R (.returned (.int .i64 0)) W' from⟨HFt.o.new hc,by rw[HR.o,if_neg h1,if_neg (fun hh=>hh.2 hth)],fun _=>by rw[HR.o,if_neg h1,if_neg (fun hh=>hh.2 hth)];exact⟨_,HWt.o.keep hc⟩⟩);clear ht h1 hth;go_upto_region 6 with fail;go_quiet (fail);have HQ2:=hQ_ (HQ.o _ ((Chg.refl [] w3).drewN nq));go_wp2_with fail;go_ret;exact HQ2.o
      · have qh:(t != h)=true:=(by simpa using hth);have qh2:(t==h)=false:=(by simpa using hth);have HQ:=hQ_ (fun (W':World)(hc:Chg [] w3 W')=>show yw_ W g R (.returned (.int .i64 14)) W' from⟨HFt.o.new hc,by rw[HR.o,if_neg h1,if_pos ⟨ht,hth⟩],fun hh=>by rw[HR.o,if_neg h1,if_pos ⟨ht,hth⟩]at hh;exact absurd hh (by simp)⟩);clear ht h1 hth;go_upto_region 6 with fail;go_quiet (fail);have HQ2:=hQ_ (HQ.o _ ((Chg.refl [] w3).drewN nq));go_wp2_with fail;go_ret;exact HQ2.o
theorem zag (s:Wk W g h v (ys++[x]))(hx:x.sign=91):Calls Tryz.prog 163 #[.pointer (some ⟨g,0,none⟩)] W (yw_ W g (gO_ h ys x 93)):=by
 have HRB:=hQ_ (s.rb x (by simp));have HSH:=hQ_ (gm_ s);have HHR:=hQ_ s.hr;generalize hb91:(x.sign==91)=b91;generalize hb58:(x.sign==58)=b58;have HPX:=hQ_ (show(ptC x).toArray=#[.bool b91,.int .i64 x.base,.bool b58,.int .i64 x.other,.bool x.left] from by unfold ptC;rw[hb91,hb58]);have HR:=hQ_ (zpt (ys:=ys) hx HHR.o.1);generalize gO_ h ys x 93=R at HR⊢;clear s hb91 hb58 hx;generalize x.base=xb at *;generalize x.other=xo at *;generalize x.left=xl at *;go_enter Tryz.func163,Tryz.ntmps163;go_wp2_with fail;refine HSH.o.mono ?_;rintro e w1 ⟨v1,rfl,hw1,hf1⟩;rw[HPX.o];have HW1:=hQ_ hw1;have HF1:=hQ_ hf1;clear hw1 hf1;go_upto_region 2 with fail;have hX:=zb_.new w1 252 [.bool b91,.int .i64 xb,.bool b58,.int .i64 xo,.bool xl];have hal:=(Chg.refl [] w1).alloc (.cells #[.bool b91,.int .i64 xb,.bool b58,.int .i64 xo,.bool xl] 252);obtain⟨gX,hgX⟩:∃gX,gX=w1.heap.size:=⟨_,rfl⟩;have hgg:g<gX:=by have:=HW1.o.rec_.lt;omega
 have hgv:∀b,v1.ownBlock=some b->b<gX:=fun b hb=>by have:=(HW1.o.own.lt b hb).2;omega
 have HGX:=hQ_ (And.intro hgg hgv);clear hgg hgv;rw[<-hgX]at hX⊢;have HX:=hQ_ hX;have HW2:=hQ_ (HW1.o.keep hal);have HF2:=hQ_ (HF1.o.new hal);generalize w1.alloc (.cells #[.bool b91,.int .i64 xb,.bool b58,.int .i64 xo,.bool xl] 252)=w2 at HX HW2 HF2⊢;clear hX hal hgX HW1 HF1;have c0:=HW2.o.rec_.cell 0;have g0:=HW2.o.rec_.frozen 0;have x1:=HX.o.cell 1;have x2:=HX.o.cell 2;have x3:=HX.o.cell 3;have x4:=HX.o.cell 4;have f3:=HX.o.frozen 3;have HHI:=hQ_ (show 0<=xb/\xb<=64 from⟨HRB.o.1,HRB.o.2.1⟩);by_cases hbad:h≠-1/\h≠xb
 · have HQ:=hQ_ (fun (W':World)(hc:Chg [] w2 W')=>show yw_ W g R (.returned (.int .i64 14)) W' from⟨HF2.o.new hc,by rw[HR.o,if_pos hbad],fun hh=>by rw[HR.o,if_pos hbad]at hh;exact absurd hh (by simp)⟩);have q1:(h != -1)=true:=(by simpa using hbad.1);have q2:(h != xb)=true:=(by simpa using hbad.2);have q3:(h == -1)=false:=(by simpa using hbad.1);have q4:(h==xb)=false:=(by simpa using hbad.2);clear hbad;go_quiet (fail);have HQ2:=hQ_ (HQ.o _ ((Chg.refl [] w2).drewN nq));go_wp2_with fail;go_ret;exact HQ2.o
 · have hR2:=HR.o;rw[if_neg hbad]at hR2;have HR2:=hQ_ hR2;have hcase:h=-1\/(h≠-1/\h=xb):=(by omega);clear hR2 hbad;have HCX:=hQ_ (fun (W':World) (hc:Chg [] w2 W')=>show Wk W' g h v1 ys/\Fr g wkT W W'/\zb_ W' gX 252 [.bool b91,.int .i64 xb,.bool b58,.int .i64 xo,.bool xl] from⟨HW2.o.keep hc,HF2.o.new hc,HX.o.keep hc⟩);rcases hcase with h1|⟨h1,h2⟩
   · have q1:(h != -1)=false:=(by simpa using h1);have q3:(h == -1)=true:=(by simpa using h1);clear h1;go_quiet (fail);obtain⟨hwA,hfA,hxA⟩:=HCX.o _ ((Chg.refl [] w2).drewN nq);generalize w2.drewN nq=w3 at hwA hfA hxA⊢;have HWA:=hQ_ hwA;have HFA:=hQ_ hfA;have HXA:=hQ_ hxA;clear hwA hfA hxA c0 g0 x1 x2 x3 x4 f3;have c0:=HWA.o.rec_.cell 0;have g0:=HWA.o.rec_.frozen 0;go_upto_region 5 with fail;have HWB:=hQ_ (HWA.o.high (-1) (by omega));have HXB:=hQ_ (HXA.o.far (p:=⟨g,0,none⟩) (by have:=HGX.o.1;simp only;omega) (.int .i64 (-1)));generalize w3.setCell ⟨g,0,none⟩ (.int .i64 (-1))=w4 at HWB HXB⊢;clear c0 g0;have c0:=HWB.o.1.rec_.cell 0;have g0:=HWB.o.1.rec_.frozen 0;have x1:=HXB.o.cell 1;have x4:=HXB.o.cell 4;cases xl with
     | true =>
       have HWC:=hQ_ (HWB.o.1.high xb (by have:=HHI.o;omega));have HQ:=hQ_ (show yw_ W g R (.returned (.int .i64 0)) _ from⟨(HFA.o.trans HWB.o.2).trans HWC.o.2,by rw[HR2.o,if_pos (by first|rfl|trivial)],fun _=>by rw[HR2.o,if_pos (by first|rfl|trivial)];exact⟨_,HWC.o.1⟩⟩);go_wp2_with fail;go_ret;exact HQ.o
     | false =>
       have HQ:=hQ_ (show yw_ W g R (.returned (.int .i64 0)) _ from⟨HFA.o.trans HWB.o.2,by rw[HR2.o,if_neg (by simp)],fun _=>by rw[HR2.o,if_neg (by simp)];exact⟨_,HWB.o.1⟩⟩);go_wp2_with fail;go_ret;exact HQ.o
   · have q1:(h != -1)=true:=(by simpa using h1);have q3:(h == -1)=false:=(by simpa using h1);have q2:(h != xb)=false:=(by simpa using h2);have q4:(h==xb)=true:=(by simpa using h2);clear h1 h2;go_quiet (fail);obtain⟨hwA,hfA,hxA⟩:=HCX.o _ ((Chg.refl [] w2).drewN nq);generalize w2.drewN nq=w3 at hwA hfA hxA⊢;have HWA:=hQ_ hwA;have HFA:=hQ_ hfA;have HXA:=hQ_ hxA;clear hwA hfA hxA c0 g0 x1 x2 x3 x4 f3;have c0:=HWA.o.rec_.cell 0;have g0:=HWA.o.rec_.frozen 0;go_upto_region 5 with fail;have HWB:=hQ_ (HWA.o.high (-1) (by omega));have HXB:=hQ_ (HXA.o.far (p:=⟨g,0,none⟩) (by have:=HGX.o.1;simp only;omega) (.int .i64 (-1)));generalize w3.setCell ⟨g,0,none⟩ (.int .i64 (-1))=w4 at HWB HXB⊢;clear c0 g0;have c0:=HWB.o.1.rec_.cell 0;have g0:=HWB.o.1.rec_.frozen 0;have x1:=HXB.o.cell 1;have x4:=HXB.o.cell 4;cases xl with
     | true =>
       have HWC:=hQ_ (HWB.o.1.high xb (by have:=HHI.o;omega));have HQ:=hQ_ (show yw_ W g R (.returned (.int .i64 0)) _ from⟨(HFA.o.trans HWB.o.2).trans HWC.o.2,by rw[HR2.o,if_pos (by first|rfl|trivial)],fun _=>by rw[HR2.o,if_pos (by first|rfl|trivial)];exact⟨_,HWC.o.1⟩⟩);go_wp2_with fail;go_ret;exact HQ.o
     | false =>
       have HQ:=hQ_ (show yw_ W g R (.returned (.int .i64 0)) _ from⟨HFA.o.trans HWB.o.2,by rw[HR2.o,if_neg (by simp)],fun _=>by rw[HR2.o,if_neg (by simp)];exact⟨_,HWB.o.1⟩⟩);go_wp2_with fail;go_ret;exact HQ.o
end
end
section
open Go.RowKit
theorem zix {rs:List Nat}{r:Nat}{ys ys':List TkV}{ph ph':GPh}(h:zO_ ys ph r=some (ys',ph')):ut_ (r::rs) ys ph=ut_ rs ys' ph':=by rw[ut_,h]
theorem ziv {rs:List Nat}{r:Nat}{ys:List TkV}{ph:GPh}(h:zO_ ys ph r=none):ut_ (r::rs) ys ph=none:=by rw[ut_,h]
theorem zeW {w w':World}{B n k:Nat}{e:TypeId}{v:Value}{xs:List Value}{T:List Nat}(h:w.ownsRow B e k v n xs)(hc:Chg T w w')(hT:∀g,v.ownBlock=some g->g∉T):w'.ownsRow B e k v n xs:=by
 refine⟨h.1,?_⟩;rcases h.2 with h1|⟨g,cap,cur,rfl,hb,hg,r⟩
 · exact .inl h1
 · refine .inr ⟨g,cap,cur,rfl,hb,?_,r⟩;have hlt:g<w.heap.size:=by
    rcases Nat.lt_or_ge g w.heap.size with h|h
    · exact h
    · rw[Array.getElem?_eq_none h]at hg;cases hg
   exact(hc.block g hlt (hT g rfl)).trans hg
theorem zaI {w:World}{B n k b:Nat}{e:TypeId}{v:Value}{xs:List Value}{s:ByteArray}{pos:Nat}(h:w.ownsRow B e k v n xs)(hb:w.heap[b]?=some (.stringIter s pos)):v.ownBlock≠some b:=by
 intro hv;rcases h.2 with⟨rfl,_⟩|⟨g,cap,cur,rfl,_,hg,_⟩
 · simp[Value.ownBlock]at hv
 · simp[Value.ownBlock]at hv;subst hv;rw[hg]at hb;injection hb with hb;cases hb
theorem Gl.chg {W W':World}{g:Nat}{v:Value}{ys:List TkV}{ph:GPh}{T:List Nat}(h:Gl W g v ys ph)(hc:Chg T W W')(hg:g∉T)(hv:∀b,v.ownBlock=some b->b∉T):Gl W' g v ys ph:=⟨h.rec_.chg hc hg,zeW h.own hc hv,h.few,h.big⟩
section
variable {w:World}
theorem uE_ (s:ByteArray)(hs:s.size<=9223372036854775807):Calls Tryz.prog 30 #[.string s] w (kQ_ s w):=by
 by_cases hlong:512<s.size
 · have hlI:(512:Int)<(s.size:Int):=(by omega);have HPO:=hQ_ (show kQ_ s w (.returned (.tuple #[.slice none 0 0,.int .i64 3])) w from⟨Chg.refl _ _,.inr ⟨by unfold uo_;rw[if_pos hlong],by unfold zeE;rw[if_pos hlong]⟩⟩);go_enter Tryz.func30,Tryz.ntmps30;go_wp2_with fail;go_ret2;exact HPO.o
 have hlI:¬(512:Int)<(s.size:Int):=by omega
 have HRT:=hQ_ (gH_ s hlong);have HE:=hQ_ (show zeE s=12 from by unfold zeE;rw[if_neg hlong]);have hsz:s.size<=512:=by omega
 clear hlong;go_enter Tryz.func30,Tryz.ntmps30;go_upto_region 5 with fail;have hr1:=zb_.new w 130 [.slice none 0 0,.bool false,.bool false];have hc1:=(Chg.refl [] w).alloc (.cells #[.slice none 0 0,.bool false,.bool false] 130);have hz1:(w.alloc (.cells #[.slice none 0 0,.bool false,.bool false] 130)).heap.size=w.heap.size+1:=Array.size_push _;obtain⟨g,hg⟩:∃g,g=w.heap.size:=⟨_,rfl⟩;rw[<-hg]at hr1 hz1⊢;generalize w.alloc (.cells #[.slice none 0 0,.bool false,.bool false] 130)=w1 at hr1 hc1 hz1⊢;have hI:(w1.iter s 0).heap[w1.heap.size]?=some (.stringIter s 0):=World.iter_heap w1 s 0;have hc0:Chg [] w1 (w1.iter s 0):=(Chg.refl [] w1).alloc _;rw[hz1]at hI;obtain⟨kI,hkI⟩:∃k,k=g+1:=⟨_,rfl⟩;have HK:=hQ_ (show g<kI from by omega);have HGW:=hQ_ (show w.heap.size=g from hg.symm);have HG1:=hQ_ (show Gl (w1.iter s 0) g (.slice none 0 0) [] .idle from⟨hr1.keep hc0,World.ownsRow_nil _ _ _ _,by simp,fun m e=>by cases e⟩);rw[<-hkI]at hI⊢;have HC0:=hQ_ (hc1.new hc0);generalize w1.iter s 0=w2 at hI hc0 HG1 HC0⊢;have HI:=hQ_ hI;clear hI hc0 hkI hr1 hc1 hz1 hg;go_loopw [6] (fun _ wr=>(∃(pos f:Nat)(v:Value)(ys:List TkV)(ph:GPh),Hid (wr.heap[kI]?=some (.stringIter s pos))/\s.size-pos<=f/\Hid (Gl wr g v ys ph)/\Hid (uo_ s=ut_ (zN_ s f pos) ys ph)/\ys.length+(pend ph).length+f<=s.size)/\Hid (Chg [] w wr)) (fun _ wr=>s.size-wr.iterPos kI);case atStart=>exact⟨⟨0,s.size,_,_,_,HI,by omega,HG1,hQ_ (by rw[HRT.o];rfl),by simp[pend]⟩,HC0⟩
 case round =>
  obtain⟨⟨pos,f,v,ys,ph,HIr,hf,HG,HR,hyl⟩,HC⟩:=hrel;by_cases hlt:pos<s.size
  · obtain⟨f',rfl⟩:∃f',f=f'+1:=⟨f-1,by omega⟩;have hnx:=fun ty=>Lib.run_next_any_at (P:=Tryz.prog) wr kI s pos ty HIr.o hlt;go_upto_region 7 with fail;obtain⟨d,hd⟩:∃d,d=(Utf8.decode s pos).2:=⟨_,rfl⟩;obtain⟨x,hx⟩:∃r,r=(Utf8.decode s pos).1:=⟨_,rfl⟩;have hw:=vK_ s pos hlt;have hxm:x<=2147483647:=(by rw[hx];exact decode_le s pos);rw[<-hd]at hw;have HR2:=hQ_ (show uo_ s=ut_ (x::zN_ s f' (pos+d)) ys ph from by rw[HR.o,zN_,if_pos hlt,<-hd,<-hx]);have hci:Chg [kI] wr (wr.iterAt kI s (pos+d)):=⟨rfl,rfl,rfl,by rw[Lib.iterAt_size];exact Nat.le_refl _,fun i _ hn=>Lib.iterAt_other wr kI i s (pos+d) (by simpa using hn)⟩;have HI2:=hQ_ (Lib.iterAt_heap wr kI s pos (pos+d) HIr.o);have HC2:=hQ_ (show Chg [] w (wr.iterAt kI s (pos+d)) from HC.o.then_ hci (fun i hi hl=>by have:=HK.o;have:=HGW.o;simp only[List.mem_cons,List.not_mem_nil,or_false]at hi;omega));have HG2:=hQ_ (show Gl (wr.iterAt kI s (pos+d)) g v ys ph from HG.o.chg hci (by have:=HK.o;simp;omega) (fun b hb=>by
     have:=zaI HG.o.own HIr.o;intro hm;simp only[List.mem_cons,List.not_mem_nil,or_false]at hm;subst hm;exact this hb));rw[<-hd,<-hx];have HMP:=hQ_ (show wr.iterPos kI=pos from by unfold World.iterPos;rw[HIr.o]);have HP2:=hQ_ (show(wr.iterAt kI s (pos+d)).iterPos kI=pos+d from by unfold World.iterPos;rw[HI2.o]);generalize wr.iterAt kI s (pos+d)=w3 at HI2 HC2 HP2 HG2⊢;clear hx hd hnx hci;go_wp2_with fail;refine(ziq HG2.o x hxm (by omega)).mono ?_;rintro e w4 ⟨hfr,ho⟩;have HI4:=hQ_ (hfr.obj HI2.o (by intro _ _ _ h;cases h));have HP4:=hQ_ (show w4.iterPos kI=pos+d from by unfold World.iterPos;rw[HI4.o]);have HC4:=hQ_ (show Chg [] w w4 from(Fr.chg (B:=g) (TS:=glT) ((Fr.of_chg HC2.o).trans hfr) (by have:=HGW.o;omega)));clear hfr;rcases ho with⟨ho,rfl⟩|⟨ys',ph',v',ho,rfl,hG⟩
    · have HPO:=hQ_ (show kQ_ s w (.returned (.tuple #[.slice none 0 0,.int .i64 12])) w4 from⟨HC4.o,.inr ⟨by rw[HR2.o,ziv ho],by rw[HE.o]⟩⟩);clear ho;go_wp2_with fail;go_ret2;exact HPO.o
    · have hyl':ys'.length+(pend ph').length+f'<=s.size:=(by have:=ziu ho;omega);have HR4:=hQ_ (show uo_ s=ut_ (zN_ s f' (pos+d)) ys' ph' from by rw[HR2.o,zix ho]);have HG4:=hQ_ hG;clear ho hG;go_wp2_with fail;go_roundw;(case rel=>exact⟨⟨pos+d,f',v',ys',ph',HI4,by omega,HG4,HR4,hyl'⟩,HC4⟩);case measure=>rw[HP4.o,HMP.o];omega
  · have hnx:=fun ty=>Lib.run_next_end_at (P:=Tryz.prog) wr kI s pos ty HIr.o hlt;have HRE:=hQ_ (show uo_ s=zdK ys ph from by
     rw[HR.o];cases f with
     | zero=>simp[zN_,ut_]
     | succ f=>rw[zN_,if_neg hlt,ut_]);have c2:=HG.o.rec_.cell 2;have c0:=HG.o.rec_.cell 0;cases hwt:waits ph with
    | true =>
      have HPO:=hQ_ (show kQ_ s w (.returned (.tuple #[.slice none 0 0,.int .i64 12])) wr from⟨HC.o,.inr ⟨(by
       rw[HRE.o];cases ph with
       | wait q=>rfl
       | num m=>cases hwt
       | idle=>cases hwt),by rw[HE.o]⟩⟩);rw[hwt]at c2;clear hwt;go_wp2_with fail;go_ret2;exact HPO.o
    | false =>
      have HPO:=hQ_ (show kQ_ s w (.returned (.tuple #[v,.int .i64 0])) wr from⟨HC.o,.inl ⟨ys++pend ph,v,(by
       rw[HRE.o];cases ph with
       | wait q=>cases hwt
       | num m=>rfl
       | idle=>rw[pend,List.append_nil];rfl),by rw[List.length_append];omega,rfl,by
       have:=HG.o.own;rw[List.length_append];exact yk_ this (by have:=HGW.o;omega)⟩⟩);rw[hwt]at c2;obtain⟨A5,n5,c5,rfl,hn5⟩:=HG.o.slice;clear hwt hn5;go_wp2_with fail;go_ret2;exact HPO.o
end
end
section
open Go.RowKit
open Go.Lib (decDigits encodeRune)
structure OwnM (w:World) (B:Nat) (v:Value) (n:Nat) (out:List UInt8):Prop where
  len:out.length=n
  row:∃g cap cur fz,v=.slice (some ⟨g,0,none⟩) n cap/\B<=g/\w.heap[g]?=some (.cells cur 5 fz)/\(fz.2=0\/fz.1=cur.size)/\n<=cap/\cap<=maxLen/\cur.size=cap/\cur.toList.take n=bts out
section
variable {w w':World} {B n:Nat} {v:Value} {out:List UInt8}
theorem OwnM.keep (h:OwnM w B v n out)(hc:Chg [] w w'):OwnM w' B v n out:=by
 obtain⟨hl,g,cap,cur,fz,e,hB,hg,rest⟩:=h;refine⟨hl,g,cap,cur,fz,e,hB,?_,rest⟩;rw[hc.block g (Array.getElem?_eq_some_iff.1 hg).1 (by simp),hg]
theorem OwnM.fr (h:OwnM w B v n out)(hg:w.grownBy w' v.ownBlock):Fr B u8T w w':=by
 obtain⟨hl,g,cap,cur,fz,rfl,hB,hgg,rest⟩:=h;refine⟨hg.os,hg.tape,hg.output,hg.size,fun k hk hc=>?_⟩;refine hg.block k hk (fun e=>?_);simp only[Value.ownBlock,Option.some.injEq]at e;subst e;rcases hc with h1|h1
 · omega
 · exact h1 _ _ _ hgg (by simp)
theorem OwnM.cells (h:OwnM w B v n out):∃g cap,v=.slice (some ⟨g,0,none⟩) n cap/\(∀j u,(bts out)[j]?=some u->w.cell? ((⟨g,0,none⟩:Addr).add j)=some u)/\n<=cap/\cap<=maxLen:=by
 obtain⟨hl,g,cap,cur,fz,rfl,hB,hgg,hf,hnc,hcm,hcs,htk⟩:=h;refine⟨g,cap,rfl,fun j u hu=>?_,hnc,hcm⟩;have hadd:(⟨g,0,none⟩:Addr).add j=⟨g,j,none⟩:=by unfold Addr.add;split<;>simp_all
 rw[hadd,cell_of_row w g j cur _ fz hgg];rw[<-htk,List.getElem?_take]at hu;split at hu
 · simpa using hu
 · cases hu
theorem zhu {g:Nat}{cur:Array Value}{t:TypeId}{fz:Nat×Nat}(hg:w.heap[g]?=some (.cells cur t fz))(hf:fz.2=0\/fz.1=cur.size)(j:Nat)(hj:j<cur.size):w.frozen? ⟨g,j,none⟩=false:=by
 obtain⟨lo,hi⟩:=fz;simp only[World.frozen?,hg,Bool.and_eq_false_iff,decide_eq_false_iff_not];simp only at hf;omega
end
theorem gi_ {α:Type}(l:List α)(o:Nat)(v:α)(h:o<l.length):(l.set o v).take (o+1)=l.take o++[v]:=by
 induction l generalizing o with
 | nil=>simp at h
 | cons a l ih =>
   cases o with
   | zero=>simp
   | succ o=>simp at h⊢;exact ih o h
theorem kV_ (g:Nat)(t:TypeId)(fz:Nat×Nat):∀(vs:List Value)(o:Nat)(cur:Array Value)(w:World),w.heap[g]?=some (.cells cur t fz)->o+vs.length<=cur.size ->
    ∃cur',(w.setCells g o vs).heap[g]?=some (.cells cur' t fz)/\cur'.size=cur.size/\cur'.toList.take (o+vs.length)=cur.toList.take o++vs
  | [],o,cur,w,hg,_=>⟨cur,hg,rfl,by simp⟩
  | v::r,o,cur,w,hg,hl=>by
    have h1:(w.setCell ⟨g,o,none⟩ v).heap[g]?=some (.cells (cur.setIfInBounds o v) t fz):=(by
     rw[setCell_eq_setRow w g o cur t fz v hg];exact setRow_heap w g cur _ t fz hg);have hl':o+(r.length+1)<=cur.size:=hl;obtain⟨c',a,b,c⟩:=kV_ g t fz r (o+1) (cur.setIfInBounds o v) _ h1 (by simp;omega);refine⟨c',a,by rw[b];simp,?_⟩;have e:o+(v::r).length=o+1+r.length:=(by simp only[List.length_cons];omega);rw[e,c,Array.toList_setIfInBounds,gi_ _ _ _ (by simp;omega)];simp
theorem ur_ (g:Nat):∀(vs:List Value)(o:Nat)(w:World),w.grownBy (w.setCells g o vs) (some g)
  | [],_,w=>World.grownBy.refl w _
  | v::r,o,w=>Lib.grownBy_trans (Lib.grownBy_setCell w g o v) (ur_ g r (o+1) _)
theorem zkH (w:World)(tx ty:TypeId)(x:Value)(m:Nat)(new:List UInt8){B n:Nat}{v:Value}{out:List UInt8}(h:OwnM w B v n out)(hs:Go.Src Tryz.prog 1 tx x m (bts new) w)(hB:B<=w.heap.size)(hm:n+m<=1000000) :
    ∃v' w',(Builtin.append_ #[39,tx] ty #[v,x]).run Tryz.prog w=.ok v' w'/\OwnM w' B v' (n+m) (out++new)/\w.grownBy w' v.ownBlock:=by
 obtain⟨i,hi,hz,h1,h2⟩:=info_parts j6_;have hsl:new.length=m:=by have:=hs.newsLen;simpa[bts] using this
 obtain⟨hl,g,cap,cur,fz,rfl,hBg,hg,hf,hnc,hcm,hcs,htk⟩:=h;by_cases hr:n+m<=cap
 · have hlen:(bts new).length=m:=(by simpa[bts] using hsl);have hrun:=run_append_room_src (P:=Tryz.prog) w 39 tx ty 5 i Tryz.underlying39 hi g 0 n cap x m (bts new) (by rw[h1];exact hs) hr
     (fun j hj=>by rw[h1,cell_of_row w g _ cur _ fz hg];simp;omega)
     (fun j hj=>by rw[h1];exact zhu hg hf _ (by omega));rw[h1,Nat.mul_one,Nat.zero_add]at hrun;obtain⟨c',a,b,c⟩:=kV_ g 5 fz (bts new) n cur w hg (by omega);refine⟨_,_,hrun,⟨by rw[List.length_append];omega,g,cap,c',fz,rfl,hBg,a,by rw[b];exact hf,hr,hcm,by rw[b];exact hcs,?_⟩,ur_ g _ _ w⟩;rw[hlen]at c;rw[c,htk];simp[bts]
 · have hold:(Builtin.firstCells i.size n (.slice (some ⟨g,0,none⟩) n cap)).run Tryz.prog w.drew=.ok (bts out).toArray w.drew:=(by
    refine run_firstCells_some w.drew i.size n ⟨g,0,none⟩ n cap (bts out) (by rw[h1];simp[bts,hl]) (fun j u hu=>?_);have hadd:(⟨g,0,none⟩:Addr).add j=⟨g,j,none⟩:=(by unfold Addr.add;split<;>simp_all);rw[hadd];show w.cell? _=_;rw[cell_of_row w g j cur _ fz hg];rw[<-htk,List.getElem?_take]at hu;split at hu
    · simpa using hu
    · cases hu);have hrun:=run_append_grow_src (P:=Tryz.prog) w 39 tx ty 5 i _ Tryz.underlying39 hi hz (some ⟨g,0,none⟩) n cap (bts out) hold x m (bts new) (by rw[h1];exact hs) (by omega) (by omega)
     (by rw[h2];exact growslice_fits (by omega) (by omega));have hge:=grownCap_ge w (n+m) cap 5;refine⟨_,_,hrun,⟨by rw[List.length_append];omega,w.heap.size,_,_,(0,0),rfl,hB,heap_alloc_new w.drew _,.inl rfl,hge,grownCap_le_maxLen w (n+m) cap _ (by unfold maxLen;omega),?_,?_⟩,⟨rfl,rfl,rfl,by simp,fun k hk _=>heap_alloc_old w.drew _ hk⟩⟩
   · simp only[Array.size_append,List.size_toArray,size_zeroCells,List.length_append];simp[bts,Value.cells,hl,hsl];omega
   · have:n+m=(bts out++bts new).length:=(by simp[bts,hl,hsl]);simp only[Array.toList_append];rw[this,List.take_left];simp[bts]
section
variable (w:World)
theorem yp_ {ops:Array Oper}{rest:List Oper}{o:Oper}{a:Act}{Q:Exit->Act->World->Prop}(hgd:o.guard=none)(s x:Operand)(tx:TypeId)
    (hop:o.op=Op.call { callee:=Callee.builtin Builtin.append,args:=#[s,x],argTypes:=#[39,tx] }) {B n:Nat} {v:Value} {out:List UInt8} (hs:a.eval s=v) (h:OwnM w B v n out)
    (X:Value) (m:Nat) (new:List UInt8) (hx:a.eval x=X) (hsrc:Go.Src Tryz.prog 1 tx X m (bts new) w) (hB:B<=w.heap.size) (hm:n+m<=1000000)
    (hK:∀v' w',OwnM w' B v' (n+m) (out++new)->w.grownBy w' v.ownBlock->wpList Tryz.prog ops Q rest (a.put o.dst v') w'):wpList Tryz.prog ops Q (o::rest) a w:=by
      refine wpList_plain hgd fun K hK'=>?_;obtain⟨v',w',hrun,r1,r2⟩:=zkH w tx o.type X m new h hsrc hB hm;unfold Oper.wp;simp[execOp,hop,resolve,invoke,builtin,hs,hx,hrun,Result.andThen];exact hK' _ _ (hK v' w' r1 r2)
end
def WrM (B:Nat)(w:World)(out:List UInt8)(e:Ending)(w':World):Prop :=
 ∃v' n',e=.returned v'/\n'=out.length/\OwnM w' B v' n' out/\Fr B u8T w w'
end
section
open Go.RowKit
open Go.Lib (decDigits encodeRune)
set_option linter.unusedSimpArgs false
variable {w:World} {B n:Nat} {v:Value} {out:List UInt8}
theorem uw_ (w:World)(xs:List Value)(m:Nat)(h1:∀u∈xs,u.oneCell'=true)(hl:xs.length=m):Go.Src Tryz.prog 1 39 (.slice (some ⟨w.heap.size,0,none⟩) m m) m xs (w.alloc (.cells xs.toArray 5)) :=
 Go.Src.ofSlice _ Tryz.underlying39 ⟨w.heap.size,0,none⟩ m m xs (by rw[hl,Nat.mul_one]) (zL_ _ _ _) h1
theorem OwnM.wrote {w':World}{W:World}{v':Value}{m:Nat}{new:List UInt8}(h:OwnM w B v n out)(hc:Chg [] w W)(ho:OwnM w' B v' (n+m) (out++new))(hg:W.grownBy w' v.ownBlock):WrM B w (out++new) (.returned v') w' :=
 ⟨v',n+m,rfl,ho.len.symm,ho,(Fr.of_chg hc).trans ((h.keep hc).fr hg)⟩
theorem zfi (r:Int)(h0:128<=r)(h1:r<=2047)(ho:OwnM w B v n out)(hB:B<=w.heap.size)(hm:n<=900000):Calls Tryz.prog 64 #[v,.int .i32 r] w (WrM B w (out++encodeRune r)):=by
 have HE:=hQ_ (show bts (encodeRune r)=[.int .u8 (192+r/64),.int .u8 (128+r%64)] from by rw[yq_,Lib.byteCells_encodeRune,Lib.runeCells,Lib.encodeRuneZ_two h0 h1];rfl);have HO:=hQ_ ho;clear ho;go_enter Tryz.func64,Tryz.ntmps64;go_wp2_with (
  at_builtin;refine yp_ _ rfl _ _ _ rfl rfl (HO.o.keep ((Chg.refl [] w).alloc (.cells #[.int .u8 (192+r/64),.int .u8 (128+r%64)] 5))) (.slice (some ⟨w.heap.size,0,none⟩) 2 2) 2 (encodeRune r) rfl ?src ?hB ?hm ?_);case src =>
  rw[HE.o];exact uw_ w [.int .u8 (192+r/64),.int .u8 (128+r%64)] 2 (by intro u hu;simp at hu;rcases hu with rfl|rfl<;>rfl) rfl
 case hB=>simp;omega
 case hm=>omega
 intro v' w2 ho2 hg2
 go_wp2
 go_ret;exact HO.o.wrote ((Chg.refl [] w).alloc _) ho2 hg2
theorem zhK (r:Int)(h0:2048<=r)(h1:r<55296)(ho:OwnM w B v n out)(hB:B<=w.heap.size)(hm:n<=900000):Calls Tryz.prog 64 #[v,.int .i32 r] w (WrM B w (out++encodeRune r)):=by
 have HE:=hQ_ (show bts (encodeRune r)=[.int .u8 (224+r/4096),.int .u8 (128+r/64%64),.int .u8 (128+r%64)] from by rw[yq_,Lib.byteCells_encodeRune,Lib.runeCells,Lib.encodeRuneZ_three (.inl ⟨h0,h1⟩)];rfl);have HO:=hQ_ ho;clear ho;go_enter Tryz.func64,Tryz.ntmps64;go_wp2_with (
  at_builtin;refine yp_ _ rfl _ _ _ rfl rfl (HO.o.keep ((Chg.refl [] w).alloc (.cells #[.int .u8 (224+r/4096),.int .u8 (128+r/64%64),.int .u8 (128+r%64)] 5))) (.slice (some ⟨w.heap.size,0,none⟩) 3 3) 3 (encodeRune r) rfl ?src ?hB ?hm ?_);case src =>
  rw[HE.o];exact uw_ w [.int .u8 (224+r/4096),.int .u8 (128+r/64%64),.int .u8 (128+r%64)] 3 (by intro u hu;simp at hu;rcases hu with rfl|rfl|rfl<;>rfl) rfl
 case hB=>simp;omega
 case hm=>omega
 intro v' w2 ho2 hg2
 go_wp2
 go_ret;exact HO.o.wrote ((Chg.refl [] w).alloc _) ho2 hg2
theorem zhL (r:Int)(h0:57343<r)(h1:r<=65535)(ho:OwnM w B v n out)(hB:B<=w.heap.size)(hm:n<=900000):Calls Tryz.prog 64 #[v,.int .i32 r] w (WrM B w (out++encodeRune r)):=by
 have HE:=hQ_ (show bts (encodeRune r)=[.int .u8 (224+r/4096),.int .u8 (128+r/64%64),.int .u8 (128+r%64)] from by rw[yq_,Lib.byteCells_encodeRune,Lib.runeCells,Lib.encodeRuneZ_three (.inr ⟨h0,h1⟩)];rfl);have HO:=hQ_ ho;clear ho;go_enter Tryz.func64,Tryz.ntmps64;go_wp2_with (
  at_builtin;refine yp_ _ rfl _ _ _ rfl rfl (HO.o.keep ((Chg.refl [] w).alloc (.cells #[.int .u8 (224+r/4096),.int .u8 (128+r/64%64),.int .u8 (128+r%64)] 5))) (.slice (some ⟨w.heap.size,0,none⟩) 3 3) 3 (encodeRune r) rfl ?src ?hB ?hm ?_);case src =>
  rw[HE.o];exact uw_ w [.int .u8 (224+r/4096),.int .u8 (128+r/64%64),.int .u8 (128+r%64)] 3 (by intro u hu;simp at hu;rcases hu with rfl|rfl|rfl<;>rfl) rfl
 case hB=>simp;omega
 case hm=>omega
 intro v' w2 ho2 hg2
 go_wp2
 go_ret;exact HO.o.wrote ((Chg.refl [] w).alloc _) ho2 hg2
theorem zci (r:Int)(h0:65536<=r)(h1:r<=1114111)(ho:OwnM w B v n out)(hB:B<=w.heap.size)(hm:n<=900000):Calls Tryz.prog 64 #[v,.int .i32 r] w (WrM B w (out++encodeRune r)):=by
 have HE:=hQ_ (show bts (encodeRune r)=[.int .u8 (240+r/262144),.int .u8 (128+r/4096%64),.int .u8 (128+r/64%64),.int .u8 (128+r%64)] from by rw[yq_,Lib.byteCells_encodeRune,Lib.runeCells,Lib.encodeRuneZ_four h0 h1];rfl);have HO:=hQ_ ho;clear ho;go_enter Tryz.func64,Tryz.ntmps64;go_wp2_with (
  at_builtin;refine yp_ _ rfl _ _ _ rfl rfl (HO.o.keep ((Chg.refl [] w).alloc (.cells #[.int .u8 (240+r/262144),.int .u8 (128+r/4096%64),.int .u8 (128+r/64%64),.int .u8 (128+r%64)] 5))) (.slice (some ⟨w.heap.size,0,none⟩) 4 4) 4 (encodeRune r) rfl ?src ?hB ?hm ?_);case src =>
  rw[HE.o];exact uw_ w [.int .u8 (240+r/262144),.int .u8 (128+r/4096%64),.int .u8 (128+r/64%64),.int .u8 (128+r%64)] 4 (by intro u hu;simp at hu;rcases hu with rfl|rfl|rfl|rfl<;>rfl) rfl
 case hB=>simp;omega
 case hm=>omega
 intro v' w2 ho2 hg2
 go_wp2
 go_ret;exact HO.o.wrote ((Chg.refl [] w).alloc _) ho2 hg2
theorem znN {r:Int}(h:yo_ r=true):(0<=r/\r<=127)\/(128<=r/\r<=2047)\/(2048<=r/\r<55296)\/(57343<r/\r<=65535)\/(65536<=r/\r<=1114111):=by
 by_cases hs:yP_ r=true
 · have:97<=r/\r<=122:=(by
    unfold yP_ at hs;simpa using hs);omega
 · have hs':yP_ r=false:=(by simpa using hs);by_cases h2:255<r
   · rw[kx_ hs' h2]at h;unfold vM_ at h;simp at h;omega
   · rw[zdw hs' h2]at h;cases h
theorem zfj (r:Int)(hr:yo_ r=true)(ho:OwnM w B v n out)(hB:B<=w.heap.size)(hm:n<=900000):Calls Tryz.prog 31 #[v,.int .i32 r] w (WrM B w (out++encodeRune r)):=by
 have HN:=hQ_ (znN hr);have HO:=hQ_ ho;clear ho hr;by_cases h127:r<=127
 · have h0:0<=r:=(by have:=HN.o;omega);have HE:=hQ_ (show bts (encodeRune r)=[.int .u8 r] from by rw[yq_,Lib.byteCells_encodeRune,Lib.runeCells,Lib.encodeRuneZ_one h0 h127];rfl);go_enter Tryz.func31,Tryz.ntmps31;go_wp2_with (
    at_builtin;refine yp_ _ rfl _ _ _ rfl rfl (HO.o.keep ((Chg.refl [] w).alloc (.cells #[.int .u8 r] 5))) (.slice (some ⟨w.heap.size,0,none⟩) 1 1) 1 (encodeRune r) rfl ?src ?hB ?hm ?_);case src =>
    rw[HE.o];exact uw_ w [.int .u8 r] 1 (by intro u hu;simp at hu;subst hu;rfl) rfl
   (case hB=>simp;omega);(case hm=>omega);intro v' w2 ho2 hg2
   go_wp2
   go_ret;exact HO.o.wrote ((Chg.refl [] w).alloc _) ho2 hg2
 · have h128:128<=r:=(by omega);have hmx:r<=1114111:=(by have:=HN.o;omega);have HC:=hQ_ (show Calls Tryz.prog 64 #[v,.int .i32 r] w (WrM B w (out++encodeRune r)) from by
    rcases HN.o with h|h|h|h|h
    · omega
    · exact zfi r h.1 h.2 HO.o hB hm
    · exact zhK r h.1 h.2 HO.o hB hm
    · exact zhL r h.1 h.2 HO.o hB hm
    · exact zci r h.1 h.2 HO.o hB hm);go_enter Tryz.func31,Tryz.ntmps31;go_wp2_with (
    go_at_call 64;refine HC.o.mono ?_;rintro e w5 ⟨v',n',rfl,hn',ho',hf'⟩);go_ret;exact⟨v',n',rfl,hn',ho',hf'⟩
end
end Go.Proofs.YtcbcfcdmdedefaaGreatDoor
