import Derived.Test.YtcbcfcdmdedefaaGreatDoorZTA17
import Derived.Test.YtcbcfcdmdedefaaGreatDoorZTA19
set_option maxRecDepth 100000
set_option maxHeartbeats 16000000
namespace Go.Proofs.YtcbcfcdmdedefaaGreatDoor
open Go.RowKit
theorem zoa {L u m:Nat}(h:yD_ (L:Int) (u:Int) (m:Int)=true)(hm:m<=64):u+(18+66*m)<=L*64:=by
 unfold yD_ at h;rw[Bool.and_eq_true,decide_eq_true_iff,decide_eq_true_iff]at h;have h2:=h.2;unfold zcm ux_ kw_ at h2;rw[if_neg (by omega),if_neg (by omega)]at h2;omega
theorem zhR {s:St}{x:SV}{ms:List (List ChV)}(h:Kept s x ms)(y:SV)(hy:y.pages=x.pages/\y.named=x.named/\y.L=x.L/\y.P=x.P/\y.E=x.E):xL_ (ckS s y) x.L=xL_ s x.L:=by
 obtain⟨y1,y2,y3,y4,y5⟩:=hy;obtain⟨l1,l2,l3⟩:=h.lens;have h1:=zj_.1 h.rt;have hr:zq_ y.L y.P y.E s.V.length=true:=by rw[y3,y4,y5];exact h.rt
 have hp:y.pages.length=y.P:=by rw[y1,y4];exact l1
 have h64:∀l∈y.pages,l.length=64:=by rw[y1];exact l3
 exact j5_ (vS_ s y) (by omega) (fun j hj1 hj2=>by rw[v6_ h.gd hr hp h64,if_neg (by omega),if_neg (by omega)]) x.L (Nat.le_refl _)
section
variable {w:World} {p bL bS bW:Nat} {s:St} {x:SV} {ms:List (List ChV)}
def zjS (w:World)(p bL bS bW:Nat)(s:St)(x:SV)(e:Ending)(w':World):Prop :=
 ∃ g gN v s' x',e=.returned (.tuple #[.pointer (some ⟨g,0,none⟩),.int .i64 0])/\w.heap.size<=g/\w.heap.size<=gN/\Sto w' ⟨p,bL,bS,bW,g,gN,[]⟩ (flA s') x' v/\Kept (flA s') x' [] /\
   x'.pages=x.pages/\x'.L=x.L/\x'.P=x.P/\x'.E=x.E+1/\x'.used=0/\x'.seq=0/\xL_ (flA s') x.L=xL_ s x.L/\Chg [bL,bS,bW] w w'
theorem zjF (hd:yx_ w p bL bS bW s)(hk:Kept s x ms)(hno:¬zS_ (xL_ s x.L) (x.E+1) 0)(hE:x.E<4294967295) :
    Calls Tryz.prog 41 #[.pointer (some ⟨p,0,none⟩)] w (zjS w p bL bS bW s x):=by
 refine(zdu hd).mono ?_;rintro e w' hO;rw[um_,hk.best]at hO;have h1:=zj_.1 hk.rt;have ho:=hk.open_;rcases hO with⟨h0,_⟩|⟨h0,_⟩|⟨_,_,g,gN,v,rfl,hg,hgN,hs,hc⟩
 · have h0':x.E=0:=h0;omega
 · have h0':x.E=4294967295:=h0;omega
 · have hc2:=hk.ck _ ho (by omega) hno;have hl:=zhR hk _ ho;exact⟨g,gN,v,(homeN (flA s) (openV s ⟨x.L,x.P,x.E⟩) (openV s ⟨x.L,x.P,x.E⟩).P |> flA).write (((openV s ⟨x.L,x.P,x.E⟩).E+1)%2) (z3_ (openV s ⟨x.L,x.P,x.E⟩).L (openV s ⟨x.L,x.P,x.E⟩).P ((openV s ⟨x.L,x.P,x.E⟩).E+1)),_,rfl,hg,hgN,hs,hc2,ho.1,ho.2.2.1,ho.2.2.2.1,by show(openV s ⟨x.L,x.P,x.E⟩).E+1=_;rw[ho.2.2.2.2],rfl,rfl,hl,hc⟩
end
def jc_ (T:List UInt8)(p P k:Nat):List (List UInt8):=((qB_ T p).map Prod.snd).take k++List.replicate (P-k) (zm_ 64)
theorem v1_ (T:List UInt8)(p P k:Nat)(h:k<=1+zs_ T.length+p)(hP:k<=P):(jc_ T p P k).length=P:=by
 unfold jc_;rw[List.length_append,List.length_take,List.length_map,xo_,List.length_replicate];omega
theorem zjW (T:List UInt8)(p P k:Nat)(h:k<1+zs_ T.length+p)(hP:k<P){b:List UInt8}(hb:(qB_ T p)[k]?=some (k,b))(j:Nat){z:List UInt8}(hz:(jc_ T p P (k+1))[j]?=some z):(j=k/\z=b)\/(j≠k/\(jc_ T p P k)[j]?=some z):=by
 have hl:∀q,q<=1+zs_ T.length+p->(((qB_ T p).map Prod.snd).take q).length=q:=fun q hq=>by
  rw[List.length_take,List.length_map,xo_];omega
 unfold jc_ at hz⊢;rcases Nat.lt_trichotomy j k with hj|hj|hj
 · right
   refine⟨by omega,?_⟩;rw[List.getElem?_append_left (by rw[hl _ (by omega)];omega),List.getElem?_take,if_pos (by omega)]at hz;rw[List.getElem?_append_left (by rw[hl _ (by omega)];omega),List.getElem?_take,if_pos hj];exact hz
 · left
   subst hj;rw[List.getElem?_append_left (by rw[hl _ (by omega)];omega),List.getElem?_take,if_pos (by omega),List.getElem?_map,hb]at hz;simp only[Option.map_some]at hz;injection hz with hz;exact⟨rfl,hz.symm⟩
 · right
   refine⟨by omega,?_⟩;rw[List.getElem?_append_right (by rw[hl _ (by omega)];omega),hl _ (by omega),List.getElem?_replicate]at hz;rw[List.getElem?_append_right (by rw[hl _ (by omega)];omega),hl _ (by omega),List.getElem?_replicate];split at hz
   · rw[if_pos (by omega)];exact hz
   · cases hz
theorem zdm (T:List UInt8):∀k,(∀i,i<k->i*64<=T.length)->((plT T k).map Prod.snd).flatten=T.take (k*64)++zm_ (k*64-(T.take (k*64)).length)
  | 0,_=>by simp[plT,zm_]
  | k+1,h=>by
    have ih:=zdm T k (fun i hi=>h i (by omega));have hk:=h k (by omega);have e0:(T.take (k*64)).length=k*64:=(by rw[List.length_take];omega);rw[e0,Nat.sub_self,show zm_ 0=[] from rfl,List.append_nil]at ih;rw[plT,List.map_append,List.flatten_append,ih];show T.take (k*64)++[pgT T k].flatten=_;rw[show[pgT T k].flatten=pgT T k from by simp];unfold pgT;have e1:T.take ((k+1)*64)=T.take (k*64)++(T.drop (k*64)).take 64:=(by
     rw[show(k+1)*64=k*64+64 from by omega,List.take_add]);rw[e1,<-List.append_assoc,List.length_append,e0];congr 2;omega
theorem zdn (f:Nat):∀k,((plM f k).map Prod.snd).flatten=zm_ (k*64)
  | 0=>by simp[plM,zm_]
  | k+1=>by
    rw[plM,List.map_append,List.flatten_append,zdn f k];show zm_ (k*64)++[zm_ 64].flatten=_;rw[show[zm_ 64].flatten=zm_ 64 from by simp];unfold zm_;rw[List.replicate_append_replicate];congr 1;omega
theorem zcR (T:List UInt8)(p P:Nat):jc_ T p P (1+zs_ T.length+p)=yB_ T.length p::((plT T (zs_ T.length)).map Prod.snd++((plM (1+zs_ T.length) p).map Prod.snd++List.replicate (P-(1+zs_ T.length+p)) (zm_ 64))):=by
 unfold jc_;rw[List.take_of_length_le (by rw[List.length_map,xo_];exact Nat.le_refl _)];unfold qB_;simp
theorem zgb (T:List UInt8)(p P:Nat)(hT:T.length<=2048)(hp:p<=64)(hP:1+zs_ T.length+p<=P):xC_ (jc_ T p P (1+zs_ T.length+p)) T p/\(((jc_ T p P (1+zs_ T.length+p)).drop (1+zs_ T.length)).take p).flatten=zm_ (p*64):=by
 obtain⟨m1,m2,m3⟩:=znO T.length p hT hp;have hlt:((plT T (zs_ T.length)).map Prod.snd).length=zs_ T.length:=by rw[List.length_map,vr_]
 have hlm:((plM (1+zs_ T.length) p).map Prod.snd).length=p:=by rw[List.length_map,ku_]
 have hfl:=zdm T (zs_ T.length) (fun i hi=>by unfold zs_ at hi;omega);have hle:T.length<=zs_ T.length*64:=by unfold zs_;omega
 rw[List.take_of_length_le hle]at hfl;refine⟨⟨fun z hz=>?_,yB_ T.length p,_,zcR T p P,m3,m2,?_,?_,?_⟩,?_⟩
 · obtain⟨i,hi,rfl⟩:=List.getElem_of_mem hz;rw[v1_ T p P _ (Nat.le_refl _) hP]at hi;unfold jc_ at hz⊢;have hl:(((qB_ T p).map Prod.snd).take (1+zs_ T.length+p)).length=1+zs_ T.length+p:=(by rw[List.length_take,List.length_map,xo_];omega);rcases List.mem_append.1 hz with h|h
   · have h2:=List.mem_of_mem_take h;rw[List.mem_map]at h2;obtain⟨x,hx,e⟩:=h2;obtain⟨k,hk,rfl⟩:=List.getElem_of_mem hx;obtain⟨b,hb,hb64⟩:=zcc T p k (by rw[xo_]at hk;exact hk);rw[List.getElem?_eq_getElem hk]at hb;injection hb with hb;rw[<-e,hb];exact hb64
   · rw[List.mem_replicate]at h;rw[h.2,zE_]
 · rw[m1,v1_ T p P _ (Nat.le_refl _) hP];omega
 · rw[m1,List.take_left' hlt,hfl,List.take_left]
 · rw[m1,List.take_left' hlt,hfl,List.drop_left];intro b hb;unfold zm_ at hb;exact(List.mem_replicate.1 hb).2
 · rw[zcR,show 1+zs_ T.length=zs_ T.length+1 from by omega,List.drop_succ_cons,List.drop_left' hlt,List.take_left' (by rw[show zs_ T.length+1=1+zs_ T.length from by omega];exact hlm)];exact zdn _ p
theorem qQ_:∀(l:List ChV)(last P:Int),(∀(i:Nat)(a:ChV),l[i]?=some a->a.page=last+1+(i:Int)/\a.page<P/\a.bn=64)->yJ_ last P l=true
  | [],_,_,_=>rfl
  | a::l,last,P,h=>by
    obtain⟨h1,h2,h3⟩:=h 0 a rfl;have h4:=qQ_ l a.page P (fun i b hb=>by
     obtain⟨g1,g2,g3⟩:=h (i+1) b hb;exact⟨by omega,g2,g3⟩);unfold yJ_;rw[h4,decide_eq_false (by omega),decide_eq_false (by omega),decide_eq_false (by omega)];rfl
section
variable {w:World} {B P p:Nat} {T:List UInt8} {ls:List ChV} {v:Value}
theorem zig (h:qv_ ls (qB_ T p))(hok:∀a∈ls,RMade w B a)(hP:1+zs_ T.length+p<=P)(hP64:P<=64):InL P ls:=by
 have hl:=h.len;rw[xo_]at hl;refine⟨fun a ha=>?_,?_,by omega⟩
 · have h1:=hok a ha;exact⟨⟨h1.p.1,h1.p.2,h1.bn⟩,h1.bl⟩
 · unfold zF_;rw[decide_eq_true (show(P:Int)<=64 by omega),Bool.true_and];refine qQ_ ls (-1) P fun i a ha=>?_;have hi:i<ls.length:=(List.getElem?_eq_some_iff.1 ha).1;obtain⟨b,hb,_⟩:=zcc T p i (by omega);obtain⟨e1,_⟩:=h.at ha hb;have e2:a.page=(i:Int):=e1;exact⟨by omega,by omega,(hok a (List.mem_of_getElem? ha)).bn⟩
theorem zgc (T:List UInt8)(p P:Nat):jc_ T p P 0=List.replicate P (zm_ 64):=by simp[jc_]
theorem zgd (T:List UInt8)(p P k:Nat)(h:k<1+zs_ T.length+p)(hP:k<P){b:List UInt8}(hb:(qB_ T p)[k]?=some (k,b)):jc_ T p P (k+1)=(jc_ T p P k).set k b:=by
 have hl1:=v1_ T p P (k+1) (by omega) (by omega);have hl0:=v1_ T p P k (by omega) (by omega);refine List.ext_getElem? fun j=>?_;rcases Nat.lt_or_ge j P with hj|hj
 · have hz:(jc_ T p P (k+1))[j]?=some ((jc_ T p P (k+1))[j]'(by omega)):=List.getElem?_eq_getElem (by omega);rcases zjW T p P k h hP hb j hz with⟨rfl,e⟩|⟨hne,e⟩
   · rw[hz,e,List.getElem?_set_self (by omega)]
   · rw[hz,List.getElem?_set_ne (Ne.symm hne),e]
 · rw[List.getElem?_eq_none (by omega),List.getElem?_eq_none (by rw[List.length_set];omega)]
theorem k5_ (h:qv_ ls (qB_ T p))(hP:1+zs_ T.length+p<=P):∀k,k<=1+zs_ T.length+p->zX_ (List.replicate P (zm_ 64)) (ls.take k)=jc_ T p P k
  | 0,_=>by rw[List.take_zero,zgc];rfl
  | k+1,hk=>by
    have hl:=h.len;rw[xo_]at hl;obtain⟨b,hb,_⟩:=zcc T p k (by omega);have ha:ls[k]?=some (ls[k]'(by omega)):=List.getElem?_eq_getElem (by omega);obtain⟨e1,e2⟩:=h.at ha hb;have e1':(ls[k]'(by omega)).page=(k:Int):=e1;have e2':(ls[k]'(by omega)).B=b:=e2;rw[qn_ _ ls k _ ha,k5_ h hP k (by omega),zgd T p P k (by omega) (by omega) hb];unfold yV_;rw[if_pos (by rw[e1',v1_ T p P k (by omega) (by omega)];omega),e1',e2',Int.toNat_natCast]
theorem ja_ (h:qv_ ls (qB_ T p))(hP:1+zs_ T.length+p<=P):zX_ (List.replicate P (zm_ 64)) ls=jc_ T p P (1+zs_ T.length+p):=by
 have:=k5_ h hP (1+zs_ T.length+p) (Nat.le_refl _);rwa[List.take_of_length_le (by rw[h.len,xo_];exact Nat.le_refl _)]at this
theorem zgU (h:w.ownsRow B 123 2 v ls.length (xV_ ls))(hok:∀a∈ls,RMade w B a){D:List Nat}(hD:∀i∈D,i<B):∃C d,v=.slice C ls.length d/\ChsD D w C ls:=by
 obtain⟨A,c,rfl,hl2,hch,_,_,_⟩:=jr_ h (fun a ha=>(hok a ha).ok);have hb:=gy_ h rfl;refine⟨A,c,rfl,⟨hch,fun _ ad e hd=>?_,fun a ha _ ad e hd=>?_⟩⟩
 · have h1:=hD _ hd;have h2:=hb ad e;omega
 · obtain⟨g,r,hg,hB,_⟩:=(hok a ha).b;rw[hg]at e;injection e with e;subst e;have h1:g<B:=hD _ hd;omega
end
theorem ziH {s:St}(hg:Gd s)(L P:Nat)(h2:2+L+P<=s.V.length):z4_ (fmt s L P) (L:Int) P=List.replicate P (zm_ 64):=by
 refine List.ext_getElem? fun j=>?_;unfold z4_;rw[Int.toNat_natCast];rcases Nat.lt_or_ge j P with hj|hj
 · rw[List.getElem?_replicate,if_pos hj,List.getElem?_map,List.getElem?_range hj];have:=uP_ hg L P h2 (2+L+j) (by omega);rw[if_neg (by omega)]at this;simp only[Option.map_some];exact congrArg some this
 · rw[List.getElem?_eq_none (by simp;exact hj),List.getElem?_eq_none (by simp;exact hj)]
section
variable {w:World} {p bL bS bW:Nat} {s:St}
def jt_ (E0:Nat)(w:World)(p bL bS bW L P nV:Nat)(e:Ending)(w':World):Prop :=
 ∃ g gN v s' x',e=.returned (.tuple #[.pointer (some ⟨g,0,none⟩),.int .i64 0])/\w.heap.size<=g/\w.heap.size<=gN/\Sto w' ⟨p,bL,bS,bW,g,gN,[]⟩ s' x' v/\KeptZ s' x' []/\x'.L=L/\x'.P=P/\x'.E=E0 /\
   x'.pages=List.replicate P (zm_ 64)/\x'.used=0/\x'.seq=0/\s'.V.length=nV/\Chg [bL,bS,bW] w w'
theorem zce (hg:Gd s)(L P:Nat)(hr:zq_ L P 1 s.V.length=true)(hd:yx_ w p bL bS bW (fmt s L P)) :
    Calls Tryz.prog 41 #[.pointer (some ⟨p,0,none⟩)] w (jt_ 2 w p bL bS bW L P s.V.length):=by
 refine(zdu hd).mono ?_;rintro e w' hO;rw[um_,zec hg L P hr]at hO;have h2:=zj_.1 hr;have hk:=(zdA hg L P hr).1;have ho:=hk.open_;rcases hO with⟨h0,_⟩|⟨h0,_⟩|⟨_,_,g,gN,v,rfl,hg1,hgN,hs,hc⟩
 · exact absurd h0 (by show ¬(1:Nat)=0;omega)
 · exact absurd h0 (by show ¬(1:Nat)=4294967295;omega)
 · have o1:(openV (fmt s L P) ⟨L,P,1⟩).pages=z4_ (fmt s L P) (L:Int) P:=ho.1;have o3:(openV (fmt s L P) ⟨L,P,1⟩).L=L:=ho.2.2.1;have o4:(openV (fmt s L P) ⟨L,P,1⟩).P=P:=ho.2.2.2.1;have o5:(openV (fmt s L P) ⟨L,P,1⟩).E=1:=ho.2.2.2.2;exact⟨g,gN,v,_,_,rfl,hg1,hgN,hs,zlj hg L P hr,o3,o4,by show(openV (fmt s L P) ⟨L,P,1⟩).E+1=2;rw[o5],by show(openV (fmt s L P) ⟨L,P,1⟩).pages=_;rw[o1,ziH hg L P (by omega)],rfl,rfl,by rw[vS_,kH_],hc⟩
end
theorem xb_ (pg ms:Int)(l:List FnV):(zH_ pg ms l).1.length<=2048/\((zH_ pg ms l).2=0->0<=pg/\pg<=ms/\ms<=64):=by
 by_cases hr:z9_ pg ms l=0
 · have hu:zH_ pg ms l=if 2048<(utx pg ms l).length then ([],3) else (utx pg ms l,0):=(by unfold zH_;rw[if_pos hr]);have hR:=x5_.1 hr;refine⟨?_,fun _=>⟨hR.p0,hR.pm,hR.m64⟩⟩;rw[hu];split
   · simp
   · simp only;omega
 · have hu:zH_ pg ms l=([],z9_ pg ms l):=(by unfold zH_;rw[if_neg hr]);rw[hu];exact⟨by simp,fun h=>absurd h hr⟩
section
variable {P0:Program} {T:Turns} {w0:World} {a0:Act} {ops:List Oper} {Q:Exit->Act->World->Prop} {F:Said} {k:Nat} {rest:List Oper}
  {d:Option Tmp} {ty:TypeId} {pos:String} {af:Array Go.Edge} {g:Option (Nat×Bool)}
def us_ (B:Nat)(cs:List (Nat×List UInt8))(v:Value)(W:World):Prop:=∃ls,W.ownsRow B 123 2 v ls.length (xV_ ls)/\(∀a∈ls,RMade W B a)/\qv_ ls cs
def zkS (B:Nat)(cs:List (Nat×List UInt8)):yI_:=fun v W=>us_ B cs v W
def zqb (B:Nat)(x:List (Nat×List UInt8)×Int):yI_:=fun v W=>∃u,v=.tuple #[u,.int .i64 x.2]/\us_ B x.1 u W
theorem us_.keep {B:Nat}{cs:List (Nat×List UInt8)}{v:Value}{W W':World}(h:us_ B cs v W)(hc:Chg [] W W'):us_ B cs v W':=by
 obtain⟨ls,h1,h2,h3⟩:=h;exact⟨ls,ze_ h1 hc,fun a ha=>(h2 a ha).chg hc (fun i hi=>by cases hi),h3⟩
theorem us_.less {B B':Nat}{cs:List (Nat×List UInt8)}{v:Value}{W:World}(h:us_ B cs v W)(hB:B'<=B):us_ B' cs v W:=by
 obtain⟨ls,h1,h2,h3⟩:=h;exact⟨ls,uS_ h1 hB,fun a ha=>(h2 a ha).moreP hB,h3⟩
theorem ub_ (B:Nat)(cs:List (Nat×List UInt8)):zQ_ (Chg []) (zkS B cs):=fun _ _ _ h hc=>us_.keep h hc
theorem u2_ (B:Nat)(x:List (Nat×List UInt8)×Int):zQ_ (Chg []) (zqb B x):=fun _ _ _ ⟨u,e,h⟩ hc=>⟨u,e,h.keep hc⟩
theorem ziK {t:Tmp}{B:Nat}{x:List (Nat×List UInt8)×Int}(hT:T.Ok)(hk:zQ_ T.R (zkS B x.1))(hf:T.soft.contains k=true\/zQ_ T.H (zkS B x.1))(hs:vt_ F t=some (zqb B x))
    (hg:zy_ ops F true ⟨d,.extract (.tmp t) 0,ty,pos,af,g⟩) (h:Flow P0 T w0 a0 ops Q ((d,zkS B x.1)::F) (k+1) rest) :
    Flow P0 T w0 a0 ops Q F k (⟨d,.extract (.tmp t) 0,ty,pos,af,g⟩::rest):=by
 refine flow_op _ hk hf hg (fun ev W he hW hf=>?_) h;have hf1:z5_ a0 F (.tmp t) (ev (.tmp t)) W:=hf.1;simp only[z5_,hs]at hf1;obtain⟨v1,e1,h1⟩:=hf1;have:(execOp ev ⟨d,.extract (.tmp t) 0,ty,pos,af,g⟩).run P0 W=.ok (.value v1) W:=by go_simp
 rw[this];exact⟨hT.by_refl k W,h1⟩
theorem ziJ {t:Tmp}{B:Nat}{x:List (Nat×List UInt8)×Int}(hT:T.Ok)(hs:vt_ F t=some (zqb B x))
    (hg:zy_ ops F true ⟨d,.extract (.tmp t) 1,ty,pos,af,g⟩) (h:Flow P0 T w0 a0 ops Q ((d,isV (.int .i64 x.2))::F) (k+1) rest) :
    Flow P0 T w0 a0 ops Q F k (⟨d,.extract (.tmp t) 1,ty,pos,af,g⟩::rest):=by
 refine flow_op _ (zc_ _) (.inr (zc_ _)) hg (fun ev W he hW hf=>?_) h;have hf1:z5_ a0 F (.tmp t) (ev (.tmp t)) W:=hf.1;simp only[z5_,hs]at hf1;obtain⟨v1,e1,h1⟩:=hf1;have:(execOp ev ⟨d,.extract (.tmp t) 1,ty,pos,af,g⟩).run P0 W=.ok (.value (.int .i64 x.2)) W:=by go_simp
 rw[this];exact⟨hT.by_refl k W,rfl⟩
end
theorem Fnr.chg' {T:List Nat}{W W':World}{A:Option Addr}{n c:Nat}{l:List FnV}(h:Fnr W A n c l)(hc:Chg T W W')(hA:0<n->∀ad,A=some ad->ad.block∉T):Fnr W' A n c l :=
 ⟨h.len,h.src.chg hc (fun h0=>hA (by have:=h.len;rw[yG_]at h0;omega)),h.cap,h.max,h.spot,h.args⟩
theorem zkI (W:World)(a b v:Value):(Instr.field 82 (.agg #[a,b,v]) 1).run Tryz.prog W=.ok b W:=by
 have h1:(part 3 #[a,b,v] 1).run Tryz.prog W=.ok b W:=by simp[part,isAgg,run_underlying Tryz.underlying3]
 simp[Instr.field,run_underlying Tryz.underlying82,asAgg,h1]
theorem zkJ (W:World)(a b v:Value):(Instr.field 82 (.agg #[a,b,v]) 2).run Tryz.prog W=.ok v W:=by
 have h1:(part 56 #[a,b,v] 2).run Tryz.prog W=.ok v W:=by simp[part,isAgg,run_underlying Tryz.underlying56]
 simp[Instr.field,run_underlying Tryz.underlying82,asAgg,h1]
def ju_ (E0:Nat)(w:World)(p bL bS bW L P:Nat)(T:List UInt8)(E pg ms:Int)(nV:Nat)(e:Ending)(w':World):Prop :=
 (∃r,r≠0/\e=.returned (.int .i64 r)/\(E≠0\/(P:Int)<xf_ T E ms\/yD_ (L:Int) 0 ((1+zs_ T.length+pg.toNat:Nat):Int)=false)/\Chg [bL,bS,bW] w w') \/
 (E=0/\xf_ T E ms<=(P:Int)/\e=.returned (.int .i64 0)/\(∃s' x',yx_ w' p bL bS bW s'/\Kept s' x' []/\x'.L=L/\x'.P=P/\x'.E=E0+1/\x'.pages=jc_ T pg.toNat P (1+zs_ T.length+pg.toNat)/\¬zS_ (xL_ s' L) (E0+2) 0/\s'.V.length=nV)/\Chg [bL,bS,bW] w w')
section
variable {w:World} {p bL bS bW:Nat} {s0:St} {A:Option Addr} {n c L P nV E0:Nat} {l:List FnV} {pg ms:Int}
theorem zcq (hr:zq_ L P 1 nV=true)(hd:yx_ w p bL bS bW s0)(hE0:1<=E0/\E0<=1000)(hO:∀W,yx_ W p bL bS bW s0->Calls Tryz.prog 41 #[.pointer (some ⟨p,0,none⟩)] W (jt_ E0 W p bL bS bW L P nV))(hF:Fnr w A n c l)(hsm:∀f∈l,f.code.size<=9223372036854775807)(hA:0<n->∀ad,A=some ad->ad.block∉[bL,bS,bW])(hP:∀W,Chg [bL,bS,bW] w W->vF_ W.heap.size W) :
    Calls Tryz.prog 16 #[.pointer (some ⟨p,0,none⟩),.agg #[.int .i64 pg,.int .i64 ms,.slice A n c]] w (ju_ E0 w p bL bS bW L P (zH_ pg ms l).1 (zH_ pg ms l).2 pg ms nV):=by
 have hTl:=(xb_ pg ms l).1;have hms:=(xb_ pg ms l).2;have HTX:=hQ_ (fun (W:World)(hc:Chg [bL,bS,bW] w W)=>zfX.of_fnr (pg:=pg) (ms:=ms) (hF.chg' hc hA) hsm);generalize (zH_ pg ms l).1=T at hTl HTX⊢;generalize (zH_ pg ms l).2=E at hms HTX⊢;have HP:=hQ_ hP;have HB:=hQ_ (show bL<w.heap.size/\bS<w.heap.size/\bW<w.heap.size from⟨(Dsk.last hd).lt,(Dsk.seen hd).lt,(Dsk.wait hd).lt⟩);have HR:=hQ_ (zj_.1 hr);have hal:=(Chg.refl [] w).alloc (.cells #[.int .i64 pg,.int .i64 ms,.slice A n c] 25);have HD0:=hQ_ (Dsk.keep hd hal);have HOP:=hQ_ hO;unfold jt_ at HOP;have HNO:=hQ_ (show ∀(r:Int)(W:World),r≠0->(E≠0\/(P:Int)<xf_ T E ms\/yD_ (L:Int) 0 ((1+zs_ T.length+pg.toNat:Nat):Int)=false)->Chg [bL,bS,bW] w W->ju_ E0 w p bL bS bW L P T E pg ms nV (.returned (.int .i64 r)) W from fun r W h1 h2 h3=>.inl ⟨r,h1,rfl,h2,h3⟩);have HYES:=hQ_ (show ∀(W:World)(s':St)(x':SV),E=0->xf_ T E ms<=(P:Int)->yx_ W p bL bS bW s'->Kept s' x' []->x'.L=L->x'.P=P->x'.E=E0+1->x'.pages=jc_ T pg.toNat P (1+zs_ T.length+pg.toNat)->¬zS_ (xL_ s' L) (E0+2) 0->s'.V.length=nV->Chg [bL,bS,bW] w W->ju_ E0 w p bL bS bW L P T E pg ms nV (.returned (.int .i64 0)) W from fun W s' x' h1 h2 h3 h4 h5 h6 h7 h8 h9 h10 h11=>.inr ⟨h1,h2,rfl,⟨s',x',h3,h4,h5,h6,h7,h8,h9,h10⟩,h11⟩);generalize ju_ E0 w p bL bS bW L P T E pg ms nV=PO at HNO HYES⊢;clear hd hF hA hP hal hr hO;go_enter Tryz.func16,Tryz.ntmps16;go_upto_region 1 with fail;have HU1:=hQ_ (zb_.new w 25 [.int .i64 pg,.int .i64 ms,.slice A n c]);have HC1:=hQ_ ((Chg.refl [] w).alloc (.cells #[.int .i64 pg,.int .i64 ms,.slice A n c] 25));generalize w.alloc (.cells #[.int .i64 pg,.int .i64 ms,.slice A n c] 25)=w1 at HU1 HC1 HD0⊢;generalize w.heap.size=gu at HU1⊢;have hgu:gu∉[bL,bS,bW]:=by
  simp only[List.mem_cons,List.not_mem_nil,or_false];rintro(h|h|h)
  · exact HU1.o.ne_ (Dsk.last HD0.o) (by decide) h
  · exact HU1.o.ne_ (Dsk.seen HD0.o) (by decide) h
  · exact HU1.o.ne_ (Dsk.wait HD0.o) (by decide) h
 have HNU:=hQ_ hgu;have HOP1:=hQ_ (HOP.o w1 HD0.o);clear HOP HD0 hgu;go_upto_region 4 with(
  go_at_call 41;refine HOP1.o.mono ?_;rintro e w2 ⟨gs,gN,v,s2,x2,rfl,hg1,hgN,hs,hk,eL,eP,eE,epg,eu,eq,eV,hc⟩;have HS2:=hQ_ hs;have HK2:=hQ_ hk;have HX2:=hQ_ (And.intro eL (And.intro eP (And.intro eE (And.intro epg (And.intro eu (And.intro eq eV))))));have HG2:=hQ_ (And.intro hg1 hgN);have HW2:=hQ_ (show Chg [bL,bS,bW] w w2 from(HC1.o.sub (fun _ h=>by cases h)).trans hc);have HU2:=hQ_ (HU1.o.chg hc HNU.o);clear hs hk eL eP eE epg eu eq eV hg1 hgN hc);have HTX2:=hQ_ (HTX.o _ HW2.o);have hroot:zB_ (x2.L:Int) (x2.P:Int) (x2.E:Int)=.agg #[.int .i64 (L:Int),.int .i64 (P:Int),.int .u32 (E0:Int)]:=by
  obtain⟨e1,e2,e3,_⟩:=HX2.o;rw[e1,e2,e3];rfl
 have HRT:=hQ_ (fun (W:World)(hc:Chg [] w2 W)=>zgH (HS2.o.keep hc));simp only[hroot]at HRT;have HPT:=hQ_ (fun (W:World)(hc:Chg [] w2 W)=>zhm (HTX2.o.keep hc) hTl hms (P:Int) (HP.o W (HW2.o.new hc)));unfold k6_ at HPT;have HHW:=hQ_ (fun (W:World)(h:Chg [] w2.drew W)=>(show Chg [] w2 W from(Chg.refl [] w2).drew.trans h));clear hroot;refine wp_flow (by kernel_rfl) yl_ za_ (by kernel_rfl) ?_;refine flow1h (r:=.agg #[.int .i64 pg,.int .i64 ms,.slice A n c]) za_ rfl (.out rfl rfl) rfl (fun ev W he hW e1=>by
  have hk:=HU2.o.keep (HHW.o W hW);have q0:=hk.cell 0;have q1:=hk.cell 1;have q2:=hk.cell 2;clear hW hk;go_simp) ?_;refine flow_move_out za_ rfl rfl rfl ?_;refine zw_ (.agg #[.int .i64 (L:Int),.int .i64 (P:Int),.int .u32 (E0:Int)]) (by kernel_rfl) rfl (.cons (.inn rfl) .nil) (fun W hW=>(HRT.o W (HHW.o W hW)).mono ?_) ?_
 · rintro e w' ⟨rfl,hc⟩;rw[xJ_];exact⟨rfl,hc⟩
 refine flow1 (r:=.int .i64 (P:Int)) za_ rfl (.inn rfl) rfl (fun ev W he e1=>by have q:=zkI W (.int .i64 (L:Int)) (.int .i64 (P:Int)) (.int .u32 (E0:Int));go_simp) ?_;refine flow_calld (zqb w2.heap.size (gr_ T E pg ms P)) (u2_ _ _) (.inr (u2_ _ _)) (by kernel_rfl) rfl (.cons (.inn rfl) (.cons (.inn rfl) .nil)) (fun W hW=>(HPT.o W (HHW.o W hW)).mono ?_) ?_
 · rintro e w' ⟨v,ls,rfl,ho,hm,hc2,hc⟩;have hsz:=(HHW.o W hW).size;exact⟨_,rfl,hc,v,rfl,⟨ls,uS_ ho hsz,fun a ha=>(hm a ha).moreP hsz,hc2⟩⟩
 refine zP_ za_ rfl (u2_ _ _) (.inr (u2_ _ _)) rfl ?_;refine ziK za_ (ub_ _ _) (.inr (ub_ _ _)) rfl rfl ?_;refine ziJ za_ rfl rfl ?_;refine flow_assign za_ rfl (ub_ _ _) (.inr (ub_ _ _)) rfl ?_;refine flow_assign za_ rfl (zc_ _) (.inr (zc_ _)) rfl ?_;intro vs W hW hF;have hL:us_ w2.heap.size (gr_ T E pg ms P).1 (vs 7) W:=hF 7 _ rfl rfl;have e6:vs 6=.int .i64 (gr_ T E pg ms P).2:=hF 6 _ rfl rfl;generalize hFv:vs 7=v7 at hL;simp only[zV_,Act.put,List.setIfInBounds_toArray,List.set_cons_zero,List.set_cons_succ];rw[e6,hFv];have HC4:=hQ_ (HHW.o W hW);have HL:=hQ_ hL;clear hF hW e6 hFv hL HPT;obtain⟨w4,hw4⟩:∃w4:World,w4=W:=⟨_,rfl⟩;rw[<-hw4]at HC4 HL⊢;clear hw4;have HW4:=hQ_ (HW2.o.new HC4.o);by_cases hE:¬E=0
 · have hrp:gr_ T E pg ms (P:Int)=([],E):=(by unfold gr_;rw[if_pos hE]);rw[hrp];simp only;have HFIN:=hQ_ (HNO.o E w4 hE (.inl hE) HW4.o);go_wp2_with fail;exact HFIN.o
 have hE:E=0:=Decidable.not_not.1 hE;by_cases hn:(P:Int)<xf_ T E ms
 · have hrp:gr_ T E pg ms (P:Int)=([],25):=(by unfold gr_;rw[if_neg (by simp[hE]),if_pos (.inl hn)]);rw[hrp];simp only;have HFIN:=hQ_ (HNO.o 25 w4 (by omega) (.inr (.inl hn)) HW4.o);go_wp2_with fail;exact HFIN.o
 have hP64:(P:Int)<=64:=by have:=HR.o;omega
 have hrp:gr_ T E pg ms (P:Int)=(qB_ T pg.toNat,0):=by unfold gr_;rw[if_neg (by simp[hE]),if_neg (by omega)]
 rw[hrp]at HL⊢;simp only at HL⊢;obtain⟨ls,ho,hm,hc2⟩:=HL.o;obtain⟨g0,g1,g2⟩:=hms hE;have hll:ls.length=1+zs_ T.length+pg.toNat:=by rw[hc2.len,xo_]
 have hnz:xf_ T E ms=1+(zs_ T.length:Int)+ms:=by unfold xf_;rw[if_pos hE]
 have hin:InL P ls:=zig hc2 hm (by omega) (by omega);obtain⟨C,dc,rfl,hch⟩:=zgU ho hm (D:=SK.D ⟨p,bL,bS,bW,gs,gN,[]⟩) HS2.o.lts;obtain⟨m,hmq⟩:∃m,m=ls.length:=⟨_,rfl⟩;obtain⟨eL,eP,eE,epg,eu,eq,eV⟩:=HX2.o;have hin':InL x2.P ls:=by rw[eP];exact hin
 have HS4:=hQ_ (HS2.o.keep HC4.o);have HCO:=hQ_ (uf_ (d:=dc) HS4.o hch rfl (by omega));unfold kT_ at HCO;rw[<-hmq]at HCO⊢;have HRT4:=hQ_ (HRT.o w4 HC4.o);have hel:((E0:Int)==4294967295)=false:=by simp;omega
 have hep:=fun (W:World)=>zkJ W (.int .i64 (L:Int)) (.int .i64 (P:Int)) (.int .u32 (E0:Int));have hfx:yD_ (x2.L:Int) (x2.used:Int) (m:Int)=yD_ (L:Int) 0 ((1+zs_ T.length+pg.toNat:Nat):Int):=by rw[eL,eu,hmq,hll];rfl
 rw[hfx]at HCO;have HGS:=hQ_ (show w.heap.size<=gs/\w.heap.size<=gN from⟨Nat.le_trans HC1.o.size HG2.o.1,Nat.le_trans HC1.o.size HG2.o.2⟩);by_cases hf':yD_ (L:Int) 0 ((1+zs_ T.length+pg.toNat:Nat):Int)=false
 · have hf:=hf';have HFIN:=hQ_ (fun (W:World)(hc:Chg [] w4 W)=>HNO.o 24 W (by omega) (.inr (.inr hf')) (HW4.o.new hc));have HCO':=hQ_ (fun (W:World)(hc:Chg [] w4 W)=>(show Calls Tryz.prog 44 #[.pointer (some ⟨gs,0,none⟩),.slice C m dc] W (fun e w'=>e=.returned (.int .i64 24)/\Chg [] W w') from by
    have h:=uf_ (d:=dc) (HS4.o.keep hc) (hch.chg (hc.sub (T':=[]) (fun _ h=>by cases h)) (fun _ h=>by cases h)) rfl (by omega);rw[<-hmq]at h;refine h.mono ?_;rintro e w' (⟨h0,_⟩|⟨_,_,rfl,hc'⟩|⟨_,h1,_⟩)
    · rw[hin'.2.1]at h0;cases h0
    · exact⟨rfl,hc'⟩
    · rw[<-hmq,hfx,hf']at h1;cases h1));clear HCO hf hf' hfx hrp hn hmq hll hnz hE g0 g1 g2 hin hin' hP64 eL eP eE epg eu eq eV hch ho hm hc2;go_wp2_with (first
    | (go_at_call 43;(with_reducible refine HRT4.o.mono ?_);rintro e w5 ⟨rfl,hc5⟩;have HC5:=hQ_ hc5;clear hc5)
    | (go_at_call 44;(with_reducible refine(HCO'.out _ HC5.o).mono ?_);rintro e w6 ⟨rfl,hc6⟩;have HC6:=hQ_ (HC5.o.trans hc6);clear hc6));exact HFIN.o _ HC6.o
 have hf:yD_ (L:Int) 0 ((1+zs_ T.length+pg.toNat:Nat):Int)=true:=by simpa using hf'
 have HCO':=hQ_ (fun (W:World)(hc:Chg [] w4 W)=>(show Calls Tryz.prog 44 #[.pointer (some ⟨gs,0,none⟩),.slice C m dc] W (fun e w'=>e=.returned (.int .i64 0)/\(∃v,Sto w' ⟨p,bL,bS,bW,gs,gN,[]⟩ (k4_ s2 x2 ls) (zbL x2 ls) v)/\Chg [bL,bS,bW,gs,gN] W w') from by
  have h:=uf_ (d:=dc) (HS4.o.keep hc) (hch.chg (hc.sub (T':=[]) (fun _ h=>by cases h)) (fun _ h=>by cases h)) rfl (by omega);rw[<-hmq]at h;refine h.mono ?_;rintro e w' (⟨h0,_⟩|⟨_,h1,_⟩|⟨_,_,rfl,hv,hc'⟩)
  · rw[hin'.2.1]at h0;cases h0
  · rw[<-hmq,hfx,hf]at h1;cases h1
  · exact⟨rfl,hv,hc'⟩));have hfl:x2.used+(18+66*ls.length)<=x2.L*64:=zoa (by rw[<-hmq,hfx];exact hf) (by omega);have hkz:=HK2.o.com hin' hfl;have hEx:(zbL x2 ls).E=E0:=eE;have hLx:(zbL x2 ls).L=L:=eL;have hPx:(zbL x2 ls).P=P:=eP;have hpx:(zbL x2 ls).pages=jc_ T pg.toNat P (1+zs_ T.length+pg.toNat):=by
  show zX_ x2.pages ls=_;rw[epg];exact ja_ hc2 (by omega)
 have hVx:(ckS (k4_ s2 x2 ls) (zbL x2 ls)).V.length=nV:=by
  rw[vS_,<-eV];show(apS s2 _ _).V.length=_;simp[apS]
 generalize k4_ s2 x2 ls=s5 at HCO' hkz hVx;generalize zbL x2 ls=x5 at HCO' hkz hEx hLx hPx hpx hVx;have hk6:=hkz.k.ck x5 ⟨rfl,rfl,rfl,rfl,rfl⟩ (by omega) (hkz.z.other (by omega) (by omega) (by omega));have hl6:¬zS_ (xL_ (ckS s5 x5) L) (E0+2) 0:=by
  rw[<-hLx,zhR hkz.k x5 ⟨rfl,rfl,rfl,rfl,rfl⟩];exact hkz.z.other (by omega) (by omega) (by omega)
 have HCK:=hQ_ (fun (W:World)(h:∃v,Sto W ⟨p,bL,bS,bW,gs,gN,[]⟩ s5 x5 v)=>(show Calls Tryz.prog 45 #[.pointer (some ⟨gs,0,none⟩)] W (fun e w'=>e=.returned (.int .i64 0)/\yx_ w' p bL bS bW (ckS s5 x5)/\Chg [bL,bS,bW,gs,gN] W w') from by
  obtain⟨v,hs⟩:=h;refine(uu_ hs (by omega)).mono ?_;rintro e w' ⟨rfl,⟨v',hs'⟩,hc'⟩;exact⟨rfl,hs'.dsk,hc'⟩));have hnew:∀(W W':World),Chg [bL,bS,bW] w W->Chg [bL,bS,bW,gs,gN] W W'->Chg [bL,bS,bW] w W':=fun _ _ h k=>h.then_ k fun i hi hlt=>by
  have:=HGS.o;simp only[List.mem_cons,List.not_mem_nil,or_false]at hi⊢;omega
 have HFIN:=hQ_ (fun (W:World)(hd:yx_ W p bL bS bW (ckS s5 x5))(hc:Chg [bL,bS,bW] w W)=>HYES.o W _ _ hE (by omega) hd hk6 hLx hPx (by show x5.E+1=E0+1;omega) hpx hl6 hVx hc);have HNW:=hQ_ hnew;clear HCO hf hfx hrp hn hnew hk6 hl6 hkz hEx hLx hPx hpx hVx hmq hll hnz hE g0 g1 g2 hin hin' hP64 eL eP eE epg eu eq eV hch ho hm hc2 hfl hf';go_wp2_with (first
  | (go_at_call 43;(with_reducible refine HRT4.o.mono ?_);rintro e w5 ⟨rfl,hc5⟩;have HC5:=hQ_ hc5;clear hc5)
  | (go_at_call 44;(with_reducible refine(HCO'.out _ HC5.o).mono ?_);rintro e w6 ⟨rfl,hs6,hc6⟩;have HS6:=hQ_ hs6;have HW6:=hQ_ (HNW.o _ _ (HW4.o.new HC5.o) hc6);clear hs6 hc6)
  | (go_at_call 45;(with_reducible refine(HCK.o _ HS6.o).mono ?_);rintro e w7 ⟨rfl,hd7,hc7⟩;have HD7:=hQ_ hd7;have HW7:=hQ_ (HNW.o _ _ HW6.o hc7);clear hd7 hc7));exact HFIN.o _ HD7.o HW7.o
end
theorem Sto.more {w w':World}{p bL bS bW g gN:Nat}{ex:List Nat}{s:St}{x:SV}{vP:Value}(h:Sto w ⟨p,bL,bS,bW,g,gN,ex⟩ s x vP)(hc:Chg [] w w'){q:Nat}(hq:w.heap.size<=q)(hq2:q<w'.heap.size):Sto w' ⟨p,bL,bS,bW,g,gN,q::ex⟩ s x vP:=by
 have h1:=zj_.1 h.rt;have hpl:=h.pl;have h64:=h.p64;have hk:=h.keep hc;obtain⟨A,c,us,e,hc1,hs,hu,hA,hR⟩:=h.pgs;have hin:∀i,i∈SK.D ⟨p,bL,bS,bW,g,gN,q::ex⟩->i=q\/i∈SK.D ⟨p,bL,bS,bW,g,gN,ex⟩:=fun i hi=>by
  simp only[SK.D,List.mem_cons]at hi⊢;rcases hi with h|h|h|h|h|h|h|h<;>simp[h]
 refine { dsk:=hk.dsk,rec_:=hk.rec_,pgs:=?_,nm:=hk.nm,ng:=hk.ng,rt:=hk.rt,ep:=hk.ep,pl:=hk.pl,nl:=hk.nl,p64:=hk.p64,us:=hk.us,sq:=hk.sq,exl:=fun i hi=>?_ }
 · refine⟨A,c,us,e,hc1,hs.keep hc,hu,fun ad ha=>⟨(hA ad ha).1,fun hm=>?_⟩,fun i u l hu' hl=>?_⟩
   · rcases hin _ hm with hm|hm
     · obtain⟨ad',ea,hb,_⟩:=hs (by omega);rw[ha]at ea;injection ea with ea;subst ea;omega
     · exact(hA ad ha).2 hm
   · obtain⟨A',n',c',eu,hB,hD⟩:=hR i u l hu' hl;refine⟨A',n',c',eu,hB.keep hc,fun ad ha hm=>?_⟩;rcases hin _ hm with hm|hm
     · obtain⟨ad',ea,hb,_⟩:=hB.src (by rw[zg_,h64 l (List.mem_of_getElem? hl)];omega);rw[ha]at ea;injection ea with ea;subst ea;omega
     · exact hD ad ha hm
 · simp only[List.mem_cons]at hi;rcases hi with rfl|hi
   · exact hq2
   · exact hk.exl i hi
theorem Sto.past {w w':World}{k:SK}{s:St}{x:SV}{vP:Value}(h:Sto w k s x vP){q:Nat}(hc:Chg [q] w w')(hq:q∈k.ex)(hn:∀i∈[k.p,k.bL,k.bS,k.bW,k.g,k.gN],i≠q):Sto w' k s x vP:=by
 have hne:∀i∈[k.p,k.bL,k.bS,k.bW,k.g,k.gN],i∉[q]:=fun i hi hm=>hn i hi (by simpa using hm);exact { h with dsk:=Dsk.away h.dsk hc (hne _ (by simp)) (hne _ (by simp)) (hne _ (by simp)) (hne _ (by simp)),rec_:=h.rec_.chg hc (hne _ (by simp)),pgs:=h.pgs.chg hc (fun i hi=>by simp only[List.mem_singleton]at hi;subst hi;simp[SK.D,hq]),nm:=h.nm.chg hc (hne _ (by simp)),exl:=fun i hi=>Nat.lt_of_lt_of_le (h.exl i hi) hc.size }
structure RightU (pages most:Int) (l:List FnV):Prop where
  p0:0<=pages
  pm:pages<=most
  m64:most<=64
  few:l.length<=32
  fn:∀(k:Nat)(f:FnV),l[k]?=some f->yo_ f.name=true/\yY_ l f.name=(k:Int)/\0<=f.args/\f.args<=4
  ok:∀k:Nat,k<l.length->(rFn l (k:Int)).1=0
  small:∀f∈l,f.code.size<=1000000
def kP_ (W:World)(r:Int)(e:Ending)(w':World):Prop:=e=.returned (.int .i64 r)/\Chg [] W w'
section
variable {W:World} {A:Option Addr} {n c:Nat} {l:List FnV} {pages most:Int}
theorem zdc (h:Fnr W A n c l)(hr:RightU pages most l):Calls Tryz.prog 28 #[yH_ pages most A n c] W (kP_ W 0):=by
 have hn32:n<=32:=by rw[<-h.len];exact hr.few
 have hp0:=hr.p0;have hpm:=hr.pm;have hm64:=hr.m64;have H:=hQ_ h;have HR:=hQ_ hr;have HCF:=hQ_ (fun (w:World)(hc:Chg [] W w)(k:Int)=>zju (pages:=pages) (most:=most) (h.keep hc) hr.small k);have HFI:=hQ_ (fun (w:World)(hc:Chg [] W w)(nm:Int)=>vf_ (pages:=pages) (most:=most) (h.keep hc) nm);unfold yH_ at HCF HFI⊢;clear h hr;have b1:decide (pages<0)=false:=by simp;omega
 have b2:decide (most<pages)=false:=by simp;omega
 have b3:decide (64<most)=false:=by simp;omega
 have b4:decide (32<(n:Int))=false:=by simp;omega
 go_enter Tryz.func28,Tryz.ntmps28;go_upto_region 1 with fail;have hN:=zb_.new W 25 [.int .i64 pages,.int .i64 most,.slice A n c];have hal:Chg [] W (W.alloc (.cells #[.int .i64 pages,.int .i64 most,.slice A n c] 25)):=(Chg.refl [] W).alloc _;obtain⟨g,hg⟩:∃g,g=W.heap.size:=⟨_,rfl⟩;rw[<-hg]at hN⊢;have HU:=hQ_ hN;have HC:=hQ_ hal;generalize W.alloc (.cells #[.int .i64 pages,.int .i64 most,.slice A n c] 25)=w1 at HU HC⊢;clear hN hal hg;have u0:=HU.o.cell 0;have u1:=HU.o.cell 1;have u2:=HU.o.cell 2;go_wp2_with fail;go_loopw [30] (fun i wr=>∃k:Nat,i=.int .i64 (k:Int)/\k<=n/\Hid (Chg [] w1 wr)) (fun i _=>n-(intOf i).toNat);case atStart=>exact⟨0,rfl,by omega,hQ_ (Chg.refl [] _)⟩
 case round =>
  obtain⟨k,rfl,hk,HCr⟩:=hrel;have HUr:=hQ_ (HU.o.keep HCr.o);by_cases hkn:k<n
  · have hkI:(k:Int)<(n:Int):=(by omega);obtain⟨t,htk⟩:∃t,l[k]?=some t:=⟨l[k]'(by rw[H.o.len];exact hkn),by simp⟩;obtain⟨hnm,hfi,ha0,ha4⟩:=HR.o.fn k t htk;obtain⟨fb,fo,rfl,hfbl,e0,e1,e2⟩:=(H.o.keep (HC.o.new HCr.o)).cell htk;obtain⟨tn,ta,tc⟩:=t;simp only at e0 e1 e2 hnm hfi ha0 ha4;clear htk;go_upto_region 8 with fail;have hX:=zb_.new wr 44 [.int .i32 tn,.int .i64 ta,.string tc];have hc2:=(Chg.refl [] wr).alloc (.cells #[.int .i32 tn,.int .i64 ta,.string tc] 44);have HX2:=hQ_ hX;have HC2:=hQ_ (HCr.o.new hc2);have HU2:=hQ_ (HUr.o.keep hc2);generalize wr.heap.size=gx at HX2⊢;generalize wr.alloc (.cells #[.int .i32 tn,.int .i64 ta,.string tc] 44)=w3 at HX2 HC2 HU2⊢;clear hX e0 e1 e2 hfbl hc2;have x0:=HX2.o.cell 0;have x1:=HX2.o.cell 1;have v0:=HU2.o.cell 0;have v1:=HU2.o.cell 1;have v2:=HU2.o.cell 2;have q1:decide (ta<0)=false:=(by simp;omega);have q2:decide (4<ta)=false:=(by simp;omega);have HNM:=hQ_ (fun w=>u5_ tn w);rw[hnm]at HNM;have HFX:=hQ_ (HFI.o w3 (HC.o.new HC2.o) tn);rw[hfi]at HFX;clear hnm hfi;go_wp2_with (first
     | (go_at_call 60;refine(HNM.o _).mono ?_;rintro e w4 ⟨rfl,rfl⟩)
     | (go_at_call 50;refine HFX.o.mono ?_;rintro e w5 ⟨rfl,hc5⟩;have y1:=zd_ (by simpa using x1:w3.cell? ⟨gx,1,none⟩=some (.int .i64 ta)) hc5;have HC5:=hQ_ (HC2.o.new hc5);clear hc5));exact⟨⟨k+1,by simp,by omega,HC5⟩,by simp[intOf];omega⟩
  · have hkI:(n:Int)<=(k:Int):=(by omega);have v0:=HUr.o.cell 0;have v1:=HUr.o.cell 1;have v2:=HUr.o.cell 2;go_wp2_with fail;go_loopw [61] (fun i ws=>∃k:Nat,i=.int .i64 (k:Int)/\k<=n/\Hid (Chg [] w1 ws)) (fun i _=>n-(intOf i).toNat);(case atStart=>exact⟨0,rfl,by omega,HCr⟩);case round =>
     obtain⟨j,rfl,hj,HCs⟩:=hrel;have HUs:=hQ_ (HU.o.keep HCs.o);by_cases hjn:j<n
     · have hjI:(j:Int)<(n:Int):=(by omega);have s0:=HUs.o.cell 0;have s1:=HUs.o.cell 1;have s2:=HUs.o.cell 2;have HOK:=hQ_ (HR.o.ok j (by rw[H.o.len];exact hjn));have HFN:=hQ_ (HCF.o wr (HC.o.new HCs.o) (j:Int));generalize rFn l (j:Int)=R at HOK HFN;go_wp2_with fail;refine HFN.o.mono ?_;rintro e w5 ⟨v,rfl,ho,hc5⟩;have HC5:=hQ_ (HCs.o.new hc5);obtain⟨Av,cv,rfl,_⟩:=zr_ ho;rw[HOK.o];clear ho hc5;go_wp2_with fail;go_roundw;(case rel=>exact⟨j+1,by go_num,by omega,HC5⟩);case measure=>simp[intOf];omega
     · have hjI:(n:Int)<=(j:Int):=(by omega);have HP:=hQ_ (show kP_ W 0 (.returned (.int .i64 0)) wr from⟨rfl,HC.o.new HCs.o⟩);go_wp2_with fail;go_ret;exact HP.o
end
structure HV where
  pg:Int
  ms:Int
  fs:List FnV
  t:Nat
  f:Nat
  calls:Nat
  L:List UInt8
  V:List Bool
  most:Nat
structure HK where
  h:Nat
  pm:Nat
  gC:Nat
  gD:Nat
  A:Option Addr
  c:Nat
def hoC (k:SK)(j:HK)(y:HV):List Value:=[.pointer (some ⟨k.g,0,none⟩),.int .i64 y.pg,.int .i64 y.ms,.slice j.A y.fs.length j.c,.pointer (some ⟨j.pm,0,none⟩),.int .i64 (y.t:Int),.int .i64 (y.f:Int),.int .i64 (y.calls:Int)]
structure Ho (w:World) (k:SK) (s:St) (x:SV) (j:HK) (y:HV):Prop where
  sto:∃vP,Sto w k s x vP
  hin:j.h∈k.ex
  hne:∀i∈[k.p,k.bL,k.bS,k.bW,k.g,k.gN],i≠j.h
  rec_:zb_ w j.h 64 (hoC k j y)
  fn:Fnr w j.A y.fs.length j.c y.fs
  fA:0<y.fs.length->∀ad,j.A=some ad->ad.block∉k.D
  mm:∃X Y,Mm w j.pm j.gC j.gD y.L X y.V Y y.most
  far:j.pm∉k.D/\j.gC∉k.D/\j.gD∉k.D
  tS:y.t<=2048
  fS:y.f<=1000
section
variable {w w':World} {k:SK} {s:St} {x:SV} {j:HK} {y:HV}
theorem Ho.keep (h:Ho w k s x j y)(hc:Chg [] w w'):Ho w' k s x j y:=by
 obtain⟨vP,hs⟩:=h.sto;obtain⟨X,Y,hm⟩:=h.mm;exact { h with sto:=⟨vP,hs.keep hc⟩,rec_:=h.rec_.keep hc,fn:=h.fn.keep hc,mm:=⟨X,Y,hm.keep hc⟩ }
theorem Ho.cells (h:Ho w k s x j y):w.cell? ⟨j.h,0,none⟩=some (.pointer (some ⟨k.g,0,none⟩))/\w.cell? ⟨j.h,1,none⟩=some (.int .i64 y.pg)/\w.cell? ⟨j.h,2,none⟩=some (.int .i64 y.ms)/\w.cell? ⟨j.h,3,none⟩=some (.slice j.A y.fs.length j.c) /\
    w.cell? ⟨j.h,4,none⟩=some (.pointer (some ⟨j.pm,0,none⟩))/\w.cell? ⟨j.h,5,none⟩=some (.int .i64 (y.t:Int))/\w.cell? ⟨j.h,6,none⟩=some (.int .i64 (y.f:Int))/\w.cell? ⟨j.h,7,none⟩=some (.int .i64 (y.calls:Int)) :=
 ⟨h.rec_.cell 0,h.rec_.cell 1,h.rec_.cell 2,h.rec_.cell 3,h.rec_.cell 4,h.rec_.cell 5,h.rec_.cell 6,h.rec_.cell 7⟩
end
theorem zbN {P:Program}{w:World}{ops:Array Oper}{rest:List Oper}{o:Oper}{a:Act}{Q:Exit->Act->World->Prop}(hgd:o.guard=none)(s x:Operand)(t:TypeId)
    (ho:o.op=.call { callee:=.builtin .append,args:=#[s,x],argTypes:=#[t,t] })
    (base:Nat) (e:TypeId) (i:TypeInfo) (z:Value) (size bytes:Nat) (ht:P.underlying t=some (.slice e)) (hi:P.info? e=some i) (hz:i.zero=some z)
    (hsize:i.size=size) (hby:i.bytes=bytes) (hzs:z.cells.size=size) (hsz:0<size)
    (v:Value) (n:Nat) (xs:List Value) (hse:a.eval s=v) (hown:w.ownsRow base e size v n xs)
    (ad:Addr) (m c:Nat) (news:List Value) (hxe:a.eval x=.slice (some ad) m c) (hl:news.length=m*size) (hnews:∀j u,news[j]?=some u->w.cell? (ad.add j)=some u) (h1:∀u∈news,u.oneCell'=true)
    (h63:n+m<=maxLen) (hbytes:(n+m)*bytes<=140737488355328) (hbase:base<=w.heap.size)
    (h:∀v' w',w'.ownsRow base e size v' (n+m) (xs++news)->w.grownBy w' v.ownBlock->(v'.ownBlock=v.ownBlock\/v'.ownBlock=some w.heap.size)->wpList P ops Q rest (a.put o.dst v') w'):wpList P ops Q (o::rest) a w:=by
      refine wpList_plain hgd fun K hK=>?_;obtain⟨v',w',hrun,h2,h3,_,h5⟩:=run_append_own_at (P:=P) w base t o.type e i z size bytes ht hi hz hsize hby hzs hsz v n xs hown ad m c news hl hnews h1 h63 hbytes hbase;unfold Oper.wp execOp;simp only[ho,resolve,invoke,builtin,Sem.run_bind,Sem.run_pure,Result.andThen_ok,List.map_toArray,List.map_cons,List.map_nil,hse,hxe,hrun];exact hK _ _ (h v' w' h2 h3 h5)
theorem Chg.ownN {T:List Nat}{a w w':World}{B n k:Nat}{e:TypeId}{v:Value}{xs:List Value}(h:Chg T a w)(ho:w.ownsRow B e k v n xs)(hB:a.heap.size<=B)(hg:w.grownBy w' v.ownBlock):Chg T a w':=by
 refine h.then_ (T':=match v.ownBlock with|some g=>[g]|none=>[]) ?_ ?_
 · refine Chg.of_grown hg fun g hr _=>?_;rw[hr];simp
 · intro i hi hlt;exfalso;rcases ho.2 with⟨rfl,_⟩|⟨g,cap,cur,rfl,hb,_⟩
   · simp[Value.ownBlock]at hi
   · simp[Value.ownBlock]at hi;omega
theorem zbi:∀(l:List FnV),∀u∈xM_ l,u.oneCell'=true
  | [],u,hu=>by simp[xM_]at hu
  | f::l,u,hu=>by
    have e:xM_ (f::l)=fnC f++xM_ l:=(by simp[xM_]);rw[e]at hu;rcases List.mem_append.1 hu with h|h
    · simp only[fnC,List.mem_cons,List.not_mem_nil,or_false]at h;rcases h with rfl|rfl|rfl<;>rfl
    · exact zbi l u h
section
variable {w:World} {A:Option Addr} {n c:Nat} {l:List FnV}
def vi_ (w:World)(n:Nat)(l:List FnV)(e:Ending)(w':World):Prop :=
 ∃B d,e=.returned (.slice B n d)/\Fnr w' B n d l/\(∀ad,B=some ad->w.heap.size<=ad.block)/\Chg [] w w'
theorem zjj (h:Fnr w A n c l):Calls Tryz.prog 33 #[.slice A n c] w (vi_ w n l):=by
 have hlen:=h.len;have hmax:=h.max;have hsrc:=h.src;have hargs:=h.args;cases A with
 | none =>
   obtain rfl:n=0:=(by
    rcases Nat.eq_zero_or_pos n with h0|h0
    · exact h0
    · obtain⟨ad,e,_⟩:=hsrc (by rw[yG_];omega);cases e);obtain rfl:l=[]:=List.eq_nil_of_length_eq_zero hlen;have HP:=hQ_ (show vi_ w 0 [] (.returned (.slice none 0 0)) w from⟨none,0,rfl,⟨rfl,fun h=>absurd h (by simp[xM_]),Nat.le_refl _,by omega,fun h=>absurd h (by omega),fun f hf=>by simp at hf⟩,fun ad e=>(by cases e),Chg.refl _ _⟩);generalize vi_ w 0 []=PO at HP⊢;have heq:(binOp .eql 23 (.slice none 0 c) (.slice none 0 0)).run Tryz.prog w=.ok (.bool true) w:=run_eql_nil_slice w 23 44 none 0 c 0 0 Tryz.underlying23;clear h hlen hmax hsrc hargs;go_enter Tryz.func33,Tryz.ntmps33;go_wp2_with fail;exact HP.o
 | some ad =>
   obtain⟨i0,hi,hz0,hz1,hz2⟩:=info_parts zie;have hN:=zb_.new w 44 [];have hal:=(Chg.refl [] w).alloc (.cells #[] 44);have ho:(w.alloc (.cells #[] 44)).ownsRow w.heap.size 44 3 (.slice (some ⟨w.heap.size,0,none⟩) 0 0) 0 (xM_ []):=⟨rfl,.inr ⟨w.heap.size,0,#[],rfl,Nat.le_refl _,hN,Nat.le_refl _,by unfold maxLen;omega,rfl,rfl⟩⟩;have HSRC:=hQ_ (hsrc.keep hal);have HLEN:=hQ_ hlen;have HMAX:=hQ_ hmax;have HARGS:=hQ_ hargs;have HAL:=hQ_ hal;have HO:=hQ_ ho;have HFIN:=hQ_ (show ∀(v:Value)(W:World),W.ownsRow w.heap.size 44 3 v n (xM_ l)->Chg [] w W->vi_ w n l (.returned v) W from fun v W h1 h2=>by
    obtain⟨B,d,rfl,hF⟩:=Fnr.of_own h1 hmax hargs;exact⟨B,d,rfl,hF,fun ad e=>by
     rcases h1.2 with⟨e1,_⟩|⟨g,cap,cur,e1,hb,_⟩
     · injection e1 with e1;rw[e1]at e;cases e
     · injection e1 with e1;rw[e1]at e;injection e with e;subst e;exact hb,h2⟩);generalize vi_ w n l=PO at HFIN⊢;have hcell:∀j u,(xM_ l)[j]?=some u->(w.alloc (.cells #[] 44)).cell? (ad.add j)=some u:=fun j u hu=>(by
    obtain⟨ad',e,_,hx⟩:=HSRC.o (by have:=(List.getElem?_eq_some_iff.1 hu).1;omega);injection e with e;subst e;exact hx j u hu);have HCELL:=hQ_ hcell;have h1c:∀u∈xM_ l,u.oneCell'=true:=zbi l;have H1C:=hQ_ h1c;have heq:(binOp .eql 23 (.slice (some ad) n c) (.slice none 0 0)).run Tryz.prog w=.ok (.bool false) w:=run_eql_nil_slice w 23 44 (some ad) n c 0 0 Tryz.underlying23;clear h hlen hmax hsrc hargs hN hal ho hcell h1c;go_enter Tryz.func33,Tryz.ntmps33;go_wp2_with (
    at_builtin;refine zbN rfl (.tmp 5) (.tmp 6) 23 rfl w.heap.size 44 i0 _ 3 32 Tryz.underlying23 hi hz0 hz1 hz2 rfl (by decide) _ 0 (xM_ []) rfl HO.o ad n c (xM_ l) rfl ?c1 HCELL.o H1C.o ?c2 ?c3 ?c4 ?_;(case c1=>rw[yG_,HLEN.o]);(case c2=>have:=HMAX.o;simp only[maxLen];omega);(case c3=>have:=HMAX.o;omega);(case c4=>exact HAL.o.size);intro v' w6 hown' hg' _;have HOW:=hQ_ (show w6.ownsRow w.heap.size 44 3 v' n (xM_ l) from by have h:=hown';rw[Nat.zero_add]at h;exact h);have HC6:=hQ_ (HAL.o.ownN HO.o (Nat.le_refl _) hg');clear hown' hg');exact HFIN.o _ _ HOW.o HC6.o
end
section
variable {w:World} {k:SK} {s:St} {x:SV} {j:HK} {y:HV}
theorem zls (h:Ho w k s x j y):Calls Tryz.prog 12 #[.pointer (some ⟨j.h,0,none⟩)] w (zoT w y.L):=by
 obtain⟨X,Y,hM⟩:=h.mm;obtain⟨_,_,_,_,c4,_⟩:=h.cells;have HM:=hQ_ (kz_ hM);have HFIN:=hQ_ (show ∀(v:Value)(W:World),W.ownsRow w.heap.size 5 1 v y.L.length (bts y.L)->Chg [] w W->zoT w y.L (.returned v) W from fun v W h1 h2=>⟨v,rfl,h1,h2⟩);unfold zoT at HM;generalize zoT w y.L=PO at HFIN⊢;clear hM h;go_enter Tryz.func12,Tryz.ntmps12;go_wp2_with (
  go_at_call 34;with_reducible refine HM.o.mono ?_
  rintro e w1 ⟨v,rfl,hv,hc⟩;have HV:=hQ_ hv;have HC:=hQ_ hc;clear hv hc);exact HFIN.o _ _ HV.o HC.o
end
section
variable {w:World} {k:SK} {s:St} {x:SV} {j:HK} {y:HV}
def kg_ (w:World)(pg ms:Int)(fs:List FnV)(e:Ending)(w':World):Prop :=
 ∃B d,e=.returned (.agg #[.int .i64 pg,.int .i64 ms,.slice B fs.length d])/\Fnr w' B fs.length d fs/\(∀ad,B=some ad->w.heap.size<=ad.block)/\Chg [] w w'
theorem zih (h:Ho w k s x j y):Calls Tryz.prog 11 #[.pointer (some ⟨j.h,0,none⟩)] w (kg_ w y.pg y.ms y.fs):=by
 obtain⟨_,c1,c2,c3,_⟩:=h.cells;have HF:=hQ_ h.fn;have HFIN:=hQ_ (show ∀(B:Option Addr)(d:Nat)(W:World),Fnr W B y.fs.length d y.fs->(∀ad,B=some ad->w.heap.size<=ad.block)->Chg [] w W->kg_ w y.pg y.ms y.fs (.returned (.agg #[.int .i64 y.pg,.int .i64 y.ms,.slice B y.fs.length d])) W from fun B d W h1 h2 h3=>⟨B,d,rfl,h1,h2,h3⟩);generalize kg_ w y.pg y.ms y.fs=PO at HFIN⊢;have hlt:=h.rec_.lt;have hH:=h.rec_;unfold hoC at hH;generalize y.fs=l at HF HFIN hH c3;generalize hln:l.length=n at HF HFIN hH c3;generalize y.pg=pg at HFIN hH c1;generalize y.ms=ms at HFIN hH c2;have HH:=hQ_ hH;clear h hH c1 c2 c3;have hal:=(Chg.refl [] w).alloc (.cells #[.int .i64 0,.int .i64 0,.slice none 0 0] 25);have HN1:=hQ_ (zb_.new w 25 [.int .i64 0,.int .i64 0,.slice none 0 0]);have HC1:=hQ_ hal;have HLT:=hQ_ hlt;clear hal hlt hln;go_enter Tryz.func11,Tryz.ntmps11;go_upto_region 1 with fail;obtain⟨g2,hg2⟩:∃g2,g2=w.heap.size:=⟨_,rfl⟩;rw[<-hg2]at HN1⊢;have HG2:=hQ_ hg2;clear hg2;generalize w.alloc (.cells #[.int .i64 0,.int .i64 0,.slice none 0 0] 25)=w1 at HN1 HC1⊢;have hk1:=HH.o.keep HC1.o;have c1:=hk1.cell 1;have c2:=hk1.cell 2;have c3:=hk1.cell 3;clear hk1;go_upto_region 2 with fail;clear c1 c2 c3;have hN:=zb_.new w1 25 [.int .i64 pg,.int .i64 ms,.slice j.A n j.c];have hal:=(Chg.refl [] w1).alloc (.cells #[.int .i64 pg,.int .i64 ms,.slice j.A n j.c] 25);have HN2:=hQ_ hN;have HR2:=hQ_ (HN1.o.keep hal);have HC2:=hQ_ (HC1.o.trans hal);have hg12:=HN1.o.lt;obtain⟨g3,hg3⟩:∃g3,g3=w1.heap.size:=⟨_,rfl⟩;rw[<-hg3]at HN2 hg12⊢;have HG3:=hQ_ (show g2≠g3/\w.heap.size<=g3 from⟨by omega,by have:=HC1.o.size;omega⟩);clear hN hal hg12 hg3;generalize w1.alloc (.cells #[.int .i64 pg,.int .i64 ms,.slice j.A n j.c] 25)=w2 at HN2 HR2 HC2⊢;have u2:=HN2.o.cell 2;have HCL:=hQ_ (zjj (HF.o.keep HC2.o));unfold vi_ at HCL;go_upto_region 3 with(
  go_at_call 33;with_reducible refine HCL.o.mono ?_
  rintro e w3 ⟨B,d,rfl,hF3,hB,hc⟩;have HF3:=hQ_ hF3;have HB3:=hQ_ hB;have HC3:=hQ_ (HC2.o.trans hc);have HN3:=hQ_ (HN2.o.keep hc);have HR3:=hQ_ (HR2.o.keep hc);have v2:=(HN2.o.keep hc).cell 2;have g2':=(HN2.o.keep hc).frozen 2;have HS23:=hQ_ hc.size;clear hF3 hB hc);clear u2 v2 g2' HCL;have hN4:=HN3.o.set_ 2 (.slice B n d);simp only[List.set_cons_succ,List.set_cons_zero]at hN4;have hc4:Chg [g3] w3 (w3.setCell ⟨g3,2,none⟩ (.slice B n d)):=(Chg.refl [g3] w3).setCell (by simp) _;have hR4:=HR3.o.chg hc4 (by simpa using HG3.o.1);have hC4:Chg [] w (w3.setCell ⟨g3,2,none⟩ (.slice B n d)):=HC3.o.then_ hc4 (fun i hi hlt=>by simp only[List.mem_cons,List.not_mem_nil,or_false]at hi;have:=HG3.o.2;omega);have hF4:Fnr (w3.setCell ⟨g3,2,none⟩ (.slice B n d)) B n d l:=⟨HF3.o.len,HF3.o.src.chg hc4 (fun _ ad e hm=>by
  simp only[List.mem_cons,List.not_mem_nil,or_false]at hm;have h1:=HB3.o ad e;have h2:=HN2.o.lt;omega),HF3.o.cap,HF3.o.max,HF3.o.spot,HF3.o.args⟩;generalize w3.setCell ⟨g3,2,none⟩ (.slice B n d)=w4 at hN4 hR4 hC4 hF4⊢;have HN4:=hQ_ hN4;have HR4:=hQ_ hR4;have HC4:=hQ_ hC4;have HF4:=hQ_ hF4;have v0:=hN4.cell 0;have v1:=hN4.cell 1;have v2:=hN4.cell 2;have r0:=hR4.cell 0;have r1:=hR4.cell 1;have r2:=hR4.cell 2;have f0:=hR4.frozen 0;have f1:=hR4.frozen 1;have f2:=hR4.frozen 2;clear hN4 hR4 hC4 hF4 hc4;go_wp2_with fail;have hR5:=((HR4.o.set_ 0 (.int .i64 pg)).set_ 1 (.int .i64 ms)).set_ 2 (.slice B n d);simp only[List.set_cons_succ,List.set_cons_zero]at hR5;have hc5:Chg [g2] w4 (((w4.setCell ⟨g2,0,none⟩ (.int .i64 pg)).setCell ⟨g2,1,none⟩ (.int .i64 ms)).setCell ⟨g2,2,none⟩ (.slice B n d)):=(((Chg.refl [g2] w4).setCell (p:=⟨g2,0,none⟩) (fun _=>by simp) _).setCell (p:=⟨g2,1,none⟩) (fun _=>by simp) _).setCell (p:=⟨g2,2,none⟩) (fun _=>by simp) _;have hC5:Chg [] w (((w4.setCell ⟨g2,0,none⟩ (.int .i64 pg)).setCell ⟨g2,1,none⟩ (.int .i64 ms)).setCell ⟨g2,2,none⟩ (.slice B n d)):=HC4.o.then_ hc5 (fun i hi hlt=>by simp only[List.mem_cons,List.not_mem_nil,or_false]at hi;have:=HG2.o;omega);have hF5:Fnr (((w4.setCell ⟨g2,0,none⟩ (.int .i64 pg)).setCell ⟨g2,1,none⟩ (.int .i64 ms)).setCell ⟨g2,2,none⟩ (.slice B n d)) B n d l:=⟨HF4.o.len,HF4.o.src.chg hc5 (fun _ ad e hm=>by
  simp only[List.mem_cons,List.not_mem_nil,or_false]at hm;have h1:=HB3.o ad e;have h2:=HR2.o.lt;omega),HF4.o.cap,HF4.o.max,HF4.o.spot,HF4.o.args⟩;have HP:=hQ_ (HFIN.o B d _ hF5 (fun ad e=>by have h1:=HB3.o ad e;have h2:=HC2.o.size;omega) hC5);generalize ((w4.setCell ⟨g2,0,none⟩ (.int .i64 pg)).setCell ⟨g2,1,none⟩ (.int .i64 ms)).setCell ⟨g2,2,none⟩ (.slice B n d)=wf at hR5 HP⊢;have e0:=hR5.cell 0;have e1:=hR5.cell 1;have e2:=hR5.cell 2;clear hR5 hc5 hC5 hF5;simp only[List.getElem?_cons_zero,List.getElem?_cons_succ]at e0 e1 e2;refine bodyPost_ret (v:=.agg #[.int .i64 pg,.int .i64 ms,.slice B n d]) (by simp[results,Tryz.results11,go_sem,e0,e1,e2]) rfl HP.o
end
section
variable {w:World} {A A2:Option Addr} {n c m2 c2 p rp:Nat} {l:List FnV} {pages most name:Int} {fuel:Nat}
def g4_ (w:World)(r:Int)(e:Ending)(w':World):Prop:=e=.returned (.tuple #[.agg #[.int .i64 0,.int .i64 0,.int .i64 0,.slice none 0 0],.int .i64 r])/\Chg [] w w'
theorem zkG (hF:Fnr w A n c l)(hU:RightU pages most l)(hk:yY_ l name=-1)(hfu:fuel<=1048576) :
    Calls Tryz.prog 25 #[yH_ pages most A n c,.pointer (some ⟨p,0,none⟩),.pointer (some ⟨rp,0,none⟩),.int .i32 name,.int .i64 (fuel:Int),.slice A2 m2 c2] w (g4_ w 22):=by
 have HRG:=hQ_ (fun (w1:World)(hc:Chg [] w w1)=>zdc (hF.keep hc) hU);have HFI:=hQ_ (fun (w1:World)(hc:Chg [] w w1)=>vf_ (pages:=pages) (most:=most) (hF.keep hc) name);rw[hk]at HFI;have HFIN:=hQ_ (show ∀W,Chg [] w W->g4_ w 22 (.returned (.tuple #[.agg #[.int .i64 0,.int .i64 0,.int .i64 0,.slice none 0 0],.int .i64 22])) W from fun W h=>⟨rfl,h⟩);generalize g4_ w 22=PO at HFIN⊢;unfold kP_ at HRG;unfold jv_ at HFI;unfold yH_ at HRG HFI⊢;have hb1:decide ((fuel:Int)<0)=false:=by simp
 have hb2:decide (1048576<(fuel:Int))=false:=by simp;omega
 clear hF hU hk hfu;go_enter Tryz.func25,Tryz.ntmps25;go_upto_region 1 with fail;have hN1:=zb_.new w 25 [.int .i64 pages,.int .i64 most,.slice A n c];have hal1:=(Chg.refl [] w).alloc (.cells #[.int .i64 pages,.int .i64 most,.slice A n c] 25);have hsz1:(w.alloc (.cells #[.int .i64 pages,.int .i64 most,.slice A n c] 25)).heap.size=w.heap.size+1:=Array.size_push _;generalize w.alloc (.cells #[.int .i64 pages,.int .i64 most,.slice A n c] 25)=wa at hN1 hal1 hsz1⊢;have hN2:=zb_.new wa 32 [.int .i64 0,.int .i64 0,.int .i64 0,.slice none 0 0];have hal2:=(Chg.refl [] wa).alloc (.cells #[.int .i64 0,.int .i64 0,.int .i64 0,.slice none 0 0] 32);obtain⟨g1,hg1⟩:∃g1,g1=w.heap.size:=⟨_,rfl⟩;have HG1:=hQ_ hg1;rw[hsz1]at hN2;rw[<-hg1]at hN1 hN2⊢;have HU1:=hQ_ (hN1.keep hal2);have HR1:=hQ_ hN2;have HC1:=hQ_ (hal1.new hal2);generalize wa.alloc (.cells #[.int .i64 0,.int .i64 0,.int .i64 0,.slice none 0 0] 32)=w1 at HU1 HR1 HC1⊢;clear hN1 hN2 hal1 hal2 hsz1 hg1;have u0:=HU1.o.cell 0;have u1:=HU1.o.cell 1;have u2:=HU1.o.cell 2;go_wp2_with fail;refine(HRG.o w1 HC1.o).mono ?_;rintro e w2 ⟨rfl,hc2⟩;have HC2:=hQ_ (HC1.o.new hc2);have HU2:=hQ_ (HU1.o.keep hc2);have HR2:=hQ_ (HR1.o.keep hc2);clear hc2 u0 u1 u2 HU1 HR1 HC1;have u0:=HU2.o.cell 0;have u1:=HU2.o.cell 1;have u2:=HU2.o.cell 2;go_wp2_with fail;refine(HFI.o w2 HC2.o).mono ?_;rintro e w3 ⟨rfl,hc3⟩;have HC3:=hQ_ (HC2.o.new hc3);have HR3:=hQ_ (HR2.o.keep hc3);clear hc3 u0 u1 u2 HU2 HR2 HC2;have r0:=HR3.o.cell 0;have r1:=HR3.o.cell 1;have r2:=HR3.o.cell 2;have r3:=HR3.o.cell 3;have f0:=HR3.o.frozen 0;have f1:=HR3.o.frozen 1;have f2:=HR3.o.frozen 2;have f3:=HR3.o.frozen 3;go_wp2_with fail;have hS:=(((HR3.o.set_ 0 (.int .i64 0)).set_ 1 (.int .i64 0)).set_ 2 (.int .i64 0)).set_ 3 (.slice none 0 0);simp only[List.set_cons_succ,List.set_cons_zero]at hS;have hc4:Chg [g1+1] w3 ((((w3.setCell ⟨g1+1,0,none⟩ (.int .i64 0)).setCell ⟨g1+1,1,none⟩ (.int .i64 0)).setCell ⟨g1+1,2,none⟩ (.int .i64 0)).setCell ⟨g1+1,3,none⟩ (.slice none 0 0)) :=
  ((((Chg.refl [g1+1] w3).setCell (p:=⟨g1+1,0,none⟩) (fun _=>by simp) _).setCell (p:=⟨g1+1,1,none⟩) (fun _=>by simp) _).setCell (p:=⟨g1+1,2,none⟩) (fun _=>by simp) _).setCell (p:=⟨g1+1,3,none⟩) (fun _=>by simp) _;have hC4:=HC3.o.then_ hc4 (fun i hi hlt=>by simp only[List.mem_cons,List.not_mem_nil,or_false]at hi;have:=HG1.o;omega);have hP:=HFIN.o _ hC4;refine bodyPost_ret (zf_ (p:=12) (u:=13) (ty:=32) rfl _ _ (g1+1) 32 [.int .i64 0,.int .i64 0,.int .i64 0,.slice none 0 0] _ rfl hS Tryz.underlying32 (by kernel_rfl)) rfl ?_;exact hP
end
theorem zcj {w:World}{B:Nat}{v:Value}{ls:List ChV}(h:w.ownsRow B 123 2 v ls.length (xV_ ls))(hok:∀a∈ls,MadeCh w B a){D:List Nat}(hD:∀i∈D,i<B):∃C d,v=.slice C ls.length d/\ChsD D w C ls:=by
 obtain⟨A,c,rfl,hl2,hch,_,_,_⟩:=jr_ h (fun a ha=>(hok a ha).ok);have hb:=gy_ h rfl;refine⟨A,c,rfl,⟨hch,fun _ ad e hd=>?_,fun a ha _ ad e hd=>?_⟩⟩
 · have h1:=hD _ hd;have h2:=hb ad e;omega
 · obtain⟨g,hg,hB,_⟩:=(hok a ha).b;rw[hg]at e;injection e with e;subst e;have h1:g<B:=hD _ hd;omega
theorem gV_ (L M:List UInt8)(f:Nat):∀k,(vT_ L M f k).length<=k
  | 0=>Nat.le_refl _
  | k+1=>by
    have:=gV_ L M f k;rw[vT_,List.length_append];split<;>simp<;>omega
def zqd (y:HV)(L2:List UInt8)(V2:List Bool):HV:=⟨y.pg,y.ms,y.fs,y.t,y.f,y.calls+1,L2,V2,y.most⟩
def comJ (j:HK)(p2 gC2 gD2:Nat):HK:=⟨j.h,p2,gC2,gD2,j.A,j.c⟩
def PgCh (a:ChV):Prop:=a.B.length=64/\a.bn=64/\0<=a.page/\a.page<65536
def zjV (ls:List ChV)(cs:List (Nat×List UInt8)):Prop:=qv_ ls cs/\∀a∈ls,PgCh a
def un_ (w:World) (k:SK) (s:St) (x:SV) (j:HK) (y:HV) (p2 gC2 gD2:Nat) (L2:List UInt8) (V2:List Bool) (e:Ending) (w':World):Prop :=
 ∃ ls:List ChV,zjV ls (vT_ y.L L2 y.f V2.length) /\
   ((ls=[]/\e=.returned (.int .i64 0)/\Chg [] w w') \/
    (ls≠[]/\(zF_ x.P ls=false\/yD_ x.L x.used ls.length=false)/\(e=.returned (.int .i64 1)\/e=.returned (.int .i64 24))/\Chg [] w w') \/
    (ls≠[]/\zF_ x.P ls=true/\yD_ x.L x.used ls.length=true/\e=.returned (.int .i64 0)/\Ho w' k (k4_ s x ls) (zbL x ls) (comJ j p2 gC2 gD2) (zqd y L2 V2)/\Chg (j.h::k.W) w w'))
section
variable {w:World} {k:SK} {s:St} {x:SV} {j:HK} {y:HV} {p2 gC2 gD2:Nat} {L2:List UInt8} {X2:List Value} {V2:List Bool} {Y2:List Value}
theorem zct (h:Ho w k s x j y) (hM:Mm w p2 gC2 gD2 L2 X2 V2 Y2 y.most) (hV:V2.length=y.V.length) (hD:p2∉k.D/\gC2∉k.D/\gD2∉k.D) (hcs:y.calls<=1000000) :
    Calls Tryz.prog 27 #[.pointer (some ⟨j.h,0,none⟩),.pointer (some ⟨p2,0,none⟩)] w (un_ w k s x j y p2 gC2 gD2 L2 V2):=by
 obtain⟨X,Y,hM1⟩:=h.mm;obtain⟨vP,hs⟩:=h.sto;have HH:=hQ_ h;have HM:=hQ_ hM;have HM1:=hQ_ hM1;have HS:=hQ_ hs;have HCH:=hQ_ (fun (W:World)(hc:Chg [] w W)=>gn_ (hM1.keep hc) (hM.keep hc) y.f (by have:=h.fS;omega));unfold zmW at HCH;have HPG:=hQ_ (fun (W:World)(hc:Chg [] w W)=>xe_ (hM1.keep hc));have HPG2:=hQ_ (fun (W:World)(hc:Chg [] w W)=>xe_ (hM.keep hc));obtain⟨c0,c1,c2,c3,c4,c5,c6,c7⟩:=h.cells;have hcy:(((y.calls+1:Nat):Int))=(y.calls:Int)+1:=by omega
 rw [hV]at HPG2;have HF0:=hQ_ (show ∀(ls:List ChV) (W:World),zjV ls (vT_ y.L L2 y.f V2.length)->ls=[]->Chg [] w W->un_ w k s x j y p2 gC2 gD2 L2 V2 (.returned (.int .i64 0)) W from fun ls W h1 h2 h3=>⟨ls,h1,.inl ⟨h2,rfl,h3⟩⟩);have HF1:=hQ_ (show ∀(ls:List ChV) (W:World) (r:Int),zjV ls (vT_ y.L L2 y.f V2.length)->ls≠[]->(zF_ x.P ls=false\/yD_ x.L x.used ls.length=false)->r=1\/r=24->Chg [] w W->un_ w k s x j y p2 gC2 gD2 L2 V2 (.returned (.int .i64 r)) W from fun ls W r h1 h2 h3 h4 h5=>⟨ls,h1,.inr (.inl ⟨h2,h3,by rcases h4 with rfl|rfl;exact .inl rfl;exact .inr rfl,h5⟩)⟩);have HF2:=hQ_ (show ∀(ls:List ChV) (W:World),zjV ls (vT_ y.L L2 y.f V2.length)->ls≠[]->zF_ x.P ls=true->yD_ x.L x.used ls.length=true->Ho W k (k4_ s x ls) (zbL x ls) (comJ j p2 gC2 gD2) (zqd y L2 V2)->Chg (j.h::k.W) w W->un_ w k s x j y p2 gC2 gD2 L2 V2 (.returned (.int .i64 0)) W from fun ls W h1 h2 h3 h4 h5 h6=>⟨ls,h1,.inr (.inr ⟨h2,h3,h4,rfl,h5,h6⟩)⟩);generalize un_ w k s x j y p2 gC2 gD2 L2 V2=PO at HF0 HF1 HF2⊢;clear c1 c2 c3 c5 c7;go_enter Tryz.func27,Tryz.ntmps27;go_upto_region 1 with fail;go_cut [5] (fun v5 wx=>∃ls:List ChV,wx.ownsRow w.heap.size 123 2 v5 ls.length (xV_ ls)/\(∀a∈ls,MadeCh wx w.heap.size a)/\qv_ ls (vT_ y.L L2 y.f V2.length)/\Chg [] w wx);case first =>
  have d0:w.drew.cell? ⟨j.h,4,none⟩=_:=c4;have d1:w.drew.cell? ⟨j.h,6,none⟩=_:=c6;go_region_with (
   go_at_call 56;(with_reducible refine(HCH.o _ (Chg.refl [] w).drew).mono ?_);rintro e w1 ⟨v,ls,rfl,ho,hm,hc2,hc⟩);all_goals
    go_wp2_with fail;go_meet;exact⟨ls,ho,hm,hc2,(Chg.refl [] w).drew.trans hc⟩
 case rest =>
  obtain⟨ls,ho,hm,hc2,hc⟩:=hcut;obtain⟨w1,rfl⟩:∃w1:World,w1=wc:=⟨_,rfl⟩;obtain⟨C,dc,rfl,hch⟩:=zcj ho hm (D:=k.D) HS.o.lts;have HCD:=hQ_ hch;have HC1:=hQ_ hc;have HL2:=hQ_ (show zjV ls (vT_ y.L L2 y.f V2.length) from⟨hc2,fun a ha=>⟨(hm a ha).bl,(hm a ha).bn,(hm a ha).p⟩⟩);have HS1:=hQ_ (HS.o.keep hc);have HH1:=hQ_ (HH.o.keep hc);obtain⟨m,hmq⟩:∃m,m=ls.length:=⟨_,rfl⟩;have HMQ:=hQ_ hmq;rw[<-hmq];clear ho hm hc2 hc hch hmq c0 c4 c6;obtain⟨_,_,_,_,c4,_,c6,_⟩:=HH1.o.cells;go_upto_region 2 with fail;go_cut [25] (fun v25 wx=>v25=.bool false/\Hid (Chg [] w1 wx));case first =>
   have d4:w1.drew.cell? ⟨j.h,4,none⟩=_:=c4;go_region_with (first
    | (go_at_call 57;(with_reducible refine(HPG.o _ (HC1.o.trans (Chg.refl [] w1).drew)).mono ?_);rintro e w' ⟨rfl,rfl⟩)
    | (go_at_call 57;(with_reducible refine(HPG2.o _ (HC1.o.trans (Chg.refl [] w1).drew)).mono ?_);rintro e w' ⟨rfl,rfl⟩));all_goals
     go_wp2_with fail;go_meet;exact⟨rfl,hQ_ (Chg.refl [] w1).drew⟩
  case rest =>
   obtain⟨rfl,HCW⟩:=hcut;obtain⟨w2,rfl⟩:∃w2:World,w2=wc:=⟨_,rfl⟩;have HC2:=hQ_ (HC1.o.trans HCW.o);have HS2:=hQ_ (HS.o.keep HC2.o);have HH2:=hQ_ (HH.o.keep HC2.o);have HM2:=hQ_ (HM.o.keep HC2.o);have HCD2:=hQ_ (HCD.o.chg (HCW.o.sub (T':=[]) (fun _ h=>by cases h)) (fun _ h=>by cases h));clear c4 c6;by_cases h0:m=0
   · have hls:ls=[]:=List.eq_nil_of_length_eq_zero (by rw[<-HMQ.o];exact h0);have HE:=hQ_ (HF0.o ls w2 HL2.o hls HC2.o);have h0I:(m:Int)=0:=(by omega);clear hls h0;go_wp2_with fail;exact HE.o
   · have hls:ls≠[]:=fun e=>h0 (by rw[HMQ.o,e];rfl);have h0I:¬(m:Int)=0:=(by omega);have HNL:=hQ_ hls;clear hls h0;obtain⟨c0,_,_,_,_,_,_,c7⟩:=HH2.o.cells;have hlm:ls.length<=64:=(by
      have h1:=HL2.o.1.len;have h2:=gV_ y.L L2 y.f V2.length;have h3:=HM.o.smallV;omega);have HCO:=hQ_ (uf_ (d:=dc) HS2.o HCD2.o rfl (by omega));unfold kT_ at HCO;rw[<-HMQ.o]at HCO;by_cases hbad:zF_ x.P ls=false\/yD_ x.L x.used m=false
     · have HCO':=hQ_ (show Calls Tryz.prog 44 #[.pointer (some ⟨k.g,0,none⟩),.slice C m dc] w2 (fun e w'=>(e=.returned (.int .i64 1)\/e=.returned (.int .i64 24))/\Chg [] w2 w') from by
        refine HCO.o.mono ?_;rintro e w' (⟨_,rfl,hc⟩|⟨_,_,rfl,hc⟩|⟨h1,h2,_⟩)
        · exact⟨.inl rfl,hc⟩
        · exact⟨.inr rfl,hc⟩
        · exfalso;rcases hbad with h|h
          · rw[h1]at h;cases h
          · rw[h2]at h;cases h);have HE:=hQ_ (fun (W:World)(r:Int)(hr:r=1\/r=24)(hc:Chg [] w2 W)=>HF1.o ls W r HL2.o HNL.o (by rw[<-HMQ.o];exact hbad) hr (HC2.o.trans hc));clear HCO hbad hlm c7;go_upto_region 8 with(
        go_at_call 44;(with_reducible refine HCO'.out.mono ?_);rintro e w3 ⟨hr,hc⟩;have HC3:=hQ_ hc;clear hc;rcases hr with rfl|rfl)
       · go_wp2_with fail;exact HE.o _ _ (.inl rfl) HC3.o
       · go_wp2_with fail;exact HE.o _ _ (.inr rfl) HC3.o
     · have hgood:zF_ x.P ls=true/\yD_ x.L x.used m=true:=(by
        constructor
        · cases h:zF_ x.P ls
          · exact absurd (.inl h) hbad
          · rfl
        · cases h:yD_ (x.L:Int) (x.used:Int) (m:Int)
          · exact absurd (.inr h) hbad
          · rfl);have HCO':=hQ_ (show Calls Tryz.prog 44 #[.pointer (some ⟨k.g,0,none⟩),.slice C m dc] w2 (fun e w'=>e=.returned (.int .i64 0)/\(∃v,Sto w' k (k4_ s x ls) (zbL x ls) v)/\Chg k.W w2 w') from by
        refine HCO.o.mono ?_;rintro e w' (⟨h1,_⟩|⟨_,h2,_⟩|⟨_,_,rfl,hv,hc⟩)
        · rw[hgood.1]at h1;cases h1
        · rw[hgood.2]at h2;cases h2
        · exact⟨rfl,hv,hc⟩);have hWD:∀i∈k.W,i∈k.D:=fun i hi=>by
        simp only[SK.W,SK.D,List.mem_cons,List.not_mem_nil,or_false]at hi⊢;rcases hi with h|h|h|h|h<;>simp[h]
       have hjW:j.h∉k.W:=fun hm=>by
        simp only[SK.W,List.mem_cons,List.not_mem_nil,or_false]at hm;have hn:=HH2.o.hne;rcases hm with h|h|h|h|h<;>exact hn _ (by simp[<-h]) h.symm
       have HE:=hQ_ (show ∀(W:World),(∃v,Sto W k (k4_ s x ls) (zbL x ls) v)->Chg k.W w2 W->PO (.returned (.int .i64 0)) ((W.setCell ⟨j.h,4,none⟩ (.pointer (some ⟨p2,0,none⟩))).setCell ⟨j.h,7,none⟩ (.int .i64 ((y.calls:Int)+1))) from fun W hv hc=>by
        have hjD:j.h∈k.D:=(by simp only[SK.D,List.mem_cons];exact .inr (.inr (.inr (.inr (.inr (.inr HH2.o.hin))))));have hr3:=HH2.o.rec_.chg hc hjW;have hr5:=(hr3.set_ 4 (.pointer (some ⟨p2,0,none⟩))).set_ 7 (.int .i64 ((y.calls:Int)+1));unfold hoC at hr5;simp only[List.set_cons_succ,List.set_cons_zero]at hr5;have hc5:Chg [j.h] W ((W.setCell ⟨j.h,4,none⟩ (.pointer (some ⟨p2,0,none⟩))).setCell ⟨j.h,7,none⟩ (.int .i64 ((y.calls:Int)+1))):=((Chg.refl [j.h] W).setCell (p:=⟨j.h,4,none⟩) (fun _=>by simp) _).setCell (p:=⟨j.h,7,none⟩) (fun _=>by simp) _;have hall:Chg (j.h::k.W) w2 ((W.setCell ⟨j.h,4,none⟩ (.pointer (some ⟨p2,0,none⟩))).setCell ⟨j.h,7,none⟩ (.int .i64 ((y.calls:Int)+1))):=(hc.sub (fun i hi=>List.mem_cons_of_mem _ hi)).trans (hc5.sub (fun i hi=>by simp only[List.mem_cons,List.not_mem_nil,or_false]at hi;subst hi;simp));have hnot:∀{i:Nat},i∉k.D->i∉j.h::k.W:=fun hi hm=>by
         rcases List.mem_cons.1 hm with h|h
         · subst h;exact hi hjD
         · exact hi (hWD _ h)
        obtain⟨v,hs3⟩:=hv;generalize (W.setCell ⟨j.h,4,none⟩ (.pointer (some ⟨p2,0,none⟩))).setCell ⟨j.h,7,none⟩ (.int .i64 ((y.calls:Int)+1))=W5 at hr5 hc5 hall⊢;refine HF2.o ls W5 HL2.o HNL.o hgood.1 (by rw[<-HMQ.o];exact hgood.2) ?_ ((HC2.o.sub (fun _ h=>by cases h)).trans hall);have hf:=HH2.o.fn;exact { sto:=⟨v,Sto.past hs3 hc5 HH2.o.hin HH2.o.hne⟩,hin:=HH2.o.hin,hne:=HH2.o.hne,rec_:=by rw[<-hcy]at hr5;exact hr5,fn:=⟨hf.len,hf.src.chg hall (fun h0 ad e=>hnot (HH2.o.fA (by rw[yG_]at h0;show 0<y.fs.length;omega) ad e)),hf.cap,hf.max,hf.spot,hf.args⟩,fA:=HH2.o.fA,mm:=⟨X2,Y2,HM2.o.away hall (hnot hD.1) (hnot hD.2.1) (hnot hD.2.2)⟩,far:=hD,tS:=HH2.o.tS,fS:=HH2.o.fS });have HJW:=hQ_ hjW;have hwr:IntKind.i64.wrap ((y.calls:Int)+1)=(y.calls:Int)+1:=IntWalk.i64_in _ (by omega);clear HCO hbad hlm hgood hWD hjW c7 hcy hD hcs hV;go_upto_region 8 with(
        go_at_call 44;(with_reducible refine HCO'.out.mono ?_);rintro e w3 ⟨rfl,hv,hc⟩;have HV3:=hQ_ hv;have HC3:=hQ_ hc;have hr3:=HH2.o.rec_.chg hc HJW.o;unfold hoC at hr3;have HR3:=hQ_ hr3;clear hv hc hr3);have c4:=HR3.o.cell 4;have c7:=HR3.o.cell 7;have f4:=HR3.o.frozen 4;have f7:=HR3.o.frozen 7;go_wp2_with fail;exact HE.o w3 HV3.o HC3.o
end
def SK.more (k:SK)(q:Nat):SK:=⟨k.p,k.bL,k.bS,k.bW,k.g,k.gN,q::k.ex⟩
theorem SK.more_in {k:SK}{q i:Nat}:i∈(k.more q).D↔i=q\/i∈k.D:=by
 simp only[SK.more,SK.D,List.mem_cons];constructor
 · rintro(h|h|h|h|h|h|h|h)<;>simp[h]
 · rintro(h|h|h|h|h|h|h|h)<;>simp[h]
theorem uI_.less {T T':List Nat}{w:World}{v:Value}{ps:List (List UInt8)}(h:uI_ T w v ps)(hT:∀i∈T',i∈T):uI_ T' w v ps:=by
 obtain⟨A,c,us,e,h1,h2,h3,h4,h5⟩:=h;refine⟨A,c,us,e,h1,h2,h3,fun ad e=>⟨(h4 ad e).1,fun hm=>(h4 ad e).2 (hT _ hm)⟩,fun i u l hu hl=>?_⟩;obtain⟨A',n',c',e',hB,hD⟩:=h5 i u l hu hl;exact⟨A',n',c',e',hB,fun ad e hm=>hD ad e (hT _ hm)⟩
section
variable {w w':World} {k:SK} {s:St} {x:SV} {j:HK} {y:HV} {q:Nat}
theorem Ho.more (h:Ho w k s x j y)(hc:Chg [] w w')(hq:w.heap.size<=q)(hq2:q<w'.heap.size):Ho w' (k.more q) s x j y:=by
 obtain⟨vP,hs⟩:=h.sto;obtain⟨X,Y,hm⟩:=h.mm;have hk:=h.keep hc;have hn:∀{i:Nat},i<w.heap.size->i∉k.D->i∉(k.more q).D:=fun hi hd hm=>by
  rcases SK.more_in.1 hm with h|h
  · omega
  · exact hd h
 have hfa:0<y.fs.length->∀ad,j.A=some ad->ad.block∉(k.more q).D:=fun h0 ad e=>by
  obtain⟨ad',e',hb,_⟩:=h.fn.src (by rw[yG_];omega);rw[e]at e';injection e' with e';subst e';exact hn hb (h.fA h0 ad e)
 exact { hk with sto:=⟨vP,Sto.more hs hc hq hq2⟩,hin:=List.mem_cons_of_mem _ h.hin,hne:=h.hne,mm:=hk.mm,far:=⟨hn hm.rec_.lt h.far.1,hn hm.cel.lt h.far.2.1,hn hm.dir.lt h.far.2.2⟩,fA:=hfa }
theorem Ho.past (h:Ho w (k.more q) s x j y)(hc:Chg [q] w w')(hj:j.h≠q)(hn:∀i∈[k.p,k.bL,k.bS,k.bW,k.g,k.gN],i≠q):Ho w' k s x j y:=by
 obtain⟨vP,hs⟩:=h.sto;obtain⟨X,Y,hm⟩:=h.mm;have hq:q∈(k.more q).D:=SK.more_in.2 (.inl rfl);have hf:∀{i:Nat},i∉(k.more q).D->i∉[q]:=fun hi he=>hi (by rw[List.mem_singleton.1 he];exact hq);have hp:=Sto.past hs hc (by simp[SK.more]) hn;have hl:∀{i:Nat},i∉(k.more q).D->i∉k.D:=fun hi he=>hi (SK.more_in.2 (.inr he));refine { sto:=⟨vP,{ dsk:=hp.dsk,rec_:=hp.rec_,pgs:=hp.pgs.less fun i hi=>SK.more_in.2 (.inr hi),nm:=hp.nm,ng:=hp.ng,rt:=hp.rt,ep:=hp.ep,pl:=hp.pl,nl:=hp.nl,p64:=hp.p64,us:=hp.us,sq:=hp.sq,exl:=fun i hi=>hp.exl i (List.mem_cons_of_mem _ hi) }⟩,hin:=?_,hne:=h.hne,rec_:=h.rec_.chg hc (by simpa using hj),fn:=⟨h.fn.len,h.fn.src.chg hc (fun h0 ad e=>hf (h.fA (by rw[yG_]at h0;omega) ad e)),h.fn.cap,h.fn.max,h.fn.spot,h.fn.args⟩,fA:=fun h0 ad e=>hl (h.fA h0 ad e),mm:=⟨X,Y,hm.away hc (hf h.far.1) (hf h.far.2.1) (hf h.far.2.2)⟩,far:=⟨hl h.far.1,hl h.far.2.1,hl h.far.2.2⟩,tS:=h.tS,fS:=h.fS };have hi:=h.hin;simp only[SK.more,List.mem_cons]at hi;rcases hi with h|h
 · exact absurd h hj
 · exact h
end
end Go.Proofs.YtcbcfcdmdedefaaGreatDoor
