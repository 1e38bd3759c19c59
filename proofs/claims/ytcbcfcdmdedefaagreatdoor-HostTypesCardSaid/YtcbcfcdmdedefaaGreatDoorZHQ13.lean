import Derived.Test.YtcbcfcdmdedefaaGreatDoorZHQ12
set_option maxRecDepth 100000
set_option maxHeartbeats 16000000
namespace Go.Proofs.YtcbcfcdmdedefaaGreatDoor
open Go.RowKit
theorem getD_set_ne {α:Type}(l:List α)(n i:Nat)(a d:α)(h:n≠i):(l.set n a).getD i d=l.getD i d:=by
 rw[List.getD_eq_getElem?_getD,List.getD_eq_getElem?_getD,List.getElem?_set_ne h]
theorem zcE {α:Type}(l:List α)(n:Nat)(a d:α)(h:n<l.length):(l.set n a).getD n d=a:=by
 rw[List.getD_eq_getElem?_getD,List.getElem?_set_self h];rfl
theorem zdv (base:List (List UInt8)):∀(m:List ChV) (ps:List (List UInt8)) (N:List Bool),N.length=ps.length->(∀i,N.getD i false=false->ps.getD i []=base.getD i [])->∀i,(va_ N m).getD i false=false->(zY_ ps m).getD i []=base.getD i []
  | [],_,_,_,h,i,hi=>h i hi
  | a :: m,ps,N,hl,h,i,hi=>by
    show(zY_ (yX_ ps a) m).getD i []=_;refine zdv base m (yX_ ps a) (N.set a.page.toNat true) (by rw[gg_,List.length_set,hl]) (fun j hj=>?_) i hi;by_cases e:a.page.toNat=j
    · subst e;rcases Nat.lt_or_ge a.page.toNat N.length with hb|hb
      · rw[zcE N _ true false hb]at hj;cases hj
      · rw[List.set_eq_of_length_le hb]at hj;have h1:=h _ hj;unfold yX_;split
        · rw[List.set_eq_of_length_le (by omega)];exact h1
        · exact h1
    · rw[getD_set_ne N _ j true false e]at hj;have h1:=h _ hj;unfold yX_;split
      · rw[getD_set_ne ps _ j a.B [] e];exact h1
      · exact h1
theorem zdw (base:List (List UInt8)):∀(ms:List (List ChV))(x:SV),x.named.length=x.pages.length->(∀i,x.named.getD i false=false->x.pages.getD i []=base.getD i [])->∀i,(ms.foldl zZ_ x).named.getD i false=false->(ms.foldl zZ_ x).pages.getD i []=base.getD i []
  | [],_,_,h,i,hi=>h i hi
  | m::ms,x,hl,h,i,hi=>by
    refine zdw base ms (zZ_ x m) ?_ (fun j hj=>zdv base m x.pages x.named hl h j hj) i hi;show(va_ x.named m).length=(zY_ x.pages m).length;rw[vQ_,yP_,hl]
theorem zbp:∀(ms:List (List ChV))(x:SV),(ms.foldl zZ_ x).pages.length=x.pages.length/\(ms.foldl zZ_ x).named.length=x.named.length
  | [],_=>⟨rfl,rfl⟩
  | m::ms,x=>by
    obtain⟨h1,h2⟩:=zbp ms (zZ_ x m);refine⟨h1.trans ?_,h2.trans ?_⟩
    · show(zY_ x.pages m).length=_;rw[yP_]
    · show(va_ x.named m).length=_;rw[vQ_]
theorem ziG:∀(ms:List (List ChV))(x:SV),(∀l∈x.pages,l.length=64)->(∀m∈ms,∀a∈m,a.B.length=64)->∀l∈(ms.foldl zZ_ x).pages,l.length=64
  | [],_,h,_=>h
  | m::ms,x,h,hm=>ziG ms (zZ_ x m) (qq_ m x.pages h (hm m List.mem_cons_self)) (fun y hy=>hm y (List.mem_cons_of_mem _ hy))
def RecN (s:St)(L P E:Nat)(ms:List (List ChV)):Prop:=∀x,(recT s ⟨L,P,E⟩).foldl zZ_ x=ms.foldl zZ_ x
theorem zhf {s:St}{L P E:Nat}(hr:zp_ L P E s.V.length=true)(h:¬zR_ (xI_ s L) E 0):RecN s L P E []:=fun x=>by
 unfold recT recsS;show(zai (P:Int) (scanS (zbO s L P E) E).1).1.foldl zZ_ x=_;have h1:=(At.zero (xI_ s L) E).last h;rw[show zbO s L P E=xI_ s L by unfold zbO;rw[if_pos hr,Int.toNat_natCast],h1];rfl
theorem zhi {l:List UInt8}{E E' q q':Nat}(h:zR_ l E q)(hne:E'≠E):¬zR_ l E' q':=fun h2=>hne (by have:=h.2.1;have:=h2.2.1;omega)
theorem LogZ.other {s:St}{L P E:Nat}{ms:List (List ChV)}{u:Nat}(h:LogZ s L P E ms u)(hE:E<4294967296){E':Nat}(hE':1<=E')(hne:E'≠E):¬zR_ (xI_ s L) E' 0:=by
 rw[h.log];have hi:=h.ins;cases ms with
 | nil=>exact jv_ hE'
 | cons m ms =>
   have hm:=hi m List.mem_cons_self;show ¬zR_ ((zU_ E 0 (zD_ m)++km_ E 1 ms)++_) E' 0;rw[List.append_assoc];exact zhi (zdT E 0 (zD_ m) _ hE (by omega) (by rw[uk_ hm.1];have:=hm.2.2;omega)) hne
theorem uY_ (s:St)(L n i:Nat)(hi:i<n):(z4_ s L n).getD i []=x2_ s (2+L+i):=by
 unfold z4_ x2_;rw[List.getD_eq_getElem?_getD,List.getElem?_map,List.getElem?_range hi,Int.toNat_natCast];rfl
theorem zht {s:St}(h:Gd s)(L n:Nat)(hn:2+L+n<=s.V.length):∀l∈z4_ s L n,l.length=64:=fun l hl=>by
 obtain⟨i,hi,rfl⟩:=List.mem_map.1 hl;have:=List.mem_range.1 hi;exact uP_ h (by rw[Int.toNat_natCast];omega)
theorem zdW {a b:List (List UInt8)}(hl:a.length=b.length)(h:∀i,i<a.length->a.getD i []=b.getD i []):a=b:=by
 apply List.ext_getElem hl;intro i h1 h2;have:=h i h1;rw[List.getD_eq_getElem?_getD,List.getD_eq_getElem?_getD,List.getElem?_eq_getElem h1,List.getElem?_eq_getElem h2]at this;exact this
structure Kept (s:St) (x:SV) (ms:List (List ChV)):Prop where
  gd:Gd s
  rt:zp_ x.L x.P x.E s.V.length=true
  ep:x.E<4294967296
  best:yW_ s.V.length s.S 2=⟨x.L,x.P,x.E⟩
  recs:RecN s x.L x.P x.E ms
  ins:∀m∈ms,InL x.P m
  pages:x.pages=(ms.foldl zZ_ (xq_ s ⟨x.L,x.P,x.E⟩)).pages
  named:x.named=(ms.foldl zZ_ (xq_ s ⟨x.L,x.P,x.E⟩)).named
section
variable {s:St} {x:SV} {ms:List (List ChV)}
theorem Kept.lens (h:Kept s x ms):x.pages.length=x.P/\x.named.length=x.P/\(∀l∈x.pages,l.length=64):=by
 have h1:=zi_.1 h.rt;obtain⟨f1,f2⟩:=zbp ms (xq_ s ⟨x.L,x.P,x.E⟩);refine⟨by rw[h.pages,f1];exact yL_ _ _ _,by rw[h.named,f2];exact List.length_replicate ..,?_⟩;rw[h.pages];exact ziG ms _ (zht h.gd x.L x.P (by omega)) (fun m hm a ha=>((h.ins m hm).1 a ha).2)
theorem Kept.open_ (h:Kept s x ms):(openV s ⟨x.L,x.P,x.E⟩).pages=x.pages/\(openV s ⟨x.L,x.P,x.E⟩).named=x.named/\(openV s ⟨x.L,x.P,x.E⟩).L=x.L/\(openV s ⟨x.L,x.P,x.E⟩).P=x.P/\(openV s ⟨x.L,x.P,x.E⟩).E=x.E:=by
 have e:openV s ⟨x.L,x.P,x.E⟩=ms.foldl zZ_ (xq_ s ⟨x.L,x.P,x.E⟩):=h.recs _;obtain⟨a,b,c,_⟩:=uM_ ms (xq_ s ⟨x.L,x.P,x.E⟩);rw[e];exact⟨h.pages.symm,h.named.symm,a,b,c⟩
theorem Kept.ck (h:Kept s x ms)(y:SV)(hy:y.pages=x.pages/\y.named=x.named/\y.L=x.L/\y.P=x.P/\y.E=x.E)(hE:x.E+1<4294967296)(hno:¬zR_ (xI_ s x.L) (x.E+1) 0):Kept (ckS s y) (ckV y) []:=by
 obtain⟨y1,y2,y3,y4,y5⟩:=hy;obtain⟨l1,l2,l3⟩:=h.lens;have h1:=zi_.1 h.rt;have hr:zp_ y.L y.P y.E s.V.length=true:=by rw[y3,y4,y5];exact h.rt
 have hp:y.pages.length=y.P:=by rw[y1,y4];exact l1
 have h64:∀l∈y.pages,l.length=64:=by rw[y1];exact l3
 have hr':zp_ y.L y.P ((y.E+1:Nat):Int) (ckS s y).V.length=true:=by rw[vU_];exact zi_.2 (by rw[y3,y4,y5];omega)
 have hb:yW_ (ckS s y).V.length (ckS s y).S 2=⟨y.L,y.P,y.E+1⟩:=zoE h.gd hr hp h64 (by rw[h.best,y5];exact Nat.le_refl _) (by omega);have hpg:∀i,i<y.P->x2_ (ckS s y) (2+y.L+i)=y.pages.getD i []:=fun i hi=>by
  rw[v6_ h.gd hr hp h64,if_neg (by omega)];by_cases hn:y.named.getD i false=true
  · rw[if_pos ⟨by omega,by omega,by rw[show 2+y.L+i-(2+y.L)=i by omega];exact hn⟩,show 2+y.L+i-(2+y.L)=i by omega]
  · rw[if_neg (fun h3=>hn (by have:=h3.2.2;rwa[show 2+y.L+i-(2+y.L)=i by omega]at this))];have hn':x.named.getD i false=false:=(by rw[<-y2];simpa using hn);rw[h.named]at hn';have h2:=zdw (z4_ s x.L x.P) ms (xq_ s ⟨x.L,x.P,x.E⟩) (by show(List.replicate x.P false).length=(z4_ s x.L x.P).length;rw[List.length_replicate,yL_]) (fun j _=>rfl) i hn';rw[y1,h.pages,h2,uY_ s x.L x.P i (by omega),y3]
 refine { gd:=zlL h.gd hr hp h64,rt:=hr',ep:=by show y.E+1<_;omega,best:=hb,recs:=?_,ins:=fun m hm=>(by cases hm),pages:=?_,named:=rfl }
 · refine zhf hr' ?_;show ¬zR_ (xI_ (ckS s y) y.L) (y.E+1) 0;have e:xI_ (ckS s y) y.L=xI_ s y.L:=j3_ (vU_ s y) (by omega) (fun j hj1 hj2=>by rw[v6_ h.gd hr hp h64,if_neg (by omega),if_neg (by omega)]) y.L (Nat.le_refl _);rw[e,y3,y5];exact hno
 · show y.pages=z4_ (ckS s y) y.L y.P;refine zdW (by rw[hp,yL_]) (fun i hi=>?_);rw[uY_ _ _ _ _ (by omega),hpg i (by omega)]
theorem Kept.flA (h:Kept s x ms):Kept (flA s) x ms:=by
 have e:xq_ (Go.Proofs.YtcbcfcdmdedefaaGreatDoor.flA s) ⟨x.L,x.P,x.E⟩=xq_ s ⟨x.L,x.P,x.E⟩:=by
  unfold xq_ z4_;rw[zfD,zJ_]
 refine { gd:=h.gd.flA,rt:=by rw[zJ_];exact h.rt,ep:=h.ep,best:=by rw[zfD,zJ_];exact h.best,recs:=?_,ins:=h.ins,pages:=by rw[e];exact h.pages,named:=by rw[e];exact h.named };have e2:recT (Go.Proofs.YtcbcfcdmdedefaaGreatDoor.flA s) ⟨x.L,x.P,x.E⟩=recT s ⟨x.L,x.P,x.E⟩:=by
  unfold recT recsS zbO xI_;rw[zfD,zJ_]
 intro y;rw[e2];exact h.recs y
end
structure Bas (h:Int) (bs:List BkV):Prop where
  sorted:bs.Pairwise fun a b=>a.base<=b.base
  oth:∀x∈bs,x.sign=58->x.other=-1\/x.base<=x.other
  top:0<=h->∀x∈bs,x.base<=h
theorem Bas.base {h:Int}{bs:List BkV}(hb:Bas h bs)(h0:0<=h):xn_ bs<=h:=by
 unfold xn_;cases hl:bs.getLast? with
 | none=>exact h0
 | some x=>exact hb.top h0 x (List.mem_of_getLast? hl)
theorem qK_ {l:List FnV}{s:Int}(hs:vx_ s)(name:Int):xe_ l s name=(0,0,true):=by
 rcases hs with rfl|rfl|rfl<;>rfl
theorem zaI {l:List FnV}{h:Int}{bs:List BkV}{s name:Int}(h0:h<0):qy_ l h bs s name=if vx_ s then yU_ h bs s else (15,h,bs):=by
 unfold qy_ yU_;by_cases he:vx_ s
 · rw[if_pos he,if_pos he,if_pos he];rfl
 · rw[if_neg he,if_neg he,if_pos h0]
theorem zaH {l:List FnV}{h:Int}{bs:List BkV}{s name p g:Int}(h0:0<=h)(ht:xe_ l s name=(p,g,false)):qy_ l h bs s name=(22,h,bs):=by
 have he:¬vx_ s:=fun he=>by rw[qK_ he]at ht;simp at ht
 unfold qy_;rw[if_neg he,if_neg (by omega),ht]
theorem qV_ {l:List FnV}{h:Int}{bs:List BkV}{s name p g:Int}(h0:0<=h)(h64:h<=64)(hb:xn_ bs<=h)(ht:xe_ l s name=(p,g,true)):qy_ l h bs s name=if h-xn_ bs<p\/64<h-p+g then (14,h,bs) else yU_ (h-p+g) bs s:=by
 by_cases he:vx_ s
 · rw[qK_ he]at ht;injection ht with h1 h2;injection h2 with h2 _;subst h1;subst h2;rw[if_neg (by omega),show h-0+0=h from by omega];unfold qy_ yU_;rw[if_pos he,if_pos he];rfl
 · unfold qy_ yU_;rw[if_neg he,if_neg (by omega),ht,if_neg he];rfl
section
variable {W:World} {g:Nat} {h:Int} {v:Value} {bs:List BkV} {A:Option Addr} {n c:Nat} {l:List FnV} {pages most:Int}
theorem zgj (s:Wk W g h v bs)(hF:Fnr W A n c l)(t:TkV)(hb:Bas h bs)(htop:Top t.sign bs)(hfew:bs.length<=99):Calls Tryz.prog 102 #[.pointer (some ⟨g,0,none⟩),yC_ pages most A n c,.agg (tkC t).toArray] W (yy_ W g (qy_ l h bs t.sign t.name)):=by
 unfold yC_;obtain⟨r,tn,nm⟩:=t;simp only at htop;simp only[tkC];obtain⟨R,hR⟩:∃R,R=qy_ l h bs r nm:=⟨_,rfl⟩;rw[<-hR];have HR:=hQ_ hR;have HTOP:=hQ_ htop;have HS:=hQ_ s;have HF:=hQ_ hF;have HB:=hQ_ hb;obtain⟨hr0,hr1⟩:=s.hr;clear hR htop s hF hb;go_enter Tryz.func102,Tryz.ntmps102;go_upto_region 1 with fail;have hN:=zb_.new W 25 [.int .i64 pages,.int .i64 most,.slice A n c];have hal:Chg [] W (W.alloc (.cells #[.int .i64 pages,.int .i64 most,.slice A n c] 25)):=(Chg.refl [] W).alloc _;have hsz:(W.alloc (.cells #[.int .i64 pages,.int .i64 most,.slice A n c] 25)).heap.size=W.heap.size+1:=Array.size_push _;obtain⟨w1,hw1⟩:∃w1,w1=W.alloc (.cells #[.int .i64 pages,.int .i64 most,.slice A n c] 25):=⟨_,rfl⟩;rw[<-hw1]at hN hal hsz⊢;have hN2:=zb_.new w1 132 [.int .i32 r,.int .i64 tn,.int .i32 nm];have hal2:Chg [] w1 (w1.alloc (.cells #[.int .i32 r,.int .i64 tn,.int .i32 nm] 132)):=(Chg.refl [] w1).alloc _;rw[hsz]at hN2;have hU2:=hN.keep hal2;have hc:=hal.trans hal2;generalize w1.alloc (.cells #[.int .i32 r,.int .i64 tn,.int .i32 nm] 132)=w2 at hN2 hU2 hc⊢;have HF2:=hQ_ (HF.o.keep hc);have HS2:=hQ_ (HS.o.keep hc);have HGU:=hQ_ (show g<W.heap.size from HS.o.rec_.lt);generalize W.heap.size=gu at hU2 hN2 HGU⊢;have HU2:=hQ_ hU2;have HT2:=hQ_ hN2;have HC2:=hQ_ hc;clear hN hal hsz hw1 hN2 hal2 hU2 hc;have c0:=HS2.o.rec_.cell 0;have t0:=HT2.o.cell 0;have t1:=HT2.o.cell 1;have t2:=HT2.o.cell 2;have u0:=HU2.o.cell 0;have u1:=HU2.o.cell 1;have u2:=HU2.o.cell 2;by_cases hdead:h=-1
 · have HRD:=hQ_ (HR.o.trans (zaI (by omega)));subst hdead;by_cases h58:r=58
   · subst h58;have HRE:=hQ_ (HRD.o.trans (if_pos (.inl rfl)));have HTC:=hQ_ (uK_ HS2.o 58 HTOP.o (fun hh=>by omega));rw[<-HRE.o]at HTC;go_wp2_with fail;refine HTC.o.mono ?_;obtain⟨er,rh,rb⟩:=R;rintro e w9 ⟨hf9,rfl,hw9⟩;have HP:=hQ_ (show yy_ W g (er,rh,rb) (.returned (.int .i64 er)) w9 from⟨(Fr.of_chg HC2.o).trans hf9,rfl,hw9⟩);clear hf9 hw9;go_wp2_with fail;go_ret;exact HP.o
   have q58:(r==58)=false:=(by simpa using h58);have p58:(r != 58)=true:=(by simpa using h58);by_cases h59:r=59
   · subst h59;have HRE:=hQ_ (HRD.o.trans (if_pos (.inr (.inl rfl))));have HTC:=hQ_ (uK_ HS2.o 59 HTOP.o (fun hh=>by omega));rw[<-HRE.o]at HTC;go_wp2_with fail;refine HTC.o.mono ?_;obtain⟨er,rh,rb⟩:=R;rintro e w9 ⟨hf9,rfl,hw9⟩;have HP:=hQ_ (show yy_ W g (er,rh,rb) (.returned (.int .i64 er)) w9 from⟨(Fr.of_chg HC2.o).trans hf9,rfl,hw9⟩);clear hf9 hw9;go_wp2_with fail;go_ret;exact HP.o
   have q59:(r==59)=false:=(by simpa using h59);have p59:(r != 59)=true:=(by simpa using h59);by_cases h93:r=93
   · subst h93;have HRE:=hQ_ (HRD.o.trans (if_pos (.inr (.inr rfl))));have HTC:=hQ_ (uK_ HS2.o 93 HTOP.o (fun hh=>by omega));rw[<-HRE.o]at HTC;go_wp2_with fail;refine HTC.o.mono ?_;obtain⟨er,rh,rb⟩:=R;rintro e w9 ⟨hf9,rfl,hw9⟩;have HP:=hQ_ (show yy_ W g (er,rh,rb) (.returned (.int .i64 er)) w9 from⟨(Fr.of_chg HC2.o).trans hf9,rfl,hw9⟩);clear hf9 hw9;go_wp2_with fail;go_ret;exact HP.o
   have q93:(r==93)=false:=(by simpa using h93);have p93:(r != 93)=true:=(by simpa using h93);have HRE:=hQ_ (HRD.o.trans (if_neg (show ¬vx_ r from by unfold vx_;omega)));have HP:=hQ_ (show yy_ W g R (.returned (.int .i64 15)) w2 from⟨Fr.of_chg HC2.o,by rw[HRE.o],fun hh=>by rw[HRE.o]at hh;exact absurd hh (by simp)⟩);clear h58 h59 h93;go_wp2_with fail;go_ret;exact HP.o
 have qdead:(h == -1)=false:=by simpa using hdead
 have h0:0<=h:=by omega
 have HBB:=hQ_ (HB.o.base h0);clear hdead;obtain⟨T,hT⟩:∃T,T=xe_ l r nm:=⟨_,rfl⟩;have HT:=hQ_ hT;have hin:=zaJ l r nm;rw[<-hT]at hin;clear hT;go_wp2_with fail;refine(zfV HF2.o ⟨r,tn,nm⟩).mono ?_;rw[<-HT.o];obtain⟨p,q,ok⟩:=T;simp only at hin;rintro e w3 ⟨rfl,hc3⟩;have HS3:=hQ_ (HS2.o.keep hc3);have HT3:=hQ_ (HT2.o.keep hc3);have HC3:=hQ_ (HC2.o.new hc3);clear hc3 c0 t0 t1 t2 u0 u1 u2 HF2 HU2 HS2 HT2 HC2;cases ok with
 | false =>
   have HRE:=hQ_ (HR.o.trans (zaH h0 HT.o.symm));have HP:=hQ_ (show yy_ W g R (.returned (.int .i64 22)) w3 from⟨Fr.of_chg HC3.o,by rw[HRE.o],fun hh=>by rw[HRE.o]at hh;exact absurd hh (by simp)⟩);go_wp2_with fail;go_ret;exact HP.o
 | true =>
   have HR2:=hQ_ (HR.o.trans (qV_ h0 hr1 HBB.o HT.o.symm));obtain⟨b0,hb0⟩:∃b,b=xn_ bs:=⟨_,rfl⟩;have hbr:0<=b0/\b0<=64:=by
    rw[hb0];unfold xn_;cases hl:bs.getLast? with
    | none=>exact⟨Int.le_refl 0,by decide⟩
    | some x=>have:=HS3.o.rb x (List.mem_of_getLast? hl);exact⟨this.1,this.2.1⟩
   rw[<-hb0]at HR2;have HBO:=hQ_ hb0;clear hb0;go_upto_region 8 with fail;have c3:=HS3.o.rec_.cell 0;have HDR:=hQ_ ((Chg.refl [] w3).drew);have HCB:=hQ_ (fun (V:World)(hV:Chg [] w3 V)=>show Calls Tryz.prog 141 #[.pointer (some ⟨g,0,none⟩)] V (ju_ b0 V) from by rw[HBO.o];exact zgn (HS3.o.keep hV));by_cases hlow:h-b0<p
   · have qlow:decide (h-b0<p)=true:=(by simpa using hlow);have HRE:=hQ_ (HR2.o.trans (if_pos (.inl hlow)));clear hlow;refine wp_flow (by kernel_rfl) yn_ za_ (by kernel_rfl) ?_;refine flow_move_out za_ rfl rfl rfl ?_;refine flow1 (r:=.pointer (some ⟨g,0,none⟩)) za_ rfl (.inn rfl) rfl (fun ev W he e1=>by go_simp) ?_;refine flow1 (r:=.pointer (some ⟨g,0,none⟩)) za_ rfl (.inn rfl) rfl (fun ev W he e1=>by go_simp) ?_;refine flow1h (r:=.int .i64 h) za_ rfl (.inn rfl) rfl (fun ev W he hW e1=>by have c0:=zd_ (by simpa using c3:w3.cell? ⟨g,0,none⟩=some (.int .i64 h)) (HDR.o.trans (show Chg [] w3.drew _ from hW));go_simp) ?_;refine flow_move_out za_ rfl rfl rfl ?_;refine zw_ (.int .i64 b0) (by kernel_rfl) rfl (.cons (.inn rfl) .nil) (fun V hV=>(HCB.o V (HDR.o.trans (show Chg [] w3.drew _ from hV))).mono fun e w' hb=>⟨hb.1,by rw[xM_];exact hb.2⟩) ?_;refine flow2 (r:=.int .i64 (h-b0)) za_ rfl (.inn rfl) (.inn rfl) rfl (fun ev W he e1 e2=>by have hw:IntKind.i64.wrap (h-b0)=h-b0:=IntWalk.i64_in _ (by omega);go_simp) ?_;refine flow_move_out za_ rfl rfl rfl ?_;refine flow2 (r:=.bool true) za_ rfl (.inn rfl) (.inn rfl) rfl (fun ev W he e1 e2=>by go_simp) ?_;refine zP_ za_ rfl (zc_ _) (.inr (zc_ _)) rfl ?_;refine zA_ rfl ?_;refine zA_ rfl ?_;refine zA_ rfl ?_;refine zA_ rfl ?_;refine zA_ rfl ?_;refine zA_ rfl ?_;refine zA_ rfl ?_;refine zA_ rfl ?_;refine zA_ rfl ?_;refine zbs za_ rfl rfl rfl ?_;intro vs V hV hG;obtain e60:vs 60=.bool true:=hG 60 _ rfl (by kernel_rfl);have hV':Chg [] w3 V:=HDR.o.trans (show Chg [] w3.drew _ from hV);have HS4:=hQ_ (HS3.o.keep hV');have HT4:=hQ_ (HT3.o.keep hV');have HC4:=hQ_ (HC3.o.new hV');simp only[zW_,Act.put,List.setIfInBounds_toArray,List.set_cons_zero,List.set_cons_succ,e60];clear hG hV hV' e60 c3 HCB;have HP:=hQ_ (show yy_ W g R (.returned (.int .i64 14)) V from⟨Fr.of_chg HC4.o,by rw[HRE.o],fun hh=>by rw[HRE.o]at hh;exact absurd hh (by simp)⟩);go_wp2_with fail;go_ret;exact HP.o
   · have qlow:decide (h-b0<p)=false:=(by simpa using hlow);by_cases hbig:64<h-p+q
     · have qbig:decide (64<h-p+q)=true:=(by simpa using hbig);have HRE:=hQ_ (HR2.o.trans (if_pos (.inr hbig)));refine wp_flow (by kernel_rfl) yn_ za_ (by kernel_rfl) ?_;refine flow_move_out za_ rfl rfl rfl ?_;refine flow1 (r:=.pointer (some ⟨g,0,none⟩)) za_ rfl (.inn rfl) rfl (fun ev W he e1=>by go_simp) ?_;refine flow1 (r:=.pointer (some ⟨g,0,none⟩)) za_ rfl (.inn rfl) rfl (fun ev W he e1=>by go_simp) ?_;refine flow1h (r:=.int .i64 h) za_ rfl (.inn rfl) rfl (fun ev W he hW e1=>by have c0:=zd_ (by simpa using c3:w3.cell? ⟨g,0,none⟩=some (.int .i64 h)) (HDR.o.trans (show Chg [] w3.drew _ from hW));go_simp) ?_;refine flow_move_out za_ rfl rfl rfl ?_;refine zw_ (.int .i64 b0) (by kernel_rfl) rfl (.cons (.inn rfl) .nil) (fun V hV=>(HCB.o V (HDR.o.trans (show Chg [] w3.drew _ from hV))).mono fun e w' hb=>⟨hb.1,by rw[xM_];exact hb.2⟩) ?_;refine flow2 (r:=.int .i64 (h-b0)) za_ rfl (.inn rfl) (.inn rfl) rfl (fun ev W he e1 e2=>by have hw:IntKind.i64.wrap (h-b0)=h-b0:=IntWalk.i64_in _ (by omega);go_simp) ?_;refine flow_move_out za_ rfl rfl rfl ?_;refine flow2 (r:=.bool false) za_ rfl (.inn rfl) (.inn rfl) rfl (fun ev W he e1 e2=>by go_simp) ?_;refine zP_ za_ rfl (zc_ _) (.inr (zc_ _)) rfl ?_;refine flow_move_out za_ rfl rfl rfl ?_;refine flow1 (r:=.pointer (some ⟨g,0,none⟩)) za_ rfl (.inn rfl) rfl (fun ev W he e1=>by go_simp) ?_;refine flow1 (r:=.pointer (some ⟨g,0,none⟩)) za_ rfl (.inn rfl) rfl (fun ev W he e1=>by go_simp) ?_;refine flow1h (r:=.int .i64 h) za_ rfl (.inn rfl) rfl (fun ev W he hW e1=>by have c0:=zd_ (by simpa using c3:w3.cell? ⟨g,0,none⟩=some (.int .i64 h)) (HDR.o.trans (show Chg [] w3.drew _ from hW));go_simp) ?_;refine flow_move_out za_ rfl rfl rfl ?_;refine flow2 (r:=.int .i64 (h-p)) za_ rfl (.inn rfl) (.inn rfl) rfl (fun ev W he e1 e2=>by have hw:IntKind.i64.wrap (h-p)=h-p:=IntWalk.i64_in _ (by omega);go_simp) ?_;refine flow_move_out za_ rfl rfl rfl ?_;refine flow2 (r:=.int .i64 (h-p+q)) za_ rfl (.inn rfl) (.inn rfl) rfl (fun ev W he e1 e2=>by have hw:IntKind.i64.wrap (h-p+q)=h-p+q:=IntWalk.i64_in _ (by omega);go_simp) ?_;refine flow2 (r:=.bool true) za_ rfl (.inn rfl) (.const _) rfl (fun ev W he e1 e2=>by go_simp) ?_;refine kc_ za_ rfl rfl rfl ?_;intro vs V hV hG;obtain e60:vs 60=.bool true:=hG 60 _ rfl (by kernel_rfl);have hV':Chg [] w3 V:=HDR.o.trans (show Chg [] w3.drew _ from hV);have HS4:=hQ_ (HS3.o.keep hV');have HT4:=hQ_ (HT3.o.keep hV');have HC4:=hQ_ (HC3.o.new hV');simp only[zW_,Act.put,List.setIfInBounds_toArray,List.set_cons_zero,List.set_cons_succ,e60];clear hG hV hV' e60 c3 HCB;have HP:=hQ_ (show yy_ W g R (.returned (.int .i64 14)) V from⟨Fr.of_chg HC4.o,by rw[HRE.o],fun hh=>by rw[HRE.o]at hh;exact absurd hh (by simp)⟩);go_wp2_with fail;go_ret;exact HP.o
     · have qbig:decide (64<h-p+q)=false:=(by simpa using hbig);have HRE:=hQ_ (HR2.o.trans (if_neg (by omega)));have hlo:0<=h-p+q:=(by omega);have hhi:h-p+q<=64:=(by omega);refine wp_flow (by kernel_rfl) yn_ za_ (by kernel_rfl) ?_;refine flow_move_out za_ rfl rfl rfl ?_;refine flow1 (r:=.pointer (some ⟨g,0,none⟩)) za_ rfl (.inn rfl) rfl (fun ev W he e1=>by go_simp) ?_;refine flow1 (r:=.pointer (some ⟨g,0,none⟩)) za_ rfl (.inn rfl) rfl (fun ev W he e1=>by go_simp) ?_;refine flow1h (r:=.int .i64 h) za_ rfl (.inn rfl) rfl (fun ev W he hW e1=>by have c0:=zd_ (by simpa using c3:w3.cell? ⟨g,0,none⟩=some (.int .i64 h)) (HDR.o.trans (show Chg [] w3.drew _ from hW));go_simp) ?_;refine flow_move_out za_ rfl rfl rfl ?_;refine zw_ (.int .i64 b0) (by kernel_rfl) rfl (.cons (.inn rfl) .nil) (fun V hV=>(HCB.o V (HDR.o.trans (show Chg [] w3.drew _ from hV))).mono fun e w' hb=>⟨hb.1,by rw[xM_];exact hb.2⟩) ?_;refine flow2 (r:=.int .i64 (h-b0)) za_ rfl (.inn rfl) (.inn rfl) rfl (fun ev W he e1 e2=>by have hw:IntKind.i64.wrap (h-b0)=h-b0:=IntWalk.i64_in _ (by omega);go_simp) ?_;refine flow_move_out za_ rfl rfl rfl ?_;refine flow2 (r:=.bool false) za_ rfl (.inn rfl) (.inn rfl) rfl (fun ev W he e1 e2=>by go_simp) ?_;refine zP_ za_ rfl (zc_ _) (.inr (zc_ _)) rfl ?_;refine flow_move_out za_ rfl rfl rfl ?_;refine flow1 (r:=.pointer (some ⟨g,0,none⟩)) za_ rfl (.inn rfl) rfl (fun ev W he e1=>by go_simp) ?_;refine flow1 (r:=.pointer (some ⟨g,0,none⟩)) za_ rfl (.inn rfl) rfl (fun ev W he e1=>by go_simp) ?_;refine flow1h (r:=.int .i64 h) za_ rfl (.inn rfl) rfl (fun ev W he hW e1=>by have c0:=zd_ (by simpa using c3:w3.cell? ⟨g,0,none⟩=some (.int .i64 h)) (HDR.o.trans (show Chg [] w3.drew _ from hW));go_simp) ?_;refine flow_move_out za_ rfl rfl rfl ?_;refine flow2 (r:=.int .i64 (h-p)) za_ rfl (.inn rfl) (.inn rfl) rfl (fun ev W he e1 e2=>by have hw:IntKind.i64.wrap (h-p)=h-p:=IntWalk.i64_in _ (by omega);go_simp) ?_;refine flow_move_out za_ rfl rfl rfl ?_;refine flow2 (r:=.int .i64 (h-p+q)) za_ rfl (.inn rfl) (.inn rfl) rfl (fun ev W he e1 e2=>by have hw:IntKind.i64.wrap (h-p+q)=h-p+q:=IntWalk.i64_in _ (by omega);go_simp) ?_;refine flow2 (r:=.bool false) za_ rfl (.inn rfl) (.const _) rfl (fun ev W he e1 e2=>by go_simp) ?_;refine kc_ za_ rfl rfl rfl ?_;intro vs V hV hG;obtain e60:vs 60=.bool false:=hG 60 _ rfl (by kernel_rfl);have hV':Chg [] w3 V:=HDR.o.trans (show Chg [] w3.drew _ from hV);have HS4:=hQ_ (HS3.o.keep hV');have HT4:=hQ_ (HT3.o.keep hV');have HC4:=hQ_ (HC3.o.new hV');simp only[zW_,Act.put,List.setIfInBounds_toArray,List.set_cons_zero,List.set_cons_succ,e60];clear hG hV hV' e60 c3 HCB;have c0:=HS4.o.rec_.cell 0;have f0:=HS4.o.rec_.frozen 0;have he5:h+(q-p)=h-p+q:=(by omega);have HE5:=hQ_ he5;clear he5;go_upto_region 11 with fail;rw[HE5.o];generalize h-p+q=h5 at *;have HS5:=hQ_ (HS4.o.high h5 (by omega));have HT5:=hQ_ (HT4.o.far (p:=⟨g,0,none⟩) (by have:=HGU.o;simp only;omega) (.int .i64 h5));generalize V.setCell ⟨g,0,none⟩ (.int .i64 h5)=w5 at HS5 HT5⊢;clear c0 f0 hlow hbig qlow qbig HR2;have t0:=HT5.o.cell 0;have HTC:=hQ_ (uK_ HS5.o.1 r HTOP.o (fun _=>⟨hlo,hfew⟩));rw[<-HRE.o]at HTC;go_wp2_with fail;refine HTC.o.mono ?_;obtain⟨er,rh,rb⟩:=R;rintro e w9 ⟨hf9,rfl,hw9⟩;have HP:=hQ_ (show yy_ W g (er,rh,rb) (.returned (.int .i64 er)) w9 from⟨((Fr.of_chg HC4.o).trans HS5.o.2).trans hf9,rfl,hw9⟩);clear hf9 hw9;go_wp2_with fail;go_ret;exact HP.o
end
def uA_ (s:Int)(st:List Int):List Int:=if s=63\/s=91 then st++[s] else if s=58 then st.dropLast++[58] else if s=59\/s=93 then st.dropLast else st
def zqo (s:Int)(st:List Int):Prop:=(s=58->∃y,st=y++[63])/\(s=59->∃y t,st=y++[t]/\t≠91)/\(s=93->∃y,st=y++[91])/\(s=126->91∈st)/\((s=63\/s=91)->st.length+1<=16)
def SOk:List Int->List Int->Prop
  | [],_=>True
  | s::r,st=>zqo s st/\SOk r (uA_ s st)
def sgn (p:NPart):Int:=if p.loop=true then 91 else if p.waits=p.at_ then 63 else 58
def stk (m:NSt):List Int:=(m.op.map sgn).reverse
theorem xJ_ (p:NPart)(r:List NPart)(t:List Int)(d:Nat):stk ⟨t,d,p::r⟩=stk ⟨t,d,r⟩++[sgn p]:=by simp[stk]
theorem q3_ {i:Nat}:∀{l o:List NPart},yM_ i l=some o->o.map sgn=l.map sgn/\(91∈l.map sgn)/\∀q∈o,∃p∈l,q.at_=p.at_/\q.waits=p.waits
  | [],o,h=>by cases h
  | p :: r,o,h=>by
    unfold yM_ at h;by_cases hl:p.loop=true
    · rw[if_pos hl]at h;injection h with h;subst h;refine⟨by simp[sgn],by simp[sgn,hl],fun q hq=>?_⟩;rcases List.mem_cons.1 hq with rfl|hq
      · exact⟨p,by simp,rfl,rfl⟩
      · exact⟨q,by simp[hq],rfl,rfl⟩
    · rw[if_neg hl]at h;cases hr:yM_ i r with
      | none=>rw[hr]at h;cases h
      | some o' =>
        rw[hr]at h;injection h with h;subst h;obtain⟨h1,h2,h3⟩:=q3_ hr;refine⟨by simp[h1],by simp at h2⊢;exact .inr h2,fun q hq=>?_⟩;rcases List.mem_cons.1 hq with rfl|hq
        · exact⟨_,by simp,rfl,rfl⟩
        · obtain⟨p',hp,e⟩:=h3 q hq;exact⟨p',by simp[hp],e⟩
theorem zhI {i:Nat}{s:Int}{m m':NSt}(h:yZ_ i s m=some m')(hm:∀p∈m.op,p.at_<i):zqo s (stk m)/\stk m'=uA_ s (stk m)/\∀p∈m'.op,p.at_<i+1:=by
 obtain⟨t,d,op⟩:=m;simp only at hm;have hm1:∀p∈op,p.at_<i+1:=fun p hp=>by have:=hm p hp;omega
 unfold yZ_ at h;simp only at h;split at h
 · rename_i hs;split at h
   · rename_i h16;injection h with h;subst h;refine⟨⟨fun e=>by omega,fun e=>by omega,fun e=>by omega,fun e=>by omega,fun _=>by simp[stk];omega⟩,?_,fun p hp=>?_⟩
     · rw[xJ_,uA_,if_pos hs];congr 1;rcases hs with rfl|rfl<;>simp[sgn]
     · rcases List.mem_cons.1 hp with rfl|hp
       · simp
       · exact hm1 p hp
   · cases h
 rename_i hs;split at h
 · rename_i h58;subst h58;split at h
   · rename_i p r;split at h
     · rename_i hc;injection h with h;subst h;have hpa:=hm p (by simp);have e1:sgn p=63:=(by unfold sgn;rw[if_neg (by rw[hc.1];decide),if_pos hc.2]);refine⟨⟨fun _=>⟨_,by rw[xJ_,e1]⟩,fun e=>by omega,fun e=>by omega,fun e=>by omega,fun e=>by omega⟩,?_,fun q hq=>?_⟩
       · rw[xJ_,xJ_,uA_,if_neg (by omega),if_pos rfl,List.dropLast_concat];have e2:sgn ⟨p.loop,p.at_,i,p.left⟩=58:=(by unfold sgn;simp only;rw[if_neg (by rw[hc.1];decide),if_neg (by omega)]);rw[e2];rfl
       · rcases List.mem_cons.1 hq with rfl|hq
         · simp only;omega
         · exact hm1 q (by simp[hq])
     · cases h
   · cases h
 rename_i h58;split at h
 · rename_i h59;subst h59;split at h
   · rename_i p r;split at h
     · rename_i hc;injection h with h;subst h;refine⟨⟨fun e=>by omega,fun _=>⟨_,_,xJ_ _ _ _ _,by unfold sgn;rw[if_neg (by rw[hc];decide)];split<;>decide⟩,fun e=>by omega,fun e=>by omega,fun e=>by omega⟩,?_,fun q hq=>hm1 q (by simp[hq])⟩;rw[xJ_,uA_,if_neg (by omega),if_neg (by omega),if_pos (.inl rfl),List.dropLast_concat];rfl
     · cases h
   · cases h
 rename_i h59;split at h
 · rename_i h93;subst h93;split at h
   · rename_i p r;split at h
     · rename_i hc;injection h with h;subst h;have e1:sgn p=91:=(by unfold sgn;rw[if_pos hc]);refine⟨⟨fun e=>by omega,fun e=>by omega,fun _=>⟨_,by rw[xJ_,e1]⟩,fun e=>by omega,fun e=>by omega⟩,?_,fun q hq=>hm1 q (by simp[hq])⟩;rw[xJ_,uA_,if_neg (by omega),if_neg (by omega),if_pos (.inr rfl),List.dropLast_concat];rfl
     · cases h
   · cases h
 rename_i h93;split at h
 · rename_i h126;subst h126;cases hl:yM_ i op with
   | none=>rw[hl]at h;cases h
   | some o =>
     rw[hl]at h;injection h with h;subst h;obtain⟨h1,h2,h3⟩:=q3_ hl;refine⟨⟨fun e=>by omega,fun e=>by omega,fun e=>by omega,fun _=>by unfold stk;simpa using h2,fun e=>by omega⟩,?_,fun q hq=>?_⟩
     · rw[uA_,if_neg (by omega),if_neg (by omega),if_neg (by omega)];unfold stk;simp only;rw[h1]
     · obtain⟨p,hp,e,_⟩:=h3 q hq;have:=hm p hp;omega
 · rename_i h126;injection h with h;subst h;exact⟨⟨fun e=>absurd e h58,fun e=>absurd e h59,fun e=>absurd e h93,fun e=>absurd e h126,fun e=>absurd e hs⟩,by rw[uA_,if_neg hs,if_neg h58,if_neg (by omega)],hm1⟩
theorem zgU:∀(rest:List Int)(i:Nat)(m m':NSt),(∀p∈m.op,p.at_<i)->gE_ i rest m=some m'->SOk rest (stk m)
  | [],_,_,_,_,_=>trivial
  | s :: rest,i,m,m',hm,h=>by
    unfold gE_ at h;cases ht:yZ_ i s ⟨m.tO.set i (-1),m.deep,m.op⟩ with
    | none=>rw[ht]at h;cases h
    | some m2 =>
      rw[ht]at h;obtain⟨h1,h2,h3⟩:=zhI ht hm;refine⟨h1,?_⟩;have:=zgU rest (i+1) m2 m' h3 h;rw[h2]at this;exact this
theorem zkw {ss:List Int}{R:List Int×Nat}(h:qC_ ss=some R):SOk ss []:=by
 rw[<-uZ_]at h;unfold kB_ at h;cases hr:gE_ 0 ss ⟨List.replicate ss.length 0,0,[]⟩ with
 | none=>rw[hr]at h;cases h
 | some m=>exact zgU ss 0 _ m (fun p hp=>by simp at hp) hr
theorem kq_ {α β:Type}{f:α->β}{l:List α}{y:List β}{b:β}(h:l.map f=y++[b]):∃ys x,l=ys++[x]/\f x=b:=by
 rcases List.eq_nil_or_concat l with rfl|⟨ys,x,rfl⟩
 · simp at h
 · rw[List.concat_eq_append]at h⊢;rw[List.map_append]at h;have:=List.append_inj' h (by simp);exact⟨ys,x,rfl,by simpa using this.2⟩
theorem zjZ {s:Int}{bs:List BkV}(h:zqo s (bs.map (·.sign))):Top s bs:=by
 refine⟨fun e=>?_,fun e=>?_,fun e=>?_,fun e=>?_⟩
 · obtain⟨y,hy⟩:=h.1 e;obtain⟨ys,x,h1,h2⟩:=kq_ hy;exact⟨ys,x,h1,h2⟩
 · obtain⟨y,t,hy,ht⟩:=h.2.1 e;obtain⟨ys,x,h1,h2⟩:=kq_ hy;exact⟨ys,x,h1,by rw[h2];exact ht⟩
 · obtain⟨y,hy⟩:=h.2.2.1 e;obtain⟨ys,x,h1,h2⟩:=kq_ hy;exact⟨ys,x,h1,h2⟩
 · have:=h.2.2.2.1 e;obtain⟨x,hx,hs⟩:=List.mem_map.1 this;exact⟨x,hx,hs⟩
theorem kw_ {β:Type} (f:BkV->β) (hf:∀x:BkV,f ⟨x.sign,x.base,x.other,true⟩=f x) (h:Int) (bs:List BkV):∀k,(x8_ h bs k).2.2.map f=bs.map f
  | 0=>rfl
  | k+1=>by
    rw[x8_];split
    · rfl
    · rename_i x hx;split
      · simp only[List.map_set];apply List.ext_getElem?;intro j;rw[List.getElem?_set];split
        · rename_i e;subst e;have hl:=(List.getElem?_eq_some_iff.1 hx).1;rw[if_pos (by simpa using hl)];simp[hx,hf]
        · rfl
      · exact kw_ f hf h bs k
theorem zaL (h:Int)(bs:List BkV)(k:Nat):(x8_ h bs k).2.2.map (·.sign)=bs.map (·.sign):=kw_ _ (fun _=>rfl) h bs k
theorem zdo (h:Int)(bs:List BkV):∀k,(x8_ h bs k).1=true->(x8_ h bs k).2.1=-1
  | 0,e=>by cases e
  | k+1,e=>by
    rw[x8_]at e⊢;split
    · rename_i hx;rw[hx]at e;cases e
    · rename_i x hx;rw[hx]at e;simp only at e;split
      · rfl
      · rename_i hn;rw[if_neg hn]at e;exact zdo h bs k e
theorem ziZ {h:Int}{ys:List BkV}{x:BkV}{s:Int}(he:(gV_ h ys x s).1=0):(uB_ h ys x s).1=true/\(gV_ h ys x s).2=(uB_ h ys x s).2:=by
 unfold gV_ at he⊢;rcases hr:uB_ h ys x s with⟨b,h',bs'⟩;rw[hr]at he;cases b with
 | true=>exact⟨rfl,rfl⟩
 | false=>simp at he
theorem gw_ {h:Int}{ys:List BkV}{x:BkV}{s:Int}(hs:s≠58):(uB_ h ys x s).2.2=ys:=by
 unfold uB_;rw[if_neg hs];split
 · split<;>rfl
 · split<;>rfl
theorem gd_ {h:Int}{bs:List BkV}{s:Int}(he:(yU_ h bs s).1=0):(yU_ h bs s).2.2.map (·.sign)=uA_ s (bs.map (·.sign)):=by
 by_cases hs:vx_ s
 · rcases List.eq_nil_or_concat bs with rfl|⟨ys,x,rfl⟩
   · unfold yU_ at he;rw[if_pos hs]at he;simp at he
   · rw[List.concat_eq_append]at he⊢;rw[vV_ hs]at he⊢;obtain⟨h1,h2⟩:=ziZ he;rw[h2];unfold uA_;rcases hs with rfl|rfl|rfl
     · unfold uB_;rw[if_pos rfl,if_neg (by omega),if_pos rfl];simp
     · rw[gw_ (by decide),if_neg (by omega),if_neg (by omega),if_pos (.inl rfl)];simp
     · rw[gw_ (by decide),if_neg (by omega),if_neg (by omega),if_pos (.inr rfl)];simp
 · unfold yU_ at he⊢;rw[if_neg hs]at he⊢;unfold vx_ at hs;unfold uA_;by_cases h1:s=63\/s=91
   · rw[if_pos h1,if_pos h1];simp
   · rw[if_neg h1,if_neg h1,if_neg (show ¬s=58 by omega),if_neg (show ¬(s=59\/s=93) by omega)];rw[if_neg h1]at he;by_cases h2:s=126
     · rw[if_pos h2]at he⊢;unfold vb_ at he⊢;have hk:=zaL h bs bs.length;rcases hr:x8_ h bs bs.length with⟨b,h',bs'⟩;rw[hr]at hk he;cases b with
       | true=>exact hk
       | false=>simp at he
     · rw[if_neg h2];by_cases h3:s=161
       · rw[if_pos h3]
       · rw[if_neg h3]
def zjx (x:BkV):Int×Int×Int:=(x.sign,x.base,x.other)
theorem Bas.of_key {h h':Int}{bs bs':List BkV}(hb:Bas h bs)(hk:bs'.map zjx=bs.map zjx)(ht:0<=h'->∀x∈bs,x.base<=h'):Bas h' bs':=by
 refine⟨?_,fun x hx hs=>?_,fun h0 x hx=>?_⟩
 · have h1:(bs.map zjx).Pairwise fun a b=>a.2.1<=b.2.1:=List.pairwise_map.2 hb.sorted;rw[<-hk]at h1;exact(List.pairwise_map (f:=zjx) (R:=fun a b=>a.2.1<=b.2.1)).1 h1
 · have:zjx x∈bs.map zjx:=(by rw[<-hk];exact List.mem_map_of_mem hx);obtain⟨y,hy,e⟩:=List.mem_map.1 this;simp only[zjx,Prod.mk.injEq]at e;have:=hb.oth y hy (by omega);omega
 · have:zjx x∈bs.map zjx:=(by rw[<-hk];exact List.mem_map_of_mem hx);obtain⟨y,hy,e⟩:=List.mem_map.1 this;simp only[zjx,Prod.mk.injEq]at e;have:=ht h0 y hy;omega
theorem Bas.turn {h:Int} {bs:List BkV} {s:Int} (hb:Bas h bs) (hh:-1<=h) (hpos:(s=63\/s=91)->0<=h) (he:(yU_ h bs s).1=0):Bas (yU_ h bs s).2.1 (yU_ h bs s).2.2:=by
 by_cases hs:vx_ s
 · rcases List.eq_nil_or_concat bs with rfl|⟨ys,x,rfl⟩
   · unfold yU_ at he;rw[if_pos hs]at he;simp at he
   · rw [List.concat_eq_append]at *;rw[vV_ hs]at he⊢;obtain⟨h1,h2⟩:=ziZ he;rw[h2];obtain⟨hsy,_,hyx⟩:=List.pairwise_append.1 hb.sorted;have hyx':∀y∈ys,y.base<=x.base:=fun y hy=>hyx y hy x (by simp);have htx:0<=h->x.base<=h:=fun h0=>hb.top h0 x (by simp);have hox:=hb.oth x (by simp);by_cases h58:s=58
     · subst h58;unfold uB_;rw[if_pos rfl];refine⟨List.pairwise_append.2 ⟨hsy,by simp,fun y hy z hz=>by simp at hz;subst hz;exact hyx' y hy⟩,fun z hz hz58=>?_,fun _ z hz=>?_⟩
       · rcases List.mem_append.1 hz with hz|hz
         · exact hb.oth z (by simp[hz]) hz58
         · simp at hz;subst hz;simp only;rcases Int.lt_or_le h 0 with h3|h3
           · left;omega
           · exact .inr (htx h3)
       · rcases List.mem_append.1 hz with hz|hz
         · exact hyx' z hz
         · simp at hz;subst hz;simp
     · have hq:(uB_ h ys x s).2.1<0\/x.base<=(uB_ h ys x s).2.1:=by
        unfold uB_ at h1⊢;rw[if_neg h58]at h1⊢;split
        · rename_i hx58;rw[if_pos hx58]at h1;split
          · rename_i hc;rw[if_pos hc]at h1;cases h1
          · simp only;have:=hox hx58;rcases Int.lt_or_le h 0 with h3|h3
            · omega
            · have:=htx h3;omega
        · rename_i hx58;rw[if_neg hx58]at h1;split
          · rename_i hc;rw[if_pos hc]at h1;cases h1
          · simp only;split<;>omega
       rw[gw_ h58];refine⟨hsy,fun z hz=>hb.oth z (by simp[hz]),fun h0 z hz=>?_⟩;have:=hyx' z hz;omega
 · unfold yU_ at he⊢;rw[if_neg hs]at he⊢;by_cases h1:s=63\/s=91
   · rw[if_pos h1];have h0:=hpos h1;refine⟨List.pairwise_append.2 ⟨hb.sorted,by simp,fun y hy z hz=>by simp at hz;subst hz;exact hb.top h0 y hy⟩,fun z hz hz58=>?_,fun _ z hz=>?_⟩
     · rcases List.mem_append.1 hz with hz|hz
       · exact hb.oth z hz hz58
       · simp at hz;subst hz;simp only at hz58;omega
     · rcases List.mem_append.1 hz with hz|hz
       · exact hb.top h0 z hz
       · simp at hz;subst hz;simp
   · rw[if_neg h1]at he⊢;by_cases h2:s=126
     · rw[if_pos h2]at he⊢;unfold vb_ at he⊢;have hk:=kw_ zjx (fun _=>rfl) h bs bs.length;have hl:=zdo h bs bs.length;rcases hr:x8_ h bs bs.length with⟨b,h',bs'⟩;rw[hr]at hk he hl;cases b with
       | true =>
         have e:h'=-1:=hl rfl;exact hb.of_key hk (fun h0=>by simp only at h0;omega)
       | false=>simp at he
     · rw[if_neg h2];by_cases h3:s=161
       · rw[if_pos h3];exact⟨hb.sorted,hb.oth,fun h0=>by simp only at h0;omega⟩
       · rw[if_neg h3];exact hb
theorem znx {l:List FnV} {h:Int} {bs:List BkV} {s name:Int} (hb:Bas h bs) (hb0:∀x∈bs,0<=x.base) (hr:-1<=h/\h<=64) (he:(qy_ l h bs s name).1=0) :
    Bas (qy_ l h bs s name).2.1 (qy_ l h bs s name).2.2/\(qy_ l h bs s name).2.2.map (·.sign)=uA_ s (bs.map (·.sign)):=by
 by_cases h0:h<0
 · rw[zaI h0]at he⊢;by_cases hs:vx_ s
   · rw[if_pos hs]at he⊢;exact⟨hb.turn hr.1 (fun h=>by unfold vx_ at hs;omega) he,gd_ he⟩
   · rw[if_neg hs]at he;simp at he
 · obtain⟨T,hT⟩:∃T,T=xe_ l s name:=⟨_,rfl⟩;obtain⟨p,q,ok⟩:=T;cases ok with
   | false=>rw[zaH (by omega) hT.symm]at he;simp at he
   | true =>
     rw[qV_ (by omega) hr.2 (hb.base (by omega)) hT.symm]at he⊢;have hin:=zaJ l s name;rw[<-hT]at hin;simp only at hin;by_cases hc:h-xn_ bs<p\/64<h-p+q
     · rw[if_pos hc]at he;simp at he
     · rw[if_neg hc]at he⊢;have hb2:Bas (h-p+q) bs:=by
        refine⟨hb.sorted,hb.oth,fun _ x hx=>?_⟩;have h1:x.base<=xn_ bs:=by
         rcases List.eq_nil_or_concat bs with rfl|⟨ys,y,rfl⟩
         · simp at hx
         · rw[List.concat_eq_append]at *;have e:xn_ (ys++[y])=y.base:=(by simp[xn_]);rw[e];rcases List.mem_append.1 hx with hx|hx
           · exact(List.pairwise_append.1 hb.sorted).2.2 x hx y (by simp)
           · simp at hx;subst hx;exact Int.le_refl _
        omega
       have hb5:0<=h-p+q:=by
        have h1:0<=xn_ bs:=by
         unfold xn_;cases hl:bs.getLast? with
         | none=>exact Int.le_refl 0
         | some x=>exact hb0 x (List.mem_of_getLast? hl)
        omega
       exact⟨hb2.turn (by omega) (fun _=>hb5) he,gd_ he⟩
section
variable {A:Option Addr} {n c:Nat} {l:List FnV} {pages most:Int}
theorem Fr.whole' {B:Nat}{TS:List TypeId}{a b:World}(h:Fr B TS a b){g t:Nat}{cs:List Value}(hW:zb_ a g t cs)(ht:TS.contains t=false):zb_ b g t cs:=h.whole hW (by simpa using ht)
theorem zbB {w:World}(hF:Fnr w A n c l)(hcode:∀f∈l,f.code.size<=9223372036854775807)(k:Int):Calls Tryz.prog 61 #[yC_ pages most A n c,.int .i64 k] w (v0_ (rFn l k) w):=by
 unfold yC_;obtain⟨i0,hi0,hz0,hz1,hz2⟩:=info_parts gH_;obtain⟨R,hR⟩:∃R,R=rFn l k:=⟨_,rfl⟩;rw[<-hR];unfold rFn at hR;rw[hF.len]at hR;have HR:=hQ_ hR;have H:=hQ_ hF;have hmax:=hF.max;clear hF hR;go_enter Tryz.func61,Tryz.ntmps61;go_upto_region 1 with fail;have hN:=zb_.new w 25 [.int .i64 pages,.int .i64 most,.slice A n c];have hal:Chg [] w (w.alloc (.cells #[.int .i64 pages,.int .i64 most,.slice A n c] 25)):=(Chg.refl [] w).alloc _;have HF1:=hQ_ (H.o.keep hal);have HU1:=hQ_ hN;have HC1:=hQ_ hal;have HBW:=hQ_ (show w.heap.size<=w.heap.size from Nat.le_refl _);obtain⟨gu,hgu⟩:∃g,g=w.heap.size:=⟨_,rfl⟩;rw[<-hgu]at HU1⊢;generalize w.alloc (.cells #[.int .i64 pages,.int .i64 most,.slice A n c] 25)=w1 at HF1 HU1 HC1⊢;clear hN hal hgu;have u2:=HU1.o.cell 2;by_cases hk0:k<0
 · have qk:decide (k<0)=true:=(by simpa using hk0);have HP:=hQ_ (show v0_ R w (.returned (.tuple #[.slice none 0 0,.int .i64 23])) w1 from zfz 23 (by rw[HR.o,if_pos (.inl hk0)]) HC1.o);clear hk0;go_wp2_with fail;go_ret2;exact HP.o
 have qk:decide (k<0)=false:=by simpa using hk0
 by_cases hkn:(n:Int)<=k
 · have qn:decide ((n:Int)<=k)=true:=(by simpa using hkn);have HP:=hQ_ (show v0_ R w (.returned (.tuple #[.slice none 0 0,.int .i64 23])) w1 from zfz 23 (by rw[HR.o,if_pos (.inr hkn)]) HC1.o);clear hkn hk0;go_wp2_with fail;go_ret2;exact HP.o
 have qn:decide ((n:Int)<=k)=false:=by simpa using hkn
 obtain⟨q,rfl⟩:∃q:Nat,k=(q:Int):=⟨k.toNat,by omega⟩;have hqn:q<n:=by omega
 obtain⟨f,hfk⟩:∃f,l[q]?=some f:=⟨l[q]'(by rw[HF1.o.len];exact hqn),by simp⟩;have HR1:=hQ_ (show R=jR_ l f.code from by rw[HR.o,if_neg (by omega),show((q:Int)).toNat=q from rfl,hfk]);have hcd:=hcode f (List.mem_of_getElem? hfk);obtain⟨fb,fo,rfl,hfbl,e0,e1,e2⟩:=HF1.o.cell hfk;have hqI:(q:Int)<(n:Int):=by omega
 clear hfk hk0 hkn hcode e0 e1 HR;go_wp2_with fail;refine(uG_ f.code (by omega)).mono ?_;rintro e w2 ⟨hc2,hT⟩;have HC2:=hQ_ (HC1.o.new hc2);have HF2:=hQ_ (HF1.o.keep hc2);have HU2:=hQ_ (HU1.o.keep hc2);clear u2 e2 hfbl;rcases hT with⟨ts,v2,hts,htl,rfl,ho2⟩|⟨hts,rfl⟩;rotate_left
 · have hE:zeI f.code=3\/zeI f.code=12:=(by unfold zeI;split<;>simp);have HP:=hQ_ (show v0_ R w (.returned (.tuple #[.slice none 0 0,.int .i64 (zeI f.code)])) w2 from zfz _ (by rw[HR1.o,jR_,hts]) HC2.o);clear hts hc2;generalize zeI f.code=te at hE HP⊢;have qe:(te != 0)=true:=(by simp;omega);clear hE;go_wp2_with fail;go_ret2;exact HP.o
 obtain⟨TA,tc,rfl,hTk⟩:=Tks.of_own ho2 (by omega);have HT2:=hQ_ hTk;have HR2:=hQ_ (show R=match qC_ (yD_ ts) with|none=>(13,[])|some _=>k9_ l ts 0 [] [] from by rw[HR1.o,jR_,hts];rfl);clear hts hc2 ho2 hTk HR1;obtain⟨tn,htn⟩:∃tn,tn=ts.length:=⟨_,rfl⟩;rw[<-htn]at HT2 htl⊢;have HTN:=hQ_ htn;clear htn;go_wp2_with fail;refine(zhE HT2.o).mono ?_;rintro e w3 ⟨hc3,hT⟩;have HC3:=hQ_ (HC2.o.new hc3);have HF3:=hQ_ (HF2.o.keep hc3);have HU3:=hQ_ (HU2.o.keep hc3);have HT3:=hQ_ (HT2.o.keep hc3);clear hc3;rw[uZ_]at hT;rcases hT with⟨t3,d3,g3,hn3,_,rfl,_⟩|⟨hn3,rfl⟩;rotate_left
 · have HP:=hQ_ (show v0_ R w (.returned (.tuple #[.slice none 0 0,.int .i64 13])) w3 from zfz 13 (by rw[HR2.o,hn3]) HC3.o);clear hn3;go_wp2_with fail;go_ret2;exact HP.o
 have HR3:=hQ_ (show R=k9_ l ts 0 [] [] from by rw[HR2.o,hn3]);have HD:=hQ_ (zkw hn3);clear hn3;have hN4:=zb_.new w3 180 [.int .i64 0,.slice none 0 0];have hal4:Chg [] w3 (w3.alloc (.cells #[.int .i64 0,.slice none 0 0] 180)):=(Chg.refl [] w3).alloc _;have hsz4:(w3.alloc (.cells #[.int .i64 0,.slice none 0 0] 180)).heap.size=w3.heap.size+1:=Array.size_push _;go_upto_region 10 with fail;have HC4:=hQ_ (HC3.o.new hal4);have HGS:=hQ_ (show w.heap.size<=w3.heap.size from HC3.o.size);generalize w3.alloc (.cells #[.int .i64 0,.slice none 0 0] 180)=w4 at hN4 hal4 hsz4 HC4⊢;have HC34:=hQ_ hal4;obtain⟨gs,hgs⟩:∃g,g=w3.heap.size:=⟨_,rfl⟩;rw[<-hgs]at hN4 hsz4 HGS⊢;have HW4:=hQ_ (show Wk w4 gs 0 (.slice none 0 0) [] from⟨hN4,World.ownsRow_nil _ _ _ _,by simp,by omega,fun b hb=>by simp at hb⟩);have HG3:=hQ_ hgs;have HZ4:=hQ_ hsz4;clear hN4 hal4 hsz4 hgs HC3 HC2 HF2 HU2 HT2 HC1 HF1 HU1;have HTL:=hQ_ htl;have hmk:∀W:World,(Instr.makeSlice 126 (.int .i64 0) (.int .i64 (tn:Int))).run Tryz.prog W=.ok (.slice (some ⟨W.heap.size,0,none⟩) 0 tn) (W.alloc (.cells (List.replicate tn (.int .i64 0)).toArray 3)):=fun W =>
  x5_ (P:=Tryz.prog) 126 3 i0 _ rfl Tryz.underlying126 hi0 hz0 hz1 tn (by rw[hz2];omega) (by omega) W;go_upto_region 12 with fail;have hM:=zb_.new w4 3 (List.replicate tn (.int .i64 0));have hal5:Chg [] w4 (w4.alloc (.cells (List.replicate tn (.int .i64 0)).toArray 3)):=(Chg.refl [] w4).alloc _;have HO4:=hQ_ (show(w4.alloc (.cells (List.replicate tn (.int .i64 0)).toArray 3)).ownsRow (gs+1) 3 1 (.slice (some ⟨w4.heap.size,0,none⟩) 0 tn) 0 (nms []) from by
  have h:=zT_ (n:=0) hM (show gs+1<=w4.heap.size from by have:=HZ4.o;omega) (by simp) (Nat.zero_le tn) (by unfold maxLen;omega);simpa[nms] using h);have HW5:=hQ_ (HW4.o.keep hal5);have HC5':=hQ_ (HC4.o.new hal5);have HC35:=hQ_ (HC34.o.new hal5);rw[show(List.replicate tn (Value.int .i64 0)).toArray=Array.replicate tn (Value.int .i64 0) from by simp]at HO4 HW5 HC5' HC35;generalize w4.heap.size=gm at HO4⊢;generalize w4.alloc (.cells (Array.replicate tn (.int .i64 0)) 3)=w5' at HO4 HW5 HC5' HC35⊢;clear hM hal5 hmk HW4 HC4 HC34;go_loopw [9,47] (fun v i wr=>∃(j:Nat)(h:Int)(bs:List BkV)(vo:Value)(out:List Int),i=.int .i64 (j:Int)/\j<=tn/\Hid (Wk wr gs h vo bs)/\Hid (wr.ownsRow (gs+1) 3 1 v j (nms out)) /\
   Hid (SOk (yD_ (ts.drop j)) (bs.map (·.sign)))/\Hid (Bas h bs)/\Hid (bs.length<=16)/\Hid (R=k9_ l (ts.drop j) h bs out)/\Hid (Chg [] w wr)/\Hid (Chg [] w3 wr)) (fun _ i _=>tn-(intOf i).toNat);case atStart=>exact⟨0,0,[],_,[],rfl,by omega,HW5,HO4,HD,hQ_ ⟨by simp,fun x hx=>by simp at hx,fun _ x hx=>by simp at hx⟩,hQ_ (by simp),HR3,HC5',HC35⟩
 case round =>
  obtain⟨j,h,bs,vo,out,rfl,hj,HS,HO,HDR,HBA,HB16,HRW,HC,HCW⟩:=hrel;obtain⟨AO,co,rfl,_⟩:=zr_ HO.o;by_cases hjn:j<tn
  · have hjI:(j:Int)<(tn:Int):=(by omega);obtain⟨t,htj⟩:∃t,ts[j]?=some t:=⟨ts[j]'(by rw[<-HTN.o];exact hjn),by simp⟩;have HDJ:=hQ_ (show ts.drop j=t::ts.drop (j+1) from List.drop_eq_getElem?_toList_append.trans (by rw[htj];rfl));have HTr:=hQ_ (HT3.o.keep HCW.o);obtain⟨b,o,rfl,hbl,t0,t1,t2⟩:=HTr.o.cell htj;clear htj;go_upto_region 14 with fail;have hal5:Chg [] wr (wr.alloc (.cells #[.int .i32 t.sign,.int .i64 t.n,.int .i32 t.name] 132)):=(Chg.refl [] wr).alloc _;have HT5:=hQ_ (zb_.new wr 132 [.int .i32 t.sign,.int .i64 t.n,.int .i32 t.name]);have HS5:=hQ_ (HS.o.keep hal5);have HO5:=hQ_ (zf_ HO.o hal5);have HU5:=hQ_ (HU3.o.keep (HCW.o.new hal5));have HC5:=hQ_ (HC.o.new hal5);have HCW5:=hQ_ (HCW.o.new hal5);obtain⟨gt,hgt⟩:∃g,g=wr.heap.size:=⟨_,rfl⟩;rw[<-hgt]at HT5⊢;generalize wr.alloc (.cells #[.int .i32 t.sign,.int .i64 t.n,.int .i32 t.name] 132)=w5 at hal5 HT5 HS5 HO5 HU5 HC5 HCW5⊢;clear hal5 hgt t0 t1 t2 hbl HTr HC HCW HO HS;have c0:=HS5.o.rec_.cell 0;have HAL:=hQ_ (show Chg [] w5 (w5.alloc (.cells #[.int .i64 h] 3)) from(Chg.refl [] w5).alloc _);have HO6:=hQ_ (zf_ HO5.o HAL.o);have HRM:=hQ_ (show gs+1<=(w5.alloc (.cells #[.int .i64 h] 3)).heap.size from by have:=HAL.o.size;have:=HS5.o.rec_.lt;omega);have hjb:=HTL.o;clear htl;have HDD:=hQ_ (show zqo t.sign (bs.map (·.sign))/\SOk (yD_ (ts.drop (j+1))) (uA_ t.sign (bs.map (·.sign))) from by have:=HDR.o;rw[HDJ.o]at this;exact this);obtain⟨RT,hRT⟩:∃RT,RT=qy_ l h bs t.sign t.name:=⟨_,rfl⟩;have HRW2:=hQ_ (show R=if RT.1=0 then k9_ l (ts.drop (j+1)) RT.2.1 RT.2.2 (out++[h]) else (RT.1,[]) from by rw[HRW.o,HDJ.o,kv_,hRT]);have HLN:=hQ_ (show RT.1=0->Bas RT.2.1 RT.2.2/\RT.2.2.map (·.sign)=uA_ t.sign (bs.map (·.sign)) from fun he=>by rw[hRT]at he⊢;exact znx HBA.o (fun x hx=>(HS5.o.rb x hx).1) HS5.o.hr he);have HRT:=hQ_ hRT;clear hRT;go_wp2_with (
     at_builtin;refine wpList_append_own _ rfl (.tmp 51) (.tmp 54) _ rfl (gs+1) 3 i0 _ 1 8 Tryz.underlying126 hi0 hz0 hz1 hz2 rfl (by decide) (.slice AO j co) j (nms out) rfl HO6.o ⟨w5.heap.size,0,none⟩ 1 1 [.int .i64 h] rfl rfl (zK_ _ _ _) (by simp[Value.oneCell']) (by simp only[maxLen];omega) (by omega) HRM.o ?_;intro v' w6 ho6 hg6 _;obtain⟨A6,c6,rfl,_⟩:=zr_ ho6;have HO7:=hQ_ ho6;have HG7:=hQ_ hg6;have HU6:=hQ_ (zn_ (HU5.o.keep HAL.o) HO6.o (by decide) hg6);have HT6:=hQ_ (zn_ (HT5.o.keep HAL.o) HO6.o (by decide) hg6);have HC6:=hQ_ (show Chg [] w w6 from vg_ (HC5.o.new HAL.o) hg6 (fun g hg=>by have:=(HO6.o.lt g hg).1;have:=HGS.o;omega));have HCW6:=hQ_ (show Chg [] w3 w6 from vg_ (HCW5.o.new HAL.o) hg6 (fun g hg=>by have:=(HO6.o.lt g hg).1;have:=HG3.o;omega));have HS7:=hQ_ (show Wk w6 gs h vo bs from⟨zn_ (HS5.o.keep HAL.o).rec_ HO6.o (by decide) HG7.o,yl_ (HS5.o.keep HAL.o).own HO6.o (by decide) HG7.o,HS5.o.few,HS5.o.hr,HS5.o.rb⟩);have u0:=HU6.o.cell 0;have u1:=HU6.o.cell 1;have u2:=HU6.o.cell 2;have t0:=HT6.o.cell 0;have t1:=HT6.o.cell 1;have t2:=HT6.o.cell 2;clear ho6 hg6);have HTK:=hQ_ (zgj (pages:=pages) (most:=most) HS7.o (HF3.o.keep HCW6.o) t HBA.o (zjZ HDD.o.1) (by have:=HB16.o;omega));rw[<-HRT.o]at HTK;refine HTK.o.mono ?_;rintro e w7 ⟨hfr,rfl,hS8⟩;have HC7:=hQ_ (show Chg [] w w7 from((Fr.of_chg HC6.o).trans (hfr.sub HGS.o (fun _ h=>h))).chg (Nat.le_refl _));have HCW7:=hQ_ (show Chg [] w3 w7 from((Fr.of_chg HCW6.o).trans (hfr.sub (show w3.heap.size<=gs from by have:=HG3.o;omega) (fun _ h=>h))).chg (Nat.le_refl _));have HO8:=hQ_ (hfr.own HO7.o (by decide));have HU8:=hQ_ (hfr.whole' HU6.o (by decide));clear hfr u0 u1 u2 t0 t1 t2 c0;by_cases her:RT.1=0
    · obtain⟨vo8,hS9⟩:=hS8 her;have HS9:=hQ_ hS9;have HR9:=hQ_ (HRW2.o.trans (if_pos her));have HD9:=hQ_ (show SOk (yD_ (ts.drop (j+1))) (RT.2.2.map (·.sign)) from by rw[(HLN.o her).2];exact HDD.o.2);have HBA9:=hQ_ (HLN.o her).1;have HB9:=hQ_ (show RT.2.2.length<=16 from by
       have h1:=congrArg List.length (HLN.o her).2;rw[List.length_map]at h1;rw[h1];have h2:=HDD.o.1;have h3:=HB16.o;unfold uA_;split
       · rename_i hs;have:=h2.2.2.2.2 hs;simp at this⊢;omega
       · split
         · rename_i hs;obtain⟨y,hy⟩:=h2.1 hs;have h4:=congrArg List.length hy;simp at h4⊢;omega
         · split
           · simp;omega
           · simp;exact h3);rw[her];clear hS8 hS9 her;go_wp2_with fail;go_roundw;(case rel=>exact⟨j+1,RT.2.1,RT.2.2,vo8,out++[h],by go_num,by omega,HS9,hQ_ (by have:=HO8.o;simpa[nms] using this),HD9,HBA9,HB9,HR9,HC7,HCW7⟩);case measure=>simp[intOf];omega
    · have qe:(RT.1 != 0)=true:=(by simpa using her);have HP:=hQ_ (show v0_ R w (.returned (.tuple #[.slice none 0 0,.int .i64 RT.1])) w7 from zfz _ (HRW2.o.trans (if_neg her)) HC7.o);clear hS8 her;go_wp2_with fail;go_ret2;exact HP.o
  · have hjI:(tn:Int)<=(j:Int):=(by omega);have HRZ:=hQ_ (show R=if h≠1/\0<=h then (14,[]) else (0,out) from by rw[HRW.o,List.drop_eq_nil_of_le (by rw[<-HTN.o];omega),k9_]);have c0:=HS.o.rec_.cell 0;have hhr:=HS.o.hr;have HOW:=hQ_ (ym_ HO.o (show w.heap.size<=gs+1 from by have:=HGS.o;omega));have HJO:=hQ_ (show j=out.length from by have:=HO.o.1;simpa[nms] using this.symm);by_cases h1:h=1
    · have q1:(h != 1)=false:=(by simpa using h1);have q2:(h != -1)=true:=(by simp;omega);have HP:=hQ_ (show v0_ R w (.returned (.tuple #[.slice AO j co,.int .i64 0])) wr from by
       rw[HRZ.o,if_neg (by omega)];exact⟨_,rfl,by rw[<-HJO.o];exact HOW.o,HC.o⟩);clear h1;go_wp2_with fail;go_ret2;exact HP.o
    · have q1:(h != 1)=true:=(by simpa using h1);by_cases h0:0<=h
      · have q0:(h != -1)=true:=(by simp;omega);have HP:=hQ_ (show v0_ R w (.returned (.tuple #[.slice none 0 0,.int .i64 14])) wr from zfz 14 (by rw[HRZ.o,if_pos ⟨h1,h0⟩]) HC.o);clear h1 h0;go_wp2_with fail;go_ret2;exact HP.o
      · have q0:(h != -1)=false:=(by simp;omega);have HP:=hQ_ (show v0_ R w (.returned (.tuple #[.slice AO j co,.int .i64 0])) wr from by
         rw[HRZ.o,if_neg (by omega)];exact⟨_,rfl,by rw[<-HJO.o];exact HOW.o,HC.o⟩);clear h1 h0;go_wp2_with fail;go_ret2;exact HP.o
theorem zjs {w:World}(hF:Fnr w A n c l)(hcode:∀f∈l,f.code.size<=1000000)(k:Int):Calls Tryz.prog 61 #[yC_ pages most A n c,.int .i64 k] w (v0_ (rFn l k) w):=zbB hF (fun f hf=>Nat.le_trans (hcode f hf) (by omega)) k
end
structure RightU (pages most:Int) (l:List FnV):Prop where
  p0:0<=pages
  pm:pages<=most
  m64:most<=64
  few:l.length<=32
  fn:∀(k:Nat)(f:FnV),l[k]?=some f->yr_ f.name=true/\yQ_ l f.name=(k:Int)/\0<=f.args/\f.args<=4
  ok:∀k:Nat,k<l.length->(rFn l (k:Int)).1=0
  small:∀f∈l,f.code.size<=1000000
def um_ (W:World)(r:Int)(e:Ending)(w':World):Prop:=e=.returned (.int .i64 r)/\Chg [] W w'
section
variable {W:World} {A:Option Addr} {n c:Nat} {l:List FnV} {pages most:Int}
theorem gu_ (h:Fnr W A n c l)(hr:RightU pages most l):Calls Tryz.prog 28 #[yC_ pages most A n c] W (um_ W 0):=by
 have hn32:n<=32:=by rw[<-h.len];exact hr.few
 have hp0:=hr.p0;have hpm:=hr.pm;have hm64:=hr.m64;have H:=hQ_ h;have HR:=hQ_ hr;have HCF:=hQ_ (fun (w:World)(hc:Chg [] W w)(k:Int)=>zjs (pages:=pages) (most:=most) (h.keep hc) hr.small k);have HFI:=hQ_ (fun (w:World)(hc:Chg [] W w)(nm:Int)=>xE_ (pages:=pages) (most:=most) (h.keep hc) nm);unfold yC_ at HCF HFI⊢;clear h hr;have b1:decide (pages<0)=false:=by simp;omega
 have b2:decide (most<pages)=false:=by simp;omega
 have b3:decide (64<most)=false:=by simp;omega
 have b4:decide (32<(n:Int))=false:=by simp;omega
 go_enter Tryz.func28,Tryz.ntmps28;go_upto_region 1 with fail;have hN:=zb_.new W 25 [.int .i64 pages,.int .i64 most,.slice A n c];have hal:Chg [] W (W.alloc (.cells #[.int .i64 pages,.int .i64 most,.slice A n c] 25)):=(Chg.refl [] W).alloc _;obtain⟨g,hg⟩:∃g,g=W.heap.size:=⟨_,rfl⟩;rw[<-hg]at hN⊢;have HU:=hQ_ hN;have HC:=hQ_ hal;generalize W.alloc (.cells #[.int .i64 pages,.int .i64 most,.slice A n c] 25)=w1 at HU HC⊢;clear hN hal hg;have u0:=HU.o.cell 0;have u1:=HU.o.cell 1;have u2:=HU.o.cell 2;go_wp2_with fail;go_loopw [30] (fun i wr=>∃k:Nat,i=.int .i64 (k:Int)/\k<=n/\Hid (Chg [] w1 wr)) (fun i _=>n-(intOf i).toNat);case atStart=>exact⟨0,rfl,by omega,hQ_ (Chg.refl [] _)⟩
 case round =>
  obtain⟨k,rfl,hk,HCr⟩:=hrel;have HUr:=hQ_ (HU.o.keep HCr.o);by_cases hkn:k<n
  · have hkI:(k:Int)<(n:Int):=(by omega);obtain⟨t,htk⟩:∃t,l[k]?=some t:=⟨l[k]'(by rw[H.o.len];exact hkn),by simp⟩;obtain⟨hnm,hfi,ha0,ha4⟩:=HR.o.fn k t htk;obtain⟨fb,fo,rfl,hfbl,e0,e1,e2⟩:=(H.o.keep (HC.o.new HCr.o)).cell htk;obtain⟨tn,ta,tc⟩:=t;simp only at e0 e1 e2 hnm hfi ha0 ha4;clear htk;go_upto_region 8 with fail;have hX:=zb_.new wr 44 [.int .i32 tn,.int .i64 ta,.string tc];have hc2:=(Chg.refl [] wr).alloc (.cells #[.int .i32 tn,.int .i64 ta,.string tc] 44);have HX2:=hQ_ hX;have HC2:=hQ_ (HCr.o.new hc2);have HU2:=hQ_ (HUr.o.keep hc2);generalize wr.heap.size=gx at HX2⊢;generalize wr.alloc (.cells #[.int .i32 tn,.int .i64 ta,.string tc] 44)=w3 at HX2 HC2 HU2⊢;clear hX e0 e1 e2 hfbl hc2;have x0:=HX2.o.cell 0;have x1:=HX2.o.cell 1;have v0:=HU2.o.cell 0;have v1:=HU2.o.cell 1;have v2:=HU2.o.cell 2;have q1:decide (ta<0)=false:=(by simp;omega);have q2:decide (4<ta)=false:=(by simp;omega);have HNM:=hQ_ (fun w=>u7_ tn w);rw[hnm]at HNM;have HFX:=hQ_ (HFI.o w3 (HC.o.new HC2.o) tn);rw[hfi]at HFX;clear hnm hfi;go_wp2_with (first
     | (go_at_call 60;refine(HNM.o _).mono ?_;rintro e w4 ⟨rfl,rfl⟩)
     | (go_at_call 50;refine HFX.o.mono ?_;rintro e w5 ⟨rfl,hc5⟩;have y1:=zd_ (by simpa using x1:w3.cell? ⟨gx,1,none⟩=some (.int .i64 ta)) hc5;have HC5:=hQ_ (HC2.o.new hc5);clear hc5));exact⟨⟨k+1,by simp,by omega,HC5⟩,by simp[intOf];omega⟩
  · have hkI:(n:Int)<=(k:Int):=(by omega);have v0:=HUr.o.cell 0;have v1:=HUr.o.cell 1;have v2:=HUr.o.cell 2;go_wp2_with fail;go_loopw [61] (fun i ws=>∃k:Nat,i=.int .i64 (k:Int)/\k<=n/\Hid (Chg [] w1 ws)) (fun i _=>n-(intOf i).toNat);(case atStart=>exact⟨0,rfl,by omega,HCr⟩);case round =>
     obtain⟨j,rfl,hj,HCs⟩:=hrel;have HUs:=hQ_ (HU.o.keep HCs.o);by_cases hjn:j<n
     · have hjI:(j:Int)<(n:Int):=(by omega);have s0:=HUs.o.cell 0;have s1:=HUs.o.cell 1;have s2:=HUs.o.cell 2;have HOK:=hQ_ (HR.o.ok j (by rw[H.o.len];exact hjn));have HFN:=hQ_ (HCF.o wr (HC.o.new HCs.o) (j:Int));generalize rFn l (j:Int)=R at HOK HFN;go_wp2_with fail;refine HFN.o.mono ?_;rintro e w5 ⟨v,rfl,ho,hc5⟩;have HC5:=hQ_ (HCs.o.new hc5);obtain⟨Av,cv,rfl,_⟩:=zr_ ho;rw[HOK.o];clear ho hc5;go_wp2_with fail;go_roundw;(case rel=>exact⟨j+1,by go_num,by omega,HC5⟩);case measure=>simp[intOf];omega
     · have hjI:(n:Int)<=(j:Int):=(by omega);have HP:=hQ_ (show um_ W 0 (.returned (.int .i64 0)) wr from⟨rfl,HC.o.new HCs.o⟩);go_wp2_with fail;go_ret;exact HP.o
end
end Go.Proofs.YtcbcfcdmdedefaaGreatDoor
