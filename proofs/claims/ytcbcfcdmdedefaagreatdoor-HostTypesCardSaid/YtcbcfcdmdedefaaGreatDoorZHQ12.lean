import Derived.Test.YtcbcfcdmdedefaaGreatDoorZHQ9
import Derived.Test.YtcbcfcdmdedefaaGreatDoorZHQ11
set_option maxRecDepth 100000
set_option maxHeartbeats 16000000
namespace Go.Proofs.YtcbcfcdmdedefaaGreatDoor
open Go.RowKit
section
variable {w:World} {k:SK} {s:St} {x:SV} {vP:Value}
theorem zgJ (h:Sto w k s x vP):Calls Tryz.prog 43 #[.pointer (some ⟨k.g,0,none⟩)] w fun e w'=>e=.returned (zB_ x.L x.P x.E)/\Chg [] w w':=by
 go_enter Tryz.func43,Tryz.ntmps43;go_upto_region 1 with fail;have hal:=(Chg.refl [] w).alloc (.cells #[.int .i64 0,.int .i64 0,.int .u32 0] 82);have hr:=h.rec_.keep hal;have c1:=hr.cell 1;have c2:=hr.cell 2;have c3:=hr.cell 3;have hR:=zb_.new w 82 [.int .i64 0,.int .i64 0,.int .u32 0];have d0:=hR.cell 0;have d1:=hR.cell 1;have d2:=hR.cell 2;have f0:=hR.frozen 0;have f1:=hR.frozen 1;have f2:=hR.frozen 2;have hn:w.heap.size<=w.heap.size:=Nat.le_refl _;generalize w.alloc (.cells #[.int .i64 0,.int .i64 0,.int .u32 0] 82)=w1 at *;obtain⟨gr,hgr⟩:∃g,g=w.heap.size:=⟨_,rfl⟩;rw[<-hgr]at hR d0 d1 d2 f0 f1 f2⊢;have HS:=hQ_ ((hR.set_ 0 (.int .i64 (x.L:Int))).set_ 1 (.int .i64 (x.P:Int)) |>.set_ 2 (.int .u32 (x.E:Int)));have hnl:¬gr<w.heap.size:=by omega
 have HC:=hQ_ (((hal.setCell (p:=⟨gr,0,none⟩) (fun h=>absurd h hnl) (.int .i64 (x.L:Int))).setCell (p:=⟨gr,1,none⟩) (fun h=>absurd h hnl) (.int .i64 (x.P:Int))).setCell (p:=⟨gr,2,none⟩) (fun h=>absurd h hnl) (.int .u32 (x.E:Int)));clear hal hr hR hgr hnl hn h;go_wp2_with fail;refine bodyPost_ret_by (results_cell_row rfl _ _ gr 82 #[.int .i64 x.L,.int .i64 x.P,.int .u32 x.E] (0,0) _ rfl HS.o Tryz.underlying82 rfl (by kernel_rfl)) rfl ⟨rfl,HC.o⟩
end
section
variable {w:World} {k:SK} {s:St} {x:SV} {vP:Value}
def zcX (w:World)(x:SV)(e:Ending)(w':World):Prop:=∃g us,e=.returned (.slice (some ⟨g,0,none⟩) x.P x.P)/\ShFr w.heap.size w' g x.P us x.pages x.P/\w.heap.size<=g/\Chg [] w w'
theorem zkv (h:Sto w k s x vP):Calls Tryz.prog 47 #[.pointer (some ⟨k.g,0,none⟩)] w (zcX w x):=by
 obtain⟨A,c,us,rfl,hcp,hsrc,hul,hsp,hli⟩:=h.pgs.lists;have hP64:x.P<=64:=by have:=zi_.1 h.rt;omega
 have hap:=zbG (d:=0) (c:=c) (C:=none) (m:=0) (ls:=[]) hsrc (fun _ ad e=>hsp ad e) hul (by rw[h.pl];omega) hli (fun l hl=>by have:=h.p64 l hl;omega) ⟨fun h=>absurd h (by simp),fun a ha=>by simp at ha⟩ rfl (by omega) (fun a ha=>by simp at ha);have HAP:=hQ_ hap;have H:=hQ_ h;have e4:=h.rec_.cell 4;clear hap h hsrc hul hsp hli hcp;go_enter Tryz.func47,Tryz.ntmps47;go_wp2_with fail;refine HAP.o.mono ?_;rintro e w2 ⟨gp,us2,rfl,hfr,hgp,hc2⟩;rw[show zY_ x.pages []=x.pages from rfl,H.o.pl]at hfr;rw[show zY_ x.pages []=x.pages from rfl,H.o.pl];have HP:=hQ_ (show zcX w x (.returned (.slice (some ⟨gp,0,none⟩) x.P x.P)) w2 from⟨gp,us2,rfl,hfr,hgp,hc2⟩);clear e4 hfr hgp hc2;go_wp2_with fail;go_ret;exact HP.o
end
def Gd (s:St):Prop:=s.S.length=64*s.V.length
def x2_ (s:St)(j:Nat):List UInt8:=xb_ s.S s.V.length j
theorem znk (L S:List UInt8)(k:Nat):zjM L S k 64=S:=by
 unfold zjM;rw[show 64-64=0 from rfl,List.take_zero];unfold splice;simp
theorem ziI (s:St):∀i,(s.flush i).S=s.S
  | 0=>rfl
  | i+1=>by
    show zjM (s.flush i).L (s.flush i).S i 64=s.S;rw[znk,ziI s i]
theorem zfD (s:St):(flA s).S=s.S:=ziI s _
theorem Gd.flA {s:St}(h:Gd s):Gd (flA s):=by unfold Gd;rw[zfD,zJ_];exact h
theorem Gd.write {s:St}(h:Gd s){q:Nat}{x:List UInt8}(hq:q<s.V.length)(hx:x.length=64):Gd (s.write q x):=by
 unfold Gd at *;rw[vJ_];show(splice s.S (q*64) x).length=_;unfold splice;simp only[List.length_append,List.length_take,List.length_drop,hx];omega
theorem ks_ {s:St}(h:Gd s){q:Nat}{x:List UInt8}(hq:q<s.V.length)(hx:x.length=64)(j:Nat):x2_ (s.write q x) j=if j=q then x else x2_ s j:=by
 unfold x2_;rw[vJ_];show xb_ (splice s.S (q*64) x) _ j=_;by_cases e:j=q
 · subst e;rw[if_pos rfl];exact zgT h hq hx
 · rw[if_neg e];exact zeY h hq hx e
theorem uR_ (s:St)(j:Nat):x2_ (flA s) j=x2_ s j:=by unfold x2_;rw[zfD,zJ_]
theorem jw_:(zm_ 64).length=64:=zE_ 64
theorem Gd.wipeN {s:St}(h:Gd s)(a:Nat):∀k,a+k<=s.V.length->Gd (wipeN s a k)
  | 0,_=>h
  | k+1,hk=>(Gd.wipeN h a k (by omega)).write (by rw[zX_];omega) jw_
theorem kt_ {s:St}(h:Gd s)(a:Nat):∀k,a+k<=s.V.length->∀j,x2_ (wipeN s a k) j=if a<=j/\j<a+k then zm_ 64 else x2_ s j
  | 0,_,j=>by rw[if_neg (by omega)];rfl
  | k+1,hk,j=>by
    show x2_ ((wipeN s a k).write (a+k) (zm_ 64)) j=_;rw[ks_ (Gd.wipeN h a k (by omega)) (by rw[zX_];omega) jw_,kt_ h a k (by omega)];by_cases e:j=a+k
    · rw[if_pos e,if_pos (by omega)]
    · rw[if_neg e];by_cases e2:a<=j/\j<a+k
      · rw[if_pos e2,if_pos (by omega)]
      · rw[if_neg e2,if_neg (by omega)]
theorem Gd.putR {s:St}(h:Gd s)(L P E:Nat)(h2:2<=s.V.length):Gd (putR s L P E):=(h.write (by omega) (x7_ _ _ _)).flA
theorem zaC {s:St}(h:Gd s)(L P E:Nat)(h2:2<=s.V.length)(j:Nat):x2_ (putR s L P E) j=if j=E%2 then z3_ L P E else x2_ s j:=by
 unfold putR;rw[uR_,ks_ h (by omega) (x7_ _ _ _)]
theorem Gd.fmt {s:St}(h:Gd s)(L P:Nat)(h2:2+L+P<=s.V.length):Gd (fmt s L P):=by
 unfold Go.Proofs.YtcbcfcdmdedefaaGreatDoor.fmt;exact Gd.putR (((h.wipeN 0 2 (by omega)).flA.wipeN 2 (L+P) (by rw[zJ_,zX_];omega)).flA) L P 1 (by rw[zJ_,zX_,zJ_,zX_];omega)
theorem uQ_ {s:St}(h:Gd s)(L P:Nat)(h2:2+L+P<=s.V.length)(j:Nat)(hj:j<2+L+P):x2_ (fmt s L P) j=if j=1 then z3_ L P 1 else zm_ 64:=by
 unfold fmt;rw[zaC (((h.wipeN 0 2 (by omega)).flA.wipeN 2 (L+P) (by rw[zJ_,zX_];omega)).flA) L P 1 (by rw[zJ_,zX_,zJ_,zX_];omega)];show(if j=1 then _ else _)=_;by_cases e:j=1
 · rw[if_pos e,if_pos e]
 · rw[if_neg e,if_neg e,uR_,kt_ ((h.wipeN 0 2 (by omega)).flA) 2 (L+P) (by rw[zJ_,zX_];omega)];by_cases e2:2<=j/\j<2+(L+P)
   · rw[if_pos e2]
   · rw[if_neg e2,uR_,kt_ h 0 2 (by omega),if_pos (by omega)]
theorem zaj:¬vE_ (zm_ 64):=by decide +kernel
theorem vX_ (s:St):yW_ s.V.length s.S 2=zx_ s.V.length (zx_ s.V.length RV.zero (x2_ s 0)) (x2_ s 1):=rfl
theorem vB_ {n:Int}{o:RV}{L P E:Nat}(hr:zp_ L P E n=true)(hE:E<4294967296)(ho:o.epoch<E):zx_ n o (z3_ L P E)=⟨L,P,E⟩:=by
 have h1:=zi_.1 hr;obtain⟨a,b,c,d⟩:=zno L P E (by omega) (by omega) hE;unfold zx_;rw[if_pos ⟨a,by rw[b,c,d];exact hr,by rw[d];exact ho⟩,b,c,d]
theorem zcQ {n:Int}{o:RV}{l:List UInt8}(h:¬vE_ l):zx_ n o l=o:=by
 unfold zx_;rw[if_neg (fun k=>h k.1)]
theorem zem {s:St}(h:Gd s)(L P:Nat)(hr:zp_ L P 1 s.V.length=true):yW_ (fmt s L P).V.length (fmt s L P).S 2=⟨L,P,1⟩:=by
 have h1:=zi_.1 hr;rw[vX_,uQ_ h L P (by omega) 0 (by omega),uQ_ h L P (by omega) 1 (by omega),if_neg (by omega),if_pos rfl,zcQ zaj,kM_];exact vB_ hr (by omega) (by show 0<1;omega)
theorem Gd.homeN {s:St}(h:Gd s){x:SV}(hr:zp_ x.L x.P x.E s.V.length=true)(hp:x.pages.length=x.P)(h64:∀l∈x.pages,l.length=64):∀k,k<=x.P->Gd (homeN s x k)
  | 0,_=>h
  | k+1,hk=>by
    have h1:=zi_.1 hr;have ih:=Gd.homeN h hr hp h64 k (by omega);show Gd (if _ then _ else _);split
    · refine ih.write (by rw[yT_];omega) ?_;rw[List.getD_eq_getElem?_getD,List.getElem?_eq_getElem (by omega)];exact h64 _ (List.getElem_mem _)
    · exact ih
theorem qP_ {s:St} (h:Gd s) {x:SV} (hr:zp_ x.L x.P x.E s.V.length=true) (hp:x.pages.length=x.P) (h64:∀l∈x.pages,l.length=64):∀k,k<=x.P->∀j,x2_ (homeN s x k) j=if 2+x.L<=j/\j<2+x.L+k/\x.named.getD (j-(2+x.L)) false=true then x.pages.getD (j-(2+x.L)) [] else x2_ s j
  | 0,_,j=>by rw[if_neg (by omega)];rfl
  | k+1,hk,j=>by
    have h1:=zi_.1 hr;have ih:=qP_ h hr hp h64 k (by omega) j;have hg:=Gd.homeN h hr hp h64 k (by omega);show x2_ (if _ then _ else _) j=_;by_cases hn:x.named.getD k false=true
    · rw[if_pos hn,ks_ hg (by rw[yT_];omega) (by rw[List.getD_eq_getElem?_getD,List.getElem?_eq_getElem (by omega)];exact h64 _ (List.getElem_mem _)),ih];by_cases e:j=2+x.L+k
      · subst e;rw[if_pos rfl,if_pos ⟨by omega,by omega,by rw[show 2+x.L+k-(2+x.L)=k by omega];exact hn⟩,show 2+x.L+k-(2+x.L)=k by omega]
      · rw[if_neg e];by_cases e2:2+x.L<=j/\j<2+x.L+k/\x.named.getD (j-(2+x.L)) false=true
        · rw[if_pos e2,if_pos ⟨e2.1,by omega,e2.2.2⟩]
        · rw[if_neg e2,if_neg (fun h3=>e2 ⟨h3.1,by omega,h3.2.2⟩)]
    · rw[if_neg hn,ih];by_cases e2:2+x.L<=j/\j<2+x.L+k/\x.named.getD (j-(2+x.L)) false=true
      · rw[if_pos e2,if_pos ⟨e2.1,by omega,e2.2.2⟩]
      · rw[if_neg e2,if_neg (fun h3=>?_)];by_cases e:j=2+x.L+k
        · subst e;apply hn;have:=h3.2.2;rwa[show 2+x.L+k-(2+x.L)=k by omega]at this
        · exact e2 ⟨h3.1,by omega,h3.2.2⟩
theorem zlL {s:St}(h:Gd s){x:SV}(hr:zp_ x.L x.P x.E s.V.length=true)(hp:x.pages.length=x.P)(h64:∀l∈x.pages,l.length=64):Gd (ckS s x):=by
 have h1:=zi_.1 hr;unfold ckS;exact Gd.putR (Gd.flA (Gd.homeN h.flA (by rw[zJ_];exact hr) hp h64 x.P (Nat.le_refl _))) _ _ _ (by rw[zJ_,yT_,zJ_];omega)
theorem v6_ {s:St}(h:Gd s){x:SV}(hr:zp_ x.L x.P x.E s.V.length=true)(hp:x.pages.length=x.P)(h64:∀l∈x.pages,l.length=64)(j:Nat) :
    x2_ (ckS s x) j=if j=(x.E+1)%2 then z3_ x.L x.P (x.E+1) else if 2+x.L<=j/\j<2+x.L+x.P/\x.named.getD (j-(2+x.L)) false=true then x.pages.getD (j-(2+x.L)) [] else x2_ s j:=by
 have h1:=zi_.1 hr;unfold ckS;rw[zaC (Gd.flA (Gd.homeN h.flA (by rw[zJ_];exact hr) hp h64 x.P (Nat.le_refl _))) _ _ _ (by rw[zJ_,yT_,zJ_];omega),uR_,qP_ h.flA (by rw[zJ_];exact hr) hp h64 x.P (Nat.le_refl _),uR_]
theorem qm_ {n:Int}{o:RV}{l:List UInt8}:o.epoch<=(zx_ n o l).epoch/\(vE_ l->zp_ (zz_ l 4) (zz_ l 8) (zz_ l 12) n=true->zz_ l 12<=(zx_ n o l).epoch):=by
 unfold zx_;split
 · rename_i h;exact⟨by show _<=zz_ l 12;omega,fun _ _=>Nat.le_refl _⟩
 · rename_i h;exact⟨Nat.le_refl _,fun h1 h2=>by
    rcases Nat.lt_or_ge o.epoch (zz_ l 12) with h3|h3
    · exact absurd ⟨h1,h2,h3⟩ h
    · exact h3⟩
theorem zbE {n:Int}{o:RV}{l:List UInt8}:zx_ n o l=o\/(zx_ n o l=⟨zz_ l 4,zz_ l 8,zz_ l 12⟩/\vE_ l/\zp_ (zz_ l 4) (zz_ l 8) (zz_ l 12) n=true):=by
 unfold zx_;split
 · rename_i h;exact .inr ⟨rfl,h.1,h.2.1⟩
 · exact .inl rfl
theorem zlV {s s':St}{L P E:Nat}(hv:s'.V.length=s.V.length)(hb:(yW_ s.V.length s.S 2).epoch<=E)(hr:zp_ L P (E+1) s.V.length=true)(hE:E+1<4294967296)(hq:x2_ s' ((E+1)%2)=z3_ L P (E+1))(ho:x2_ s' (E%2)=x2_ s (E%2)):yW_ s'.V.length s'.S 2=⟨L,P,E+1⟩:=by
 rw[vX_,hv];rw[vX_]at hb;have hr':zp_ L P ((E+1:Nat):Int) s.V.length=true:=by rw[Int.natCast_add];exact hr
 rcases Nat.mod_two_eq_zero_or_one E with h|h
 · rw[show(E+1)%2=1 by omega]at hq;rw[h]at ho;rw[hq,ho];refine vB_ hr' hE ?_;have:=(qm_ (n:=s.V.length) (o:=zx_ s.V.length RV.zero (x2_ s 0)) (l:=x2_ s 1)).1;omega
 · rw[show(E+1)%2=0 by omega]at hq;rw[h]at ho;rw[hq,ho,vB_ hr' hE (by show 0<E+1;omega)];rcases zbE (n:=s.V.length) (o:=⟨L,P,E+1⟩) (l:=x2_ s 1) with h1|⟨h1,h2,h3⟩
   · exact h1
   · have h4:=(qm_ (n:=s.V.length) (o:=zx_ s.V.length RV.zero (x2_ s 0)) (l:=x2_ s 1)).2 h2 h3;unfold zx_;rw[if_neg (fun h5=>by have:=h5.2.2;simp only at this;omega)]
theorem zoE {s:St}(h:Gd s){x:SV}(hr:zp_ x.L x.P x.E s.V.length=true)(hp:x.pages.length=x.P)(h64:∀l∈x.pages,l.length=64)(hb:(yW_ s.V.length s.S 2).epoch<=x.E)(hE:x.E+1<4294967296):yW_ (ckS s x).V.length (ckS s x).S 2=⟨x.L,x.P,x.E+1⟩:=by
 have h1:=zi_.1 hr;refine zlV (vU_ s x) hb (zi_.2 (by omega)) hE ?_ ?_
 · rw[v6_ h hr hp h64,if_pos rfl]
 · rw[v6_ h hr hp h64,if_neg (by omega),if_neg (by omega)]
def km_ (E:Nat):Nat->List (List ChV)->List UInt8
  | _,[]=>[]
  | k,m::ms=>zU_ E k (zD_ m)++km_ E (k+1) ms
theorem zbm (E:Nat):∀(ms:List (List ChV))(k:Nat)(m:List ChV),km_ E k (ms++[m])=km_ E k ms++zU_ E (k+ms.length) (zD_ m)
  | [],k,m=>by simp[km_]
  | a::ms,k,m=>by
    show zU_ E k (zD_ a)++km_ E (k+1) (ms++[m])=(zU_ E k (zD_ a)++km_ E (k+1) ms)++_;rw[zbm E ms,List.append_assoc,List.length_cons,show k+1+ms.length=k+(ms.length+1) by omega]
theorem zlX {l:List UInt8}{ep k:Nat}{rs:List (List UInt8)}{a:Nat}(h:At l ep k rs a)(r m:List UInt8)(he:ep<4294967296)(hk:k<4294967296)(hr:r.length<4294967296)(hl:l.drop a=zU_ ep k r++m) :
    At l ep (k+1) (rs++[r]) (a+(16+r.length)):=by
 have h2:=h.next (by rw[hl];exact zdT ep k r m he hk hr);rwa[hl,ziB ep k r m he hk hr,zbn ep k r m he hk hr]at h2
theorem zmG {l:List UInt8}{E:Nat}(hE:E<4294967296):∀(ms:List (List ChV))(k:Nat)(rs:List (List UInt8))(a:Nat)(z:List UInt8),At l E k rs a->l.drop a=km_ E k ms++z->k+ms.length<4294967296->(∀m∈ms,(zD_ m).length<4294967296)->At l E (k+ms.length) (rs++ms.map zD_) (a+(km_ E k ms).length)/\l.drop (a+(km_ E k ms).length)=z
  | [],k,rs,a,z,h,hl,_,_=>⟨by simpa[km_] using h,by simpa[km_] using hl⟩
  | m::ms,k,rs,a,z,h,hl,hk,hm=>by
    have hl':l.drop a=zU_ E k (zD_ m)++(km_ E (k+1) ms++z):=(by rw[hl];show(zU_ E k (zD_ m)++km_ E (k+1) ms)++z=_;rw[List.append_assoc]);have h1:=zlX h (zD_ m) _ hE (by simp at hk;omega) (hm m List.mem_cons_self) hl';have hd:l.drop (a+(16+(zD_ m).length))=km_ E (k+1) ms++z:=(by
     rw[<-List.drop_drop,hl',List.drop_left' (yN_ _ _ _)]);obtain⟨h2,h3⟩:=zmG hE ms (k+1) _ _ z h1 hd (by simp at hk;omega) (fun x hx=>hm x (List.mem_cons_of_mem _ hx));have e1:(km_ E k (m::ms)).length=16+(zD_ m).length+(km_ E (k+1) ms).length:=(by show(zU_ E k (zD_ m)++km_ E (k+1) ms).length=_;rw[List.length_append,yN_]);rw[e1,List.length_cons,show k+(ms.length+1)=k+1+ms.length by omega,<-Nat.add_assoc a];refine⟨?_,h3⟩;have e2:rs++List.map zD_ (m::ms)=rs++[zD_ m]++List.map zD_ ms:=(by simp);rw[e2];exact h2
theorem jv_ {k E q:Nat}(hE:1<=E):¬zR_ (zm_ k) E q:=by
 intro h;have h1:=h.2.1;unfold zz_ at h1;split at h1
 · rename_i hk;rw[zE_]at hk;have:((zm_ k).drop (0:Int).toNat).take 4=zm_ 4:=(by
    unfold zm_;rw[List.drop_replicate,List.take_replicate];congr 1;simp only[Int.toNat_zero];omega);rw[this,show zbN (zm_ 4)=0 from by decide]at h1;omega
 · omega
theorem zkr {E:Nat}(hE:1<=E)(hE2:E<4294967296)(ms:List (List ChV))(z:Nat)(hk:ms.length<4294967296)(hm:∀m∈ms,(zD_ m).length<4294967296) :
    scanS (km_ E 0 ms++zm_ z) E=(ms.map zD_,(km_ E 0 ms).length):=by
 obtain⟨h1,h2⟩:=zmG hE2 ms 0 [] 0 (zm_ z) (At.zero (km_ E 0 ms++zm_ z) E) rfl (by omega) hm;simp only[Nat.zero_add,List.nil_append]at h1 h2;exact h1.last (by rw[h2];exact jv_ hE)
def InL (P:Nat)(m:List ChV):Prop:=(∀a∈m,zmL a)/\zF_ (P:Int) m=true/\m.length<=64
theorem InL.okR {P:Nat}{m:List ChV}(h:InL P m):zaO (P:Int) (zD_ m):=by
 have h1:=uk_ h.1;have h2:=zen (l:=m) (by have:=h.2.2;omega);refine⟨by omega,by rw[h1,h2],?_⟩;rw[ul_ (zjz h.1 (by have:=h.2.2;omega))];exact h.2.1
theorem zdm (P:Nat):∀(ms:List (List ChV)),(∀m∈ms,InL P m)->(zai (P:Int) (ms.map zD_)).1=ms.map fun m=>zah (zD_ m)
  | [],_=>rfl
  | m::ms,h=>by
    show(zai (P:Int) (zD_ m::ms.map zD_)).1=_;unfold zai;rw[if_pos (h m List.mem_cons_self).okR];show zah (zD_ m)::(zai (P:Int) (ms.map zD_)).1=_;rw[zdm P ms fun x hx=>h x (List.mem_cons_of_mem _ hx)];rfl
theorem zbq (P:Nat):∀(ms:List (List ChV))(x:SV),(∀m∈ms,InL P m)->(ms.map fun m=>zah (zD_ m)).foldl zZ_ x=ms.foldl zZ_ x
  | [],_,_=>rfl
  | m::ms,x,h=>by
    have h1:=h m List.mem_cons_self;show(ms.map fun m=>zah (zD_ m)).foldl zZ_ (zZ_ x (zah (zD_ m)))=ms.foldl zZ_ (zZ_ x m);have e:zZ_ x (zah (zD_ m))=zZ_ x m:=zar x (zjz h1.1 (by have:=h1.2.2;omega)).1;rw[e];exact zbq P ms _ fun y hy=>h y (List.mem_cons_of_mem _ hy)
structure LogZ (s:St) (L P E:Nat) (ms:List (List ChV)) (u:Nat):Prop where
  log:xI_ s L=km_ E 0 ms++zm_ (L*64-u)
  len:(km_ E 0 ms).length=u
  top:u<=L*64
  ins:∀m∈ms,InL P m
theorem ziA (E:Nat):∀(ms:List (List ChV))(k:Nat),16*ms.length<=(km_ E k ms).length
  | [],_=>by simp
  | m::ms,k=>by
    have:=ziA E ms (k+1);show _<=(zU_ E k (zD_ m)++km_ E (k+1) ms).length;rw[List.length_append,yN_,List.length_cons];omega
theorem LogZ.recT {s:St}{L P E:Nat}{ms:List (List ChV)}{u:Nat}(h:LogZ s L P E ms u)(hr:zp_ L P E s.V.length=true)(hE:E<4294967296)(x:SV):(recT s ⟨L,P,E⟩).foldl zZ_ x=ms.foldl zZ_ x:=by
 have h1:=zi_.1 hr;unfold Go.Proofs.YtcbcfcdmdedefaaGreatDoor.recT recsS;show(zai (P:Int) (scanS (zbO s L P E) E).1).1.foldl zZ_ x=_;rw[show zbO s L P E=xI_ s L by unfold zbO;rw[if_pos hr,Int.toNat_natCast],h.log,zkr (by omega) hE ms _ (by have:=ziA E ms 0;have:=h.len;have:=h.top;omega) (fun m hm=>by rw[uk_ (h.ins m hm).1];have:=(h.ins m hm).2.2;omega)];show(zai (P:Int) (ms.map zD_)).1.foldl zZ_ x=_;rw[zdm P ms h.ins,zbq P ms x h.ins]
theorem j3_ {s s':St}{L:Nat}(hv:s'.V.length=s.V.length)(h2:2+L<=s.V.length)(h:∀j,2<=j->j<2+L->x2_ s' j=x2_ s j):∀k,k<=L->xI_ s' k=xI_ s k
  | 0,_=>by unfold xI_;simp
  | k+1,hk=>by
    rw[u1_,u1_,j3_ hv h2 h k (by omega)];have h1:=h (2+k) (by omega) (by omega);unfold x2_ xb_ at h1;rw[hv,if_pos (by omega),if_pos (by omega)]at h1;rw[h1]
theorem q2_ {s:St}{L:Nat}(h2:2+L<=s.V.length)(h:∀j,2<=j->j<2+L->x2_ s j=zm_ 64):∀k,k<=L->xI_ s k=zm_ (k*64)
  | 0,_=>by unfold xI_ zm_;simp
  | k+1,hk=>by
    rw[u1_,q2_ h2 h k (by omega)];have h1:=h (2+k) (by omega) (by omega);unfold x2_ xb_ at h1;rw[if_pos (by omega)]at h1;rw[h1];unfold zm_;rw[List.replicate_append_replicate];congr 1;omega
theorem zeR {S b:List UInt8}{u N:Nat}(hu:u+b.length<=N)(hS:128+N<=S.length):((splice S (128+u) b).drop 128).take N=((S.drop 128).take N).take u++(b++((S.drop 128).take N).drop (u+b.length)):=by
 have e:splice S (128+u) b=S.take (128+u)++(b++S.drop (128+u+b.length)):=by unfold splice;simp
 have l1:(S.take (128+u)).length=128+u:=by rw[List.length_take];omega
 have l2:((S.drop 128).take u).length=u:=by rw[List.length_take,List.length_drop];omega
 rw[e,List.drop_append_of_le_length (by omega),List.drop_take,show 128+u-128=u by omega,List.take_append,l2,List.take_append,List.take_of_length_le (by omega),List.take_of_length_le (l:=b) (by omega),List.take_take,Nat.min_eq_left (by omega),List.drop_take,List.drop_drop,show 128+(u+b.length)=128+u+b.length by omega,show N-u-b.length=N-(u+b.length) by omega]
theorem LogZ.com {s:St}{x:SV}{ms:List (List ChV)}{m:List ChV}(h:LogZ s x.L x.P x.E ms x.used)(hg:Gd s)(h2:2+x.L<=s.V.length)(hq:x.seq=ms.length)(hm:InL x.P m)(hf:x.used+(18+66*m.length)<=x.L*64) :
    LogZ (k6_ s x m) x.L x.P x.E (ms++[m]) (x.used+(18+66*m.length)):=by
 have hl:(zcN x m).length=18+66*m.length:=by unfold zcN;rw[yN_,uk_ hm.1];omega
 have hlog:=h.log;have hlen:=h.len;have e:km_ x.E 0 (ms++[m])=km_ x.E 0 ms++zcN x m:=by rw[zbm,Nat.zero_add,<-hq];rfl
 refine⟨?_,by rw[e,List.length_append,hl,hlen],hf,fun y hy=>?_⟩
 · rw[e];show((splice s.S (128+x.used) (zcN x m)).drop 128).take (x.L*64)=_;rw[zeR (by omega) (by unfold Gd at hg;omega)];show(xI_ s x.L).take x.used++(zcN x m++(xI_ s x.L).drop (x.used+(zcN x m).length))=_;rw[hlog,List.take_left' hlen,<-List.drop_drop,List.drop_left' hlen,hl,List.append_assoc];congr 2;unfold zm_;rw[List.drop_replicate];congr 1;omega
 · rcases List.mem_append.1 hy with hy|hy
   · exact h.ins y hy
   · simp only[List.mem_cons,List.not_mem_nil,or_false]at hy;subst hy;exact hm
theorem LogZ.flA {s:St}{L P E:Nat}{ms:List (List ChV)}{u:Nat}(h:LogZ s L P E ms u):LogZ (flA s) L P E ms u:=⟨by have:=h.log;unfold xI_ at *;rw[zfD];exact this,h.len,h.top,h.ins⟩
theorem LogZ.none {s:St}{L P E:Nat}(h2:2+L<=s.V.length)(h:∀j,2<=j->j<2+L->x2_ s j=zm_ 64):LogZ s L P E [] 0:=⟨by rw[q2_ h2 h L (Nat.le_refl _)];simp[km_],rfl,Nat.zero_le _,fun m hm=>by cases hm⟩
def ptC (x:BkV):List Value:=[.bool (x.sign==91),.int .i64 x.base,.bool (x.sign==58),.int .i64 x.other,.bool x.left]
def ja_:List BkV->List Value
  | []=>[]
  | x::l=>ptC x++ja_ l
theorem zdr:∀l,(ja_ l).length=l.length*5
  | []=>rfl
  | t::l=>by rw[ja_,List.length_append,zdr l];simp[ptC];omega
theorem gz_:∀l m,ja_ (l++m)=ja_ l++ja_ m
  | [],m=>rfl
  | t::l,m=>by rw[List.cons_append,ja_,ja_,gz_ l m,List.append_assoc]
theorem zkP (x:BkV):ja_ [x]=ptC x:=by simp[ja_]
theorem uV_:∀(l:List BkV)(k:Nat)(t:BkV)(j:Nat),l[k]?=some t->j<5->(ja_ l)[k*5+j]?=(ptC t)[j]?
  | [],k,t,j,h,hj=>by simp at h
  | u::l,0,t,j,h,hj=>by
    simp at h;subst h;rw[ja_,List.getElem?_append_left (by simp[ptC];omega)];congr 1;omega
  | u::l,k+1,t,j,h,hj=>by
    simp at h;rw[ja_,List.getElem?_append_right (by simp[ptC];omega)];rw[<-uV_ l k t j h hj];congr 1;simp[ptC];omega
theorem zdq:∀(l:List BkV)(k:Nat)(x y:BkV)(j:Nat)(u:Value),l[k]?=some x->j<5->(ptC x).set j u=ptC y->(ja_ l).set (k*5+j) u=ja_ (l.set k y)
  | [],k,x,y,j,u,h,hj,hu=>by simp at h
  | z::l,0,x,y,j,u,h,hj,hu=>by
    simp at h;subst h;rw[ja_,List.set_append_left _ _ (by simp[ptC];omega),Nat.zero_mul,Nat.zero_add,hu];rfl
  | z::l,k+1,x,y,j,u,h,hj,hu=>by
    simp at h;rw[ja_,List.set_append_right _ _ (by simp[ptC];omega)];rw[show(k+1)*5+j-(ptC z).length=k*5+j from by simp[ptC];omega,zdq l k x y j u h hj hu];rfl
theorem kG_:(Tryz.prog.info? 252).map (fun i=>(i.zero,i.size,i.bytes))=some (some (.agg #[.bool false,.int .i64 0,.bool false,.int .i64 0,.bool false]),5,40):=by kernel_rfl
abbrev wkT:List TypeId:=[252,180]
structure Wk (W:World) (g:Nat) (h:Int) (v:Value) (bs:List BkV):Prop where
  rec_:zb_ W g 180 [.int .i64 h,v]
  own:W.ownsRow (g+1) 252 5 v bs.length (ja_ bs)
  few:bs.length<=100
  hr:-1<=h/\h<=64
  rb:∀x∈bs,0<=x.base/\x.base<=64/\-1<=x.other/\x.other<=64
def yy_ (W:World)(g:Nat)(R:Int×Int×List BkV)(e:Ending)(w':World):Prop :=
 Fr g wkT W w'/\e=.returned (.int .i64 R.1)/\(R.1=0->∃v',Wk w' g R.2.1 v' R.2.2)
section
variable {W W':World} {g:Nat} {h:Int} {v:Value} {bs ys:List BkV} {x:BkV}
theorem Wk.keep (s:Wk W g h v bs)(hc:Chg [] W W'):Wk W' g h v bs:=⟨s.rec_.keep hc,zf_ s.own hc,s.few,s.hr,s.rb⟩
theorem Wk.away (s:Wk W g h v bs):v.ownBlock≠some g:=fun e=>by have:=(s.own.lt g e).1;omega
theorem Wk.slice (s:Wk W g h v bs):∃A n c,v=.slice A n c/\n=bs.length/\n<=c:=by
 obtain⟨A,c,e,hc,_⟩:=zh_ s.own;exact⟨A,_,c,e,rfl,hc⟩
theorem Wk.high (s:Wk W g h v bs)(h':Int)(hr:-1<=h'/\h'<=64):Wk (W.setCell ⟨g,0,none⟩ (.int .i64 h')) g h' v bs/\Fr g wkT W (W.setCell ⟨g,0,none⟩ (.int .i64 h')) :=
 ⟨⟨s.rec_.set_ 0 _,zG_ s.own (fun e=>s.away e),s.few,hr,s.rb⟩,(Fr.refl g wkT W).setw s.rec_ (Nat.le_refl _) (by simp[wkT]) _⟩
theorem Wk.last (s:Wk W g h v (ys++[x])):∃gr c,v=.slice (some ⟨gr,0,none⟩) (ys.length+1) c/\ys.length+1<=c/\g+1<=gr/\W.cell? ⟨gr,ys.length*5,none⟩=some (.bool (x.sign==91))/\W.cell? ⟨gr,ys.length*5+1,none⟩=some (.int .i64 x.base) /\
    W.cell? ⟨gr,ys.length*5+2,none⟩=some (.bool (x.sign==58))/\W.cell? ⟨gr,ys.length*5+3,none⟩=some (.int .i64 x.other)/\W.cell? ⟨gr,ys.length*5+4,none⟩=some (.bool x.left):=by
 have hl:(ys++[x]).length=ys.length+1:=by simp
 obtain⟨A,n,c,rfl,hn,hc⟩:=s.slice;rw[hl]at hn;subst hn;have hx:(ys++[x])[ys.length]?=some x:=by simp
 have k:∀j u,j<5->(ptC x)[j]?=some u->∃gr,A=some ⟨gr,0,none⟩/\W.cell? ⟨gr,ys.length*5+j,none⟩=some u:=fun j u hj hu=>zv_ s.own (by rw[hl]) ((uV_ _ _ _ j hx hj).trans hu);obtain⟨gr,rfl,c0⟩:=k 0 _ (by omega) rfl;obtain⟨_,e,c1⟩:=k 1 _ (by omega) rfl;injection e with e;injection e with e;subst e;obtain⟨_,e,c2⟩:=k 2 _ (by omega) rfl;injection e with e;injection e with e;subst e;obtain⟨_,e,c3⟩:=k 3 _ (by omega) rfl;injection e with e;injection e with e;subst e;obtain⟨_,e,c4⟩:=k 4 _ (by omega) rfl;injection e with e;injection e with e;subst e;exact⟨gr,c,rfl,hc,(s.own.lt gr rfl).1,c0,c1,c2,c3,c4⟩
theorem Wk.pop {gr c:Nat}(s:Wk W g h (.slice (some ⟨gr,0,none⟩) (ys.length+1) c) (ys++[x])){W1:World}(hc:Chg [] W W1) :
    Wk (W1.setCell ⟨g,1,none⟩ (.slice (some ⟨gr,0,none⟩) ys.length c)) g h (.slice (some ⟨gr,0,none⟩) ys.length c) ys/\Fr g wkT W (W1.setCell ⟨g,1,none⟩ (.slice (some ⟨gr,0,none⟩) ys.length c)):=by
 have s1:=s.keep hc;have hl:(ys++[x]).length=ys.length+1:=by simp
 have ho:=s1.own;rw[hl]at ho;have h2:=x6_ (q':=ys.length) ho (by omega) (by simp);rw[gz_,List.take_left' (by rw[zdr])]at h2;refine⟨⟨s1.rec_.set_ 1 _,zG_ h2 (fun e=>by have:=(h2.lt g e).1;omega),by have:=s.few;omega,s.hr,fun y hy=>s.rb y (by simp[hy])⟩,(Fr.of_chg hc).setw s1.rec_ (Nat.le_refl _) (by simp[wkT]) _⟩
theorem Wk.push {W2 w3:World}{v':Value}{n1:Nat}(s:Wk W g h v bs)(hc:Chg [] W W2)(hn1:n1=bs.length+1)(ho:w3.ownsRow (g+1) 252 5 v' n1 (ja_ bs++ptC x))(hg:W2.grownBy w3 v.ownBlock)(hf:bs.length<=99)(hx:0<=x.base/\x.base<=64/\-1<=x.other/\x.other<=64) :
    Wk (w3.setCell ⟨g,1,none⟩ v') g h v' (bs++[x])/\Fr g wkT W (w3.setCell ⟨g,1,none⟩ v'):=by
 subst hn1;have s2:=s.keep hc;have hr3:=zn_ s2.rec_ s2.own (by decide) hg;refine⟨⟨hr3.set_ 1 _,?_,by simp;omega,s.hr,fun y hy=>?_⟩,((Fr.of_chg hc).grown s2.own (Nat.le_succ g) (by simp[wkT]) hg).setw hr3 (Nat.le_refl _) (by simp[wkT]) _⟩
 · rw[gz_,zkP,List.length_append,List.length_singleton];exact zG_ ho (fun e=>by have:=(ho.lt g e).1;omega)
 · rcases List.mem_append.1 hy with hy|hy
   · exact s.rb y hy
   · rw[List.mem_singleton]at hy;subst hy;exact hx
theorem Wk.mark {gr c n k:Nat}{y:BkV}(s:Wk W g h (.slice (some ⟨gr,0,none⟩) n c) bs)(hn:n=bs.length)(hk:bs[k]?=some y):Wk (W.setCell ⟨gr,k*5+4,none⟩ (.bool true)) g h (.slice (some ⟨gr,0,none⟩) n c) (bs.set k ⟨y.sign,y.base,y.other,true⟩)/\Fr g wkT W (W.setCell ⟨gr,k*5+4,none⟩ (.bool true)):=by
 subst hn;have hgr:=(s.own.lt gr rfl).1;refine⟨⟨s.rec_.far (by simp only;omega) _,?_,by simpa using s.few,s.hr,fun z hz=>?_⟩,(Fr.refl g wkT W).seto s.own (Nat.le_succ g) (by simp[wkT]) _⟩
 · have:=v7_ (j:=k*5+4) (u:=.bool true) s.own;rw[zdq bs k y ⟨y.sign,y.base,y.other,true⟩ 4 _ hk (by omega) rfl]at this;rw[List.length_set];exact this
 · rcases List.mem_or_eq_of_mem_set hz with hz|rfl
   · exact s.rb z hz
   · exact s.rb y (List.mem_of_getElem? hk)
end
section
variable {W:World} {g:Nat} {h:Int} {v:Value} {bs ys:List BkV} {x:BkV}
theorem zgn (s:Wk W g h v bs):Calls Tryz.prog 141 #[.pointer (some ⟨g,0,none⟩)] W (ju_ (xn_ bs) W):=by
 obtain⟨b0,hb0⟩:∃b,b=xn_ bs:=⟨_,rfl⟩;rw[<-hb0];rcases List.eq_nil_or_concat bs with rfl|⟨ys,x,rfl⟩
 · obtain⟨A,n,c,rfl,hn,_⟩:=s.slice;have hn0:n=0:=hn;subst hn0;have c1:=s.rec_.cell 1;have HC:=hQ_ (show ju_ b0 W (.returned (.int .i64 0)) W from⟨by rw[hb0];rfl,Chg.refl [] W⟩);clear s hb0 hn;go_enter Tryz.func141,Tryz.ntmps141;go_wp2_with fail;go_ret;exact HC.o
 · rw[List.concat_eq_append]at s;obtain⟨gr,c,rfl,hc,hgr,j0,j1,j2,j3,j4⟩:=s.last;have c1:=s.rec_.cell 1;have hf:=s.few;rw[List.length_append,List.length_singleton]at hf;have HB:=hQ_ (show b0=x.base by rw[hb0];simp[xn_]);clear s j0 j2 j3 j4 hb0;generalize ys.length=q at *;have hsub:IntKind.i64.wrap (((q+1:Nat):Int)-1)=(q:Int):=(by rw[IntWalk.i64_in _ (by omega)];omega);have hne:(((q+1:Nat):Int)==0)=false:=(by simp;omega);have hq0:(0:Int)<=(q:Int):=(by omega);have hq1:(q:Int)<((q+1:Nat):Int):=(by omega);go_enter Tryz.func141,Tryz.ntmps141;go_wp2_with fail;go_quiet (fail);have HP:=hQ_ (show ju_ b0 W (.returned (.int .i64 x.base)) (W.drewN nq) from⟨by rw[HB.o],(Chg.refl [] W).drewN nq⟩);go_wp2_with fail;go_ret;exact HP.o
theorem Wk.far {W:World}{g:Nat}{h:Int}{v:Value}{bs:List BkV}(s:Wk W g h v bs){p:Addr}(hp:g≠p.block)(hv:v.ownBlock≠some p.block)(u:Value):Wk (W.setCell p u) g h v bs:=⟨s.rec_.far hp u,zG_ s.own hv,s.few,s.hr,s.rb⟩
theorem Wk.ret5 {W W3:World}{g gR:Nat}{h:Int}{v:Value}{bs:List BkV}{z0 z1 z2 z3 z4:Value}(s:Wk W3 g h v bs)(hf:Fr g wkT W W3)(hR:zb_ W3 gR 252 [z0,z1,z2,z3,z4])(hg:g<gR)(hv:v.ownBlock≠some gR)(u0 u1 u2 u3 u4:Value) :
    let w4:=((((W3.setCell ⟨gR,0,none⟩ u0).setCell ⟨gR,1,none⟩ u1).setCell ⟨gR,2,none⟩ u2).setCell ⟨gR,3,none⟩ u3).setCell ⟨gR,4,none⟩ u4
    Hid (Wk w4 g h v bs)/\Hid (Fr g wkT W w4)/\Hid (zb_ w4 gR 252 [u0,u1,u2,u3,u4]):=by
 have hne:g≠gR:=by omega
 have r1:=hR.set_ 0 u0;have r2:=r1.set_ 1 u1;have r3:=r2.set_ 2 u2;have r4:=r3.set_ 3 u3;have r5:=r4.set_ 4 u4;refine⟨hQ_ (((((s.far hne hv _).far hne hv _).far hne hv _).far hne hv _).far hne hv _),hQ_ (((((hf.setw hR (by omega) (by simp[wkT]) _).setw r1 (by omega) (by simp[wkT]) _).setw r2 (by omega) (by simp[wkT]) _).setw r3 (by omega) (by simp[wkT]) _).setw r4 (by omega) (by simp[wkT]) _),hQ_ ?_⟩;simpa using r5
def zet (W:World)(g:Nat)(h:Int)(ys:List BkV)(x:BkV)(e:Ending)(w':World):Prop:=∃v',e=.returned (.agg (ptC x).toArray)/\Wk w' g h v' ys/\Fr g wkT W w'
theorem gr_ (s:Wk W g h v (ys++[x])):Calls Tryz.prog 182 #[.pointer (some ⟨g,0,none⟩)] W (zet W g h ys x):=by
 obtain⟨gr,c,rfl,hc,hgr,j0,j1,j2,j3,j4⟩:=s.last;have hf:=s.few;rw[List.length_append,List.length_singleton]at hf;have HS:=hQ_ s;obtain⟨q,hq⟩:∃q,q=ys.length:=⟨_,rfl⟩;rw[<-hq]at hc j0 j1 j2 j3 j4 hf HS;have HPOP:=hQ_ (fun (W1:World)(hc:Chg [] W W1)=>show Wk (W1.setCell ⟨g,1,none⟩ (.slice (some ⟨gr,0,none⟩) q c)) g h (.slice (some ⟨gr,0,none⟩) q c) ys/\Fr g wkT W (W1.setCell ⟨g,1,none⟩ (.slice (some ⟨gr,0,none⟩) q c)) from by rw[hq];exact s.pop hc);clear s hq;generalize hb91:(x.sign==91)=b91 at j0;generalize hb58:(x.sign==58)=b58 at j2;have HPX:=hQ_ (show ptC x=[.bool b91,.int .i64 x.base,.bool b58,.int .i64 x.other,.bool x.left] from by unfold ptC;rw[hb91,hb58]);clear hb91 hb58;generalize x.base=xb at j1 HPX;generalize x.other=xo at j3 HPX;generalize x.left=xl at j4 HPX;go_enter Tryz.func182,Tryz.ntmps182;go_upto_region 1 with fail;have hN:=zb_.new W 252 [.bool false,.int .i64 0,.bool false,.int .i64 0,.bool false];have hal:=(Chg.refl [] W).alloc (.cells #[.bool false,.int .i64 0,.bool false,.int .i64 0,.bool false] 252);have hz1:(W.alloc (.cells #[.bool false,.int .i64 0,.bool false,.int .i64 0,.bool false] 252)).heap.size=W.heap.size+1:=Array.size_push _;have HW1:=hQ_ (HS.o.keep hal);have HC1:=hQ_ hal;have HR1:=hQ_ hN;have HZ1:=hQ_ hz1;obtain⟨gR,hgR⟩:∃gR,gR=W.heap.size:=⟨_,rfl⟩;have HGR:=hQ_ (show W.heap.size<=gR from by omega);have HGG:=hQ_ (show gr<gR/\g<gR from by
  have h1:=HS.o.rec_.lt;have h2:=block_lt_of_cell j0;simp only at h2;omega);rw[<-hgR]at HR1 HZ1⊢;have k0:=zd_ j0 hal;have k1:=zd_ j1 hal;have k2:=zd_ j2 hal;have k3:=zd_ j3 hal;have k4:=zd_ j4 hal;generalize W.alloc (.cells #[.bool false,.int .i64 0,.bool false,.int .i64 0,.bool false] 252)=w1 at HW1 HC1 HR1 HZ1 k0 k1 k2 k3 k4⊢;clear hN hal hz1 hgR j0 j1 j2 j3 j4;have c1:=HW1.o.rec_.cell 1;have hq0:(0:Int)<=(q:Int):=by omega
 have hq1:(q:Int)<((q+1:Nat):Int):=by omega
 go_upto_region 3 with fail;have hX:=zb_.new w1 252 [.bool b91,.int .i64 xb,.bool b58,.int .i64 xo,.bool xl];have hal:=(Chg.refl [] w1).alloc (.cells #[.bool b91,.int .i64 xb,.bool b58,.int .i64 xo,.bool xl] 252);obtain⟨gX,hgX⟩:∃gX,gX=w1.heap.size:=⟨_,rfl⟩;have HGX:=hQ_ (show gR<gX from by have:=HZ1.o;omega);rw[<-hgX]at hX⊢;have HX:=hQ_ hX;have HW2:=hQ_ (HW1.o.keep hal);have HC2:=hQ_ (HC1.o.new hal);have HR2:=hQ_ (HR1.o.keep hal);generalize w1.alloc (.cells #[.bool b91,.int .i64 xb,.bool b58,.int .i64 xo,.bool xl] 252)=w2 at HX HW2 HC2 HR2⊢;clear hX hal hgX k0 k1 k2 k3 k4 c1 HW1 HC1 HR1 HZ1;have c1:=HW2.o.rec_.cell 1;have f1:=HW2.o.rec_.frozen 1;have hqc:q<=c:=by omega
 go_upto_region 4 with fail;obtain⟨hw3,hf3⟩:=HPOP.o w2 HC2.o;have hX3:=HX.o.far (p:=⟨g,1,none⟩) (by have:=HGX.o;have:=HGG.o;simp only;omega) (.slice (some ⟨gr,0,none⟩) q c);have hR3:=HR2.o.far (p:=⟨g,1,none⟩) (by have:=HGG.o;simp only;omega) (.slice (some ⟨gr,0,none⟩) q c);obtain⟨HW4,HF4,HR4⟩:=hw3.ret5 hf3 hR3 HGG.o.2 (by have:=HGG.o.1;simp[Value.ownBlock];omega) (.bool b91) (.int .i64 xb) (.bool b58) (.int .i64 xo) (.bool xl);have HP:=hQ_ (show zet W g h ys x (.returned (.agg #[.bool b91,.int .i64 xb,.bool b58,.int .i64 xo,.bool xl])) _ from⟨_,by rw[HPX.o],HW4.o,HF4.o⟩);generalize w2.setCell ⟨g,1,none⟩ (.slice (some ⟨gr,0,none⟩) q c)=w3 at hX3 hR3 HR4 HP⊢;have x0:=hX3.cell 0;have x1:=hX3.cell 1;have x2:=hX3.cell 2;have x3:=hX3.cell 3;have x4:=hX3.cell 4;have y0:=hR3.cell 0;have y1:=hR3.cell 1;have y2:=hR3.cell 2;have y3:=hR3.cell 3;have y4:=hR3.cell 4;have f0:=hR3.frozen 0;have f1:=hR3.frozen 1;have f2:=hR3.frozen 2;have f3:=hR3.frozen 3;have f4:=hR3.frozen 4;clear hX3 hR3 hw3 hf3 HW4 HF4;go_wp2_with fail;have e0:=HR4.o.cell 0;have e1:=HR4.o.cell 1;have e2:=HR4.o.cell 2;have e3:=HR4.o.cell 3;have e4:=HR4.o.cell 4;generalize ((((w3.setCell ⟨gR,0,none⟩ (.bool b91)).setCell ⟨gR,1,none⟩ (.int .i64 xb)).setCell ⟨gR,2,none⟩ (.bool b58)).setCell ⟨gR,3,none⟩ (.int .i64 xo)).setCell ⟨gR,4,none⟩ (.bool xl)=wf at HP e0 e1 e2 e3 e4⊢;simp only[List.getElem?_cons_zero,List.getElem?_cons_succ]at e0 e1 e2 e3 e4;refine bodyPost_ret (v:=.agg #[.bool b91,.int .i64 xb,.bool b58,.int .i64 xo,.bool xl]) (by simp[results,Tryz.results182,go_sem,e0,e1,e2,e3,e4]) rfl HP.o
end
theorem zb_.grownNe {w w':World}{g t:Nat}{cs:List Value}{row:Option Nat}(h:zb_ w g t cs)(hg:w.grownBy w' row)(hne:row≠some g):zb_ w' g t cs:=(hg.block g h.lt (fun e=>hne e.symm)).trans h
section
variable {W:World} {g:Nat} {h:Int} {v:Value} {bs ys:List BkV} {x:BkV}
def zqf (W:World)(g:Nat)(h:Int)(bs:List BkV)(e:Ending)(w':World):Prop:=e=.returned (.tuple #[])/\∃v',Wk w' g h v' bs/\Fr g wkT W w'
theorem zeB (s:Wk W g h v (ys++[x]))(hx:x.sign=63):Calls Tryz.prog 161 #[.pointer (some ⟨g,0,none⟩)] W (zqf W g x.base (ys++[⟨58,x.base,h,x.left⟩])):=by
 obtain⟨i0,hi0,hz0,hz1,hz2⟩:=info_parts kG_;have HRB:=hQ_ (s.rb x (by simp));have HSH:=hQ_ (gr_ s);have hf:ys.length<=99:=by have:=s.few;rw[List.length_append,List.length_singleton]at this;omega
 have HHR:=hQ_ s.hr;obtain⟨sg,xb,xo,xl⟩:=x;simp only at hx HRB;subst hx;simp only;clear s;go_enter Tryz.func161,Tryz.ntmps161;go_wp2_with fail;refine HSH.o.mono ?_;rintro e w1 ⟨v1,rfl,hw1,hf1⟩;have HW1:=hQ_ hw1;have HF1:=hQ_ hf1;have c0:=hw1.rec_.cell 0;clear hw1 hf1;have e1:(ptC ⟨63,xb,xo,xl⟩).toArray=#[.bool false,.int .i64 xb,.bool false,.int .i64 xo,.bool xl]:=rfl;rw[e1];clear e1;go_upto_region 1 with fail;have hX:=zb_.new w1 252 [.bool false,.int .i64 xb,.bool false,.int .i64 xo,.bool xl];have hal:=(Chg.refl [] w1).alloc (.cells #[.bool false,.int .i64 xb,.bool false,.int .i64 xo,.bool xl] 252);obtain⟨gX,hgX⟩:∃gX,gX=w1.heap.size:=⟨_,rfl⟩;have HGX:=hQ_ (show g<gX/\∀b,v1.ownBlock=some b->b<gX from⟨by have:=HW1.o.rec_.lt;omega,fun b hb=>by have:=(HW1.o.own.lt b hb).2;omega⟩);rw[<-hgX]at hX⊢;have HX:=hQ_ hX;have HW2:=hQ_ (HW1.o.keep hal);have HF2:=hQ_ (HF1.o.new hal);generalize w1.alloc (.cells #[.bool false,.int .i64 xb,.bool false,.int .i64 xo,.bool xl] 252)=w2 at HX HW2 HF2⊢;clear hX hal hgX c0 HW1 HF1;have c0:=HW2.o.rec_.cell 0;have x2:=HX.o.cell 2;have x3:=HX.o.cell 3;have f2:=HX.o.frozen 2;have f3:=HX.o.frozen 3;go_upto_region 3 with fail;have hne:g≠gX:=by have:=HGX.o.1;omega
 have hnv:v1.ownBlock≠some gX:=fun e=>by have:=HGX.o.2 gX e;omega
 have HX3:=hQ_ (show zb_ ((w2.setCell ⟨gX,2,none⟩ (.bool true)).setCell ⟨gX,3,none⟩ (.int .i64 h)) gX 252 [.bool false,.int .i64 xb,.bool true,.int .i64 h,.bool xl] from by have:=(HX.o.set_ 2 (.bool true)).set_ 3 (.int .i64 h);simpa using this);have HW3:=hQ_ ((HW2.o.far (p:=⟨gX,2,none⟩) hne hnv (.bool true)).far (p:=⟨gX,3,none⟩) hne hnv (.int .i64 h));have HF3:=hQ_ ((HF2.o.setw HX.o (j:=2) (by have:=HGX.o.1;omega) (by simp[wkT]) (.bool true)).setw (HX.o.set_ 2 (.bool true)) (j:=3) (by have:=HGX.o.1;omega) (by simp[wkT]) (.int .i64 h));generalize (w2.setCell ⟨gX,2,none⟩ (.bool true)).setCell ⟨gX,3,none⟩ (.int .i64 h)=w3 at HX3 HW3 HF3⊢;clear c0 x2 x3 f2 f3 hne hnv HX HW2 HF2;have x0:=HX3.o.cell 0;have x1:=HX3.o.cell 1;have x2:=HX3.o.cell 2;have x3:=HX3.o.cell 3;have x4:=HX3.o.cell 4;obtain⟨A3,n3,c3,hv1,hn3,hc3⟩:=HW3.o.slice;subst hv1;have k1:=HW3.o.rec_.cell 1;have hal:Chg [] w3 (w3.alloc (.cells #[.bool false,.int .i64 xb,.bool true,.int .i64 h,.bool xl] 252)):=(Chg.refl [] w3).alloc _;have q1:(w3.alloc (.cells #[.bool false,.int .i64 xb,.bool true,.int .i64 h,.bool xl] 252)).cell? ⟨g,1,none⟩=some (.slice A3 n3 c3):=zd_ (by simpa using k1) hal;have HOW:=hQ_ (show w3.ownsRow (g+1) 252 5 (.slice A3 n3 c3) n3 (ja_ ys) from by have:=HW3.o.own;rw[<-hn3]at this;exact this);have hBW:g+1<=w3.heap.size:=HW3.o.rec_.lt;have HN:=hQ_ hn3;have hn99:n3<=99:=by omega
 clear hn3 hal;go_region_law (
   (refine yv_ rfl (.tmp 15) (.tmp 17) 178 rfl (g+1) 252 i0 _ 5 40 Tryz.underlying178 hi0 hz0 hz1 hz2 rfl (by decide) (.slice A3 n3 c3) n3 (ja_ ys) rfl (zf_ HOW.o (((Chg.refl [] w3).alloc _).drew)) ⟨w3.heap.size,0,none⟩ 1 1 [.bool false,.int .i64 xb,.bool true,.int .i64 h,.bool xl] rfl rfl (zK_ w3 _ _) (by simp[Value.oneCell']) (by unfold maxLen;omega) (by omega) (by simp;omega) ?_;intro v' w' ho hg;obtain⟨A6,k6,rfl,_⟩:=zh_ ho;have HO:=hQ_ ho;have HG:=hQ_ hg;have HR6:=hQ_ (zn_ (HW3.o.rec_.keep (((Chg.refl [] w3).alloc (.cells #[.bool false,.int .i64 xb,.bool true,.int .i64 h,.bool xl] 252)).drew)) (zf_ HW3.o.own (((Chg.refl [] w3).alloc (.cells #[.bool false,.int .i64 xb,.bool true,.int .i64 h,.bool xl] 252)).drew)) (by decide) hg);have f1:=HR6.o.frozen 1;have k1:=HR6.o.cell 1;clear ho hg));all_goals
   obtain⟨hP,hF⟩:=HW3.o.push (x:=⟨58,xb,h,xl⟩) (((Chg.refl [] w3).alloc (.cells #[.bool false,.int .i64 xb,.bool true,.int .i64 h,.bool xl] 252)).drew) (by have:=HN.o;omega) HO.o HG.o hf (by have:=HRB.o;have:=HHR.o;simp only;omega);have HP:=hQ_ hP;have HFF:=hQ_ (HF3.o.trans hF);have HXw:=hQ_ ((HX3.o.keep (((Chg.refl [] w3).alloc (.cells #[.bool false,.int .i64 xb,.bool true,.int .i64 h,.bool xl] 252)).drew)).grownNe HG.o (fun e=>by have:=HGX.o.2 gX e;omega));have HXv:=hQ_ (HXw.o.far (p:=⟨g,1,none⟩) (by have:=HGX.o.1;simp only;omega) (.slice A6 (n3+1) k6));clear hP hF;go_upto_region 4 with fail;generalize hw5:w'.setCell ⟨g,1,none⟩ (.slice A6 (n3+1) k6)=w5 at HP HFF HXv⊢;clear hw5 f1 k1 HXw HO HG HR6;have c0:=HP.o.rec_.cell 0;have f0:=HP.o.rec_.frozen 0;have x1:=HXv.o.cell 1;go_wp2_with fail;obtain⟨hP2,hF2⟩:=HP.o.high xb (by have:=HRB.o;omega);have HQ:=hQ_ (show zqf W g xb (ys++[⟨58,xb,h,xl⟩]) (.returned (.tuple #[])) _ from⟨rfl,_,hP2,HFF.o.trans hF2⟩)
   go_end0
   exact HQ.o
end
def gV_ (h:Int)(ys:List BkV)(x:BkV)(r:Int):Int×Int×List BkV:=match uB_ h ys x r with|(true,h',bs')=>(0,h',bs')|(false,h',bs')=>(14,h',bs')
theorem zpF {h:Int}{ys:List BkV}{x:BkV}(hx:x.sign=58)(ho:-1<=x.other)(hh:-1<=h):gV_ h ys x 59=if h=-1 then (0,x.other,ys) else if x.other≠-1/\x.other≠h then (14,h,ys) else (0,h,ys):=by
 unfold gV_ uB_;rw[if_neg (by omega),if_pos hx];by_cases h1:h=-1
 · rw[if_pos h1,if_neg (by omega)];simp only;rw[show max h x.other=x.other from by omega]
 · rw[if_neg h1];by_cases h2:x.other≠-1/\x.other≠h
   · rw[if_pos h2,if_pos (by omega)]
   · rw[if_neg h2,if_neg (by omega)];simp only;rw[show max h x.other=h from by omega]
theorem zpE {h:Int}{ys:List BkV}{x:BkV}(hx:x.sign≠58)(hx2:x.sign≠91)(ho:0<=x.base)(hh:-1<=h):gV_ h ys x 59=if h=-1 then (0,x.base,ys) else if x.base≠-1/\x.base≠h then (14,h,ys) else (0,h,ys):=by
 unfold gV_ uB_;rw[if_neg (by omega),if_neg hx];by_cases h1:h=-1
 · rw[if_pos h1,if_neg (by omega)];simp only;rw[if_neg (fun hc=>hx2 hc.1)]
 · rw[if_neg h1];by_cases h2:x.base≠-1/\x.base≠h
   · rw[if_pos h2,if_pos (by omega)]
   · rw[if_neg h2,if_neg (by omega)];simp only;rw[if_neg (fun hc=>hx2 hc.1),show x.base=h from by omega]
theorem zpD {h:Int}{ys:List BkV}{x:BkV}(hx:x.sign=91)(hh:-1<=h):gV_ h ys x 93=if h≠-1/\h≠x.base then (14,h,ys) else if x.left=true then (0,x.base,ys) else (0,-1,ys):=by
 unfold gV_ uB_;rw[if_neg (by omega),if_neg (by omega)];by_cases h1:h≠-1/\h≠x.base
 · rw[if_pos h1,if_pos (by omega)]
 · rw[if_neg h1,if_neg (by omega)];simp only;cases hl:x.left with
   | true=>rw[if_neg (by simp),if_pos rfl]
   | false=>rw[if_pos ⟨hx,rfl⟩,if_neg (by simp)]
section
variable {W:World} {g:Nat} {h:Int} {v:Value} {bs ys:List BkV} {x:BkV}
theorem zeC (s:Wk W g h v (ys++[x]))(hx:x.sign≠91):Calls Tryz.prog 162 #[.pointer (some ⟨g,0,none⟩)] W (yy_ W g (gV_ h ys x 59)):=by
 have HRB:=hQ_ (s.rb x (by simp));have HSH:=hQ_ (gr_ s);have HHR:=hQ_ s.hr;generalize hb91:(x.sign==91)=b91;generalize hb58:(x.sign==58)=b58;have HPX:=hQ_ (show(ptC x).toArray=#[.bool b91,.int .i64 x.base,.bool b58,.int .i64 x.other,.bool x.left] from by unfold ptC;rw[hb91,hb58]);have HE:=hQ_ (show b58=true->gV_ h ys x 59=if h=-1 then (0,x.other,ys) else if x.other≠-1/\x.other≠h then (14,h,ys) else (0,h,ys) from fun hb=>zpF (by rw[hb]at hb58;simpa using hb58) HRB.o.2.2.1 HHR.o.1);have HE2:=hQ_ (show b58=false->gV_ h ys x 59=if h=-1 then (0,x.base,ys) else if x.base≠-1/\x.base≠h then (14,h,ys) else (0,h,ys) from fun hb=>zpE (by rw[hb]at hb58;simpa using hb58) hx HRB.o.1 HHR.o.1);generalize gV_ h ys x 59=R at HE HE2⊢;clear s hb91 hb58 hx;generalize x.base=xb at *;generalize x.other=xo at *;generalize x.left=xl at *;go_enter Tryz.func162,Tryz.ntmps162;go_wp2_with fail;refine HSH.o.mono ?_;rintro e w1 ⟨v1,rfl,hw1,hf1⟩;rw[HPX.o];have HW1:=hQ_ hw1;have HF1:=hQ_ hf1;clear hw1 hf1;go_upto_region 2 with fail;have hX:=zb_.new w1 252 [.bool b91,.int .i64 xb,.bool b58,.int .i64 xo,.bool xl];have hal:=(Chg.refl [] w1).alloc (.cells #[.bool b91,.int .i64 xb,.bool b58,.int .i64 xo,.bool xl] 252);obtain⟨gX,hgX⟩:∃gX,gX=w1.heap.size:=⟨_,rfl⟩;have hgg:g<gX:=by have:=HW1.o.rec_.lt;omega
 have hgv:∀b,v1.ownBlock=some b->b<gX:=fun b hb=>by have:=(HW1.o.own.lt b hb).2;omega
 have HGX:=hQ_ (And.intro hgg hgv);clear hgg hgv;rw[<-hgX]at hX⊢;have HX:=hQ_ hX;have HW2:=hQ_ (HW1.o.keep hal);have HF2:=hQ_ (HF1.o.new hal);generalize w1.alloc (.cells #[.bool b91,.int .i64 xb,.bool b58,.int .i64 xo,.bool xl] 252)=w2 at HX HW2 HF2⊢;clear hX hal hgX HW1 HF1;have c0:=HW2.o.rec_.cell 0;have g0:=HW2.o.rec_.frozen 0;have x1:=HX.o.cell 1;have x2:=HX.o.cell 2;have x3:=HX.o.cell 3;have x4:=HX.o.cell 4;have f3:=HX.o.frozen 3;have hne:g≠gX:=by have:=HGX.o.1;omega
 have hnv:v1.ownBlock≠some gX:=fun e=>by have:=HGX.o.2 gX e;omega
 have HHI:=hQ_ (show -1<=xo/\xo<=64/\0<=xb/\xb<=64 from⟨HRB.o.2.2.1,HRB.o.2.2.2,HRB.o.1,HRB.o.2.1⟩);go_upto_if 8 with fail;go_cut [] (fun wx=>∃t:Int,Hid (R=if h=-1 then (0,t,ys) else if t≠-1/\t≠h then (14,h,ys) else (0,h,ys))/\Hid (-1<=t/\t<=64)/\Hid (zb_ wx gX 252 [.bool b91,.int .i64 xb,.bool b58,.int .i64 t,.bool xl])/\Hid (Wk wx g h v1 ys)/\Hid (Fr g wkT W wx));case first =>
  cases b58 with
  | true =>
    go_wp2_with fail;go_meet;exact⟨xo,hQ_ (HE.o (by first|rfl|trivial)),hQ_ ⟨HHI.o.1,HHI.o.2.1⟩,HX,HW2,HF2⟩
  | false =>
    have hX3:=HX.o.set_ 3 (.int .i64 xb);have hW3:=HW2.o.far (p:=⟨gX,3,none⟩) hne hnv (.int .i64 xb);have hF3:=HF2.o.setw HX.o (j:=3) (by have:=HGX.o.1;omega) (by simp[wkT]) (.int .i64 xb);go_wp2_with fail;go_meet;exact⟨xb,hQ_ (HE2.o (by first|rfl|trivial)),hQ_ ⟨by have:=HHI.o.2.2.1;omega,HHI.o.2.2.2⟩,hQ_ (by simpa using hX3),hQ_ hW3,hQ_ hF3⟩
 case rest =>
  obtain⟨t,HR,HT,HXt,HWt,HFt⟩:=hcut;obtain⟨w3,rfl⟩:∃w3:World,w3=wc:=⟨_,rfl⟩;clear c0 g0 x1 x2 x3 x4 f3 HX HW2 HF2;have c0:=HWt.o.rec_.cell 0;have g0:=HWt.o.rec_.frozen 0;have x3:=HXt.o.cell 3;by_cases h1:h=-1
  · subst h1;obtain⟨hP2,hF2⟩:=HWt.o.high t HT.o;have HQ:=hQ_ (show yy_ W g R (.returned (.int .i64 0)) _ from⟨HFt.o.trans hF2,by rw[HR.o,if_pos rfl],fun _=>by rw[HR.o,if_pos rfl];exact⟨_,hP2⟩⟩);clear hP2 hF2;go_wp2_with fail;go_ret;exact HQ.o
  · have q1:(h == -1)=false:=(by simpa using h1);by_cases ht:t=-1
    · have qt:(t != -1)=false:=(by simpa using ht);have HQ:=hQ_ (fun (W':World)(hc:Chg [] w3 W')=>show yy_ W g R (.returned (.int .i64 0)) W' from⟨HFt.o.new hc,by rw[HR.o,if_neg h1,if_neg (fun hh=>hh.1 ht)],fun _=>by rw[HR.o,if_neg h1,if_neg (fun hh=>hh.1 ht)];exact⟨_,HWt.o.keep hc⟩⟩);have qt2:(t == -1)=true:=(by simpa using ht);clear ht h1;go_upto_region 6 with fail;go_quiet (fail);have HQ2:=hQ_ (HQ.o _ ((Chg.refl [] w3).drewN nq));go_wp2_with fail;go_ret;exact HQ2.o
    · have qt:(t != -1)=true:=(by simpa using ht);have qt2:(t == -1)=false:=(by simpa using ht);by_cases hth:t=h
      · have qh:(t != h)=false:=(by simpa using hth);have qh2:(t==h)=true:=(by simpa using hth);have HQ:=hQ_ (fun (W':World)(hc:Chg [] w3 W')=>show yy_ W g R (.returned (.int .i64 0)) W' from⟨HFt.o.new hc,by rw[HR.o,if_neg h1,if_neg (fun hh=>hh.2 hth)],fun _=>by rw[HR.o,if_neg h1,if_neg (fun hh=>hh.2 hth)];exact⟨_,HWt.o.keep hc⟩⟩);clear ht h1 hth;go_upto_region 6 with fail;go_quiet (fail);have HQ2:=hQ_ (HQ.o _ ((Chg.refl [] w3).drewN nq));go_wp2_with fail;go_ret;exact HQ2.o
      · have qh:(t != h)=true:=(by simpa using hth);have qh2:(t==h)=false:=(by simpa using hth);have HQ:=hQ_ (fun (W':World)(hc:Chg [] w3 W')=>show yy_ W g R (.returned (.int .i64 14)) W' from⟨HFt.o.new hc,by rw[HR.o,if_neg h1,if_pos ⟨ht,hth⟩],fun hh=>by rw[HR.o,if_neg h1,if_pos ⟨ht,hth⟩]at hh;exact absurd hh (by simp)⟩);clear ht h1 hth;go_upto_region 6 with fail;go_quiet (fail);have HQ2:=hQ_ (HQ.o _ ((Chg.refl [] w3).drewN nq));go_wp2_with fail;go_ret;exact HQ2.o
theorem zal (s:Wk W g h v (ys++[x]))(hx:x.sign=91):Calls Tryz.prog 163 #[.pointer (some ⟨g,0,none⟩)] W (yy_ W g (gV_ h ys x 93)):=by
 have HRB:=hQ_ (s.rb x (by simp));have HSH:=hQ_ (gr_ s);have HHR:=hQ_ s.hr;generalize hb91:(x.sign==91)=b91;generalize hb58:(x.sign==58)=b58;have HPX:=hQ_ (show(ptC x).toArray=#[.bool b91,.int .i64 x.base,.bool b58,.int .i64 x.other,.bool x.left] from by unfold ptC;rw[hb91,hb58]);have HR:=hQ_ (zpD (ys:=ys) hx HHR.o.1);generalize gV_ h ys x 93=R at HR⊢;clear s hb91 hb58 hx;generalize x.base=xb at *;generalize x.other=xo at *;generalize x.left=xl at *;go_enter Tryz.func163,Tryz.ntmps163;go_wp2_with fail;refine HSH.o.mono ?_;rintro e w1 ⟨v1,rfl,hw1,hf1⟩;rw[HPX.o];have HW1:=hQ_ hw1;have HF1:=hQ_ hf1;clear hw1 hf1;go_upto_region 2 with fail;have hX:=zb_.new w1 252 [.bool b91,.int .i64 xb,.bool b58,.int .i64 xo,.bool xl];have hal:=(Chg.refl [] w1).alloc (.cells #[.bool b91,.int .i64 xb,.bool b58,.int .i64 xo,.bool xl] 252);obtain⟨gX,hgX⟩:∃gX,gX=w1.heap.size:=⟨_,rfl⟩;have hgg:g<gX:=by have:=HW1.o.rec_.lt;omega
 have hgv:∀b,v1.ownBlock=some b->b<gX:=fun b hb=>by have:=(HW1.o.own.lt b hb).2;omega
 have HGX:=hQ_ (And.intro hgg hgv);clear hgg hgv;rw[<-hgX]at hX⊢;have HX:=hQ_ hX;have HW2:=hQ_ (HW1.o.keep hal);have HF2:=hQ_ (HF1.o.new hal);generalize w1.alloc (.cells #[.bool b91,.int .i64 xb,.bool b58,.int .i64 xo,.bool xl] 252)=w2 at HX HW2 HF2⊢;clear hX hal hgX HW1 HF1;have c0:=HW2.o.rec_.cell 0;have g0:=HW2.o.rec_.frozen 0;have x1:=HX.o.cell 1;have x2:=HX.o.cell 2;have x3:=HX.o.cell 3;have x4:=HX.o.cell 4;have f3:=HX.o.frozen 3;have HHI:=hQ_ (show 0<=xb/\xb<=64 from⟨HRB.o.1,HRB.o.2.1⟩);by_cases hbad:h≠-1/\h≠xb
 · have HQ:=hQ_ (fun (W':World)(hc:Chg [] w2 W')=>show yy_ W g R (.returned (.int .i64 14)) W' from⟨HF2.o.new hc,by rw[HR.o,if_pos hbad],fun hh=>by rw[HR.o,if_pos hbad]at hh;exact absurd hh (by simp)⟩);have q1:(h != -1)=true:=(by simpa using hbad.1);have q2:(h != xb)=true:=(by simpa using hbad.2);have q3:(h == -1)=false:=(by simpa using hbad.1);have q4:(h==xb)=false:=(by simpa using hbad.2);clear hbad;go_quiet (fail);have HQ2:=hQ_ (HQ.o _ ((Chg.refl [] w2).drewN nq));go_wp2_with fail;go_ret;exact HQ2.o
 · have hR2:=HR.o;rw[if_neg hbad]at hR2;have HR2:=hQ_ hR2;have hcase:h=-1\/(h≠-1/\h=xb):=(by omega);clear hR2 hbad;have HCX:=hQ_ (fun (W':World) (hc:Chg [] w2 W')=>show Wk W' g h v1 ys/\Fr g wkT W W'/\zb_ W' gX 252 [.bool b91,.int .i64 xb,.bool b58,.int .i64 xo,.bool xl] from⟨HW2.o.keep hc,HF2.o.new hc,HX.o.keep hc⟩);rcases hcase with h1|⟨h1,h2⟩
   · have q1:(h != -1)=false:=(by simpa using h1);have q3:(h == -1)=true:=(by simpa using h1);clear h1;go_quiet (fail);obtain⟨hwA,hfA,hxA⟩:=HCX.o _ ((Chg.refl [] w2).drewN nq);generalize w2.drewN nq=w3 at hwA hfA hxA⊢;have HWA:=hQ_ hwA;have HFA:=hQ_ hfA;have HXA:=hQ_ hxA;clear hwA hfA hxA c0 g0 x1 x2 x3 x4 f3;have c0:=HWA.o.rec_.cell 0;have g0:=HWA.o.rec_.frozen 0;go_upto_region 5 with fail;have HWB:=hQ_ (HWA.o.high (-1) (by omega));have HXB:=hQ_ (HXA.o.far (p:=⟨g,0,none⟩) (by have:=HGX.o.1;simp only;omega) (.int .i64 (-1)));generalize w3.setCell ⟨g,0,none⟩ (.int .i64 (-1))=w4 at HWB HXB⊢;clear c0 g0;have c0:=HWB.o.1.rec_.cell 0;have g0:=HWB.o.1.rec_.frozen 0;have x1:=HXB.o.cell 1;have x4:=HXB.o.cell 4;cases xl with
     | true =>
       have HWC:=hQ_ (HWB.o.1.high xb (by have:=HHI.o;omega));have HQ:=hQ_ (show yy_ W g R (.returned (.int .i64 0)) _ from⟨(HFA.o.trans HWB.o.2).trans HWC.o.2,by rw[HR2.o,if_pos (by first|rfl|trivial)],fun _=>by rw[HR2.o,if_pos (by first|rfl|trivial)];exact⟨_,HWC.o.1⟩⟩);go_wp2_with fail;go_ret;exact HQ.o
     | false =>
       have HQ:=hQ_ (show yy_ W g R (.returned (.int .i64 0)) _ from⟨HFA.o.trans HWB.o.2,by rw[HR2.o,if_neg (by simp)],fun _=>by rw[HR2.o,if_neg (by simp)];exact⟨_,HWB.o.1⟩⟩);go_wp2_with fail;go_ret;exact HQ.o
   · have q1:(h != -1)=true:=(by simpa using h1);have q3:(h == -1)=false:=(by simpa using h1);have q2:(h != xb)=false:=(by simpa using h2);have q4:(h==xb)=true:=(by simpa using h2);clear h1 h2;go_quiet (fail);obtain⟨hwA,hfA,hxA⟩:=HCX.o _ ((Chg.refl [] w2).drewN nq);generalize w2.drewN nq=w3 at hwA hfA hxA⊢;have HWA:=hQ_ hwA;have HFA:=hQ_ hfA;have HXA:=hQ_ hxA;clear hwA hfA hxA c0 g0 x1 x2 x3 x4 f3;have c0:=HWA.o.rec_.cell 0;have g0:=HWA.o.rec_.frozen 0;go_upto_region 5 with fail;have HWB:=hQ_ (HWA.o.high (-1) (by omega));have HXB:=hQ_ (HXA.o.far (p:=⟨g,0,none⟩) (by have:=HGX.o.1;simp only;omega) (.int .i64 (-1)));generalize w3.setCell ⟨g,0,none⟩ (.int .i64 (-1))=w4 at HWB HXB⊢;clear c0 g0;have c0:=HWB.o.1.rec_.cell 0;have g0:=HWB.o.1.rec_.frozen 0;have x1:=HXB.o.cell 1;have x4:=HXB.o.cell 4;cases xl with
     | true =>
       have HWC:=hQ_ (HWB.o.1.high xb (by have:=HHI.o;omega));have HQ:=hQ_ (show yy_ W g R (.returned (.int .i64 0)) _ from⟨(HFA.o.trans HWB.o.2).trans HWC.o.2,by rw[HR2.o,if_pos (by first|rfl|trivial)],fun _=>by rw[HR2.o,if_pos (by first|rfl|trivial)];exact⟨_,HWC.o.1⟩⟩);go_wp2_with fail;go_ret;exact HQ.o
     | false =>
       have HQ:=hQ_ (show yy_ W g R (.returned (.int .i64 0)) _ from⟨HFA.o.trans HWB.o.2,by rw[HR2.o,if_neg (by simp)],fun _=>by rw[HR2.o,if_neg (by simp)];exact⟨_,HWB.o.1⟩⟩);go_wp2_with fail;go_ret;exact HQ.o
end
def vb_ (h:Int)(bs:List BkV)(k:Nat):Int×Int×List BkV:=match x8_ h bs k with|(true,h',bs')=>(0,h',bs')|(false,h',bs')=>(14,h',bs')
theorem zhZ {h:Int}{bs:List BkV}{k:Nat}{y:BkV}(hk:bs[k]?=some y)(hy:y.sign≠91):vb_ h bs (k+1)=vb_ h bs k:=by
 unfold vb_;rw[x8_,hk];simp only;rw[if_neg hy]
theorem zia {h:Int}{bs:List BkV}{k:Nat}{y:BkV}(hk:bs[k]?=some y)(hy:y.sign=91):vb_ h bs (k+1)=if h=y.base then (0,-1,bs.set k ⟨y.sign,y.base,y.other,true⟩) else (14,-1,bs.set k ⟨y.sign,y.base,y.other,true⟩):=by
 unfold vb_;rw[x8_,hk];simp only;rw[if_pos hy];by_cases e:h=y.base
 · rw[if_pos e,show(h==y.base)=true from by simpa using e]
 · rw[if_neg e,show(h==y.base)=false from by simpa using e]
section
variable {W:World} {g:Nat} {h:Int} {v:Value} {bs ys:List BkV} {x:BkV}
theorem Wk.part (s:Wk W g h v bs){k:Nat}{y:BkV}(hk:bs[k]?=some y):∃gr c,v=.slice (some ⟨gr,0,none⟩) bs.length c/\bs.length<=c/\g+1<=gr/\W.cell? ⟨gr,k*5,none⟩=some (.bool (y.sign==91))/\W.cell? ⟨gr,k*5+1,none⟩=some (.int .i64 y.base)/\W.cell? ⟨gr,k*5+4,none⟩=some (.bool y.left)/\W.frozen? ⟨gr,k*5+4,none⟩=false:=by
 obtain⟨A,n,c,rfl,hn,hc⟩:=s.slice;subst hn;obtain⟨gr,rfl,c0⟩:=zv_ s.own rfl ((uV_ _ _ _ 0 hk (by omega)).trans rfl);obtain⟨_,e,c1⟩:=zv_ s.own rfl ((uV_ _ _ _ 1 hk (by omega)).trans rfl);injection e with e;injection e with e;subst e;obtain⟨_,e,c4⟩:=zv_ s.own rfl ((uV_ _ _ _ 4 hk (by omega)).trans rfl);injection e with e;injection e with e;subst e;exact⟨gr,c,rfl,hc,(s.own.lt gr rfl).1,c0,c1,c4,y0_ s.own⟩
theorem zeA (s:Wk W g h v bs)(hx:∃x∈bs,x.sign=91):Calls Tryz.prog 164 #[.pointer (some ⟨g,0,none⟩)] W (yy_ W g (vb_ h bs bs.length)):=by
 have h0:0<bs.length:=by obtain⟨x,hx,_⟩:=hx;exact List.length_pos_of_mem hx
 have HR:=hQ_ (show ∃q:Nat,bs.length=q+1 from⟨bs.length-1,by omega⟩);generalize hRR:vb_ h bs bs.length=R;obtain⟨q,hq⟩:=HR.o;have HQ:=hQ_ hq;have HRR:=hQ_ hRR;have hfew:=s.few;have hq99:q<=99:=by omega
 obtain⟨y0,hy0⟩:∃y,bs[q]?=some y:=⟨bs[q]'(by omega),by simp⟩;obtain⟨gr,c,rfl,hc,hgr,_⟩:=s.part hy0;have HS:=hQ_ s;have c0:=s.rec_.cell 0;have c1:=s.rec_.cell 1;have g0:=s.rec_.frozen 0;have HX:=hQ_ (show ∃j≤q,∃x,bs[j]?=some x/\x.sign=91 from by
  obtain⟨x,hx,hs⟩:=hx;obtain⟨j,hj,rfl⟩:=List.getElem_of_mem hx;exact⟨j,by omega,_,List.getElem?_eq_getElem hj,hs⟩);rw[hq]at c1 hc HS;clear s hx h0 HR hq hRR hfew hy0;have hq0:(0:Int)<=(q:Int):=by omega
 go_enter Tryz.func164,Tryz.ntmps164;go_wp2_with fail;go_loopw [3] (fun i wr=>∃k:Nat,i=.int .i64 (k:Int)/\k<=q/\Hid (R=vb_ h bs (k+1))/\Hid (∃j≤k,∃x,bs[j]?=some x/\x.sign=91)/\wr=W) (fun i _=>(intOf i).toNat);case atStart=>exact⟨q,rfl,by omega,hQ_ (by rw[<-HRR.o,HQ.o]),HX,rfl⟩
 case round =>
  obtain⟨k,rfl,hk,HRk,HXk,hwr⟩:=hrel;subst hwr;obtain⟨y,hy⟩:∃y,bs[k]?=some y:=⟨bs[k]'(by have:=HQ.o;omega),by simp⟩;obtain⟨gr',c',e,_,_,y0',y1,y4,fy4⟩:=HS.o.part hy;injection e with e1 e2 e3;injection e1 with e1;injection e1 with e1;subst e1;have hkI:(k:Int)<(q:Int)+1:=by omega
  have hkI2:(k:Int)<((q+1:Nat):Int):=by omega
  have hk0:(0:Int)<=(k:Int):=by omega
  by_cases h91:y.sign=91
  · have q91:(y.sign==91)=true:=(by simpa using h91);rw[q91]at y0';have HRE:=hQ_ (HRk.o.trans (zia hy h91));have HY:=hQ_ hy;clear h91 q91 hy e2 e3;by_cases hb:h=y.base
    · have qb:(h != y.base)=false:=(by simpa using hb);have qb2:(h==y.base)=true:=(by simpa using hb);have HE:=hQ_ (HRE.o.trans (if_pos hb));clear hb;go_upto_region 4 with fail;go_quiet (fail);have hcd:=(Chg.refl [] wr).drewN nq;have HS2:=hQ_ (HS.o.keep hcd);have z4:=zd_ y4 hcd;have HC2:=hQ_ hcd;have HM:=hQ_ (HS2.o.mark (k:=k) (y:=y) HQ.o.symm HY.o);have fz4:(wr.drewN nq).frozen? ⟨gr,k*5+4,none⟩=false:=fy4;generalize wr.drewN nq=w2 at HS2 z4 HC2 HM fz4⊢;clear hcd c0 c1 g0 y0' y1 y4 fy4;have c1:=HS2.o.rec_.cell 1;go_upto_region 7 with fail;generalize w2.setCell ⟨gr,k*5+4,none⟩ (.bool true)=w3 at HM⊢;clear c1;have c0:=HM.o.1.rec_.cell 0;have g0:=HM.o.1.rec_.frozen 0;obtain⟨hP,hF⟩:=HM.o.1.high (-1) (by omega);have HP:=hQ_ (show yy_ wr g R (.returned (.int .i64 0)) _ from⟨((Fr.of_chg HC2.o).trans HM.o.2).trans hF,by rw[HE.o],fun _=>by rw[HE.o];exact⟨_,hP⟩⟩);clear hP hF;go_wp2_with fail;go_ret;exact HP.o
    · have qb:(h != y.base)=true:=(by simpa using hb);have qb2:(h==y.base)=false:=(by simpa using hb);have HE:=hQ_ (HRE.o.trans (if_neg hb));clear hb;go_upto_region 4 with fail;go_quiet (fail);have HP:=hQ_ (show yy_ wr g R (.returned (.int .i64 14)) (wr.drewN nq) from⟨Fr.of_chg ((Chg.refl [] wr).drewN nq),by rw[HE.o],fun hh=>by rw[HE.o]at hh;exact absurd hh (by simp)⟩);go_wp2_with fail;go_ret;exact HP.o
  · have q91:(y.sign==91)=false:=(by simpa using h91);rw[q91]at y0';obtain⟨j,hj,x,hxj,hxs⟩:=HXk.o;have hjk:j<k:=by
     rcases Nat.lt_or_ge j k with h'|h'
     · exact h'
     · exfalso;have:j=k:=(by omega);subst this;rw[hy]at hxj;injection hxj with e;subst e;exact h91 hxs
    have HR2:=hQ_ (show R=vb_ h bs (k-1+1) from by rw[HRk.o,zhZ hy h91,show k-1+1=k from by omega]);have HX2:=hQ_ (show ∃j≤k-1,∃x,bs[j]?=some x/\x.sign=91 from⟨j,by omega,x,hxj,hxs⟩);have hk1:(1:Int)<=(k:Int):=(by omega);clear h91 q91 hy e2 e3 hxj;go_wp2_with fail;go_roundw;(case rel=>exact⟨k-1,by rw[show((k-1:Nat):Int)=(k:Int)-1 from by omega],by omega,HR2,HX2,by first|rfl|trivial⟩);case measure=>simp[intOf];omega
end
def Top (sg:Int)(bs:List BkV):Prop:=(sg=58->∃ys x,bs=ys++[x]/\x.sign=63)/\(sg=59->∃ys x,bs=ys++[x]/\x.sign≠91)/\(sg=93->∃ys x,bs=ys++[x]/\x.sign=91)/\(sg=126->∃x∈bs,x.sign=91)
def yU_ (h:Int)(bs:List BkV)(s:Int):Int×Int×List BkV :=
 if vx_ s then (match bs.getLast? with
   | none=>(14,h,bs)
   | some x=>gV_ h bs.dropLast x s)
 else if s=63\/s=91 then (0,h,bs++[⟨s,h,0,false⟩])
 else if s=126 then vb_ h bs bs.length
 else if s=161 then (0,-1,bs)
 else (0,h,bs)
theorem vV_ {h:Int}{ys:List BkV}{x:BkV}{s:Int}(hs:vx_ s):yU_ h (ys++[x]) s=gV_ h ys x s:=by
 unfold yU_;rw[if_pos hs];simp only[List.getLast?_append,List.getLast?_singleton,Option.some_or,List.dropLast_concat]
section
variable {W:World} {g:Nat} {h:Int} {v:Value} {bs ys:List BkV} {x:BkV}
theorem zjR (s:Wk W g h v bs)(h0:0<=h)(hf:bs.length<=99):Calls Tryz.prog 139 #[.pointer (some ⟨g,0,none⟩),.int .i32 63] W (yy_ W g (0,h,bs++[⟨63,h,0,false⟩])):=by
 obtain⟨i0,hi0,hz0,hz1,hz2⟩:=info_parts kG_;obtain⟨A3,n3,c3,rfl,hn3,hc3⟩:=s.slice;have HS:=hQ_ s;have k1:=s.rec_.cell 1;have k0:=s.rec_.cell 0;have hal:Chg [] W (W.alloc (.cells #[.bool false,.int .i64 h,.bool false,.int .i64 0,.bool false] 252)):=(Chg.refl [] W).alloc _;have q1:(W.alloc (.cells #[.bool false,.int .i64 h,.bool false,.int .i64 0,.bool false] 252)).cell? ⟨g,1,none⟩=some (.slice A3 n3 c3):=zd_ (by simpa using k1) hal;have q0:(W.alloc (.cells #[.bool false,.int .i64 h,.bool false,.int .i64 0,.bool false] 252)).cell? ⟨g,0,none⟩=some (.int .i64 h):=zd_ (by simpa using k0) hal;have HOW:=hQ_ (show W.ownsRow (g+1) 252 5 (.slice A3 n3 c3) n3 (ja_ bs) from by have:=s.own;rw[<-hn3]at this;exact this);have hBW:g+1<=W.heap.size:=s.rec_.lt;have HN:=hQ_ hn3;have hn99:n3<=99:=by omega
 have HHR:=hQ_ s.hr;clear hn3 hal s;go_enter Tryz.func139,Tryz.ntmps139;go_wp2_with fail;go_region_law (
   (refine yv_ rfl (.tmp 13) (.tmp 21) 178 rfl (g+1) 252 i0 _ 5 40 Tryz.underlying178 hi0 hz0 hz1 hz2 rfl (by decide) (.slice A3 n3 c3) n3 (ja_ bs) rfl (zf_ HOW.o (((Chg.refl [] W).alloc _).drew)) ⟨W.heap.size,0,none⟩ 1 1 [.bool false,.int .i64 h,.bool false,.int .i64 0,.bool false] rfl rfl (zK_ W _ _) (by simp[Value.oneCell']) (by unfold maxLen;omega) (by omega) (by simp;omega) ?_;intro v' w' ho hg;obtain⟨A6,k6,rfl,_⟩:=zh_ ho;have HO:=hQ_ ho;have HG:=hQ_ hg;have HR6:=hQ_ (zn_ (HS.o.rec_.keep (((Chg.refl [] W).alloc (.cells #[.bool false,.int .i64 h,.bool false,.int .i64 0,.bool false] 252)).drew)) (zf_ HS.o.own (((Chg.refl [] W).alloc (.cells #[.bool false,.int .i64 h,.bool false,.int .i64 0,.bool false] 252)).drew)) (by decide) hg);have f1:=HR6.o.frozen 1;have k1:=HR6.o.cell 1;clear ho hg));all_goals
   obtain⟨hP,hF⟩:=HS.o.push (x:=⟨63,h,0,false⟩) (((Chg.refl [] W).alloc (.cells #[.bool false,.int .i64 h,.bool false,.int .i64 0,.bool false] 252)).drew) (by have:=HN.o;omega) HO.o HG.o hf (by have:=HHR.o;simp only;omega);have HP:=hQ_ (show yy_ W g (0,h,bs++[⟨63,h,0,false⟩]) (.returned (.int .i64 0)) _ from⟨hF,rfl,fun _=>⟨_,hP⟩⟩);clear hP hF;go_wp2_with fail;go_ret;exact HP.o
theorem zjQ (s:Wk W g h v bs)(h0:0<=h)(hf:bs.length<=99):Calls Tryz.prog 139 #[.pointer (some ⟨g,0,none⟩),.int .i32 91] W (yy_ W g (0,h,bs++[⟨91,h,0,false⟩])):=by
 obtain⟨i0,hi0,hz0,hz1,hz2⟩:=info_parts kG_;obtain⟨A3,n3,c3,rfl,hn3,hc3⟩:=s.slice;have HS:=hQ_ s;have k1:=s.rec_.cell 1;have k0:=s.rec_.cell 0;have hal:Chg [] W (W.alloc (.cells #[.bool true,.int .i64 h,.bool false,.int .i64 0,.bool false] 252)):=(Chg.refl [] W).alloc _;have q1:(W.alloc (.cells #[.bool true,.int .i64 h,.bool false,.int .i64 0,.bool false] 252)).cell? ⟨g,1,none⟩=some (.slice A3 n3 c3):=zd_ (by simpa using k1) hal;have q0:(W.alloc (.cells #[.bool true,.int .i64 h,.bool false,.int .i64 0,.bool false] 252)).cell? ⟨g,0,none⟩=some (.int .i64 h):=zd_ (by simpa using k0) hal;have HOW:=hQ_ (show W.ownsRow (g+1) 252 5 (.slice A3 n3 c3) n3 (ja_ bs) from by have:=s.own;rw[<-hn3]at this;exact this);have hBW:g+1<=W.heap.size:=s.rec_.lt;have HN:=hQ_ hn3;have hn99:n3<=99:=by omega
 have HHR:=hQ_ s.hr;clear hn3 hal s;go_enter Tryz.func139,Tryz.ntmps139;go_wp2_with fail;go_region_law (
   (refine yv_ rfl (.tmp 13) (.tmp 21) 178 rfl (g+1) 252 i0 _ 5 40 Tryz.underlying178 hi0 hz0 hz1 hz2 rfl (by decide) (.slice A3 n3 c3) n3 (ja_ bs) rfl (zf_ HOW.o (((Chg.refl [] W).alloc _).drew)) ⟨W.heap.size,0,none⟩ 1 1 [.bool true,.int .i64 h,.bool false,.int .i64 0,.bool false] rfl rfl (zK_ W _ _) (by simp[Value.oneCell']) (by unfold maxLen;omega) (by omega) (by simp;omega) ?_;intro v' w' ho hg;obtain⟨A6,k6,rfl,_⟩:=zh_ ho;have HO:=hQ_ ho;have HG:=hQ_ hg;have HR6:=hQ_ (zn_ (HS.o.rec_.keep (((Chg.refl [] W).alloc (.cells #[.bool true,.int .i64 h,.bool false,.int .i64 0,.bool false] 252)).drew)) (zf_ HS.o.own (((Chg.refl [] W).alloc (.cells #[.bool true,.int .i64 h,.bool false,.int .i64 0,.bool false] 252)).drew)) (by decide) hg);have f1:=HR6.o.frozen 1;have k1:=HR6.o.cell 1;clear ho hg));all_goals
   obtain⟨hP,hF⟩:=HS.o.push (x:=⟨91,h,0,false⟩) (((Chg.refl [] W).alloc (.cells #[.bool true,.int .i64 h,.bool false,.int .i64 0,.bool false] 252)).drew) (by have:=HN.o;omega) HO.o HG.o hf (by have:=HHR.o;simp only;omega);have HP:=hQ_ (show yy_ W g (0,h,bs++[⟨91,h,0,false⟩]) (.returned (.int .i64 0)) _ from⟨hF,rfl,fun _=>⟨_,hP⟩⟩);clear hP hF;go_wp2_with fail;go_ret;exact HP.o
theorem uK_ (s:Wk W g h v bs)(sg:Int)(ht:Top sg bs)(h0:(sg=63\/sg=91)->0<=h/\bs.length<=99):Calls Tryz.prog 139 #[.pointer (some ⟨g,0,none⟩),.int .i32 sg] W (yy_ W g (yU_ h bs sg)):=by
 by_cases h63:sg=63
 · subst h63;exact zjR s (h0 (.inl rfl)).1 (h0 (.inl rfl)).2
 by_cases h91:sg=91
 · subst h91;exact zjQ s (h0 (.inr rfl)).1 (h0 (.inr rfl)).2
 have q63:(sg==63)=false:=by simpa using h63
 have q91:(sg==91)=false:=by simpa using h91
 by_cases h58:sg=58
 · subst h58;obtain⟨ys,x,rfl,hx⟩:=ht.1 rfl;have HH:=hQ_ (zeB s hx);have HR:=hQ_ (show yU_ h (ys++[x]) 58=(0,x.base,ys++[⟨58,x.base,h,x.left⟩]) from by rw[vV_ (.inl rfl)];rfl);generalize yU_ h (ys++[x]) 58=R at HR⊢;clear s ht h0 hx h63 h91;go_enter Tryz.func139,Tryz.ntmps139;go_wp2_with fail;refine HH.o.mono ?_;rintro e w1 ⟨rfl,v1,hw1,hf1⟩;have HP:=hQ_ (show yy_ W g R (.returned (.int .i64 0)) w1 from⟨hf1,by rw[HR.o],fun _=>by rw[HR.o];exact⟨_,hw1⟩⟩);clear hw1 hf1;go_wp2_with fail;go_ret;exact HP.o
 have q58:(sg==58)=false:=by simpa using h58
 by_cases h59:sg=59
 · subst h59;obtain⟨ys,x,rfl,hx⟩:=ht.2.1 rfl;have HH:=hQ_ (zeC s hx);have HR:=hQ_ (show yU_ h (ys++[x]) 59=gV_ h ys x 59 from vV_ (.inr (.inl rfl)));generalize hRR:yU_ h (ys++[x]) 59=R at HR⊢;clear s ht h0 h63 h91 h58 hx hRR;go_enter Tryz.func139,Tryz.ntmps139;go_wp2_with fail;refine HH.o.mono ?_;rw[<-HR.o];obtain⟨er,rh,rb⟩:=R;rintro e w1 ⟨hf1,rfl,hw1⟩;have HP:=hQ_ (show yy_ W g (er,rh,rb) (.returned (.int .i64 er)) w1 from⟨hf1,rfl,hw1⟩);clear hw1 hf1;go_wp2_with fail;go_ret;exact HP.o
 have q59:(sg==59)=false:=by simpa using h59
 by_cases h93:sg=93
 · subst h93;obtain⟨ys,x,rfl,hx⟩:=ht.2.2.1 rfl;have HH:=hQ_ (zal s hx);have HR:=hQ_ (show yU_ h (ys++[x]) 93=gV_ h ys x 93 from vV_ (.inr (.inr rfl)));generalize hRR:yU_ h (ys++[x]) 93=R at HR⊢;clear s ht h0 h63 h91 h58 hx h59 hRR;go_enter Tryz.func139,Tryz.ntmps139;go_wp2_with fail;refine HH.o.mono ?_;rw[<-HR.o];obtain⟨er,rh,rb⟩:=R;rintro e w1 ⟨hf1,rfl,hw1⟩;have HP:=hQ_ (show yy_ W g (er,rh,rb) (.returned (.int .i64 er)) w1 from⟨hf1,rfl,hw1⟩);clear hw1 hf1;go_wp2_with fail;go_ret;exact HP.o
 have q93:(sg==93)=false:=by simpa using h93
 by_cases h126:sg=126
 · subst h126;have HH:=hQ_ (zeA s (ht.2.2.2 rfl));have HR:=hQ_ (show yU_ h bs 126=vb_ h bs bs.length from rfl);generalize hRR:yU_ h bs 126=R at HR⊢;clear s ht h0 h63 h91 h58 h59 h93 hRR;go_enter Tryz.func139,Tryz.ntmps139;go_wp2_with fail;refine HH.o.mono ?_;rw[<-HR.o];obtain⟨er,rh,rb⟩:=R;rintro e w1 ⟨hf1,rfl,hw1⟩;have HP:=hQ_ (show yy_ W g (er,rh,rb) (.returned (.int .i64 er)) w1 from⟨hf1,rfl,hw1⟩);clear hw1 hf1;go_wp2_with fail;go_ret;exact HP.o
 have q126:(sg==126)=false:=by simpa using h126
 by_cases h161:sg=161
 · subst h161;have c0:=s.rec_.cell 0;have g0:=s.rec_.frozen 0;obtain⟨hP,hF⟩:=s.high (-1) (by omega);have HP:=hQ_ (show yy_ W g (yU_ h bs 161) (.returned (.int .i64 0)) _ from⟨hF,rfl,fun _=>⟨_,hP⟩⟩);clear s ht h0 hP hF h63 h91 h58 h59 h93 h126;go_enter Tryz.func139,Tryz.ntmps139;go_wp2_with fail;go_ret;exact HP.o
 · have q161:(sg==161)=false:=(by simpa using h161);have HR:=hQ_ (show yU_ h bs sg=(0,h,bs) from by
    have hne:¬vx_ sg:=(by unfold vx_;omega);unfold yU_;rw[if_neg hne,if_neg (by omega),if_neg (by omega),if_neg (by omega)]);have HP:=hQ_ (show yy_ W g (yU_ h bs sg) (.returned (.int .i64 0)) W from⟨Fr.refl _ _ _,by rw[HR.o],fun _=>by rw[HR.o];exact⟨_,s⟩⟩);clear s ht h0 h63 h91 h58 h59 h93 h126 h161;go_enter Tryz.func139,Tryz.ntmps139;go_wp2_with fail;go_ret;exact HP.o
end
end Go.Proofs.YtcbcfcdmdedefaaGreatDoor
