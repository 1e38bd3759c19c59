import Derived.Test.YtcbcfcdmdedefaaGreatDoorZTA5
import Derived.Test.YtcbcfcdmdedefaaGreatDoorZTA6
import Derived.Deep.RegionHeld3
import Derived.Lib.MapLaws
import Derived.Lib.FieldsU
import Derived.Deep.CutBlock
set_option maxRecDepth 100000
set_option maxHeartbeats 16000000
namespace Go.Proofs.YtcbcfcdmdedefaaGreatDoor
section
open Go.RowKit
def yV_ (P:List (List UInt8))(a:ChV):List (List UInt8):=if 0<=a.page/\a.page<P.length then P.set a.page.toNat a.B else P
def zX_ (P:List (List UInt8))(ls:List ChV):List (List UInt8):=ls.foldl yV_ P
theorem gd_ (P:List (List UInt8))(a:ChV):(yV_ P a).length=P.length:=by unfold yV_;split<;>simp
theorem yO_:∀(ls:List ChV)(P:List (List UInt8)),(zX_ P ls).length=P.length
  | [],_=>rfl
  | a::ls,P=>by show(zX_ (yV_ P a) ls).length=_;rw[yO_ ls,gd_]
theorem qn_ (P:List (List UInt8))(ls:List ChV)(k:Nat)(a:ChV)(h:ls[k]?=some a):zX_ P (ls.take (k+1))=yV_ (zX_ P (ls.take k)) a:=by
 obtain⟨hk,he⟩:=List.getElem?_eq_some_iff.1 h;unfold zX_;rw[List.take_succ_eq_append_getElem hk,List.foldl_append,he];rfl
structure ShFr (B:Nat) (w:World) (g n:Nat) (us:List Value) (P:List (List UInt8)) (k:Nat):Prop where
  len:us.length=n
  lenP:P.length=n
  row:zb_ w g 39 us
  at_:∀j,j<k->∀r,P[j]?=some r->∃x,us[j]?=some (.slice (some ⟨x,0,none⟩) r.length r.length)/\zb_ w x 5 (bts r)/\B<=x
theorem ShFr.keep {B:Nat}{w w':World}{g n:Nat}{us:List Value}{P:List (List UInt8)}{k:Nat}(h:ShFr B w g n us P k)(hc:Chg [] w w'):ShFr B w' g n us P k :=
 ⟨h.len,h.lenP,h.row.keep hc,fun j hj r hr=>by obtain⟨x,h1,h2,h3⟩:=h.at_ j hj r hr;exact⟨x,h1,h2.keep hc,h3⟩⟩
theorem ShFr.set_ {B:Nat}{w:World}{g n:Nat}{us:List Value}{P:List (List UInt8)}{k k' j x:Nat}{r:List UInt8}(h:ShFr B w g n us P k)(hj:j<n)(hx:zb_ w x 5 (bts r))(hB:B<=x)(hk:∀i,i<k'->i<k\/i=j) :
    ShFr B (w.setCell ⟨g,j,none⟩ (.slice (some ⟨x,0,none⟩) r.length r.length)) g n (us.set j (.slice (some ⟨x,0,none⟩) r.length r.length)) (P.set j r) k':=by
 refine⟨by rw[List.length_set,h.len],by rw[List.length_set,h.lenP],h.row.set_ j _,fun i hi q hq=>?_⟩;by_cases e:j=i
 · subst e;rw[List.getElem?_set_self (by rw[h.lenP];exact hj)]at hq;injection hq with hq;subst hq;refine⟨x,by rw[List.getElem?_set_self (by rw[h.len];exact hj)],hx.far (hx.ne_ h.row (by decide)) _,hB⟩
 · rw[List.getElem?_set_ne e]at hq;obtain⟨y,h1,h2,h3⟩:=h.at_ i (by have:=hk i hi;omega) q hq;exact⟨y,by rw[List.getElem?_set_ne e];exact h1,h2.far (h2.ne_ h.row (by decide)) _,h3⟩
def zoQ (n:Nat):List Value:=List.replicate n (.slice none 0 0)
theorem zla (n:Nat):(zoQ n).length=n:=by simp[zoQ]
theorem zat (n:Nat)(h:n<=1000000)(w:World):(Instr.makeSlice 96 (.int .i64 (n:Int)) (.int .i64 (n:Int))).run Tryz.prog w=.ok (.slice (some ⟨w.heap.size,0,none⟩) n n) (w.alloc (.cells (zoQ n).toArray 39)):=by
 obtain⟨i,hi,hz,hs,hb⟩:=info_parts kE_;exact x0_ (P:=Tryz.prog) 96 39 i _ rfl Tryz.underlying96 hi hz hs n (by rw[hb];omega) (by omega) w
def zjQ (w:World)(P:List (List UInt8))(e:Ending)(w':World):Prop :=
 ∃g us,e=.returned (.slice (some ⟨g,0,none⟩) P.length P.length)/\ShFr w.heap.size w' g P.length us P P.length/\w.heap.size<=g/\Chg [] w w'
section
variable {w:World} {A C:Option Addr} {n c m d:Nat} {vs:List Value} {P:List (List UInt8)} {ls:List ChV}
theorem zbz (hA:Src w A vs)(hsp:0<n->∀ad,A=some ad->ad.spot=none)(hn:vs.length=n)(hn1:n<=1000)(hL:zfZ w vs P)(hP:∀l∈P,l.length<=1000000)(hC:Chs w C ls)(hm:ls.length=m)(hm1:m<=1000)(hls:∀a∈ls,a.B.length<=1000000) :
    Calls Tryz.prog 88 #[.slice A n c,.slice C m d] w (zjQ w (zX_ P ls)):=by
 have hmk:=zat n (by omega);have hPn:P.length=n:=by rw[<-hL.1,hn]
 have HA:=hQ_ hA;have HL:=hQ_ hL;have HC:=hQ_ hC;have HP:=hQ_ hP;have HN:=hQ_ hn;have HM:=hQ_ hm;have HPN:=hQ_ hPn;have HLS:=hQ_ hls;clear hA hL hC hP hn hm hPn hls;go_enter Tryz.func88,Tryz.ntmps88;go_wp2_with fail;have hW:=zb_.new w 39 (zoQ n);have hc1:Chg [] w (w.alloc (.cells (zoQ n).toArray 39)):=(Chg.refl [] w).alloc _;obtain⟨g,hg⟩:∃g,g=w.heap.size:=⟨_,rfl⟩;rw[<-hg]at hW⊢;have hgw:=hQ_ (show w.heap.size<=g by omega);have HC1:=hQ_ hc1;generalize w.alloc (.cells (zoQ n).toArray 39)=w1 at hW HC1⊢;clear hg hc1;go_loopw [15] (fun v wr=>∃(k:Nat)(us:List Value),k<=n/\v=.int .i64 (k:Int)/\Hid (ShFr w.heap.size wr g n us P k)/\Hid (Chg [] w wr)) (fun v _=>n-(intOf v).toNat);case atStart=>exact⟨0,_,Nat.zero_le _,rfl,hQ_ ⟨zla n,HPN.o,hW,fun j hj=>absurd hj (by omega)⟩,HC1⟩
 case round =>
  obtain⟨k,us,hk,rfl,HF,HCr⟩:=hrel;by_cases hlt:k<n
  · have hkI:(k:Int)<(n:Int):=(by omega);obtain⟨⟨bA,oA,sA⟩,rfl,_,hxA⟩:=(HA.o.keep HCr.o) (by rw[HN.o];omega);obtain rfl:sA=none:=hsp (by omega) _ rfl;obtain⟨xv,hxv⟩:∃x,vs[k]?=some x:=⟨_,List.getElem?_eq_getElem (by rw[HN.o];exact hlt)⟩;obtain⟨X,hX⟩:∃X,P[k]?=some X:=⟨_,List.getElem?_eq_getElem (by rw[HPN.o];exact hlt)⟩;obtain⟨A5,n5,c5,rfl,hB5⟩:=HL.o.2 k xv X hxv hX;have ck:=hxA k _ hxv;rw[zl_]at ck;have hXl:=HP.o X (List.mem_of_getElem? hX);have hlX:=hB5.len;have HB5:=hQ_ (hB5.keep HCr.o);have HXk:=hQ_ hX;clear hxA hxv hX hB5;go_wp2_with fail;refine(vn_ HB5.o (by omega)).mono ?_;rintro e w5 ⟨rfl,hW5,hc5⟩;have HF5:=hQ_ (HF.o.keep hc5);have HC5:=hQ_ (HCr.o.new hc5);have HW5:=hQ_ hW5;have hge:=HCr.o.size;have HGE:=hQ_ hge;have c7:=HF5.o.row.cell k;have f7:=HF5.o.row.frozen k;obtain⟨uk,huk⟩:∃u,us[k]?=some u:=⟨_,List.getElem?_eq_getElem (by rw[HF.o.len];exact hlt)⟩;rw[huk]at c7;clear hW5 hc5 ck huk hge;go_wp2_with fail;go_roundw;case rel =>
     have hPs:P.set k X=P:=(by
      apply List.ext_getElem?;intro i;by_cases e:k=i
      · subst e;rw[List.getElem?_set_self (by rw[HPN.o];exact hlt),HXk.o]
      · rw[List.getElem?_set_ne e]);have:=HF5.o.set_ (k':=k+1) hlt HW5.o HGE.o (fun i hi=>by omega);rw[hPs,hlX]at this;exact⟨k+1,_,by omega,by go_num,hQ_ this,hQ_ (HC5.o.setCell (fun h=>absurd h (by have:=hgw.out;show ¬g<_;omega)) _)⟩
    case measure=>simp[intOf];omega
  · have hkI:¬(k:Int)<(n:Int):=(by omega);have hkn:=hQ_ (show k=n by omega);have HF0:Hid (ShFr w.heap.size wr g n us P n):=hQ_ (by have:=HF.o;rwa[hkn.out]at this);clear hk hlt HF hkn;go_wp2_with fail;go_loopw [28] (fun v w5=>∃(k:Nat) (us:List Value),k<=m/\v=.int .i64 (k:Int)/\Hid (ShFr w.heap.size w5 g n us (zX_ P (ls.take k)) n)/\Hid (Chg [] w w5)) (fun v _=>m-(intOf v).toNat);(case atStart=>exact⟨0,us,Nat.zero_le _,rfl,HF0,HCr⟩);case round =>
     obtain⟨q,us2,hq,rfl,HF,HC2⟩:=hrel;clear HF0 HCr;by_cases hlt:q<m
     · have hqI:(q:Int)<(m:Int):=(by omega);obtain⟨gc,o,rfl,hgc,hat⟩:=(HC.o.keep HC2.o).cells (by rw[HM.o];omega);obtain⟨a,ha⟩:∃a,ls[q]?=some a:=⟨_,List.getElem?_eq_getElem (by rw[HM.o];exact hlt)⟩;obtain⟨d0,d1⟩:=hat q a ha;have hok:=HC.o.ok a (List.mem_of_getElem? ha);have HBa:=hQ_ (hok.bs.keep HC2.o);have hal:=HLS.o a (List.mem_of_getElem? ha);have hbn:=hok.bs.len;have HAt:=hQ_ (qn_ P ls q a ha);clear hat ha hok;obtain⟨pgv,bA,bn,bc,B⟩:=a;simp only at d0 d1 HBa hal hbn;have hn1':=hn1;by_cases hp:0<=pgv/\pgv<(n:Int)
       · obtain⟨hp0,hp1⟩:=hp;have HApp:=hQ_ (show zX_ P (ls.take (q+1))=(zX_ P (ls.take q)).set pgv.toNat B by rw[HAt.o,yV_,if_pos (by rw[yO_,HPN.o];exact⟨hp0,hp1⟩)]);have HB0:=hQ_ (show wr.heap.size=wr.heap.size from rfl);go_upto_region 11 with fail;have hwc:=zb_.new wr 123 [.int .i64 pgv,.slice bA bn bc];have hal1:Chg [] wr (wr.alloc (.cells #[.int .i64 pgv,.slice bA bn bc] 123)):=(Chg.refl [] wr).alloc _;obtain⟨g9,hg9⟩:∃g9,g9=wr.heap.size:=⟨_,rfl⟩;rw[<-hg9]at hwc⊢;have HF6:=hQ_ (HF.o.keep hal1);have HB6:=hQ_ (HBa.o.keep hal1);have HC6:=hQ_ (HC2.o.new hal1);generalize wr.alloc (.cells #[.int .i64 pgv,.slice bA bn bc] 123)=w6 at hwc HF6 HB6 HC6⊢;have k0:=hwc.cell 0;have k1:=hwc.cell 1;have kg:=hwc.lt;have HK:=hQ_ (show w6.heap.size=w6.heap.size from rfl);clear hg9 HB0;obtain⟨pn,hpn⟩:∃pn:Nat,pgv=(pn:Int):=⟨pgv.toNat,by omega⟩;subst hpn;have hpl:pn<n:=(by omega);rw[Int.toNat_natCast]at HApp;obtain⟨uk,huk⟩:∃u,us2[pn]?=some u:=⟨_,List.getElem?_eq_getElem (by rw[HF6.o.len];exact hpl)⟩;have HUK:=hQ_ huk;clear huk;go_region_with (
          go_at_call 96;refine(vn_ (HB6.o.keep (jC_ (Chg.refl [] _))) (by omega)).mono ?_;rintro e w7 ⟨rfl,hW7,hc7⟩;have k7:=(HF6.o.row.keep (jC_ hc7)).cell pn;have f7:=(HF6.o.row.keep (jC_ hc7)).frozen pn;rw[HUK.o]at k7;have d7:=zd_ k0 (jC_ hc7);have d8:=zd_ k1 (jC_ hc7));(all_goals go_wp2_with fail);(all_goals go_roundw);all_goals first
           | (simp[intOf];omega)
           | (have hfr:=(HF6.o.keep (jC_ hc7)).set_ (k':=n) (r:=B) hpl hW7 HC6.o.size (fun i hi=>.inl hi);rw[hbn]at hfr;exact⟨q+1,_,by omega,by go_num,hQ_ (by rw[HApp.o];exact hfr),hQ_ ((HC6.o.new (jC_ hc7)).setCell (fun h=>absurd h (by have:=hgw.out;show ¬g<_;omega)) _)⟩)
       · have HApp:=hQ_ (show zX_ P (ls.take (q+1))=zX_ P (ls.take q) by rw[HAt.o,yV_,if_neg (by rw[yO_,HPN.o];exact hp)]);by_cases hp0:0<=pgv
         · have hp1:¬pgv<(n:Int):=fun h=>hp ⟨hp0,h⟩;go_wp2_with fail;go_roundw;(case rel=>exact⟨q+1,us2,by omega,by go_num,hQ_ (by rw[HApp.o];exact HF.o.keep ((Chg.refl _ _).alloc _)),hQ_ (HC2.o.alloc _)⟩);case measure=>simp[intOf];omega
         · go_wp2_with fail;go_roundw;(case rel=>exact⟨q+1,us2,by omega,by go_num,hQ_ (by rw[HApp.o];exact HF.o.keep ((Chg.refl _ _).alloc _)),hQ_ (HC2.o.alloc _)⟩);case measure=>simp[intOf];omega
     · have hqI:¬(q:Int)<(m:Int):=(by omega);have HQ:=hQ_ (show ls.take q=ls from List.take_of_length_le (by rw[HM.o];omega));have hlen:(zX_ P ls).length=n:=(by rw[yO_,HPN.o]);clear hlt;go_wp2_with fail;go_ret;refine⟨g,us2,by rw[hlen];rfl,?_,hgw.out,HC2.o⟩;rw[hlen,<-HQ.o];rw[HQ.o];have:=HF.o;rw[HQ.o]at this;exact this
end
end
section
open Go.RowKit
def zN_ (s:ByteArray):Nat->Nat->List Nat
  | 0,_=>[]
  | f+1,pos=>if pos<s.size then (Utf8.decode s pos).1::zN_ s f (pos+(Utf8.decode s pos).2) else []
def vC_ (s:ByteArray):List Nat:=zN_ s s.size 0
theorem vK_ (s:ByteArray)(pos:Nat)(h:pos<s.size):1<=(Utf8.decode s pos).2:=by
 by_cases ha:(s[pos]'h).toNat<128
 · rw[decode_ascii s pos h ha];exact Nat.le_refl _
 · exact(decode_high s pos h (by omega)).2
theorem kW_ (s:ByteArray):∀(f g pos:Nat),s.size-pos<=f->f<=g->zN_ s f pos=zN_ s g pos
  | 0,0,_,_,_=>rfl
  | 0,g+1,pos,h,_=>by
    rw[zN_,zN_,if_neg (by omega)]
  | f+1,g+1,pos,h,hg=>by
    rw[zN_,zN_];by_cases hp:pos<s.size
    · rw[if_pos hp,if_pos hp,kW_ s f g _ (by have:=vK_ s pos hp;omega) (by omega)]
    · rw[if_neg hp,if_neg hp]
end
section
open Go.RowKit
structure FnV where
  name:Int
  args:Int
  code:ByteArray
def fnC (t:FnV):List Value:=[.int .i32 t.name,.int .i64 t.args,.string t.code]
def xM_:List FnV->List Value
  | []=>[]
  | t::l=>fnC t++xM_ l
theorem yG_:∀l,(xM_ l).length=l.length*3
  | []=>rfl
  | t::l=>by rw[xM_,List.length_append,yG_ l];simp[fnC];omega
theorem zdM:∀l m,xM_ (l++m)=xM_ l++xM_ m
  | [],_=>rfl
  | t::l,m=>by rw[List.cons_append,xM_,xM_,zdM l m,List.append_assoc]
theorem jn_:∀(l:List FnV)(k:Nat)(t:FnV)(j:Nat),l[k]?=some t->j<3->(xM_ l)[k*3+j]?=(fnC t)[j]?
  | [],k,t,j,h,hj=>by simp at h
  | u::l,0,t,j,h,hj=>by
    simp at h;subst h;rw[xM_,List.getElem?_append_left (by simp[fnC];omega)];congr 1;omega
  | u::l,k+1,t,j,h,hj=>by
    simp at h;rw[xM_,List.getElem?_append_right (by simp[fnC];omega)];rw[<-jn_ l k t j h hj];congr 1;simp[fnC];omega
theorem zie:(Tryz.prog.info? 44).map (fun i=>(i.zero,i.size,i.bytes))=some (some (.agg #[.int .i32 0,.int .i64 0,.string ⟨#[]⟩]),3,32):=by kernel_rfl
end
section
open Go.RowKit
def vb:Nat->Nat
  | 0=>60
  | d+1=>3*vb d+20
end
section
open Go.RowKit
open Go.Lib
theorem zis (s:ByteArray)(i:Nat)(h:s.size<=i):s.get! i=0:=by
 have h1:s.data.size<=i:=h;show s.data[i]! = 0;rw[getElem!_neg]
 · rfl
 · omega
theorem xr_ (a t:ByteArray)(i:Nat):(a++t).get! (a.size+i)=t.get! i:=by
 by_cases h:i<t.size
 · have h1:a.size+i<(a++t).size:=(by rw[ByteArray.size_append'];omega);have e1:=get_at (a++t) (a.size+i) h1;have e2:=get_at t i h;rw[Nat.add_zero]at e1 e2;rw[e1,e2,ByteArray.getElem_append_right (by omega)];congr 1;omega
 · rw[zis _ _ (by rw[ByteArray.size_append'];omega),zis _ _ (by omega)]
theorem k3_ (a t:ByteArray)(p:Nat):Utf8.decode (a++t) (a.size+p)=Utf8.decode t p:=by
 rw[decode_at,decode_at,ByteArray.size_append',show a.size+t.size-(a.size+p)=t.size-p from by omega,
   xr_,Nat.add_assoc a.size p 1,xr_,Nat.add_assoc a.size p 2,xr_,Nat.add_assoc a.size p 3,xr_]
theorem uR_ (a t:ByteArray):∀(f p:Nat),zN_ (a++t) f (a.size+p)=zN_ t f p
  | 0,_=>rfl
  | f+1,p=>by
    rw[zN_,zN_,k3_];by_cases h:p<t.size
    · rw[if_pos h,if_pos (by rw[ByteArray.size_append'];omega),Nat.add_assoc,uR_ a t f _]
    · rw[if_neg h,if_neg (by rw[ByteArray.size_append'];omega)]
end
section
open Go.RowKit
def yo_ (r:Int):Bool:=(decide (97<=r)&&decide (r<=122))||(decide (255<r)&&(r != 65533)&&decide (r<=1114111)&&(decide (r<55296)||decide (57343<r)))
def zbW:List Nat:=[43,45,42,47,37,38,124,94,60,61,33,46,44,64,36,35,63,58,59,91,93,126,171,187,169,174,164,161,955,960]
def yg_ (r:Int):Bool:=(decide (97<=r)&&decide (r<=122))||(decide (65<=r)&&decide (r<=90))||zbW.any fun x=>(x:Int)==r
def zbV:ByteArray:=⟨#[43,45,42,47,37,38,124,94,60,61,33,46,44,64,36,35,63,58,59,91,93,126,194,171,194,187,194,169,194,174,194,164,194,161,206,187,207,128]⟩
theorem zeQ:vC_ zbV=zbW:=by decide +kernel
end
section
open Go.RowKit
def yP_ (r:Int):Bool:=decide (97<=r)&&decide (r<=122)
def kc_ (r:Int):Bool:=decide (48<=r)&&decide (r<=57)
def yf_ (r:Int):Bool:=(r==955)||(r==960)
def vM_ (r:Int):Bool:=(decide (0<=r)&&decide (r<55296))||(decide (57343<r)&&decide (r<=1114111))
theorem xy_ (r:Int)(w:World):Calls Tryz.prog 100 #[.int .i32 r] w fun e w'=>e=.returned (.bool (yP_ r))/\w=w':=by
 obtain⟨b,hb⟩:∃b,b=yP_ r:=⟨_,rfl⟩;rw[<-hb];have HB:=hQ_ hb;clear hb;by_cases h1:97<=r
 · by_cases h2:r<=122
   · have HE:=hQ_ (show b=true from by rw[HB.o];simp[yP_,h1,h2]);go_enter Tryz.func100,Tryz.ntmps100;go_wp2_with fail;go_ret;exact⟨zU_ HE.o.symm,rfl⟩
   · have h2d:decide (r<=122)=false:=(by simpa using h2);have HE:=hQ_ (show b=false from by rw[HB.o];simp[yP_,h1,h2]);go_enter Tryz.func100,Tryz.ntmps100;go_wp2_with fail;go_ret;exact⟨zU_ HE.o.symm,rfl⟩
 · have h1d:decide (97<=r)=false:=(by simpa using h1);have HE:=hQ_ (show b=false from by rw[HB.o];simp[yP_,h1]);go_enter Tryz.func100,Tryz.ntmps100;go_wp2_with fail;go_ret;exact⟨zU_ HE.o.symm,rfl⟩
theorem zbo (r:Int)(w:World):Calls Tryz.prog 104 #[.int .i32 r] w fun e w'=>e=.returned (.bool (kc_ r))/\w=w':=by
 obtain⟨b,hb⟩:∃b,b=kc_ r:=⟨_,rfl⟩;rw[<-hb];have HB:=hQ_ hb;clear hb;by_cases h1:48<=r
 · by_cases h2:r<=57
   · have HE:=hQ_ (show b=true from by rw[HB.o];simp[kc_,h1,h2]);go_enter Tryz.func104,Tryz.ntmps104;go_wp2_with fail;go_ret;exact⟨zU_ HE.o.symm,rfl⟩
   · have h2d:decide (r<=57)=false:=(by simpa using h2);have HE:=hQ_ (show b=false from by rw[HB.o];simp[kc_,h1,h2]);go_enter Tryz.func104,Tryz.ntmps104;go_wp2_with fail;go_ret;exact⟨zU_ HE.o.symm,rfl⟩
 · have h1d:decide (48<=r)=false:=(by simpa using h1);have HE:=hQ_ (show b=false from by rw[HB.o];simp[kc_,h1]);go_enter Tryz.func104,Tryz.ntmps104;go_wp2_with fail;go_ret;exact⟨zU_ HE.o.symm,rfl⟩
theorem zaL (r:Int)(w:World):Calls Tryz.prog 67 #[.int .i32 r] w fun e w'=>e=.returned (.bool (yf_ r))/\w=w':=by
 by_cases h1:r=955
 · subst h1;go_enter Tryz.func67,Tryz.ntmps67;go_wp2_with fail;go_ret;exact⟨rfl,rfl⟩
 · have q1:(r==955)=false:=(by simpa using h1);have HE:=hQ_ (show(r==960)=yf_ r from by unfold yf_;rw[q1];rfl);clear h1;go_enter Tryz.func67,Tryz.ntmps67;go_wp2_with fail;go_ret;exact⟨zU_ HE.o,rfl⟩
theorem zah (r:Int)(w:World):Calls Tryz.prog 101 #[.int .i32 r] w fun e w'=>e=.returned (.bool (vM_ r))/\w=w':=by
 obtain⟨b,hb⟩:∃b,b=vM_ r:=⟨_,rfl⟩;rw[<-hb];have HB:=hQ_ hb;clear hb;rcases Int.lt_or_le r 0 with h|h
 · have d1:decide (0<=r)=false:=(by simp;omega);have d2:decide (57343<r)=false:=(by simp;omega);have HE:=hQ_ (show b=false from by rw[HB.o];simp[vM_];omega);go_enter Tryz.func101,Tryz.ntmps101;go_wp2_with fail;go_ret;exact⟨zU_ HE.o.symm,rfl⟩
 · rcases Int.lt_or_le r 55296 with h2|h2
   · skip
     have HE:=hQ_ (show b=true from by rw[HB.o];simp[vM_];omega);go_enter Tryz.func101,Tryz.ntmps101;go_wp2_with fail;go_ret;exact⟨zU_ HE.o.symm,rfl⟩
   · have d1:decide (r<55296)=false:=(by simp;omega);rcases Int.lt_or_le 57343 r with h3|h3
     · rcases Int.lt_or_le 1114111 r with h4|h4
       · have d2:decide (r<=1114111)=false:=(by simp;omega);have HE:=hQ_ (show b=false from by rw[HB.o];simp[vM_];omega);go_enter Tryz.func101,Tryz.ntmps101;go_wp2_with fail;go_ret;exact⟨zU_ HE.o.symm,rfl⟩
       · skip
         have HE:=hQ_ (show b=true from by rw[HB.o];simp[vM_];omega);go_enter Tryz.func101,Tryz.ntmps101;go_wp2_with fail;go_ret;exact⟨zU_ HE.o.symm,rfl⟩
     · have d2:decide (57343<r)=false:=(by simp;omega);have HE:=hQ_ (show b=false from by rw[HB.o];simp[vM_];omega);go_enter Tryz.func101,Tryz.ntmps101;go_wp2_with fail;go_ret;exact⟨zU_ HE.o.symm,rfl⟩
theorem zfg {r:Int}(h:yP_ r=true):yo_ r=true:=by
 unfold yP_ at h;unfold yo_;rw[h];rfl
theorem kx_ {r:Int}(h:yP_ r=false)(h2:255<r):yo_ r=(vM_ r&&(r != 65533)):=by
 unfold yP_ at h;unfold yo_ vM_;rw[h];have e1:decide (255<r)=true:=by simpa using h2
 have e2:decide (0<=r)=true:=by simp;omega
 rw[e1,e2];cases hq:(r != 65533)<;>simp
 · rcases Int.lt_or_le r 55296 with h3|h3
   · have:decide (r<=1114111)=true:=(by simp;omega);have:decide (r<55296)=true:=by simp;omega
     simp_all
   · have:decide (r<55296)=false:=(by simp;omega);rw[this];simp[Bool.and_comm]
theorem zdw {r:Int}(h:yP_ r=false)(h2:¬255<r):yo_ r=false:=by
 unfold yP_ at h;unfold yo_;have e1:decide (255<r)=false:=by simpa using h2
 rw[h,e1];rfl
theorem u5_ (r:Int)(w:World):Calls Tryz.prog 60 #[.int .i32 r] w fun e w'=>e=.returned (.bool (yo_ r))/\w=w':=by
 cases hs:yP_ r with
 | true =>
   have HE:=hQ_ (zfg hs);have HS:=hQ_ hs;clear hs;go_enter Tryz.func60,Tryz.ntmps60;go_wp2_with fail;refine(xy_ r _).mono ?_;rw[HS.o];rintro e w' ⟨rfl,rfl⟩;go_wp2_with fail;go_ret;exact⟨zU_ HE.o.symm,rfl⟩
 | false =>
   by_cases h2:255<r
   · cases hv:vM_ r with
     | true =>
       have HE:=hQ_ (show(r != 65533)=yo_ r from by rw[kx_ hs h2,hv];rfl);have HS:=hQ_ hs;have HV:=hQ_ hv;clear hs hv;go_enter Tryz.func60,Tryz.ntmps60;go_wp2_with fail;refine(xy_ r _).mono ?_;rw[HS.o];rintro e w' ⟨rfl,rfl⟩;go_wp2_with fail;refine(zah r _).mono ?_;rw[HV.o];rintro e w' ⟨rfl,rfl⟩;go_wp2_with fail;go_ret;exact⟨zU_ HE.o,rfl⟩
     | false =>
       have HE:=hQ_ (show yo_ r=false from by rw[kx_ hs h2,hv];rfl);have HS:=hQ_ hs;have HV:=hQ_ hv;clear hs hv;go_enter Tryz.func60,Tryz.ntmps60;go_wp2_with fail;refine(xy_ r _).mono ?_;rw[HS.o];rintro e w' ⟨rfl,rfl⟩;go_wp2_with fail;refine(zah r _).mono ?_;rw[HV.o];rintro e w' ⟨rfl,rfl⟩;go_wp2_with fail;go_ret;exact⟨zU_ HE.o.symm,rfl⟩
   · have HE:=hQ_ (zdw hs h2);have HS:=hQ_ hs;have d2:decide (255<r)=false:=(by simpa using h2);clear hs h2;go_enter Tryz.func60,Tryz.ntmps60;go_wp2_with fail;refine(xy_ r _).mono ?_;rw[HS.o];rintro e w' ⟨rfl,rfl⟩;go_wp2_with fail;go_ret;exact⟨zU_ HE.o.symm,rfl⟩
end
section
open Go.RowKit
def jM_ (f pos:Nat)(r:Int):Bool:=(zN_ zbV f pos).any fun x=>(x:Int)==r
theorem zkt (r:Int):jM_ zbV.size 0 r=zbW.any fun x=>(x:Int)==r:=by
 unfold jM_;rw[show zN_ zbV zbV.size 0=vC_ zbV from rfl,zeQ]
theorem zfp (r:Int) (w:World) (h1:yP_ r=false) (h2:(decide (65<=r)&&decide (r<=90))=false):Calls Tryz.prog 66 #[.int .i32 r] w (yd_ (zbW.any fun x=>(x:Int)==r) w):=by
 have hpick:decide (65<=r)=false\/(decide (65<=r)=true/\decide (r<=90)=false):=by
  cases hq:decide (65<=r) with
  | false=>exact .inl rfl
  | true=>rw[hq]at h2;exact .inr ⟨rfl,by simpa using h2⟩
 have HB:=hQ_ (zkt r);generalize (zbW.any fun x=>(x:Int)==r)=b at HB⊢;obtain⟨s,hs⟩:∃s:ByteArray,s=⟨#[43,45,42,47,37,38,124,94,60,61,33,46,44,64,36,35,63,58,59,91,93,126,194,171,194,187,194,169,194,174,194,164,194,161,206,187,207,128]⟩:=⟨_,rfl⟩;have HSS:=hQ_ (show zbV=s from hs.symm);have HS:=hQ_ hs;have H1:=hQ_ h1;have hss:s.size=38:=by rw[hs];rfl
 have HZ:=hQ_ hss;clear hs h1 h2 hss;rcases hpick with hp|⟨hp,hp2⟩;all_goals
   go_enter Tryz.func66,Tryz.ntmps66;go_wp2_with fail;refine(xy_ r _).mono ?_;rw[H1.o];rintro e w' ⟨rfl,rfl⟩;go_upto_region 4 with fail;rw[<-HS.o];have hI:(w.iter s 0).heap[w.heap.size]?=some (.stringIter s 0):=World.iter_heap w s 0;have hc0:Chg [] w (w.iter s 0):=(Chg.refl [] w).alloc _;obtain⟨kI,hkI⟩:∃k,k=w.heap.size:=⟨_,rfl⟩;rw[<-hkI]at hI⊢;generalize w.iter s 0=w1 at hI hc0⊢;have HI:=hQ_ hI;have HC0:=hQ_ hc0;have HK:=hQ_ hkI;clear hI hc0 hkI;go_loopw [4] (fun _ wr=>(∃pos f,Hid (wr.heap[kI]?=some (.stringIter s pos))/\s.size-pos<=f/\Hid (b=jM_ f pos r))/\Hid (Chg [kI] w1 wr)) (fun _ wr=>s.size-wr.iterPos kI);(case atStart=>exact⟨⟨0,s.size,HI,by omega,hQ_ (by rw[<-HSS.o];exact HB.o.symm)⟩,hQ_ (Chg.refl _ _)⟩);case round =>
    obtain⟨⟨pos,f,HIr,hf,HR⟩,HCr⟩:=hrel;have HCZ:=hQ_ (fun (W:World)(hW:Chg [kI] w1 W)=>show Chg [] w W from HC0.o.then_ hW (fun i hi hl=>by have:=HK.o;simp only[List.mem_cons,List.not_mem_nil,or_false]at hi;omega));by_cases hlt:pos<s.size
    · obtain⟨f',rfl⟩:∃f',f=f'+1:=⟨f-1,by omega⟩;have hnx:=fun ty=>Lib.run_next_any_at (P:=Tryz.prog) wr kI s pos ty HIr.o hlt;go_upto_region 6 with fail;obtain⟨d,hd⟩:∃d,d=(Utf8.decode s pos).2:=⟨_,rfl⟩;obtain⟨x,hx⟩:∃r,r=(Utf8.decode s pos).1:=⟨_,rfl⟩;have hw:=vK_ s pos hlt;rw[<-hd]at hw;have HR2:=hQ_ (show b=(((x:Int)==r)||jM_ f' (pos+d) r) from by rw[HR.o];unfold jM_;rw[HSS.o,zN_,if_pos hlt,<-hd,<-hx];simp);have HI2:=hQ_ (Lib.iterAt_heap wr kI s pos (pos+d) HIr.o);have HC2:=hQ_ (show Chg [kI] w1 (wr.iterAt kI s (pos+d)) from HCr.o.trans ⟨rfl,rfl,rfl,by rw[Lib.iterAt_size];exact Nat.le_refl _,fun i _ hn=>Lib.iterAt_other wr kI i s (pos+d) (by simpa using hn)⟩);rw[<-hd,<-hx];have HMP:=hQ_ (show wr.iterPos kI=pos from by unfold World.iterPos;rw[HIr.o]);have HP2:=hQ_ (show(wr.iterAt kI s (pos+d)).iterPos kI=pos+d from by unfold World.iterPos;rw[HI2.o]);generalize wr.iterAt kI s (pos+d)=w3 at HI2 HC2 HP2⊢;clear hx hd hnx;by_cases hxr:(x:Int)=r
      · have hxd:((x:Int)==r)=true:=(by simpa using hxr);have HPO:=hQ_ (show yd_ b w (.returned (.bool true)) w3 from⟨by rw[HR2.o,hxd];rfl,HCZ.o _ HC2.o⟩);clear hxr;go_wp2_with fail;go_ret;exact HPO.o
      · have hxd:((x:Int)==r)=false:=(by simpa using hxr);have HR3:=hQ_ (show b=jM_ f' (pos+d) r from by rw[HR2.o,hxd];rfl);go_wp2_with fail;go_roundw;(case rel=>exact⟨⟨pos+d,f',HI2,by omega,HR3⟩,HC2⟩);case measure=>rw[HP2.o,HMP.o];omega
    · have hnx:=fun ty=>Lib.run_next_end_at (P:=Tryz.prog) wr kI s pos ty HIr.o hlt;have HPO:=hQ_ (show yd_ b w (.returned (.bool false)) wr from⟨by rw[HR.o];unfold jM_;rw[HSS.o];cases f with
        | zero=>simp[zN_]
        | succ f=>rw[zN_,if_neg hlt];simp,HCZ.o _ HCr.o⟩);go_wp2_with fail;go_ret;exact HPO.o
theorem kG_ (r:Int)(w:World):Calls Tryz.prog 66 #[.int .i32 r] w (yd_ (yg_ r) w):=by
 cases hs:yP_ r with
 | true =>
   have HE:=hQ_ (show yg_ r=true from by unfold yg_;unfold yP_ at hs;rw[hs];rfl);have HS:=hQ_ hs;clear hs;go_enter Tryz.func66,Tryz.ntmps66;go_wp2_with fail;refine(xy_ r _).mono ?_;rw[HS.o];rintro e w' ⟨rfl,rfl⟩;go_wp2_with fail;go_ret;exact⟨zU_ HE.o.symm,Chg.refl _ _⟩
 | false =>
   cases hZ:(decide (65<=r)&&decide (r<=90)) with
   | true =>
     have HE:=hQ_ (show yg_ r=true from by unfold yg_;rw[hZ];simp);have h3:65<=r:=(by simp at hZ;omega);have h4:r<=90:=(by simp at hZ;omega);have HS:=hQ_ hs;clear hs hZ;go_enter Tryz.func66,Tryz.ntmps66;go_wp2_with fail;refine(xy_ r _).mono ?_;rw[HS.o];rintro e w' ⟨rfl,rfl⟩;go_wp2_with fail;go_ret;exact⟨zU_ HE.o.symm,Chg.refl _ _⟩
   | false =>
     have h:=zfp r w hs hZ;have e:yg_ r=zbW.any fun x=>(x:Int)==r:=(by
      unfold yg_;unfold yP_ at hs;rw[hs,hZ];simp);rw[e];exact h
end
section
open Go.RowKit
def gz_ (L:List Nat):Nat->Nat->Nat->Option (Nat×Nat)
  | 0,j,m=>some (m,j)
  | f+1,j,m=>match L[j]? with
    | some x=>if 48<=x/\x<=57 then (if (9223372036854775807-(x-48))/10<m then none else gz_ L f (j+1) (m*10+(x-48))) else some (m,j)
    | none=>some (m,j)
def zbS (L:List Nat):Nat->Nat->List TkV->Option (List TkV)
  | 0,_,ts=>some ts
  | f+1,i,ts=>match L[i]? with
    | none=>some ts
    | some r=>if r=32 then zbS L f (i+1) ts
      else if 48<=r/\r<=57 then (match gz_ L L.length i 0 with
        | none=>none
        | some (m,j)=>zbS L f j (ts++[⟨48,(m:Int),0⟩]))
      else if r=955\/r=960 then (match L[i+1]? with
        | none=>none
        | some x=>if yo_ (x:Int)=true then zbS L f (i+2) (ts++[⟨(r:Int),0,(x:Int)⟩]) else none)
      else if yg_ (r:Int)=true then zbS L f (i+1) (ts++[⟨(r:Int),0,0⟩]) else none
def uo_ (s:ByteArray):Option (List TkV):=if 512<s.size then none else zbS (vC_ s) ((vC_ s).length+1) 0 []
def zeE (s:ByteArray):Int:=if 512<s.size then 3 else 12
def kQ_ (s:ByteArray)(w:World)(e:Ending)(w':World):Prop :=
 Chg [] w w'/\((∃ts v,uo_ s=some ts/\ts.length<=512/\e=.returned (.tuple #[v,.int .i64 0])/\w'.ownsRow w.heap.size 132 3 v ts.length (vB_ ts)) \/
   (uo_ s=none/\e=.returned (.tuple #[.slice none 0 0,.int .i64 (zeE s)])))
theorem yk_ {w:World}{B B' e k n:Nat}{v:Value}{xs:List Value}(h:w.ownsRow B e k v n xs)(hB:B'<=B):w.ownsRow B' e k v n xs:=by
 refine⟨h.1,h.2.imp id ?_⟩;rintro⟨g,cap,cur,rfl,hb,r⟩;exact⟨g,cap,cur,rfl,Nat.le_trans hB hb,r⟩
end
section
open Go.RowKit
inductive GPh where
  | idle
  | num (m:Nat)
  | wait (q:Nat)
def pend:GPh->List TkV
  | .idle=>[]
  | .num m=>[⟨48,(m:Int),0⟩]
  | .wait q=>[⟨(q:Int),0,0⟩]
def xl_:GPh->Bool
  | .num _=>true
  | _=>false
def waits:GPh->Bool
  | .wait _=>true
  | _=>false
def yy_ (ys:List TkV)(m x:Nat):Option (List TkV×GPh):=if (9223372036854775807-x)/10<m then none else some (ys,.num (m*10+x))
def ym_ (bs:List TkV)(r:Nat):Option (List TkV×GPh) :=
 if r=32 then some (bs,.idle) else if yg_ (r:Int)=true then (if yf_ (r:Int)=true then some (bs,.wait r) else some (bs++[⟨(r:Int),0,0⟩],.idle)) else none
def zO_ (ys:List TkV):GPh->Nat->Option (List TkV×GPh)
  | .wait q,r=>if yo_ (r:Int)=true then some (ys++[⟨(q:Int),0,(r:Int)⟩],.idle) else none
  | .num m,r=>if 48<=r/\r<=57 then yy_ ys m (r-48) else ym_ (ys++[⟨48,(m:Int),0⟩]) r
  | .idle,r=>if 48<=r/\r<=57 then yy_ ys 0 (r-48) else ym_ ys r
def zdK (ys:List TkV):GPh->Option (List TkV)
  | .idle=>some ys
  | .num m=>some (ys++[⟨48,(m:Int),0⟩])
  | .wait _=>none
def ut_:List Nat->List TkV->GPh->Option (List TkV)
  | [],ys,ph=>zdK ys ph
  | r::rs,ys,ph=>match zO_ ys ph r with
    | none=>none
    | some (ys',ph')=>ut_ rs ys' ph'
theorem ziu {ys ys':List TkV}{ph ph':GPh}{r:Nat}(h:zO_ ys ph r=some (ys',ph')):ys'.length+(pend ph').length<=ys.length+(pend ph).length+1:=by
 have ho:∀bs:List TkV,ym_ bs r=some (ys',ph')->ys'.length+(pend ph').length<=bs.length+1:=fun bs h=>by
  unfold ym_ at h;split at h
  · injection h with h;injection h with h1 h2;subst h1;subst h2;simp[pend]
  · split at h
    · split at h
      · injection h with h;injection h with h1 h2;subst h1;subst h2;simp[pend]
      · injection h with h;injection h with h1 h2;subst h1;subst h2;simp[pend]
    · cases h
 have hc:∀m x,yy_ ys m x=some (ys',ph')->ys'.length+(pend ph').length<=ys.length+1:=fun m x h=>by
  unfold yy_ at h;split at h
  · cases h
  · injection h with h;injection h with h1 h2;subst h1;subst h2;simp[pend]
 cases ph with
 | wait q =>
   rw[zO_]at h;split at h
   · injection h with h;injection h with h1 h2;subst h1;subst h2;simp[pend]
   · cases h
 | num m =>
   have e1:(pend (.num m)).length=1:=rfl;rw[zO_]at h;split at h
   · have:=hc _ _ h;omega
   · have:=ho _ h;rw[List.length_append,List.length_singleton]at this;omega
 | idle =>
   have e1:(pend .idle).length=0:=rfl;rw[zO_]at h;split at h
   · have:=hc _ _ h;omega
   · have:=ho _ h;omega
theorem qd_ {L rs:List Nat}{i r:Nat}(h:L.drop i=r::rs):L[i]?=some r/\L.drop (i+1)=rs:=by
 have h1:L[i]?=(L.drop i)[0]?:=by rw[List.getElem?_drop];rfl
 refine⟨by rw[h1,h];rfl,?_⟩;have:L.drop (i+1)=(L.drop i).drop 1:=by rw[List.drop_drop]
 rw[this,h];rfl
theorem gP_ {L:List Nat}{i:Nat}(h:L.drop i=[]):L[i]?=none:=by
 have:=List.drop_eq_nil_iff.1 h;exact List.getElem?_eq_none this
theorem zdJ {L:List Nat}:∀(rs:List Nat) (i f m:Nat) (ys:List TkV),L.drop i=rs->rs.length<=f ->
    (gz_ L f i m=none/\ut_ rs ys (.num m)=none)\/∃m' j,gz_ L f i m=some (m',j)/\i<=j/\ut_ rs ys (.num m)=ut_ (L.drop j) (ys++[⟨48,(m':Int),0⟩]) .idle
  | [],i,f,m,ys,h,hf=>by
    refine .inr ⟨m,i,?_,Nat.le_refl _,by rw[h];rfl⟩;cases f with
    | zero=>rfl
    | succ f=>rw[gz_,gP_ h]
  | r :: rs,i,f,m,ys,h,hf=>by
    obtain⟨h1,h2⟩:=qd_ h;obtain⟨f,rfl⟩:∃f',f=f'+1:=⟨f-1,by simp at hf;omega⟩;rw[gz_,h1];simp only;by_cases hd:48<=r/\r<=57
    · rw[if_pos hd];have hg:zO_ ys (.num m) r=yy_ ys m (r-48):=(by rw[zO_,if_pos hd]);by_cases hb:(9223372036854775807-(r-48))/10<m
      · left
        rw[if_pos hb,ut_,hg];unfold yy_;rw[if_pos hb];exact⟨rfl,rfl⟩
      · rw[if_neg hb,ut_,hg];unfold yy_;rw[if_neg hb];simp only;rcases zdJ rs (i+1) f (m*10+(r-48)) ys h2 (by simp at hf;omega) with h3|⟨m',j,h3,h4,h5⟩
        · exact .inl h3
        · exact .inr ⟨m',j,h3,by omega,h5⟩
    · rw[if_neg hd];refine .inr ⟨m,i,rfl,Nat.le_refl _,?_⟩;rw[h,ut_,ut_];have e:zO_ ys (.num m) r=zO_ (ys++[⟨48,(m:Int),0⟩]) .idle r:=(by
       rw[zO_,zO_,if_neg hd,if_neg hd]);rw[e]
theorem j1_ (r:Nat):yf_ (r:Int)=true↔r=955\/r=960:=by unfold yf_;simp;omega
theorem u6_ {L:List Nat}:∀(k:Nat) (i f:Nat) (ys:List TkV),L.length-i<=k->L.length-i<f->ut_ (L.drop i) ys .idle=zbS L f i ys
  | k,i,f,ys,hk,hf=>by
    obtain⟨f,rfl⟩:∃f',f=f'+1:=⟨f-1,by omega⟩;rw[zbS];cases hr:L.drop i with
    | nil=>rw[gP_ hr];rfl
    | cons r rs =>
      obtain⟨h1,h2⟩:=qd_ hr;have hil:i<L.length:=(List.getElem?_eq_some_iff.1 h1).1;have hrl:rs.length=L.length-(i+1):=(by rw[<-h2,List.length_drop]);obtain⟨k,rfl⟩:∃k',k=k'+1:=⟨k-1,by omega⟩;rw[h1];simp only;rw[ut_];by_cases h32:r=32
      · subst h32;rw[if_pos rfl,show zO_ ys .idle 32=some (ys,.idle) from rfl];simp only;rw[<-h2];exact u6_ k (i+1) f ys (by omega) (by omega)
      rw[if_neg h32];by_cases hd:48<=r/\r<=57
      · rw[if_pos hd];have hg:zO_ ys .idle r=some (ys,.num (r-48)):=(by
         rw[zO_,if_pos hd];unfold yy_;rw[if_neg (by omega)];simp);have hn:gz_ L L.length i 0=gz_ L (L.length-1) (i+1) (r-48):=(by
         obtain⟨n,hn⟩:∃n,L.length=n+1:=⟨L.length-1,by omega⟩;rw[hn,gz_,h1];simp only;rw[if_pos hd,if_neg (by omega)];simp);rw[hg,hn];simp only;rcases zdJ rs (i+1) (L.length-1) (r-48) ys h2 (by omega) with⟨h3,h4⟩|⟨m',j,h3,h4,h5⟩
        · rw[h3,h4]
        · rw[h3,h5];exact u6_ k j f _ (by omega) (by omega)
      rw[if_neg hd];have hgo:zO_ ys .idle r=ym_ ys r:=(by rw[zO_,if_neg hd]);rw[hgo];unfold ym_;rw[if_neg h32];by_cases hnm:r=955\/r=960
      · rw[if_pos hnm];have hk:yg_ (r:Int)=true:=by rcases hnm with rfl|rfl<;>decide
        rw[if_pos hk,if_pos ((j1_ r).2 hnm)];simp only;cases hrs:rs with
        | nil =>
          rw[hrs]at h2;rw[gP_ h2];rfl
        | cons x xs =>
          rw[hrs]at h2;obtain⟨h3,h4⟩:=qd_ h2;rw[h3];simp only;rw[ut_];by_cases hnx:yo_ (x:Int)=true
          · rw[if_pos hnx,show zO_ ys (.wait r) x=some (ys++[⟨(r:Int),0,(x:Int)⟩],.idle) from by rw[zO_,if_pos hnx]];simp only;rw[<-h4];exact u6_ k (i+2) f _ (by omega) (by omega)
          · rw[if_neg hnx,show zO_ ys (.wait r) x=none from by rw[zO_,if_neg hnx]]
      · rw[if_neg hnm];by_cases hk:yg_ (r:Int)=true
        · rw[if_pos hk,if_pos hk,if_neg (fun h=>hnm ((j1_ r).1 h))];simp only;rw[<-h2];exact u6_ k (i+1) f _ (by omega) (by omega)
        · rw[if_neg hk,if_neg hk]
theorem gH_ (s:ByteArray)(h:¬512<s.size):uo_ s=ut_ (vC_ s) [] .idle:=by
 unfold uo_;rw[if_neg h];have:=u6_ (L:=vC_ s) (vC_ s).length 0 ((vC_ s).length+1) [] (by omega) (by omega);rw[List.drop_zero]at this;exact this.symm
end
section
open Go.RowKit
def gSt:List Nat->List TkV->GPh->Option (List TkV×GPh)
  | [],ys,ph=>some (ys,ph)
  | r::rs,ys,ph=>match zO_ ys ph r with
    | none=>none
    | some (ys',ph')=>gSt rs ys' ph'
theorem zcA:∀(a b:List Nat)(ys:List TkV)(ph:GPh),gSt (a++b) ys ph=(gSt a ys ph).bind fun q=>gSt b q.1 q.2
  | [],b,ys,ph=>rfl
  | r::a,b,ys,ph=>by
    rw[List.cons_append,gSt,gSt];cases zO_ ys ph r with
    | none=>rfl
    | some q=>exact zcA a b q.1 q.2
theorem ziw:∀(a:List Nat)(ys:List TkV)(ph:GPh),ut_ a ys ph=(gSt a ys ph).bind fun q=>zdK q.1 q.2
  | [],ys,ph=>rfl
  | r::a,ys,ph=>by
    rw[ut_,gSt];cases zO_ ys ph r with
    | none=>rfl
    | some q=>exact ziw a q.1 q.2
theorem q4_ {ys:List TkV}{ph:GPh}{ts:List TkV}(h:zdK ys ph=some ts)(r:Nat)(hr:¬(48<=r/\r<=57)):zO_ ys ph r=ym_ ts r:=by
 cases ph with
 | wait q=>cases h
 | num m =>
   rw[zdK]at h;injection h with h;rw[zO_,if_neg hr,h]
 | idle =>
   rw[zdK]at h;injection h with h;rw[zO_,if_neg hr,h]
end
section
open Go.RowKit
structure BkV where
  sign:Int
  base:Int
  other:Int
  left:Bool
def xF_ (name:Int):List FnV->Nat->Option Nat
  | [],_=>none
  | f::l,k=>if f.name=name then some k else xF_ name l (k+1)
def yY_ (l:List FnV)(name:Int):Int:=match xF_ name l 0 with|some k=>(k:Int)|none=>-1
theorem zdN {name:Int}:∀{l:List FnV}{k j:Nat},xF_ name l k=some j->∃f,k<=j/\l[j-k]?=some f/\f.name=name
  | [],k,j,h=>by simp[xF_]at h
  | f::l,k,j,h=>by
    rw[xF_]at h;by_cases hn:f.name=name
    · rw[if_pos hn]at h;injection h with h;subst h;exact⟨f,Nat.le_refl _,by simp,hn⟩
    · rw[if_neg hn]at h;obtain⟨g,h1,h2,h3⟩:=zdN h;refine⟨g,by omega,?_,h3⟩;rw[show j-k=(j-(k+1))+1 from by omega];simpa using h2
def binL:List Nat:=[43,45,42,47,37,38,124,94,60,61,171,187]
def unL:List Nat:=[33,64,169,164,960]
def zeL:List Nat:=[58,59,91,93,126,161]
def inL (l:List Nat)(r:Int):Bool:=l.any fun x=>(x:Int)==r
def vG_ (l:List FnV)(name:Int):Int×Int×Bool :=
 match xF_ name l 0 with
 | none=>(0,0,false)
 | some k=>match l[k]? with
   | none=>(0,0,false)
   | some f=>if 0<=f.args/\f.args<=4 then (f.args,1,true) else (0,0,false)
def xd_ (l:List FnV)(s name:Int):Int×Int×Bool :=
 if (s=48\/(97<=s/\s<=122))\/s=35 then (0,1,true)
 else if (65<=s/\s<=90)\/s=44 then (1,0,true)
 else if s=46 then (1,2,true)
 else if inL binL s=true then (2,1,true)
 else if inL unL s=true then (1,1,true)
 else if s=36\/s=174 then (2,0,true)
 else if s=63 then (1,0,true)
 else if inL zeL s=true then (0,0,true)
 else if s=955 then vG_ l name
 else (0,0,false)
theorem zlT (l:List FnV)(name:Int):0<=(vG_ l name).1/\(vG_ l name).1<=4/\0<=(vG_ l name).2.1/\(vG_ l name).2.1<=2:=by
 unfold vG_;split
 · simp
 · split
   · simp
   · split
     · rename_i h;simp;omega
     · simp
theorem zaE (l:List FnV)(s name:Int):0<=(xd_ l s name).1/\(xd_ l s name).1<=4/\0<=(xd_ l s name).2.1/\(xd_ l s name).2.1<=2:=by
 unfold xd_
 repeat' split
 all_goals first|exact zlT l name|simp
def xn_ (bs:List BkV):Int:=match bs.getLast? with|none=>0|some b=>b.base
def uz_ (h:Int)(ys:List BkV)(x:BkV)(r:Int):Bool×Int×List BkV :=
 if r=58 then (true,x.base,ys++[⟨58,x.base,h,x.left⟩])
 else if x.sign=58 then (if 0<=x.other/\0<=h/\x.other≠h then (false,h,ys) else (true,max h x.other,ys))
 else if 0<=h/\h≠x.base then (false,h,ys)
 else (true,(if x.sign=91/\x.left=false then -1 else x.base),ys)
def x6_ (h:Int) (bs:List BkV):Nat->Bool×Int×List BkV
  | 0=>(false,h,bs)
  | k+1=>match bs[k]? with
    | none=>(false,h,bs)
    | some x=>if x.sign=91 then (h==x.base,-1,bs.set k ⟨x.sign,x.base,x.other,true⟩) else x6_ h bs k
def vu_ (s:Int):Prop:=s=58\/s=59\/s=93
instance (s:Int):Decidable (vu_ s):=by unfold vu_;exact inferInstance
def qw_ (l:List FnV)(h:Int)(bs:List BkV)(s name:Int):Int×Int×List BkV :=
 if vu_ s then (match bs.getLast? with
   | none=>(14,h,bs)
   | some x=>match uz_ h bs.dropLast x s with|(true,h',bs')=>(0,h',bs')|(false,h',bs')=>(14,h',bs'))
 else if h<0 then (15,h,bs)
 else match xd_ l s name with
   | (_,_,false)=>(22,h,bs)
   | (p,g,true) =>
     if h-xn_ bs<p\/64<h-p+g then (14,h,bs)
     else if s=63\/s=91 then (0,h-p+g,bs++[⟨s,h-p+g,0,false⟩])
     else if s=126 then (match x6_ (h-p+g) bs bs.length with|(true,h',bs')=>(0,h',bs')|(false,h',bs')=>(14,h',bs'))
     else if s=161 then (0,-1,bs)
     else (0,h-p+g,bs)
def k7_ (l:List FnV):List TkV->Int->List BkV->List Int->Int×List Int
  | [],h,_,out=>if h≠1/\0<=h then (14,[]) else (0,out)
  | t::ts,h,bs,out=>match qw_ l h bs t.sign t.name with
    | (e,h',bs')=>if e=0 then k7_ l ts h' bs' (out++[h]) else (e,[])
def jT_ (l:List FnV)(code:ByteArray):Int×List Int :=
 match uo_ code with
 | none=>(zeE code,[])
 | some ts=>match ks_ (yn_ ts) with
   | none=>(13,[])
   | some _=>k7_ l ts 0 [] []
end
section
open Go.RowKit
def yH_ (pages most:Int)(A:Option Addr)(n c:Nat):Value:=.agg #[.int .i64 pages,.int .i64 most,.slice A n c]
structure Fnr (W:World) (A:Option Addr) (n c:Nat) (l:List FnV):Prop where
  len:l.length=n
  src:Src W A (xM_ l)
  cap:n<=c
  max:n<=1000
  spot:0<n->∀ad,A=some ad->ad.spot=none
  args:∀f∈l,-9223372036854775808<=f.args/\f.args<=9223372036854775807
section
variable {W W':World} {p:Nat} {A:Option Addr} {n c:Nat} {l:List FnV}
theorem Fnr.keep (h:Fnr W A n c l)(hc:Chg [] W W'):Fnr W' A n c l:=⟨h.len,h.src.keep hc,h.cap,h.max,h.spot,h.args⟩
theorem Fnr.cell (h:Fnr W A n c l){k:Nat}{t:FnV}(hk:l[k]?=some t):∃b o,A=some ⟨b,o,none⟩/\b<W.heap.size/\W.cell? ⟨b,o+k*3,none⟩=some (.int .i32 t.name)/\W.cell? ⟨b,o+k*3+1,none⟩=some (.int .i64 t.args)/\W.cell? ⟨b,o+k*3+2,none⟩=some (.string t.code):=by
 have hkl:=(List.getElem?_eq_some_iff.1 hk).1;obtain⟨⟨b,o,s⟩,e,hb,hx⟩:=h.src (by rw[yG_];omega);obtain rfl:s=none:=h.spot (by have:=h.len;omega) _ e;refine⟨b,o,e,hb,?_,?_,?_⟩
 · have:=hx _ _ ((jn_ l k t 0 hk (by omega)).trans rfl);rwa[zl_]at this
 · have:=hx _ _ ((jn_ l k t 1 hk (by omega)).trans rfl);rwa[zl_]at this
 · have:=hx _ _ ((jn_ l k t 2 hk (by omega)).trans rfl);rwa[zl_]at this
end
section
variable {w:World} {A:Option Addr} {n c:Nat} {l:List FnV} {pages most:Int}
def jv_ (i:Int)(w:World)(e:Ending)(w':World):Prop:=e=.returned (.int .i64 i)/\Chg [] w w'
end
end
section
open Go.RowKit
section
variable {w:World} {A:Option Addr} {n c:Nat} {l:List FnV} {pages most:Int}
def zo_ (r:Int×Int×Bool)(w:World)(e:Ending)(w':World):Prop:=e=.returned (.tuple #[.int .i64 r.1,.int .i64 r.2.1,.bool r.2.2])/\Chg [] w w'
theorem zt_ {R:Int×Int×Bool}{w':World}(a b:Nat)(ok:Bool)(hR:R=((a:Int),(b:Int),ok))(h:Chg [] w w'):zo_ R w (.returned (.tuple #[.int .i64 (a:Int),.int .i64 (b:Int),.bool ok])) w':=by subst hR;exact⟨rfl,h⟩
end
end
section
open Go.RowKit
section
variable {W W':World} {gs B:Nat} {h:Int} {vo:Value} {bs:List BkV}
def jw_ (b:Int)(W:World)(e:Ending)(w':World):Prop:=e=.returned (.int .i64 b)/\Chg [] W w'
end
end
section
open Go.RowKit
theorem q1_ (i:Nat)(ys:List NPart)(x:NPart)(hx:x.loop=true):∀zs:List NPart,(∀z∈zs,z.loop=false)->yL_ i (zs++x::ys)=some (zs++⟨x.loop,x.at_,x.waits,x.left++[i]⟩::ys)
  | [],_=>by simp[yL_,hx]
  | z::zs,h=>by
    have hz:=h z (List.mem_cons_self ..);rw[List.cons_append,yL_,if_neg (by simp[hz]),q1_ i ys x hx zs fun y hy=>h y (List.mem_cons_of_mem _ hy)];rfl
theorem zaR (i:Nat):∀zs:List NPart,(∀z∈zs,z.loop=false)->yL_ i zs=none
  | [],_=>rfl
  | z::zs,h=>by
    have hz:=h z (List.mem_cons_self ..);rw[yL_,if_neg (by simp[hz]),zaR i zs fun y hy=>h y (List.mem_cons_of_mem _ hy)];rfl
theorem kl_ {P:Program}{w:World}{ops:Array Oper}{o:Oper}{a:Act}{K:Act->World->Prop}{Q:Exit->Act->World->Prop}{E:Prop}(hgd:o.guard=none)(s x:Operand)(t:TypeId)
    (ho:o.op=.call { callee:=.builtin .append,args:=#[s,x],argTypes:=#[t,t] })
    (base:Nat) (e:TypeId) (i:TypeInfo) (z:Value) (bytes:Nat) (ht:P.underlying t=some (.slice e)) (hi:P.info? e=some i) (hz:i.zero=some z)
    (hsize:i.size=1) (hby:i.bytes=bytes) (hzs:z.cells.size=1)
    (v:Value) (n:Nat) (xs:List Value) (hse:a.eval s=v) (hown:w.ownsRow base e 1 v n xs)
    (A:Option Addr) (m c:Nat) (news:List Value) (hxe:a.eval x=.slice A m c) (hl:news.length=m) (hs:Src w A news) (h1:∀u∈news,u.oneCell'=true)
    (h63:n+m<=maxLen) (hbytes:(n+m)*bytes<=140737488355328) (hbase:base<=w.heap.size)
    (h:∀v' w',w'.ownsRow base e 1 v' (n+m) (xs++news)->w.grownBy w' v.ownBlock->(v'.ownBlock=v.ownBlock\/v'.ownBlock=some w.heap.size)->K (a.put o.dst v') w') :
    if Region.wanted o (yielded ops a.tmps)=true then Oper.wp P o a w K Q else E:=by
 have hw:Region.wanted o (yielded ops a.tmps)=true:=by simp[Region.wanted,hgd]
 rw[if_pos hw];obtain⟨v',w',hrun,h2,h3,h4⟩:=xO_ (P:=P) w base t o.type e i z bytes ht hi hz hsize hby hzs v n xs hown A m c news hl hs h1 h63 hbytes hbase;unfold Oper.wp execOp;simp only[ho,resolve,invoke,builtin,Sem.run_bind,Sem.run_pure,Result.andThen_ok,List.map_toArray,List.map_cons,List.map_nil,hse,hxe,hrun];exact h v' w' h2 h3 h4
section
variable {W:World} {gm gt B n:Nat} {m:NSt} {vo:Value}
theorem Mt.leave {ys zs:List PV}{x:PV}{g c q i:Nat}{W1 w':World}{v':Value}(h:Mt W gm gt B n m vo (ys++x::zs))(hv:vo=.slice (some ⟨g,0,none⟩) q c)(hi:i<n)(hfl:x.p.left.length<n)(hc:Chg [] W W1)
    (ho:w'.ownsRow B 3 1 v' (x.p.left.length+1) (nts x.p.left++[.int .i64 (i:Int)])) (hg:W1.grownBy w' x.v.ownBlock) (hb:v'.ownBlock=x.v.ownBlock\/v'.ownBlock=some W1.heap.size) :
    Mt (w'.setCell ⟨g,ys.length*4+3,none⟩ v') gm gt B n ⟨m.tO,m.deep,(zs.map (·.p)).reverse++⟨x.p.loop,x.p.at_,x.p.waits,x.p.left++[i]⟩::(ys.map (·.p)).reverse⟩ vo (ys++⟨⟨x.p.loop,x.p.at_,x.p.waits,x.p.left++[i]⟩,v'⟩::zs):=by
 have h1:=h.keep hc;subst hv;have hxm:=h1.left x (by simp);have hq:q=(ys++x::zs).length:=by
  rcases h.own.2 with⟨e,_⟩|⟨_,_,_,e,_⟩
  · cases e
  · injection e
 subst hq;have hB:=(h.own.lt g rfl).1;have hlo:=h.lo;have hopen:=yj_ h1.own hxm (by decide) hg;have hfar:∀{k q2:Nat}{u:Value}{cs:List Value},w'.ownsRow B 3 k u q2 cs->(w'.setCell ⟨g,ys.length*4+3,none⟩ v').ownsRow B 3 k u q2 cs:=fun hu=>zG_ hu (zdt hopen hu (by decide) rfl);have hoth:∀y∈ys++zs,(y.v.ownBlock=none\/y.v.ownBlock≠x.v.ownBlock):=by
  have hp:=h.apart;rw[List.pairwise_append,List.pairwise_cons]at hp;intro y hy;rcases List.mem_append.1 hy with hy|hy
  · exact hp.2.2 y hy x (by simp)
  · rcases hp.2.1.1 y hy with h|h
    · cases hyb:y.v.ownBlock with
      | none=>exact .inl rfl
      | some b=>exact .inr (by rw[h];simp)
    · exact .inr (Ne.symm h)
 have hnew:∀y∈ys++zs,(y.v.ownBlock=none\/y.v.ownBlock≠v'.ownBlock):=fun y hy=>by
  rcases hb with e|e
  · rw[e];exact hoth y hy
  · cases hyb:y.v.ownBlock with
    | none=>exact .inl rfl
    | some b =>
      refine .inr (fun hh=>?_);rw[e]at hh;injection hh with hh;have hm:y∈ys++x::zs:=by
       rcases List.mem_append.1 hy with hy|hy
       · exact List.mem_append_left _ hy
       · exact List.mem_append_right _ (List.mem_cons_of_mem _ hy)
      have:=((h1.left y hm).lt b hyb).2;omega
 have hleft:∀y∈ys++zs,(w'.setCell ⟨g,ys.length*4+3,none⟩ v').ownsRow B 3 1 y.v y.p.left.length (nts y.p.left):=fun y hy=>by
  have hm:y∈ys++x::zs:=by
   rcases List.mem_append.1 hy with hy|hy
   · exact List.mem_append_left _ hy
   · exact List.mem_append_right _ (List.mem_cons_of_mem _ hy)
  exact hfar ((h1.left y hm).kept hg (hoth y hy))
 refine⟨(zn_ h1.rec_ hxm (by decide) hg).far (by simp only;omega) _,?_,h.len,by simp,?_,fun y hy=>?_,?_,h.lo,by have:=h.few;simpa using this,h.deep,fun y hy=>?_,h.big,by rw[yu_];exact Nat.le_trans h1.room hg.size⟩
 · refine zb_.far ?_ (by simp only;omega) _;unfold zb_;rw[hg.block gt h1.to_.lt (fun hc=>by have:=(hxm.lt gt hc.symm).1;omega)];exact h1.to_
 · have ho2:=v7_ (j:=ys.length*4+3) (u:=v') hopen;have e1:(ys++(⟨⟨x.p.loop,x.p.at_,x.p.waits,x.p.left++[i]⟩,v'⟩:PV)::zs).length=(ys++x::zs).length:=(by simp);have e2:(ki_ (ys++x::zs)).set (ys.length*4+3) v'=ki_ (ys++⟨⟨x.p.loop,x.p.at_,x.p.waits,x.p.left++[i]⟩,v'⟩::zs):=(by
    rw[vq_,vq_,ki_,ki_,List.set_append_right _ _ (by rw[v8_];omega),v8_];rw[show ys.length*4+3-ys.length*4=3 by omega];rfl);rw[e1,<-e2];exact ho2
 · rcases List.mem_append.1 hy with hy|hy
   · exact hleft y (List.mem_append_left _ hy)
   · rcases List.mem_cons.1 hy with rfl|hy
     · have:=hfar ho;simp only[znK,List.length_append,List.length_cons,List.length_nil];exact this
     · exact hleft y (List.mem_append_right _ hy)
 · have hp:=h.apart;rw[List.pairwise_append,List.pairwise_cons]at hp⊢;refine⟨hp.1,⟨fun z hz=>?_,hp.2.1.2⟩,fun y hy z hz=>?_⟩
   · rcases hnew z (List.mem_append_right _ hz) with h|h
     · cases hvb:v'.ownBlock with
       | none=>exact .inl (by simp)
       | some b=>exact .inr (by simp[h])
     · exact .inr (Ne.symm h)
   · rcases List.mem_cons.1 hz with rfl|hz
     · exact hnew y (List.mem_append_left _ hy)
     · exact hp.2.2 y hy z (List.mem_cons_of_mem _ hz)
 · rcases List.mem_append.1 hy with hy|hy
   · exact h.wf y (List.mem_append_left _ hy)
   · rcases List.mem_cons.1 hy with rfl|hy
     · have:=h.wf x (by simp);refine⟨this.1,this.2.1,by simp only[List.length_append,List.length_cons,List.length_nil];omega,fun j hj=>?_⟩;rcases List.mem_append.1 hj with hj|hj
       · exact this.2.2.2 j hj
       · simp only[List.mem_cons,List.not_mem_nil,or_false]at hj;rw[hj];exact hi
     · exact h.wf y (by simp[hy])
theorem zlh {xs:List PV}(h:Mt W gm gt B n m vo xs)(hn:∀x∈xs,x.p.loop=false)(i:Nat):Calls Tryz.prog 177 #[.pointer (some ⟨gm,0,none⟩),.int .i64 (i:Int)] W (yd_ false W):=by
 have c2:=h.rec_.cell 2;obtain⟨A,c,rfl,hc1,hc2,_⟩:=zh_ h.own;have H:=hQ_ h;have HN:=hQ_ hn;have hfew:=h.few;obtain⟨q,hq⟩:∃q,q=xs.length:=⟨_,rfl⟩;rw[<-hq]at c2 hfew hc1;have HQ:=hQ_ hq;clear h hn hq;have hsub:∀k:Nat,k<=17->IntKind.i64.wrap ((k:Int)-1)=(k:Int)-1:=fun k hk=>IntWalk.i64_in _ (by omega);have hsq:=hsub q (by omega);have HSUB:=hQ_ hsub;clear hsub;go_enter Tryz.func177,Tryz.ntmps177;go_wp2_with fail;go_loop [5] (fun s=>∃k:Nat,k<=q/\s=.int .i64 ((k:Int)-1)) (fun s=>(intOf s+1).toNat);case atStart=>exact⟨q,Nat.le_refl _,rfl⟩
 case round =>
  obtain⟨k,hk,rfl⟩:=hrel;by_cases hlt:0<k
  · obtain⟨j,rfl⟩:∃j,k=j+1:=⟨k-1,by omega⟩;have he:((j+1:Nat):Int)-1=(j:Int):=(by omega);rw[he];have hj0:(0:Int)<=(j:Int):=(by omega);have hj1:(j:Int)<(q:Int):=(by omega);have hjx:j<xs.length:=(by rw[<-HQ.o];omega);have hlp:=HN.o xs[j] (List.getElem_mem hjx);obtain⟨g,rfl,j0⟩:=zv_ H.o.own (by rw[<-HQ.o]) ((y4_ xs j xs[j] 0 (List.getElem?_eq_getElem hjx) (by omega)).trans (show(pvC xs[j])[0]?=some (.bool xs[j].p.loop) from rfl));rw[Nat.add_zero,hlp]at j0;have hsj:=HSUB.o j (by omega);clear hlp hsq;go_wp2_with fail;go_round;(case rel=>exact⟨j,by omega,rfl⟩);case measure=>simp[intOf]
  · obtain rfl:k=0:=(by omega);have hz:¬(0:Int)<=((0:Nat):Int)-1:=(by omega);go_wp2_with fail;go_ret;exact⟨rfl,Chg.refl _ _⟩
theorem zhV {ys zs:List PV} {x:PV} (h:Mt W gm gt B n m vo (ys++x::zs)) (hl:x.p.loop=true) (hn:∀z∈zs,z.p.loop=false) (i:Nat) (hi:i<n) (hfl:x.p.left.length<n):Calls Tryz.prog 177 #[.pointer (some ⟨gm,0,none⟩),.int .i64 (i:Int)] W
    (vZ_ gm gt B n ⟨m.tO,m.deep,(zs.map (·.p)).reverse++⟨x.p.loop,x.p.at_,x.p.waits,x.p.left++[i]⟩::(ys.map (·.p)).reverse⟩ W):=by
      have HHL:=hQ_ hl;clear hl;have c2:=h.rec_.cell 2;obtain⟨A,c,rfl,hc1,hc2,_⟩:=zh_ h.own;have H:=hQ_ h;have HN:=hQ_ hn;obtain⟨i0,hi0,hz0,hz1,hz2⟩:=info_parts gD_;have hfew:=h.few;obtain⟨q,hq⟩:∃q,q=(ys++x::zs).length:=⟨_,rfl⟩;obtain⟨b,hb⟩:∃b,b=ys.length:=⟨_,rfl⟩;have hbq:b<q:=(by rw[hb,hq];simp);have hxb:(ys++x::zs)[b]?=some x:=(by rw[hb];simp);have hzs:∀(j:Nat) (hj:j<(ys++x::zs).length),b<j->((ys++x::zs)[j]).p.loop=false:=fun j hj hbj=>(by
       have:(ys++x::zs)[j]∈zs:=(by
        rw[List.getElem_append_right (by omega)];obtain⟨d,hd⟩:∃d,j-ys.length=d+1:=⟨j-ys.length-1,by omega⟩;simp only[hd,List.getElem_cons_succ];exact List.getElem_mem _);exact hn _ this);rw[<-hq]at c2 hfew hc1;have HQ:=hQ_ hq;have HBB:=hQ_ hb;have HXB:=hQ_ hxb;have HZS:=hQ_ hzs;clear h hn hq hb hxb hzs;have hsub:∀k:Nat,k<=17->IntKind.i64.wrap ((k:Int)-1)=(k:Int)-1:=fun k hk=>IntWalk.i64_in _ (by omega);have hsq:=hsub q (by omega);have HSUB:=hQ_ hsub;clear hsub;go_enter Tryz.func177,Tryz.ntmps177;go_wp2_with fail;go_loop [5] (fun s=>∃k:Nat,k<=q/\b<k/\s=.int .i64 ((k:Int)-1)) (fun s=>(intOf s+1).toNat);(case atStart=>exact⟨q,Nat.le_refl _,hbq,rfl⟩);case round =>
       obtain⟨k,hk,hbk,rfl⟩:=hrel;obtain⟨j,rfl⟩:∃j,k=j+1:=⟨k-1,by omega⟩;have he:((j+1:Nat):Int)-1=(j:Int):=(by omega);rw[he];have hj0:(0:Int)<=(j:Int):=(by omega);have hj1:(j:Int)<(q:Int):=(by omega);by_cases hlt:b<j
       · have hjx:j<(ys++x::zs).length:=(by rw[<-HQ.o];omega);have hlp:=HZS.o j hjx hlt;obtain⟨g,rfl,j0⟩:=zv_ H.o.own (by rw[<-HQ.o]) ((y4_ _ j (ys++x::zs)[j] 0 (List.getElem?_eq_getElem hjx) (by omega)).trans (show(pvC (ys++x::zs)[j])[0]?=some (.bool (ys++x::zs)[j].p.loop) from rfl));rw[Nat.add_zero,hlp]at j0;have hsj:=HSUB.o j (by omega);clear hlp hsq;go_wp2_with fail;go_round;(case rel=>exact⟨j,by omega,by omega,rfl⟩);case measure=>simp[intOf]
       · obtain rfl:b=j:=(by omega);obtain⟨g,rfl,j0⟩:=zv_ H.o.own (by rw[<-HQ.o]) ((y4_ _ b x 0 HXB.o (by omega)).trans (show(pvC x)[0]?=some (.bool x.p.loop) from rfl));obtain⟨g',e,j3⟩:=zv_ H.o.own (by rw[<-HQ.o]) ((y4_ _ b x 3 HXB.o (by omega)).trans (show(pvC x)[3]?=some x.v from rfl));injection e with e;injection e with e;subst e;rw[Nat.add_zero,HHL.o]at j0;have hxm:=H.o.left x (by simp);obtain⟨Av,cv,e,_⟩:=zr_ hxm;rw[e]at j3 hxm;have HE:=hQ_ e;have HXM:=hQ_ hxm;have hLL:=(H.o.wf x (by simp)).2.2.1;have hbig:=H.o.big;have hBW:B<=W.heap.size:=Nat.le_trans (H.o.own.lt g rfl).1 (Nat.le_of_lt (H.o.own.lt g rfl).2);clear e hxm hsq;have q3:(W.alloc (.cells #[.int .i64 (i:Int)] 3)).cell? ⟨g,b*4+3,none⟩=some (.slice Av x.p.left.length cv):=zd_ j3 ((Chg.refl [] W).alloc _);have q2:(W.alloc (.cells #[.int .i64 (i:Int)] 3)).cell? ⟨gm,2,none⟩=some (.slice (some ⟨g,0,none⟩) q c):=zd_ (by simpa using c2) ((Chg.refl [] W).alloc _);go_wp2_with fail;go_region_law (
           (refine kl_ rfl (.tmp 36) (.tmp 38) 126 rfl B 3 i0 _ 8 Tryz.underlying126 hi0 hz0 hz1 hz2 rfl (.slice Av x.p.left.length cv) x.p.left.length (nts x.p.left) rfl (zk_ HXM.o (((Chg.refl [] W).alloc _).drew)) (some ⟨W.heap.size,0,none⟩) 1 1 [.int .i64 (i:Int)] rfl rfl ((Src.of_all (zb_.new W 3 [.int .i64 (i:Int)])).drew) (by simp[Value.oneCell']) (by unfold maxLen;omega) (by omega) (by simp;omega) ?_;intro v' w' ho hg hwb;obtain⟨A',c',rfl,_⟩:=zr_ ho;have HO:=hQ_ ho;have HGR:=hQ_ hg;have HAL:=hQ_ (show Chg [] W (W.alloc (.cells #[.int .i64 (i:Int)] 3)).drew from((Chg.refl [] W).alloc _).drew);have HO2:=hQ_ (yj_ (ze_ H.o.own HAL.o) (zk_ HXM.o HAL.o) (by decide) hg);obtain⟨g',e,k3⟩:=zv_ HO2.o (by rw[<-HQ.o]) ((y4_ _ b x 3 HXB.o (by omega)).trans (show(pvC x)[3]?=some x.v from rfl));injection e with e;injection e with e;subst e;have kf:w'.frozen? ⟨g,b*4+3,none⟩=false:=(by
             have h:=HO2.o;rw[<-HQ.o]at h;exact y0_ h);have k2:w'.cell? ⟨gm,2,none⟩=some (.slice (some ⟨g,0,none⟩) q c):=(by
             have h:=(zn_ (H.o.rec_.keep HAL.o) (zk_ HXM.o HAL.o) (by decide) hg).cell 2;rw[<-HQ.o]at h;simpa using h);have HWB:=hQ_ hwb;have hsv:(∀j,w'.heap.size=j->True):=fun _ _=>trivial;clear ho hg hwb hsv));all_goals
           have HM:=hQ_ (H.o.leave rfl hi hfl HAL.o HO.o (by rw[HE.o];exact HGR.o) (by rw[HE.o];exact HWB.o));rw[<-HBB.o]at HM;have HL:=hQ_ (show Lo B [gm,gt] W (w'.setCell ⟨g,b*4+3,none⟩ (.slice A' (x.p.left.length+1) c')) from((Lo.of_chg HAL.o (by simp)).trans (Lo.of_grown (zk_ HXM.o HAL.o) (Nat.le_refl _) HGR.o)).trans (Lo.of_chg ((Chg.refl [g] w').setCell (p:=⟨g,b*4+3,none⟩) (by simp) _) (by have:=(H.o.own.lt g rfl).1;simp;omega)));generalize w'.setCell ⟨g,b*4+3,none⟩ (.slice A' (x.p.left.length+1) c')=w9 at HM HL⊢;clear k2 k3 kf;go_wp2_with fail;go_ret;exact⟨rfl,⟨_,_,HM.o⟩,HL.o⟩
end
end
section
open Go.RowKit
section
variable {W:World} {gm gt B n:Nat} {m:NSt} {vo:Value} {xs:List PV}
theorem Mt.push {W1 w':World}{v':Value}{lp:Bool}{i:Nat}(h:Mt W gm gt B n m vo xs)(hc:Chg [] W W1)(hi:i<n)(hn:xs.length<16)
    (ho:w'.ownsRow B 265 4 v' (xs.length+1) (ki_ xs++[.bool lp,.int .i64 (i:Int),.int .i64 (i:Int),.slice none 0 0])) (hg:W1.grownBy w' vo.ownBlock) :
    Mt (w'.setCell ⟨gm,2,none⟩ v') gm gt B n ⟨m.tO,m.deep,⟨lp,i,i,[]⟩::m.op⟩ v' (xs++[⟨⟨lp,i,i,[]⟩,.slice none 0 0⟩]):=by
 have h1:=h.keep hc;have hlo:=h.lo;have hown:∀{e k q:Nat}{v:Value}{cs:List Value},w'.ownsRow B e k v q cs->v.ownBlock≠some gm:=fun ho hc=>by
  have:=(ho.lt gm hc).1;omega
 have hw:zb_ w' gm 244 [.slice (some ⟨gt,0,none⟩) n n,.int .i64 (m.deep:Int),vo]:=zn_ h1.rec_ h1.own (by decide) hg;refine⟨?_,(zn_ h1.to_ h1.own (by decide) hg).far (by simp only;omega) _,h.len,by rw[h.op];simp,?_,fun y hy=>?_,?_,h.lo,by simp;omega,h.deep,fun y hy=>?_,h.big,by rw[yu_];exact Nat.le_trans h1.room hg.size⟩
 · have:=hw.set_ 2 v';simpa using this
 · have ho2:=zG_ (u:=v') (p:=⟨gm,2,none⟩) ho (hown ho);rw[List.length_append,vq_,gt_];exact ho2
 · rcases List.mem_append.1 hy with hy|hy
   · have:=yj_ (h1.left y hy) h1.own (by decide) hg;exact zG_ this (hown this)
   · simp only[List.mem_cons,List.not_mem_nil,or_false]at hy;subst hy;exact⟨rfl,.inl ⟨rfl,rfl⟩⟩
 · rw[List.pairwise_append];refine⟨h.apart,List.pairwise_singleton _ _,fun y hy z hz=>?_⟩;simp only[List.mem_cons,List.not_mem_nil,or_false]at hz;subst hz;cases hy2:y.v.ownBlock with
   | none=>exact .inl rfl
   | some b=>exact .inr (by simp[Value.ownBlock])
 · rcases List.mem_append.1 hy with hy|hy
   · exact h.wf y hy
   · simp only[List.mem_cons,List.not_mem_nil,or_false]at hy;subst hy;exact⟨hi,hi,Nat.zero_le _,fun j hj=>by cases hj⟩
theorem Mt.deeper (h:Mt W gm gt B n m vo xs)(d:Nat)(hd:d<=16):Mt (W.setCell ⟨gm,1,none⟩ (.int .i64 (d:Int))) gm gt B n ⟨m.tO,d,m.op⟩ vo xs:=by
 have hlo:=h.lo;have hown:∀{e k q:Nat}{v:Value}{cs:List Value},W.ownsRow B e k v q cs->v.ownBlock≠some gm:=fun ho hc=>by
  have:=(ho.lt gm hc).1;omega
 refine { h with rec_:=?_,to_:=h.to_.far (by simp only;omega) _,own:=zG_ h.own (hown h.own),left:=fun y hy=>zG_ (h.left y hy) (hown (h.left y hy)),deep:=hd,room:=by rw[yu_];exact h.room };have:=h.rec_.set_ 1 (.int .i64 (d:Int));simpa using this
theorem zaX:(Tryz.prog.info? 265).map (fun i=>(i.zero,i.size,i.bytes))=some (some (.agg #[.bool false,.int .i64 0,.int .i64 0,.slice none 0 0]),4,48):=by kernel_rfl
def ys_ (gm gt B n i:Nat)(s:Int)(m:NSt)(W:World)(e:Ending)(w':World):Prop :=
 (∃m',yX_ i s m=some m'/\vZ_ gm gt B n m' W e w')\/(yX_ i s m=none/\e=.returned (.bool false)/\Lo B [gm,gt] W w')
theorem zna (h:Mt W gm gt B n m vo xs)(i:Nat)(hi:i<n):Calls Tryz.prog 154 #[.pointer (some ⟨gm,0,none⟩),.int .i64 (i:Int),.int .i32 63] W (ys_ gm gt B n i 63 m W):=by
 obtain⟨i0,hi0,hz0,hz1,hz2⟩:=info_parts zaX;have hBW:=h.room;obtain⟨A,c,rfl,hc1,hc2,_⟩:=zh_ h.own;have c2:=h.rec_.cell 2;have hfew:=h.few;have hop:m.op.length=xs.length:=by rw[h.op];simp
 have hdp:=h.deep;have H:=hQ_ h;obtain⟨q,hq⟩:∃q,q=xs.length:=⟨_,rfl⟩;rw[<-hq]at c2 hfew hc1;have HQ:=hQ_ hq;have HOP:=hQ_ hop;have HDP:=hQ_ hdp;have hal:Chg [] W (W.alloc (.cells #[.bool false,.int .i64 (i:Int),.int .i64 (i:Int),.slice none 0 0] 265)):=(Chg.refl [] W).alloc _;have HAL:=hQ_ hal;have HO1:=hQ_ (show(W.alloc (.cells #[.bool false,.int .i64 (i:Int),.int .i64 (i:Int),.slice none 0 0] 265)).ownsRow B 265 4 (.slice A q c) q (ki_ xs) from by
  have h:=ze_ H.o.own hal;rw[<-hq]at h;exact h);have q2:(W.alloc (.cells #[.bool false,.int .i64 (i:Int),.int .i64 (i:Int),.slice none 0 0] 265)).cell? ⟨gm,2,none⟩=some (.slice A q c):=zd_ (by simpa using c2) hal;clear h hq hop hdp hal;go_enter Tryz.func154,Tryz.ntmps154;go_wp2_with (
  at_builtin;refine wpList_append_own _ rfl (.tmp 15) (.tmp 21) _ rfl B 265 i0 _ 4 48 Tryz.underlying242 hi0 hz0 hz1 hz2 rfl (by decide) (.slice A q c) q (ki_ xs) rfl HO1.o ⟨W.heap.size,0,none⟩ 1 1 [.bool false,.int .i64 (i:Int),.int .i64 (i:Int),.slice none 0 0] rfl rfl ?c1 ?c2 ?c3 ?c4 ?c5 ?_;case c1=>exact zL_ _ _ _
  case c2=>simp[Value.oneCell']
  case c3=>simp only[maxLen];omega
  case c4=>omega
  case c5=>simp;omega
  intro v' w6 ho6 hg6 _;obtain⟨A6,c6,rfl,hc61,_,_⟩:=zh_ ho6;have HO6:=hQ_ ho6;have HG6:=hQ_ hg6;have HW6:=hQ_ (zn_ (H.o.rec_.keep HAL.o) HO1.o (by decide) hg6);have k2:w6.cell? ⟨gm,2,none⟩=some (.slice A q c):=by
   have h:=HW6.o.cell 2;rw[<-HQ.o]at h;simpa using h
  have f2:=HW6.o.frozen 2;clear ho6 hg6);go_upto_region 5 with fail;have HW7:=hQ_ (HW6.o.set_ 2 (.slice A6 (q+1) c6));simp only[List.set_cons_zero,List.set_cons_succ]at HW7;have HL7:=hQ_ (show Lo B [gm,gt] W (w6.setCell ⟨gm,2,none⟩ (.slice A6 (q+1) c6)) from((Lo.of_chg HAL.o (by simp)).trans (Lo.of_grown HO1.o (Nat.le_refl _) HG6.o)).trans (Lo.of_chg ((Chg.refl [gm] w6).setCell (p:=⟨gm,2,none⟩) (by simp) _) (by simp)));have HM7:=hQ_ (fun hq16:xs.length<16=>show Mt (w6.setCell ⟨gm,2,none⟩ (.slice A6 (q+1) c6)) gm gt B n ⟨m.tO,m.deep,⟨false,i,i,[]⟩::m.op⟩ (.slice A6 (q+1) c6) (xs++[⟨⟨false,i,i,[]⟩,.slice none 0 0⟩]) from H.o.push HAL.o hi hq16 (by rw[<-HQ.o];exact HO6.o) (by rw[<-HQ.o];exact HG6.o));generalize w6.setCell ⟨gm,2,none⟩ (.slice A6 (q+1) c6)=w7 at HW7 HL7 HM7⊢;clear k2 f2 c2 q2;have k1:=HW7.o.cell 1;have k2:=HW7.o.cell 2;have f1:=HW7.o.frozen 1;go_wp2_with fail;go_region;have hmx:max (m.deep:Int) ((q:Int)+1)=((max m.deep (q+1):Nat):Int):=by omega
 rw[hmx];clear hmx;have HL8:=hQ_ (show Lo B [gm,gt] W (w7.setCell ⟨gm,1,none⟩ (.int .i64 ((max m.deep (q+1):Nat):Int))).drew from HL7.o.trans (Lo.of_chg ((Chg.refl [gm] w7).setCell (p:=⟨gm,1,none⟩) (by simp) _).drew (by simp)));have HW8:=hQ_ (HW7.o.set_ 1 (.int .i64 ((max m.deep (q+1):Nat):Int))).drew;have HM8:=hQ_ (fun hq16:xs.length<16=>(((HM7.o hq16).deeper (max m.deep (q+1)) (by have:=HDP.o;have:=HQ.o;omega)).keep (Chg.refl [] _).drew));generalize (w7.setCell ⟨gm,1,none⟩ (.int .i64 ((max m.deep (q+1):Nat):Int))).drew=w8 at HL8 HW8 HM8⊢;clear k1 k2 f1;have k2:=HW8.o.cell 2;by_cases hq16:q<16
 · have hle:(q:Int)+1<=16:=(by omega);have HPO:=hQ_ (show ys_ gm gt B n i 63 m W (.returned (.bool true)) w8 from .inl ⟨_,by unfold yX_;rw[if_pos (by decide),HOP.o,<-HQ.o,if_pos (by omega)];rfl,rfl,⟨_,_,HM8.o (by rw[<-HQ.o];exact hq16)⟩,HL8.o⟩);go_wp2_with fail;go_ret;exact HPO.o
 · have hle:¬(q:Int)+1<=16:=(by omega);have HPO:=hQ_ (show ys_ gm gt B n i 63 m W (.returned (.bool false)) w8 from .inr ⟨by unfold yX_;rw[if_pos (by decide),HOP.o,<-HQ.o,if_neg (by omega)],rfl,HL8.o⟩);go_wp2_with fail;go_ret;exact HPO.o
theorem zgt (h:Mt W gm gt B n m vo xs)(i:Nat)(hi:i<n):Calls Tryz.prog 154 #[.pointer (some ⟨gm,0,none⟩),.int .i64 (i:Int),.int .i32 91] W (ys_ gm gt B n i 91 m W):=by
 obtain⟨i0,hi0,hz0,hz1,hz2⟩:=info_parts zaX;have hBW:=h.room;obtain⟨A,c,rfl,hc1,hc2,_⟩:=zh_ h.own;have c2:=h.rec_.cell 2;have hfew:=h.few;have hop:m.op.length=xs.length:=by rw[h.op];simp
 have hdp:=h.deep;have H:=hQ_ h;obtain⟨q,hq⟩:∃q,q=xs.length:=⟨_,rfl⟩;rw[<-hq]at c2 hfew hc1;have HQ:=hQ_ hq;have HOP:=hQ_ hop;have HDP:=hQ_ hdp;have hal:Chg [] W (W.alloc (.cells #[.bool true,.int .i64 (i:Int),.int .i64 (i:Int),.slice none 0 0] 265)):=(Chg.refl [] W).alloc _;have HAL:=hQ_ hal;have HO1:=hQ_ (show(W.alloc (.cells #[.bool true,.int .i64 (i:Int),.int .i64 (i:Int),.slice none 0 0] 265)).ownsRow B 265 4 (.slice A q c) q (ki_ xs) from by
  have h:=ze_ H.o.own hal;rw[<-hq]at h;exact h);have q2:(W.alloc (.cells #[.bool true,.int .i64 (i:Int),.int .i64 (i:Int),.slice none 0 0] 265)).cell? ⟨gm,2,none⟩=some (.slice A q c):=zd_ (by simpa using c2) hal;clear h hq hop hdp hal;go_enter Tryz.func154,Tryz.ntmps154;go_wp2_with (
  at_builtin;refine wpList_append_own _ rfl (.tmp 15) (.tmp 21) _ rfl B 265 i0 _ 4 48 Tryz.underlying242 hi0 hz0 hz1 hz2 rfl (by decide) (.slice A q c) q (ki_ xs) rfl HO1.o ⟨W.heap.size,0,none⟩ 1 1 [.bool true,.int .i64 (i:Int),.int .i64 (i:Int),.slice none 0 0] rfl rfl ?c1 ?c2 ?c3 ?c4 ?c5 ?_;case c1=>exact zL_ _ _ _
  case c2=>simp[Value.oneCell']
  case c3=>simp only[maxLen];omega
  case c4=>omega
  case c5=>simp;omega
  intro v' w6 ho6 hg6 _;obtain⟨A6,c6,rfl,hc61,_,_⟩:=zh_ ho6;have HO6:=hQ_ ho6;have HG6:=hQ_ hg6;have HW6:=hQ_ (zn_ (H.o.rec_.keep HAL.o) HO1.o (by decide) hg6);have k2:w6.cell? ⟨gm,2,none⟩=some (.slice A q c):=by
   have h:=HW6.o.cell 2;rw[<-HQ.o]at h;simpa using h
  have f2:=HW6.o.frozen 2;clear ho6 hg6);go_upto_region 5 with fail;have HW7:=hQ_ (HW6.o.set_ 2 (.slice A6 (q+1) c6));simp only[List.set_cons_zero,List.set_cons_succ]at HW7;have HL7:=hQ_ (show Lo B [gm,gt] W (w6.setCell ⟨gm,2,none⟩ (.slice A6 (q+1) c6)) from((Lo.of_chg HAL.o (by simp)).trans (Lo.of_grown HO1.o (Nat.le_refl _) HG6.o)).trans (Lo.of_chg ((Chg.refl [gm] w6).setCell (p:=⟨gm,2,none⟩) (by simp) _) (by simp)));have HM7:=hQ_ (fun hq16:xs.length<16=>show Mt (w6.setCell ⟨gm,2,none⟩ (.slice A6 (q+1) c6)) gm gt B n ⟨m.tO,m.deep,⟨true,i,i,[]⟩::m.op⟩ (.slice A6 (q+1) c6) (xs++[⟨⟨true,i,i,[]⟩,.slice none 0 0⟩]) from H.o.push HAL.o hi hq16 (by rw[<-HQ.o];exact HO6.o) (by rw[<-HQ.o];exact HG6.o));generalize w6.setCell ⟨gm,2,none⟩ (.slice A6 (q+1) c6)=w7 at HW7 HL7 HM7⊢;clear k2 f2 c2 q2;have k1:=HW7.o.cell 1;have k2:=HW7.o.cell 2;have f1:=HW7.o.frozen 1;go_wp2_with fail;go_region;have hmx:max (m.deep:Int) ((q:Int)+1)=((max m.deep (q+1):Nat):Int):=by omega
 rw[hmx];clear hmx;have HL8:=hQ_ (show Lo B [gm,gt] W (w7.setCell ⟨gm,1,none⟩ (.int .i64 ((max m.deep (q+1):Nat):Int))).drew from HL7.o.trans (Lo.of_chg ((Chg.refl [gm] w7).setCell (p:=⟨gm,1,none⟩) (by simp) _).drew (by simp)));have HW8:=hQ_ (HW7.o.set_ 1 (.int .i64 ((max m.deep (q+1):Nat):Int))).drew;have HM8:=hQ_ (fun hq16:xs.length<16=>(((HM7.o hq16).deeper (max m.deep (q+1)) (by have:=HDP.o;have:=HQ.o;omega)).keep (Chg.refl [] _).drew));generalize (w7.setCell ⟨gm,1,none⟩ (.int .i64 ((max m.deep (q+1):Nat):Int))).drew=w8 at HL8 HW8 HM8⊢;clear k1 k2 f1;have k2:=HW8.o.cell 2;by_cases hq16:q<16
 · have hle:(q:Int)+1<=16:=(by omega);have HPO:=hQ_ (show ys_ gm gt B n i 91 m W (.returned (.bool true)) w8 from .inl ⟨_,by unfold yX_;rw[if_pos (by decide),HOP.o,<-HQ.o,if_pos (by omega)];rfl,rfl,⟨_,_,HM8.o (by rw[<-HQ.o];exact hq16)⟩,HL8.o⟩);go_wp2_with fail;go_ret;exact HPO.o
 · have hle:¬(q:Int)+1<=16:=(by omega);have HPO:=hQ_ (show ys_ gm gt B n i 91 m W (.returned (.bool false)) w8 from .inr ⟨by unfold yX_;rw[if_pos (by decide),HOP.o,<-HQ.o,if_neg (by omega)],rfl,HL8.o⟩);go_wp2_with fail;go_ret;exact HPO.o
theorem zeI {i:Nat}{Q:Bool->World->Prop}(h:Calls Tryz.prog 174 #[.pointer (some ⟨gm,0,none⟩),.int .i64 (i:Int)] W fun e w'=>∃b,e=.returned (.bool b)/\Hid (Q b w')) :
    Calls Tryz.prog 154 #[.pointer (some ⟨gm,0,none⟩),.int .i64 (i:Int),.int .i32 58] W fun e w'=>∃b,e=.returned (.bool b)/\Hid (Q b w'):=by
 go_enter Tryz.func154,Tryz.ntmps154;go_wp2_with fail;refine h.mono ?_;rintro e w1 ⟨b,rfl,hq⟩;clear h;go_wp2_with fail;go_ret;exact⟨_,rfl,hq⟩
theorem zeJ {i:Nat}{Q:Bool->World->Prop}(h:Calls Tryz.prog 175 #[.pointer (some ⟨gm,0,none⟩),.int .i64 (i:Int)] W fun e w'=>∃b,e=.returned (.bool b)/\Hid (Q b w')) :
    Calls Tryz.prog 154 #[.pointer (some ⟨gm,0,none⟩),.int .i64 (i:Int),.int .i32 59] W fun e w'=>∃b,e=.returned (.bool b)/\Hid (Q b w'):=by
 go_enter Tryz.func154,Tryz.ntmps154;go_wp2_with fail;refine h.mono ?_;rintro e w1 ⟨b,rfl,hq⟩;clear h;go_wp2_with fail;go_ret;exact⟨_,rfl,hq⟩
theorem zan {i:Nat}{Q:Bool->World->Prop}(h:Calls Tryz.prog 176 #[.pointer (some ⟨gm,0,none⟩),.int .i64 (i:Int)] W fun e w'=>∃b,e=.returned (.bool b)/\Hid (Q b w')) :
    Calls Tryz.prog 154 #[.pointer (some ⟨gm,0,none⟩),.int .i64 (i:Int),.int .i32 93] W fun e w'=>∃b,e=.returned (.bool b)/\Hid (Q b w'):=by
 go_enter Tryz.func154,Tryz.ntmps154;go_wp2_with fail;refine h.mono ?_;rintro e w1 ⟨b,rfl,hq⟩;clear h;go_wp2_with fail;go_ret;exact⟨_,rfl,hq⟩
theorem zeH {i:Nat}{Q:Bool->World->Prop}(h:Calls Tryz.prog 177 #[.pointer (some ⟨gm,0,none⟩),.int .i64 (i:Int)] W fun e w'=>∃b,e=.returned (.bool b)/\Hid (Q b w')) :
    Calls Tryz.prog 154 #[.pointer (some ⟨gm,0,none⟩),.int .i64 (i:Int),.int .i32 126] W fun e w'=>∃b,e=.returned (.bool b)/\Hid (Q b w'):=by
 go_enter Tryz.func154,Tryz.ntmps154;go_wp2_with fail;refine h.mono ?_;rintro e w1 ⟨b,rfl,hq⟩;clear h;go_wp2_with fail;go_ret;exact⟨_,rfl,hq⟩
theorem zeG {i:Nat}(s:Int)(h1:s≠63)(h2:s≠91)(h3:s≠58)(h4:s≠59)(h5:s≠93)(h6:s≠126) :
    Calls Tryz.prog 154 #[.pointer (some ⟨gm,0,none⟩),.int .i64 (i:Int),.int .i32 s] W fun e w'=>e=.returned (.bool true)/\W=w':=by
 have k1:(s==63)=false:=by simpa using h1
 have k2:(s==91)=false:=by simpa using h2
 have k3:(s==58)=false:=by simpa using h3
 have k4:(s==59)=false:=by simpa using h4
 have k5:(s==93)=false:=by simpa using h5
 have k6:(s==126)=false:=by simpa using h6
 clear h1 h2 h3 h4 h5 h6;go_enter Tryz.func154,Tryz.ntmps154;go_wp2_with fail;go_ret;exact⟨rfl,rfl⟩
def Few (i:Nat)(m:NSt):Prop:=∀p∈m.op,p.left.length<=i
theorem ziN {i:Nat}:∀{l o:List NPart},(∀p∈l,p.left.length<=i)->yL_ i l=some o->∀p∈o,p.left.length<=i+1:=fun {l o} h ho=>by
 obtain⟨a,p,r,rfl,_,_,rfl⟩:=k0_ ho;intro q hq;rcases List.mem_append.1 hq with hq|hq
 · have:=h q (List.mem_append_left _ hq);omega
 · rcases List.mem_cons.1 hq with rfl|hq
   · have:=h p (by simp);simp;omega
   · have:=h q (by simp[hq]);omega
theorem zlE {i:Nat}{s:Int}{m m':NSt}(h:Few i m)(ht:yX_ i s m=some m'):Few (i+1) m':=by
 have hm:∀p∈m.op,p.left.length<=i+1:=fun p hp=>by have:=h p hp;omega
 unfold yX_ at ht;split at ht
 · split at ht
   · injection ht with ht;subst ht;intro p hp;rcases List.mem_cons.1 hp with rfl|hp
     · simp
     · exact hm p hp
   · cases ht
 split at ht
 · split at ht
   · rename_i p r hop;split at ht
     · injection ht with ht;subst ht;intro q hq;rcases List.mem_cons.1 hq with rfl|hq
       · exact hm p (by rw[hop];simp)
       · exact hm q (by rw[hop];simp[hq])
     · cases ht
   · cases ht
 split at ht
 · split at ht
   · rename_i p r hop;split at ht
     · injection ht with ht;subst ht;exact fun q hq=>hm q (by rw[hop];simp only at hq;simp[hq])
     · cases ht
   · cases ht
 split at ht
 · split at ht
   · rename_i p r hop;split at ht
     · injection ht with ht;subst ht;exact fun q hq=>hm q (by rw[hop];simp only at hq;simp[hq])
     · cases ht
   · cases ht
 split at ht
 · cases ho:yL_ i m.op with
   | none=>rw[ho]at ht;cases ht
   | some o =>
     rw[ho]at ht;injection ht with ht;subst ht;exact ziN h ho
 · injection ht with ht;subst ht;exact hm
theorem kA_ {α:Type}(l:List α):l=[]\/∃ys x,l=ys++[x]:=by
 rcases List.eq_nil_or_concat l with h|⟨ys,x,h⟩
 · exact .inl h
 · exact .inr ⟨ys,x,by simpa using h⟩
theorem qY_:∀l:List PV,(∀x∈l,x.p.loop=false)\/∃ys x zs,l=ys++x::zs/\x.p.loop=true/\∀z∈zs,z.p.loop=false
  | []=>.inl fun x hx=>by cases hx
  | a :: l=>by
    rcases qY_ l with h|⟨ys,x,zs,rfl,h1,h2⟩
    · by_cases hl:a.p.loop=true
      · exact .inr ⟨[],a,l,rfl,hl,h⟩
      · refine .inl fun x hx=>?_;rcases List.mem_cons.1 hx with rfl|hx
        · simpa using hl
        · exact h x hx
    · exact .inr ⟨a::ys,x,zs,rfl,h1,h2⟩
theorem zkj (h:Mt W gm gt B n m vo xs) (i:Nat) (hi:i<n) (s:Int) (hf:Few i m):Calls Tryz.prog 154 #[.pointer (some ⟨gm,0,none⟩),.int .i64 (i:Int),.int .i32 s] W (ys_ gm gt B n i s m W):=by
 have hlo:∀{w':World},Chg [] W w'->Lo B [gm,gt] W w':=fun hc=>Lo.of_chg hc (by simp);by_cases s1:s=63
 · subst s1;exact zna h i hi
 by_cases s2:s=91
 · subst s2;exact zgt h i hi
 have e12:¬(s=63\/s=91):=by simp[s1,s2]
 have hop:=h.op;by_cases s3:s=58
 · subst s3;refine(zeI (Q:=fun b w'=>ys_ gm gt B n i 58 m W (.returned (.bool b)) w') ?_).mono fun e w' ⟨b,he,hq⟩=>(by rw[he];exact hq.out);rcases kA_ xs with rfl|⟨ys,x,rfl⟩
   · refine(zfn h i).mono fun e w' ⟨he,hc⟩=>⟨false,he,hQ_ (.inr ⟨?_,rfl,hlo hc⟩)⟩;simp only[List.map_nil,List.reverse_nil]at hop;unfold yX_;rw[if_neg e12,if_pos rfl,hop]
   · simp only[List.map_append,List.map_cons,List.map_nil,List.reverse_append,List.reverse_cons,List.reverse_nil,List.nil_append,List.cons_append]at hop;by_cases hc:x.p.loop=false/\x.p.waits=x.p.at_
     · refine(zio h hc.1 hc.2 i hi).mono fun e w' hp=>⟨true,hp.1,hQ_ (.inl ⟨_,?_,hp.1 ▸ hp⟩)⟩;unfold yX_;rw[if_neg e12,if_pos rfl,hop];simp only;rw[if_pos hc]
     · refine(zlu h (by
        by_cases hl:x.p.loop=true
        · exact .inl hl
        · exact .inr fun e=>hc ⟨by simpa using hl,e⟩) i).mono fun e w' ⟨he,hcc⟩=>⟨false,he,hQ_ (.inr ⟨?_,rfl,hlo hcc⟩)⟩;unfold yX_;rw[if_neg e12,if_pos rfl,hop];simp only;rw[if_neg hc]
 by_cases s4:s=59
 · subst s4;refine(zeJ (Q:=fun b w'=>ys_ gm gt B n i 59 m W (.returned (.bool b)) w') ?_).mono fun e w' ⟨b,he,hq⟩=>(by rw[he];exact hq.out);rcases kA_ xs with rfl|⟨ys,x,rfl⟩
   · refine(zfI h i).mono fun e w' ⟨he,hc⟩=>⟨false,he,hQ_ (.inr ⟨?_,rfl,hlo hc⟩)⟩;simp only[List.map_nil,List.reverse_nil]at hop;unfold yX_;rw[if_neg e12,if_neg s3,if_pos rfl,hop]
   · simp only[List.map_append,List.map_cons,List.map_nil,List.reverse_append,List.reverse_cons,List.reverse_nil,List.nil_append,List.cons_append]at hop;by_cases hc:x.p.loop=false
     · refine(ziT h hc i).mono fun e w' hp=>⟨true,hp.1,hQ_ (.inl ⟨_,?_,hp.1 ▸ hp⟩)⟩;unfold yX_;rw[if_neg e12,if_neg s3,if_pos rfl,hop];simp only;rw[if_pos hc]
     · refine(zlI h (by simpa using hc) i).mono fun e w' ⟨he,hcc⟩=>⟨false,he,hQ_ (.inr ⟨?_,rfl,hlo hcc⟩)⟩;unfold yX_;rw[if_neg e12,if_neg s3,if_pos rfl,hop];simp only;rw[if_neg hc]
 by_cases s5:s=93
 · subst s5;refine(zan (Q:=fun b w'=>ys_ gm gt B n i 93 m W (.returned (.bool b)) w') ?_).mono fun e w' ⟨b,he,hq⟩=>(by rw[he];exact hq.out);rcases kA_ xs with rfl|⟨ys,x,rfl⟩
   · refine(zbl h i).mono fun e w' ⟨he,hc⟩=>⟨false,he,hQ_ (.inr ⟨?_,rfl,hlo hc⟩)⟩;simp only[List.map_nil,List.reverse_nil]at hop;unfold yX_;rw[if_neg e12,if_neg s3,if_neg s4,if_pos rfl,hop]
   · simp only[List.map_append,List.map_cons,List.map_nil,List.reverse_append,List.reverse_cons,List.reverse_nil,List.nil_append,List.cons_append]at hop;by_cases hc:x.p.loop=true
     · refine(zcD h hc i hi).mono fun e w' hp=>⟨true,hp.1,hQ_ (.inl ⟨_,?_,hp.1 ▸ hp⟩)⟩;unfold yX_;rw[if_neg e12,if_neg s3,if_neg s4,if_pos rfl,hop];simp only;rw[if_pos hc]
     · refine(zfH h (by simpa using hc) i).mono fun e w' ⟨he,hcc⟩=>⟨false,he,hQ_ (.inr ⟨?_,rfl,hlo hcc⟩)⟩;unfold yX_;rw[if_neg e12,if_neg s3,if_neg s4,if_pos rfl,hop];simp only;rw[if_neg hc]
 by_cases s6:s=126
 · subst s6;refine(zeH (Q:=fun b w'=>ys_ gm gt B n i 126 m W (.returned (.bool b)) w') ?_).mono fun e w' ⟨b,he,hq⟩=>(by rw[he];exact hq.out);rcases qY_ xs with hno|⟨ys,x,zs,rfl,hx,hz⟩
   · refine(zlh h hno i).mono fun e w' ⟨he,hc⟩=>⟨false,he,hQ_ (.inr ⟨?_,rfl,hlo hc⟩)⟩;unfold yX_;rw[if_neg e12,if_neg s3,if_neg s4,if_neg s5,if_pos rfl,hop,zaR]
     · rfl
     · intro z hz;simp only[List.mem_reverse,List.mem_map]at hz;obtain⟨y,hy,rfl⟩:=hz;exact hno y hy
   · have hop2:m.op=(zs.map (·.p)).reverse++x.p::(ys.map (·.p)).reverse:=(by rw[hop];simp);have hfx:x.p.left.length<=i:=hf x.p (by rw[hop2];simp);refine(zhV h hx hz i hi (by omega)).mono fun e w' hp=>⟨true,hp.1,hQ_ (.inl ⟨_,?_,hp.1 ▸ hp⟩)⟩;unfold yX_;rw[if_neg e12,if_neg s3,if_neg s4,if_neg s5,if_pos rfl,hop2,q1_ i _ _ hx]
     · rfl
     · intro z hz2;simp only[List.mem_reverse,List.mem_map]at hz2;obtain⟨y,hy,rfl⟩:=hz2;exact hz y hy
 · refine(zeG s s1 s2 s3 s4 s5 s6).mono fun e w' ⟨he,hw⟩=>?_;subst hw;exact .inl ⟨m,by unfold yX_;rw[if_neg e12,if_neg s3,if_neg s4,if_neg s5,if_neg s6],he,⟨_,_,h⟩,Lo.refl _ _ _⟩
end
end
section
open Go.RowKit
theorem zhN (W:World)(n:Nat)(hn:n<=100000):(Instr.makeSlice 126 (.int .i64 (n:Int)) (.int .i64 (n:Int))).run Tryz.prog W=.ok (.slice (some ⟨W.heap.size,0,none⟩) n n) (W.alloc (.cells (nms (List.replicate n 0)).toArray 3)):=by
 obtain⟨i,hi,hz,hs1,hb⟩:=info_parts gD_;have:nms (List.replicate n 0)=List.replicate n (.int .i64 0):=by simp[nms]
 rw[this];exact x0_ 126 3 i (.int .i64 0) rfl Tryz.underlying126 hi hz hs1 n (by rw[hb];omega) (by omega) W
def qt_ (n:Nat)(r:Option (List Int×Nat))(W:World)(e:Ending)(w':World):Prop :=
 Chg [] W w'/\((∃t d g,r=some (t,d)/\t.length=n/\e=.returned (.tuple #[.slice (some ⟨g,0,none⟩) n n,.int .i64 (d:Int),.bool true])/\zb_ w' g 3 (nms t)/\d<=16) \/
   (r=none/\∃v d,e=.returned (.tuple #[v,.int .i64 d,.bool false])))
section
variable {W:World} {A:Option Addr} {n c:Nat} {l:List TkV}
theorem zhJ (h:Tks W A n c l):Calls Tryz.prog 131 #[.slice A n c] W (qt_ n (ky_ (yn_ l)) W):=by
 have hmax:=h.max;have hmk:=fun W:World=>zhN W n hmax;have H:=hQ_ h;have hsl:(yn_ l).length=n:=by unfold yn_;rw[List.length_map];exact h.len
 have HSL:=hQ_ hsl;clear h hsl;go_enter Tryz.func131,Tryz.ntmps131;go_upto_region 2 with fail;have hT:=zb_.new W 3 (nms (List.replicate n 0));have hc1:Chg [] W (W.alloc (.cells (nms (List.replicate n 0)).toArray 3)):=(Chg.refl [] W).alloc _;obtain⟨gt,hgt⟩:∃g,g=W.heap.size:=⟨_,rfl⟩;rw[<-hgt]at hT;have hsz:(W.alloc (.cells (nms (List.replicate n 0)).toArray 3)).heap.size=gt+1:=by rw[hgt];simp
 have hM:=zb_.new (W.alloc (.cells (nms (List.replicate n 0)).toArray 3)) 244 [.slice (some ⟨gt,0,none⟩) n n,.int .i64 0,.slice none 0 0];rw[hsz]at hM;have hal2:Chg [] (W.alloc (.cells (nms (List.replicate n 0)).toArray 3)) ((W.alloc (.cells (nms (List.replicate n 0)).toArray 3)).alloc (.cells #[.slice (some ⟨gt,0,none⟩) n n,.int .i64 0,.slice none 0 0] 244)):=(Chg.refl [] _).alloc _;have hT2:=hT.keep hal2;have hc2:=hc1.new hal2;have hsz2:((W.alloc (.cells (nms (List.replicate n 0)).toArray 3)).alloc (.cells #[.slice (some ⟨gt,0,none⟩) n n,.int .i64 0,.slice none 0 0] 244)).heap.size=gt+2:=by rw[hgt];simp
 rw[<-hgt];generalize (W.alloc (.cells (nms (List.replicate n 0)).toArray 3)).alloc (.cells #[.slice (some ⟨gt,0,none⟩) n n,.int .i64 0,.slice none 0 0] 244)=w2 at hM hT2 hc2 hsz2⊢;have HM0:=hQ_ (show Mt w2 (gt+1) gt (gt+2) n ⟨List.replicate (yn_ l).length 0,0,[]⟩ (.slice none 0 0) [] from
   ⟨hM,by rw[HSL.o];exact hT2,by rw[List.length_replicate];exact HSL.o,rfl,World.ownsRow_nil _ _ _ _,fun x hx=>(by cases hx),List.Pairwise.nil,by omega,by simp,by simp,fun x hx=>(by cases hx),hmax,by omega⟩);have HC2:=hQ_ hc2;have HGT:=hQ_ hgt;clear hT hc1 hsz hM hal2 hT2 hc2 hsz2 hgt hmk;go_wp2_with fail;go_loopw [6,7,14] (fun _ _ s wr=>∃k:Nat,k<=n/\s=.int .i64 (k:Int)/\(∃m vo xs,Hid (Mt wr (gt+1) gt (gt+2) n m vo xs)/\Few k m/\gA_ 0 (yn_ l) ⟨List.replicate (yn_ l).length 0,0,[]⟩=gA_ k ((yn_ l).drop k) m)/\Hid (Chg [] W wr)) (fun _ _ s _=>n-(intOf s).toNat);case atStart=>exact⟨0,Nat.zero_le _,rfl,⟨_,_,_,HM0,fun p hp=>(by cases hp),rfl⟩,HC2⟩
 case round =>
  obtain⟨k,hk,rfl,⟨m,vo,xs,HM,hfew,hrun⟩,HCr⟩:=hrel;have HF:=hQ_ hfew;have HRUN:=hQ_ hrun;clear hfew hrun;by_cases hlt:k<n
  · have hltI:(k:Int)<(n:Int):=(by omega);have hk0:(0:Int)<=(k:Int):=(by omega);have hkl:k<l.length:=(by rw[H.o.len];exact hlt);obtain⟨b,o,rfl,hb,t0,t1,t2⟩:=(H.o.keep HCr.o).cell (List.getElem?_eq_getElem hkl);have HS:=hQ_ (show(yn_ l).drop k=(l[k]).sign::(yn_ l).drop (k+1) from by
     rw[List.drop_eq_getElem_cons (by rw[HSL.o];exact hlt)];congr 1;simp[yn_]);generalize l[k]=t at t0 t1 t2 HS;obtain⟨ts,tn,tm⟩:=t;simp only at t0 t1 t2 HS;go_upto_region 5 with fail;have hal:Chg [] wr (wr.alloc (.cells #[.int .i32 ts,.int .i64 tn,.int .i32 tm] 132)):=(Chg.refl [] wr).alloc _;have hN:zb_ (wr.alloc (.cells #[.int .i32 ts,.int .i64 tn,.int .i32 tm] 132)) wr.heap.size 132 [.int .i32 ts,.int .i64 tn,.int .i32 tm]:=zb_.new wr 132 [.int .i32 ts,.int .i64 tn,.int .i32 tm];have hbt:gt<wr.heap.size:=HM.o.to_.lt;obtain⟨g7,hg7⟩:∃g,g=wr.heap.size:=⟨_,rfl⟩;rw[<-hg7]at hN hbt⊢;generalize wr.alloc (.cells #[.int .i32 ts,.int .i64 tn,.int .i32 tm] 132)=w3 at hal hN⊢;have HM3:=hQ_ (HM.o.keep hal);have HC3:=hQ_ (HCr.o.new hal);have HN3:=hQ_ hN;clear hal hN hg7 t0 t1 t2;have c0:=HM3.o.rec_.cell 0;have hkt:k<m.tO.length:=(by rw[HM3.o.len];exact hlt);have t0:w3.cell? ⟨gt,k,none⟩=some (.int .i64 (m.tO[k]'hkt)):=(HM3.o.to_.cell k).trans (j0_ _ _ hkt);have f0:=HM3.o.to_.frozen k;go_upto_region 6 with fail;have HM4:=hQ_ (HM3.o.poke k (-1));have HL4:=hQ_ (show Lo (gt+2) [gt+1,gt] w3 (w3.setCell ⟨gt,k,none⟩ (.int .i64 (-1))) from Lo.of_chg ((Chg.refl [gt] w3).setCell (p:=⟨gt,k,none⟩) (by simp) _) (by simp));have HC4:=hQ_ (HL4.o.chg HC3.o (by have:=HGT.o;omega) (by have:=HGT.o;simp;omega));have HN4:=hQ_ (HN3.o.far (p:=⟨gt,k,none⟩) (by simp only;omega) (.int .i64 (-1)));generalize w3.setCell ⟨gt,k,none⟩ (.int .i64 (-1))=w4 at HM4 HL4 HC4 HN4⊢;clear c0 t0 f0;have n0:=HN4.o.cell 0;go_wp2_with fail;refine(zkj HM4.o k hlt ts HF.o).mono ?_;rintro e w5 (⟨m',ht,rfl,⟨vo',xs',hM5⟩,hL5⟩|⟨ht,rfl,hL5⟩)
    · have HM5:=hQ_ hM5;have HF5:=hQ_ (zlE (m:=⟨m.tO.set k (-1),m.deep,m.op⟩) HF.o ht);have HR5:=hQ_ (show gA_ 0 (yn_ l) ⟨List.replicate (yn_ l).length 0,0,[]⟩=gA_ (k+1) ((yn_ l).drop (k+1)) m' from by rw[HRUN.o,HS.o,gA_,ht];rfl);have HC5:=hQ_ (hL5.chg HC4.o (by have:=HGT.o;omega) (by have:=HGT.o;simp;omega));clear hM5 hL5 ht n0;go_wp2_with fail;go_roundw;(case rel=>exact⟨k+1,by omega,by go_num,⟨_,_,_,HM5,HF5.o,HR5.o⟩,HC5⟩);case measure=>simp[intOf];omega
    · have HR5:=hQ_ (show ky_ (yn_ l)=none from by unfold ky_;rw[HRUN.o,HS.o,gA_,ht];rfl);have HC5:=hQ_ (hL5.chg HC4.o (by have:=HGT.o;omega) (by have:=HGT.o;simp;omega));have HPO:=hQ_ (show qt_ n (ky_ (yn_ l)) W (.returned (.tuple #[.slice none 0 0,.int .i64 0,.bool false])) w5 from⟨HC5.o,.inr ⟨HR5.o,_,_,rfl⟩⟩);clear hL5 ht n0;go_wp2_with fail;go_ret3;exact HPO.o
  · have hltI:¬(k:Int)<(n:Int):=(by omega);have HR5:=hQ_ (show gA_ 0 (yn_ l) ⟨List.replicate (yn_ l).length 0,0,[]⟩=some m from by rw[HRUN.o,List.drop_eq_nil_of_le (by rw[HSL.o];omega)];rfl);have c0:=HM.o.rec_.cell 0;have c1:=HM.o.rec_.cell 1;have c2:=HM.o.rec_.cell 2;obtain⟨Ao,co,rfl,_,_,_⟩:=zh_ HM.o.own;have hop:m.op.length=xs.length:=(by rw[HM.o.op];simp);obtain⟨q,hq⟩:∃q,q=xs.length:=⟨_,rfl⟩;rw[<-hq]at c2 hop;have HOP:=hQ_ hop;have hfq:=HM.o.few;rw[<-hq]at hfq;clear hop hq;have hdec:((q:Int)==0)=decide (q=0):=(by rw[Bool.eq_iff_iff];simp);go_wp2_with fail;go_quiet (fail);have HPO:=hQ_ (show qt_ n (ky_ (yn_ l)) W (.returned (.tuple #[.slice (some ⟨gt,0,none⟩) n n,.int .i64 (m.deep:Int),.bool (decide (q=0))])) (wr.drewN nq) from by
     refine⟨HCr.o.drewN _,?_⟩;by_cases h0:q=0
     · refine .inl ⟨m.tO,m.deep,gt,?_,HM.o.len,by simp[h0],(HM.o.to_.drewN _),HM.o.deep⟩;unfold ky_;have:m.op=[]:=List.eq_nil_of_length_eq_zero (by rw[HOP.o];exact h0);rw[HR5.o];simp[this]
     · refine .inr ⟨?_,_,_,by simp[h0];exact⟨rfl,rfl⟩⟩;unfold ky_;have:m.op≠[]:=fun e=>h0 (by rw[<-HOP.o,e];rfl);rw[HR5.o];simp[this]);go_wp2_with fail;go_ret3;exact HPO.o
end
end
section
open Go.RowKit
section
variable {W:World} {A:Option Addr} {n c gt:Nat} {l:List TkV} {t:List Int}
theorem Tks.sign (h:Tks W A n c l){k:Nat}{s:Int}(hk:(yn_ l)[k]?=some s):∃b o,A=some ⟨b,o,none⟩/\b<W.heap.size/\W.cell? ⟨b,o+k*3,none⟩=some (.int .i32 s):=by
 unfold yn_ at hk;rw[List.getElem?_map]at hk;cases hl:l[k]? with
 | none=>rw[hl]at hk;cases hk
 | some t =>
   rw[hl]at hk;injection hk with hk;subst hk;obtain⟨b,o,e,hb,h0,_,_⟩:=h.cell hl;exact⟨b,o,e,hb,h0⟩
end
end
section
open Go.RowKit
def rFn (l:List FnV)(k:Int):Int×List Int :=
 if k<0\/(l.length:Int)<=k then (23,[]) else match l[k.toNat]? with|none=>(23,[])|some f=>jT_ l f.code
def v0_ (R:Int×List Int)(w:World)(e:Ending)(w':World):Prop :=
 ∃v,e=.returned (.tuple #[v,.int .i64 R.1])/\w'.ownsRow w.heap.size 3 1 v R.2.length (nms R.2)/\Chg [] w w'
theorem zfu {w w':World}{R:Int×List Int}(er:Int)(hR:R=(er,[]))(hc:Chg [] w w'):v0_ R w (.returned (.tuple #[.slice none 0 0,.int .i64 er])) w':=by
 subst hR;exact⟨_,rfl,World.ownsRow_nil _ _ _ _,hc⟩
theorem kr_ (l:List FnV)(t:TkV)(ts:List TkV)(h:Int)(bs:List BkV)(out:List Int):k7_ l (t::ts) h bs out=if (qw_ l h bs t.sign t.name).1=0 then k7_ l ts (qw_ l h bs t.sign t.name).2.1 (qw_ l h bs t.sign t.name).2.2 (out++[h]) else ((qw_ l h bs t.sign t.name).1,[]):=by
 rw[k7_]
end
section
open Go.RowKit
def zcO (n:Nat)(r:Option (List Int×Nat))(W:World)(e:Ending)(w':World):Prop :=
 Chg [] W w'/\((∃t d g,r=some (t,d)/\t.length=n/\e=.returned (.tuple #[.slice (some ⟨g,0,none⟩) n n,.int .i64 0])/\zb_ w' g 3 (nms t)) \/
   (r=none/\e=.returned (.tuple #[.slice none 0 0,.int .i64 13])))
section
variable {W:World} {A:Option Addr} {n c:Nat} {l:List TkV}
theorem zhB (h:Tks W A n c l):Calls Tryz.prog 91 #[.slice A n c] W (zcO n (ky_ (yn_ l)) W):=by
 go_enter Tryz.func91,Tryz.ntmps91;go_wp2_with fail;refine(zhJ h).mono ?_;rintro e w1 ⟨hc,⟨t,d,g,hr,htl,rfl,hT,_⟩|⟨hr,v,d,rfl⟩⟩
 · have HPO:=hQ_ (show zcO n (ky_ (yn_ l)) W (.returned (.tuple #[.slice (some ⟨g,0,none⟩) n n,.int .i64 0])) w1 from⟨hc,.inl ⟨t,d,g,hr,htl,rfl,hT⟩⟩);clear hr htl hT hc h;go_wp2_with fail;go_ret2;exact HPO.o
 · have HPO:=hQ_ (show zcO n (ky_ (yn_ l)) W (.returned (.tuple #[.slice none 0 0,.int .i64 13])) w1 from⟨hc,.inr ⟨hr,rfl⟩⟩);clear hr hc h;go_wp2_with fail;go_ret2;exact HPO.o
end
end
section
open Go.RowKit
def db:Nat->Nat
  | 0=>700
  | d+1=>2*db d+1000
end
section
open Go.RowKit
section
variable {w:World} {A:Option Addr} {n c:Nat} {l:List Int}
theorem Fnr.of_own {W:World}{B n:Nat}{e:TypeId}{v:Value}{l:List FnV}(h:W.ownsRow B e 3 v n (xM_ l))(hm:n<=1000)(ha:∀f∈l,-9223372036854775808<=f.args/\f.args<=9223372036854775807):∃A c,v=.slice A n c/\Fnr W A n c l:=by
 have hl:l.length=n:=by have:=h.1;rw[yG_]at this;omega
 rcases h.2 with⟨rfl,rfl⟩|⟨g,cap,cur,rfl,hb,hg,hn,hc,hs,ht⟩
 · exact⟨none,0,rfl,hl,fun h=>absurd h (by rw[yG_];omega),Nat.le_refl _,by omega,fun h=>absurd h (by omega),ha⟩
 · exact⟨_,cap,rfl,hl,fun _=>⟨_,rfl,tf_lt hg,fun j u hj=>h.cells rfl j u hj⟩,hn,hm,fun _ ad e=>by injection e with e;subst e;rfl,ha⟩
end
end
section
open Go.RowKit
structure TurnV where
  what:Int
  func:Int
  at_:Int
  n:Int
  text:ByteArray
structure TurnOk (t:TurnV):Prop where
  what:-9223372036854775808<=t.what/\t.what<=9223372036854775807
  func:-9223372036854775808<=t.func/\t.func<=9223372036854775807
  at_:-9223372036854775808<=t.at_/\t.at_<=9223372036854775807
  n:-9223372036854775808<=t.n/\t.n<=9223372036854775807
  text:t.text.size<=9223372036854775807
end
end Go.Proofs.YtcbcfcdmdedefaaGreatDoor
