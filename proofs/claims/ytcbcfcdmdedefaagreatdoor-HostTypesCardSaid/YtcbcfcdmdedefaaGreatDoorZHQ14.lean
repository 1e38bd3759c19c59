import Derived.Test.YtcbcfcdmdedefaaGreatDoorZHQ13
import Derived.Lib.MapLaws
import Derived.Lib.FieldsU
import Derived.Deep.CutBlock
import Derived.Lib.BufferOwn
import Derived.Test.YtcbcfcdmdedefaaGreatDoorRows
import Derived.LaidMore
import Derived.Stop.LaidErr
set_option maxRecDepth 100000
set_option maxHeartbeats 16000000
namespace Go.Proofs.YtcbcfcdmdedefaaGreatDoor
section
open Go.RowKit
theorem zkq {s:St}{a:Nat}{b:List UInt8}(h:a+b.length<=s.S.length)(q:Nat)(hq:(q+1)*64<=a\/a+b.length<=q*64):x2_ (apS s a b) q=x2_ s q:=by
 unfold x2_;rw[zbH];show xb_ (splice s.S a b) _ q=_;have e:splice s.S a b=s.S.take a++(b++s.S.drop (a+b.length)):=by unfold splice;simp
 have l1:(s.S.take a).length=a:=by rw[List.length_take];omega
 unfold xb_;split
 · rw[e];rcases hq with hq|hq
   · rw[List.drop_append_of_le_length (by omega),List.take_append_of_le_length (by rw[List.length_drop];omega),List.drop_take,List.take_take,Nat.min_eq_left (by omega)]
   · rw[List.drop_append,List.drop_of_length_le (by omega),List.nil_append,l1,List.drop_append,List.drop_of_length_le (by omega),List.nil_append,List.drop_drop,show a+b.length+(q*64-a-b.length)=q*64 by omega]
 · rfl
theorem Gd.apS {s:St}(h:Gd s){a:Nat}{b:List UInt8}(hb:a+b.length<=s.S.length):Gd (apS s a b):=by
 unfold Gd;rw[zbH];show(splice s.S a b).length=_;rw[xw_ _ _ _ hb];exact h
structure KeptZ (s:St) (x:SV) (ms:List (List ChV)):Prop where
  k:Kept s x ms
  z:LogZ s x.L x.P x.E ms x.used
  q:x.seq=ms.length
theorem zbo (ms:List (List ChV))(m:List ChV)(y:SV):(ms++[m]).foldl zZ_ y=zZ_ (ms.foldl zZ_ y) m:=by rw[List.foldl_append];rfl
theorem KeptZ.com {s:St}{x:SV}{ms:List (List ChV)}{m:List ChV}(h:KeptZ s x ms)(hm:InL x.P m)(hf:x.used+(18+66*m.length)<=x.L*64):KeptZ (k6_ s x m) (zbS x m) (ms++[m]):=by
 have h1:=zi_.1 h.k.rt;have hl:(zcN x m).length=18+66*m.length:=by unfold zcN;rw[yN_,uk_ hm.1];omega
 have hgd:=h.k.gd;have hb:128+x.used+(zcN x m).length<=s.S.length:=by unfold Gd at hgd;omega
 have hV:(k6_ s x m).V.length=s.V.length:=zbH _ _ _;have hs:∀q,q<2\/2+x.L<=q->x2_ (k6_ s x m) q=x2_ s q:=fun q hq=>zkq hb q (by rcases hq with hq|hq<;>omega);have hz:=h.z.com hgd (by omega) h.q hm hf;have hrt:zp_ x.L x.P x.E (k6_ s x m).V.length=true:=by rw[hV];exact h.k.rt
 have hpg:z4_ (k6_ s x m) x.L x.P=z4_ s x.L x.P:=zdW (by rw[yL_,yL_]) (fun i hi=>by
  rw[yL_]at hi;rw[uY_ _ _ _ _ hi,uY_ _ _ _ _ hi,hs _ (by omega)]);have hhv:xq_ (k6_ s x m) ⟨x.L,x.P,x.E⟩=xq_ s ⟨x.L,x.P,x.E⟩:=by unfold xq_;simp only;rw[hpg]
 have hins:∀y∈ms++[m],InL x.P y:=fun y hy=>by
  rcases List.mem_append.1 hy with hy|hy
  · exact h.k.ins y hy
  · simp only[List.mem_cons,List.not_mem_nil,or_false]at hy;subst hy;exact hm
 refine⟨{ gd:=hgd.apS hb,rt:=hrt,ep:=h.k.ep,best:=?_,recs:=fun y=>hz.recT hrt h.k.ep y,ins:=hins,pages:=?_,named:=?_ },hz,by show x.seq+1=_;rw[h.q,List.length_append];rfl⟩
 · rw[vX_,hV,hs 0 (by omega),hs 1 (by omega),<-vX_];exact h.k.best
 · show zY_ x.pages m=((ms++[m]).foldl zZ_ (xq_ (k6_ s x m) ⟨x.L,x.P,x.E⟩)).pages;rw[zbo,hhv,h.k.pages];rfl
 · show va_ x.named m=((ms++[m]).foldl zZ_ (xq_ (k6_ s x m) ⟨x.L,x.P,x.E⟩)).named;rw[zbo,hhv,h.k.named];rfl
theorem KeptZ.flA {s:St}{x:SV}{ms:List (List ChV)}(h:KeptZ s x ms):KeptZ (flA s) x ms:=⟨h.k.flA,h.z.flA,h.q⟩
theorem zdJ {s:St}(h:Gd s)(L P:Nat)(hr:zp_ L P 1 s.V.length=true):Kept (fmt s L P) (xq_ (fmt s L P) ⟨L,P,1⟩) []/\LogZ (fmt s L P) L P 1 [] 0:=by
 have h1:=zi_.1 hr;have hz:LogZ (fmt s L P) L P 1 [] 0:=LogZ.none (by rw[kM_];omega) (fun j hj1 hj2=>by rw[uQ_ h L P (by omega) j (by omega),if_neg (by omega)]);have hr':zp_ L P (1:Nat) (fmt s L P).V.length=true:=by rw[kM_];exact hr
 refine⟨{ gd:=h.fmt L P (by omega),rt:=hr',ep:=by show 1<_;omega,best:=zem h L P hr,recs:=fun y=>hz.recT hr' (by omega) y,ins:=fun m hm=>(by cases hm),pages:=rfl,named:=rfl },hz⟩
theorem zlg {s:St}(h:Gd s)(L P:Nat)(hr:zp_ L P 1 s.V.length=true):KeptZ (ckS (fmt s L P) (openV (fmt s L P) ⟨L,P,1⟩)) (ckV (openV (fmt s L P) ⟨L,P,1⟩)) []:=by
 have h1:=zi_.1 hr;obtain⟨hk,hz⟩:=zdJ h L P hr;have ho:=hk.open_;have hlog:=hz.log;have hc:=hk.ck _ ho (by show 1+1<_;omega) (by show ¬zR_ (xI_ (fmt s L P) L) 2 0;rw[hlog];exact jv_ (by omega));obtain⟨o1,o2,o3,o4,o5⟩:=ho;obtain⟨l1,l2,l3⟩:=hk.lens;have o3':(openV (fmt s L P) ⟨L,P,1⟩).L=L:=o3;have o4':(openV (fmt s L P) ⟨L,P,1⟩).P=P:=o4;have o5':(openV (fmt s L P) ⟨L,P,1⟩).E=1:=o5;refine⟨hc,?_,rfl⟩;refine LogZ.none (by rw[vU_,kM_];show 2+(openV (fmt s L P) ⟨L,P,1⟩).L<=_;rw[o3'];omega) (fun j hj1 hj2=>?_);have hj2':j<2+L:=by rw[<-o3'];exact hj2
 have hgf:=hk.gd;rw[v6_ hgf (by rw[o3',o4',o5',kM_];exact hr) (by rw[o4'];exact(congrArg List.length o1).trans l1) (fun l hl=>l3 l (by rw[<-o1];exact hl)),if_neg (by omega),if_neg (by rw[o3'];omega),uQ_ h L P (by omega) j (by omega),if_neg (by omega)]
end
section
open Go.RowKit
theorem zon {L u m:Nat}(h:yI_ (L:Int) (u:Int) (m:Int)=true)(hm:m<=64):u+(18+66*m)<=L*64:=by
 unfold yI_ at h;rw[Bool.and_eq_true,decide_eq_true_iff,decide_eq_true_iff]at h;have h2:=h.2;unfold zcs uz_ kz_ at h2;rw[if_neg (by omega),if_neg (by omega)]at h2;omega
theorem zhT {s:St}{x:SV}{ms:List (List ChV)}(h:Kept s x ms)(y:SV)(hy:y.pages=x.pages/\y.named=x.named/\y.L=x.L/\y.P=x.P/\y.E=x.E):xI_ (ckS s y) x.L=xI_ s x.L:=by
 obtain⟨y1,y2,y3,y4,y5⟩:=hy;obtain⟨l1,l2,l3⟩:=h.lens;have h1:=zi_.1 h.rt;have hr:zp_ y.L y.P y.E s.V.length=true:=by rw[y3,y4,y5];exact h.rt
 have hp:y.pages.length=y.P:=by rw[y1,y4];exact l1
 have h64:∀l∈y.pages,l.length=64:=by rw[y1];exact l3
 exact j3_ (vU_ s y) (by omega) (fun j hj1 hj2=>by rw[v6_ h.gd hr hp h64,if_neg (by omega),if_neg (by omega)]) x.L (Nat.le_refl _)
section
variable {w:World} {p bL bS bW:Nat} {s:St} {x:SV} {ms:List (List ChV)}
def zjL (w:World)(p bL bS bW:Nat)(s:St)(x:SV)(e:Ending)(w':World):Prop :=
 ∃ g gN v s' x',e=.returned (.tuple #[.pointer (some ⟨g,0,none⟩),.int .i64 0])/\w.heap.size<=g/\w.heap.size<=gN/\Sto w' ⟨p,bL,bS,bW,g,gN,[]⟩ (flA s') x' v/\Kept (flA s') x' [] /\
   x'.pages=x.pages/\x'.L=x.L/\x'.P=x.P/\x'.E=x.E+1/\x'.used=0/\x'.seq=0/\xI_ (flA s') x.L=xI_ s x.L/\Chg [bL,bS,bW] w w'
theorem zbJ (hd:z9_ w p bL bS bW s)(hk:Kept s x ms)(hno:¬zR_ (xI_ s x.L) (x.E+1) 0)(hE:x.E<4294967295) :
    Calls Tryz.prog 41 #[.pointer (some ⟨p,0,none⟩)] w (zjL w p bL bS bW s x):=by
 refine(zdB hd).mono ?_;rintro e w' hO;rw[un_,hk.best]at hO;have h1:=zi_.1 hk.rt;have ho:=hk.open_;rcases hO with⟨h0,_⟩|⟨h0,_⟩|⟨_,_,g,gN,v,rfl,hg,hgN,hs,hc⟩
 · have h0':x.E=0:=h0;omega
 · have h0':x.E=4294967295:=h0;omega
 · have hc2:=hk.ck _ ho (by omega) hno;have hl:=zhT hk _ ho;exact⟨g,gN,v,(homeN (flA s) (openV s ⟨x.L,x.P,x.E⟩) (openV s ⟨x.L,x.P,x.E⟩).P |> flA).write (((openV s ⟨x.L,x.P,x.E⟩).E+1)%2) (z3_ (openV s ⟨x.L,x.P,x.E⟩).L (openV s ⟨x.L,x.P,x.E⟩).P ((openV s ⟨x.L,x.P,x.E⟩).E+1)),_,rfl,hg,hgN,hs,hc2,ho.1,ho.2.2.1,ho.2.2.2.1,by show(openV s ⟨x.L,x.P,x.E⟩).E+1=_;rw[ho.2.2.2.2],rfl,rfl,hl,hc⟩
end
end
section
open Go.RowKit
def vb:Nat->Nat
  | 0=>60
  | d+1=>3*vb d+20
end
section
open Go.RowKit
open Go.Lib
theorem zit (s:ByteArray)(i:Nat)(h:s.size<=i):s.get! i=0:=by
 have h1:s.data.size<=i:=h;show s.data[i]! = 0;rw[getElem!_neg]
 · rfl
 · omega
theorem xs_ (a t:ByteArray)(i:Nat):(a++t).get! (a.size+i)=t.get! i:=by
 by_cases h:i<t.size
 · have h1:a.size+i<(a++t).size:=(by rw[ByteArray.size_append'];omega);have e1:=get_at (a++t) (a.size+i) h1;have e2:=get_at t i h;rw[Nat.add_zero]at e1 e2;rw[e1,e2,ByteArray.getElem_append_right (by omega)];congr 1;omega
 · rw[zit _ _ (by rw[ByteArray.size_append'];omega),zit _ _ (by omega)]
theorem k5_ (a t:ByteArray)(p:Nat):Utf8.decode (a++t) (a.size+p)=Utf8.decode t p:=by
 rw[decode_at,decode_at,ByteArray.size_append',show a.size+t.size-(a.size+p)=t.size-p from by omega,
   xs_,Nat.add_assoc a.size p 1,xs_,Nat.add_assoc a.size p 2,xs_,Nat.add_assoc a.size p 3,xs_]
theorem uS_ (a t:ByteArray):∀(f p:Nat),zN_ (a++t) f (a.size+p)=zN_ t f p
  | 0,_=>rfl
  | f+1,p=>by
    rw[zN_,zN_,k5_];by_cases h:p<t.size
    · rw[if_pos h,if_pos (by rw[ByteArray.size_append'];omega),Nat.add_assoc,uS_ a t f _]
    · rw[if_neg h,if_neg (by rw[ByteArray.size_append'];omega)]
end
section
open Go.RowKit
def gSt:List Nat->List TkV->GPh->Option (List TkV×GPh)
  | [],ys,ph=>some (ys,ph)
  | r::rs,ys,ph=>match zO_ ys ph r with
    | none=>none
    | some (ys',ph')=>gSt rs ys' ph'
theorem zcF:∀(a b:List Nat)(ys:List TkV)(ph:GPh),gSt (a++b) ys ph=(gSt a ys ph).bind fun q=>gSt b q.1 q.2
  | [],b,ys,ph=>rfl
  | r::a,b,ys,ph=>by
    rw[List.cons_append,gSt,gSt];cases zO_ ys ph r with
    | none=>rfl
    | some q=>exact zcF a b q.1 q.2
theorem zix:∀(a:List Nat)(ys:List TkV)(ph:GPh),uv_ a ys ph=(gSt a ys ph).bind fun q=>zdS q.1 q.2
  | [],ys,ph=>rfl
  | r::a,ys,ph=>by
    rw[uv_,gSt];cases zO_ ys ph r with
    | none=>rfl
    | some q=>exact zix a q.1 q.2
theorem q8_ {ys:List TkV}{ph:GPh}{ts:List TkV}(h:zdS ys ph=some ts)(r:Nat)(hr:¬(48<=r/\r<=57)):zO_ ys ph r=yo_ ts r:=by
 cases ph with
 | wait q=>cases h
 | num m =>
   rw[zdS]at h;injection h with h;rw[zO_,if_neg hr,h]
 | idle =>
   rw[zdS]at h;injection h with h;rw[zO_,if_neg hr,h]
end
section
open Go.RowKit
open Go.Lib
def rl (l:List UInt8):List Nat:=vD_ ⟨l.toArray⟩
theorem zmF (a b:List UInt8):(⟨(a++b).toArray⟩:ByteArray)=⟨a.toArray⟩++⟨b.toArray⟩:=by
 apply ByteArray.ext;simp
theorem xF_ (a:List UInt8):(⟨a.toArray⟩:ByteArray).size=a.length:=by
 show a.toArray.size=_;simp
theorem yO_ (a:List UInt8)(i:Nat):(⟨a.toArray⟩:ByteArray).get! i=a.getD i 0:=by
 show a.toArray[i]! = _;simp[List.getD,getElem!_def];cases a[i]?<;>rfl
theorem zgZ (c t:List UInt8)(r:Nat)(hc:0<c.length)(hd:Utf8.decode ⟨(c++t).toArray⟩ 0=(r,c.length)):rl (c++t)=r::rl t:=by
 unfold rl vD_;rw[xF_,List.length_append];obtain⟨k,hk⟩:∃k,c.length=k+1:=⟨c.length-1,by omega⟩;rw[show c.length+t.length=(k+t.length)+1 from by omega,zN_,if_pos (by rw[xF_,List.length_append];omega),hd];have h2:=uS_ ⟨c.toArray⟩ ⟨t.toArray⟩ (k+t.length) 0;rw[xF_,<-zmF]at h2;simp only[Nat.zero_add,Nat.add_zero]at h2⊢;rw[h2,xF_,kZ_ _ t.length (k+t.length) 0 (by rw[xF_];omega) (by omega)]
theorem zcg (b:UInt8)(hb:b.toNat<128)(t:List UInt8):rl (b::t)=b.toNat::rl t:=by
 refine zgZ [b] t b.toNat (by simp) ?_;rw[decode_at,yO_];unfold decodeN;show(if b.toNat<128 then _ else _)=_;rw[if_pos hb];rfl
def okR (r:Int):Prop:=(0<=r/\r<55296)\/(57343<r/\r<=1114111)
theorem zgt (z:Int)(h0:0<=z)(h:z<256):(z.toNat.toUInt8).toNat=z.toNat:=by
 have:z.toNat<256:=by omega
 simp;omega
theorem zjc (r:Int)(hr:okR r)(t:List UInt8):Utf8.decode ⟨(encodeRune r++t).toArray⟩ 0=(r.toNat,(encodeRune r).length):=by
 have hc:(0<=r/\r<=127)\/(128<=r/\r<=2047)\/((2048<=r/\r<55296)\/(57343<r/\r<=65535))\/(65536<=r/\r<=1114111):=by unfold okR at hr;omega
 unfold encodeRune;rcases hc with h|h|h|h
 · rw[encodeRuneZ_one h.1 h.2];have e0:=zgt r h.1 (by omega);rw[decode_at,xF_,yO_,yO_,yO_,yO_];simp only[List.map_cons,List.map_nil,List.cons_append,List.nil_append,List.getD_cons_zero,List.getD_cons_succ,List.length_cons,List.length_nil,Nat.zero_add];rw[e0];unfold decodeN;rw[if_pos (by omega)]
 · rw[encodeRuneZ_two h.1 h.2];have e0:=zgt (192+r/64) (by omega) (by omega);have e1:=zgt (128+r%64) (by omega) (by omega);rw[decode_at,xF_,yO_,yO_,yO_,yO_];simp only[List.map_cons,List.map_nil,List.cons_append,List.nil_append,List.getD_cons_zero,List.getD_cons_succ,List.length_cons,List.length_nil,Nat.zero_add];rw[e0,e1];unfold decodeN;rw[if_neg (by omega),if_pos (by omega),if_pos (by omega)];apply Prod.ext
   · simp only;omega
   · rfl
 · rw[encodeRuneZ_three h];have e0:=zgt (224+r/4096) (by omega) (by omega);have e1:=zgt (128+r/64%64) (by omega) (by omega);have e2:=zgt (128+r%64) (by omega) (by omega);rw[decode_at,xF_,yO_,yO_,yO_,yO_];simp only[List.map_cons,List.map_nil,List.cons_append,List.nil_append,List.getD_cons_zero,List.getD_cons_succ,List.length_cons,List.length_nil,Nat.zero_add];rw[e0,e1,e2];unfold decodeN;rw[if_neg (by omega),if_neg (by omega),if_pos (by omega),if_pos (by omega)];apply Prod.ext
   · simp only;omega
   · rfl
 · rw[encodeRuneZ_four h.1 h.2];have e0:=zgt (240+r/262144) (by omega) (by omega);have e1:=zgt (128+r/4096%64) (by omega) (by omega);have e2:=zgt (128+r/64%64) (by omega) (by omega);have e3:=zgt (128+r%64) (by omega) (by omega);rw[decode_at,xF_,yO_,yO_,yO_,yO_];simp only[List.map_cons,List.map_nil,List.cons_append,List.nil_append,List.getD_cons_zero,List.getD_cons_succ,List.length_cons,List.length_nil,Nat.zero_add];rw[e0,e1,e2,e3];unfold decodeN;rw[if_neg (by omega),if_neg (by omega),if_neg (by omega),if_pos (by omega),if_pos (by omega)];apply Prod.ext
   · simp only;omega
   · rfl
theorem zcJ (r:Int):1<=(encodeRune r).length:=by
 unfold encodeRune;rw[List.length_map];exact(encodeRuneZ_length r).1
theorem zha (r:Int)(hr:okR r)(t:List UInt8):rl (encodeRune r++t)=r.toNat::rl t :=
 zgZ _ t r.toNat (by have:=zcJ r;omega) (zjc r hr t)
def txB:Bool->List TkV->List UInt8
  | _,[]=>[]
  | nb,t::l =>
    if t.sign=48 then (if nb then [32] else [])++(decDigits t.n.toNat++txB true l)
    else if yh_ t.sign=true then (if yr_ t.name=true then encodeRune t.sign++(encodeRune t.name++txB false l) else txB nb l)
    else if yi_ t.sign=true then encodeRune t.sign++txB false l
    else txB nb l
def txN:Bool->List TkV->Bool
  | nb,[]=>nb
  | nb,t::l =>
    if t.sign=48 then txN true l
    else if yh_ t.sign=true then (if yr_ t.name=true then txN false l else txN nb l)
    else if yi_ t.sign=true then txN false l
    else txN nb l
theorem jG_:∀(a b:List TkV)(nb:Bool),txB nb (a++b)=txB nb a++txB (txN nb a) b
  | [],b,nb=>rfl
  | t::a,b,nb=>by
    rw[List.cons_append,txB,txB,txN]
    repeat' split
    all_goals simp only[List.append_assoc,jG_ a b]
def zes (t:TkV):Prop :=
 (t.sign=48/\0<=t.n/\t.n<=9223372036854775807/\t.name=0) \/
 (yh_ t.sign=true/\t.n=0/\yr_ t.name=true) \/
 (t.sign≠48/\yh_ t.sign=false/\yi_ t.sign=true/\t.n=0/\t.name=0)
def zoN:GPh->Prop
  | .idle=>True
  | .num m=>m<=9223372036854775807
  | .wait q=>yh_ (q:Int)=true
theorem vv_ {r:Int}(h:yr_ r=true):okR r/\r≠65533/\(97<=r):=by
 unfold yr_ at h;unfold okR;simp at h;omega
theorem xg_ {r:Int}(h:yi_ r=true):okR r/\r≠65533/\33<=r/\¬(48<=r/\r<=57):=by
 unfold yi_ at h;unfold okR;simp only[Bool.or_eq_true,Bool.and_eq_true,decide_eq_true_eq,List.any_eq_true,beq_iff_eq]at h;rcases h with(h|h)|⟨x,hx,e⟩
 · omega
 · omega
 · have:x=43\/x=45\/x=42\/x=47\/x=37\/x=38\/x=124\/x=94\/x=60\/x=61\/x=33\/x=46\/x=44\/x=64\/x=36\/x=35\/x=63\/x=58\/x=59\/x=91\/x=93\/x=126\/x=171\/x=187\/x=169\/x=174\/x=164\/x=161\/x=955\/x=960:=(by
    simpa[zcc] using hx);omega
theorem xC_ {r:Int}(h:yh_ r=true):yi_ r=true/\r≠48:=by
 unfold yh_ at h;simp at h;rcases h with rfl|rfl
 · exact⟨by decide,by decide⟩
 · exact⟨by decide,by decide⟩
theorem zbk {bs ys':List TkV}{ph':GPh}{r:Nat}(h:yo_ bs r=some (ys',ph'))(hb:∀t∈bs,zes t):(∀t∈ys',zes t)/\zoN ph':=by
 unfold yo_ at h;split at h
 · injection h with h;injection h with h1 h2;subst h1;subst h2;exact⟨hb,trivial⟩
 · split at h
   · rename_i hk;split at h
     · rename_i hn;injection h with h;injection h with h1 h2;subst h1;subst h2;exact⟨hb,hn⟩
     · rename_i hn;injection h with h;injection h with h1 h2;subst h1;subst h2;refine⟨fun t ht=>?_,trivial⟩;rcases List.mem_append.1 ht with ht|ht
       · exact hb t ht
       · rw[List.mem_singleton]at ht;subst ht;have:=xg_ hk;exact .inr (.inr ⟨by simp only;omega,by simpa using hn,hk,rfl,rfl⟩)
   · cases h
theorem zbl {bs ys':List TkV}{ph':GPh}{m x:Nat}(h:yz_ bs m x=some (ys',ph'))(hx:x<=9)(hb:∀t∈bs,zes t):(∀t∈ys',zes t)/\zoN ph':=by
 unfold yz_ at h;split at h
 · cases h
 · injection h with h;injection h with h1 h2;subst h1;subst h2;exact⟨hb,by show m*10+x<=_;omega⟩
theorem zdP {ys ys':List TkV}{ph ph':GPh}{r:Nat}(h:zO_ ys ph r=some (ys',ph'))(hb:∀t∈ys,zes t)(hp:zoN ph):(∀t∈ys',zes t)/\zoN ph':=by
 cases ph with
 | wait q =>
   rw[zO_]at h;split at h
   · rename_i hn;injection h with h;injection h with h1 h2;subst h1;subst h2;refine⟨fun t ht=>?_,trivial⟩;rcases List.mem_append.1 ht with ht|ht
     · exact hb t ht
     · rw[List.mem_singleton]at ht;subst ht;exact .inr (.inl ⟨hp,rfl,hn⟩)
   · cases h
 | num m =>
   rw[zO_]at h;split at h
   · exact zbl h (by omega) hb
   · refine zbk h (fun t ht=>?_);rcases List.mem_append.1 ht with ht|ht
     · exact hb t ht
     · rw[List.mem_singleton]at ht;subst ht;exact .inl ⟨rfl,by simp only;omega,by have:m<=9223372036854775807:=hp;simp only;omega,rfl⟩
 | idle =>
   rw[zO_]at h;split at h
   · exact zbl h (by omega) hb
   · exact zbk h hb
theorem zcG:∀(rs:List Nat){ys ts:List TkV}{ph:GPh},uv_ rs ys ph=some ts->(∀t∈ys,zes t)->zoN ph->∀t∈ts,zes t
  | [],ys,ts,ph,h,hb,hp=>by
    rw[uv_]at h;cases ph with
    | idle=>rw[zdS]at h;injection h with h;subst h;exact hb
    | num m =>
      rw[zdS]at h;injection h with h;subst h;intro t ht;rcases List.mem_append.1 ht with ht|ht
      · exact hb t ht
      · rw[List.mem_singleton]at ht;subst ht;exact .inl ⟨rfl,by simp only;omega,by have:m<=9223372036854775807:=hp;simp only;omega,rfl⟩
    | wait q=>cases h
  | r :: rs,ys,ts,ph,h,hb,hp=>by
    rw[uv_]at h;cases hq:zO_ ys ph r with
    | none=>rw[hq]at h;cases h
    | some q =>
      rw[hq]at h;obtain⟨a,b⟩:=zdP (ys':=q.1) (ph':=q.2) hq hb hp;exact zcG rs h a b
theorem zmC:∀(n:Nat)(t:List UInt8),rl (decDigits n++t)=(decDigits n).map UInt8.toNat++rl t:=by
 intro n
 induction n using Nat.strongRecOn with
 | _ n ih =>
   intro t;by_cases h:n<10
   · rw[decDigits_one h];have e:(UInt8.ofNat (48+n)).toNat=48+n:=(by simp;omega);exact zcg _ (by rw[e];omega) t
   · rw[decDigits,dif_neg h,List.append_assoc,ih (n/10) (by omega),List.map_append,List.append_assoc];have e:(UInt8.ofNat (48+n%10)).toNat=48+n%10:=(by simp;omega);rw[show[UInt8.ofNat (48+n%10)]++t=UInt8.ofNat (48+n%10)::t from rfl,zcg _ (by rw[e];omega) t];rfl
theorem zot:∀(n:Nat)(P:List TkV),n<=9223372036854775807->gSt ((decDigits n).map UInt8.toNat) P .idle=some (P,.num n):=by
 intro n
 induction n using Nat.strongRecOn with
 | _ n ih =>
   intro P hn;by_cases h:n<10
   · rw[decDigits_one h];have e:(UInt8.ofNat (48+n)).toNat=48+n:=(by simp;omega);rw[List.map_cons,List.map_nil,e,gSt,zO_,if_pos (by omega),yz_,if_neg (by omega)];simp only[gSt];congr 3;omega
   · rw[decDigits,dif_neg h,List.map_append,zcF,ih (n/10) (by omega) P (by omega)];have e:(UInt8.ofNat (48+n%10)).toNat=48+n%10:=(by simp;omega);rw[List.map_cons,List.map_nil,e];simp only[Option.bind_some];rw[gSt,zO_,if_pos (by omega),yz_,if_neg (by omega)];simp only[gSt];congr 3;omega
theorem jn_ (r:Nat)(rs:List Nat)(ys:List TkV)(ph:GPh):gSt (r::rs) ys ph=(zO_ ys ph r).bind fun q=>gSt rs q.1 q.2:=by
 rw[gSt];cases zO_ ys ph r<;>rfl
theorem gl_:∀(l:List TkV) (t:List UInt8) (ys P:List TkV) (ph:GPh),(∀x∈l,zes x)->zdS ys ph=some P ->
    ∃rs ys' ph',rl (txB (xm_ ph) l++t)=rs++rl t/\gSt rs ys ph=some (ys',ph')/\zdS ys' ph'=some (P++l)
  | [],t,ys,P,ph,_,he=>⟨[],ys,ph,rfl,rfl,by simpa using he⟩
  | x :: l,t,ys,P,ph,hok,he=>by
    have hx:=hok x (by simp);have hl:∀y∈l,zes y:=fun y hy=>hok y (by simp[hy]);have app:∀y:TkV,P++x::l=(P++[x])++l:=fun y=>(by simp);rcases hx with⟨h1,h2,h3,h4⟩|⟨h1,h2,h3⟩|⟨h0,h1,h2,h3,h4⟩
    · obtain⟨n,hn⟩:∃n:Nat,x.n=(n:Int):=⟨x.n.toNat,by omega⟩;have hxe:x=⟨48,(n:Int),0⟩:=(by
       cases x;simp only at h1 hn h4;rw[h1,hn,h4]);subst hxe;have hn2:n<=9223372036854775807:=(by simp only at h3;omega);obtain⟨rs,ys',ph',e1,e2,e3⟩:=gl_ l t P (P++[⟨48,(n:Int),0⟩]) (.num n) hl rfl;have hcn:xm_ (.num n)=true:=rfl;rw[hcn]at e1;have key:gSt ((decDigits n).map UInt8.toNat++rs) P .idle=some (ys',ph'):=(by
       rw[zcF,zot n P hn2];exact e2);rw[app ⟨0,0,0⟩];have hb:txB (xm_ ph) (⟨48,(n:Int),0⟩::l)=(if xm_ ph then [32] else [])++(decDigits n++txB true l):=(by
       rw[txB,if_pos rfl];simp);rw[hb];cases ph with
      | idle =>
        rw[zdS]at he;injection he with he;subst he;refine⟨_,ys',ph',?_,key,e3⟩;show rl ([]++(decDigits n++txB true l)++t)=_;rw[List.nil_append,List.append_assoc,zmC,e1,List.append_assoc]
      | num m =>
        rw[zdS]at he;injection he with he;refine⟨32::((decDigits n).map UInt8.toNat++rs),ys',ph',?_,?_,e3⟩
        · show rl ([32]++(decDigits n++txB true l)++t)=_;rw[List.append_assoc,show[(32:UInt8)]++(decDigits n++txB true l++t)=32::(decDigits n++txB true l++t) from rfl,zcg 32 (by decide),List.append_assoc,zmC,e1];simp
        · rw[jn_,zO_,if_neg (by omega),he,yo_,if_pos rfl];exact key
      | wait q=>cases he
    · obtain⟨hk,h48⟩:=xC_ h1;obtain⟨ho,_,hge,hnd⟩:=xg_ hk;obtain⟨ho2,_,hge2⟩:=vv_ h3;obtain⟨q,hq⟩:∃q:Nat,x.sign=(q:Int):=⟨x.sign.toNat,by omega⟩;obtain⟨z,hz⟩:∃z:Nat,x.name=(z:Int):=⟨x.name.toNat,by omega⟩;have hxe:x=⟨(q:Int),0,(z:Int)⟩:=(by cases x;simp_all);subst hxe;simp only at h1 h3 hk h48 ho hge hnd ho2 hge2;obtain⟨rs,ys',ph',e1,e2,e3⟩:=gl_ l t (P++[⟨(q:Int),0,(z:Int)⟩]) (P++[⟨(q:Int),0,(z:Int)⟩]) .idle hl rfl;have hcn:xm_ .idle=false:=rfl;rw[hcn]at e1;refine⟨q::z::rs,ys',ph',?_,?_,by rw[app ⟨0,0,0⟩];exact e3⟩
      · rw[txB,if_neg h48,if_pos h1,if_pos h3,List.append_assoc,List.append_assoc,zha _ ho,zha _ ho2,e1];rfl
      · rw[jn_,q8_ he q (by omega),yo_,if_neg (by omega),if_pos hk,if_pos h1];simp only[Option.bind_some];rw[jn_,zO_,if_pos h3];exact e2
    · obtain⟨ho,_,hge,hnd⟩:=xg_ h2;obtain⟨q,hq⟩:∃q:Nat,x.sign=(q:Int):=⟨x.sign.toNat,by omega⟩;have hxe:x=⟨(q:Int),0,0⟩:=(by cases x;simp_all);subst hxe;simp only at h0 h1 h2 ho hge hnd;obtain⟨rs,ys',ph',e1,e2,e3⟩:=gl_ l t (P++[⟨(q:Int),0,0⟩]) (P++[⟨(q:Int),0,0⟩]) .idle hl rfl;have hcn:xm_ .idle=false:=rfl;rw[hcn]at e1;refine⟨q::rs,ys',ph',?_,?_,by rw[app ⟨0,0,0⟩];exact e3⟩
      · rw[txB,if_neg h0,if_neg (by rw[h1];decide),if_pos h2,List.append_assoc,zha _ ho,e1];rfl
      · rw[jn_,q8_ he q (by omega),yo_,if_neg (by omega),if_pos h2,if_neg (by rw[h1];decide)];exact e2
theorem zpd (l:List TkV)(h:∀x∈l,zes x):uv_ (rl (txB false l)) [] .idle=some l:=by
 obtain⟨rs,ys',ph',e1,e2,e3⟩:=gl_ l [] [] [] .idle h rfl;have hn:rl []=[]:=rfl;rw[List.append_nil,hn,List.append_nil]at e1;rw[show txB false l=txB (xm_ .idle) l from rfl,e1,zix,e2];exact e3
theorem jF_:∀(a b:List TkV)(nb:Bool),txN nb (a++b)=txN (txN nb a) b
  | [],b,nb=>rfl
  | t::a,b,nb=>by
    rw[List.cons_append,txN,txN]
    repeat' split
    all_goals exact jF_ a b _
def bb (b:Bool):Nat:=if b then 1 else 0
def pot (ys:List TkV):GPh->Nat
  | .idle=>(txB false ys).length+bb (txN false ys)
  | .num m=>(txB false ys).length+bb (txN false ys)+(decDigits m).length
  | .wait q=>(txB false ys).length+(encodeRune (q:Int)).length
theorem zhn (ys:List TkV)(m:Nat):(txB false (ys++[⟨48,(m:Int),0⟩])).length=pot ys (.num m)/\txN false (ys++[⟨48,(m:Int),0⟩])=true:=by
 rw[jG_,jF_,List.length_append];have e:txB (txN false ys) [⟨48,(m:Int),0⟩]=(if txN false ys then [32] else [])++(decDigits m++[]):=by
  rw[txB,if_pos rfl];simp only[Int.toNat_natCast];rfl
 have e2:txN (txN false ys) [⟨48,(m:Int),0⟩]=true:=by
  rw[txN,if_pos rfl];rfl
 rw[e,e2,pot];refine⟨?_,rfl⟩;cases txN false ys<;>simp[bb]<;>omega
theorem zou (m x:Nat)(hx:x<=9):(decDigits (m*10+x)).length<=(decDigits m).length+1:=by
 by_cases h:m*10+x<10
 · rw[decDigits_one h];simp
 · rw[decDigits,dif_neg h,List.length_append,show(m*10+x)/10=m from by omega];simp
theorem zfx {bs ys':List TkV}{ph':GPh}{r:Nat}(h:yo_ bs r=some (ys',ph'))(hw:¬(48<=r/\r<=57)):pot ys' ph'<=pot bs .idle+(encodeRune (r:Int)).length:=by
 unfold yo_ at h;split at h
 · injection h with h;injection h with h1 h2;subst h1;subst h2;omega
 · split at h
   · rename_i hk;split at h
     · injection h with h;injection h with h1 h2;subst h1;subst h2;simp only[pot];omega
     · rename_i hn;injection h with h;injection h with h1 h2;subst h1;subst h2;simp only[pot];have hn':¬yh_ (r:Int)=true:=hn;rw[jG_,jF_,List.length_append,txB,txN,if_neg (by simp only;omega),if_neg hn',if_pos hk,if_neg (by simp only;omega),if_neg hn',if_pos hk,txB,txN];simp[bb];try omega
   · cases h
theorem ziu {ys ys':List TkV}{ph ph':GPh}{r:Nat}(h:zO_ ys ph r=some (ys',ph'))(hp:zoN ph):pot ys' ph'<=pot ys ph+(encodeRune (r:Int)).length/\(r:Int)≠65533:=by
 have he:=zcJ (r:Int);have ho:∀bs,yo_ bs r=some (ys',ph')->(r:Int)≠65533:=fun bs h=>by
  unfold yo_ at h;split at h
  · omega
  · split at h
    · rename_i hk;exact(xg_ hk).2.1
    · cases h
 cases ph with
 | wait q =>
   rw[zO_]at h;split at h
   · rename_i hn;injection h with h;injection h with h1 h2;subst h1;subst h2;refine⟨?_,(vv_ hn).2.1⟩;have hq:yh_ (q:Int)=true:=hp;have h48:=(xC_ hq).2;simp only[pot];rw[jG_,jF_,List.length_append,txB,txN,if_neg h48,if_pos hq,if_pos hn,if_neg h48,if_pos hq,if_pos hn,txB,txN];simp[bb];omega
   · cases h
 | num m =>
   rw[zO_]at h;split at h
   · rename_i hd;refine⟨?_,by omega⟩;unfold yz_ at h;split at h
     · cases h
     · injection h with h;injection h with h1 h2;subst h1;subst h2;have:=zou m (r-48) (by omega);simp only[pot];omega
   · rename_i hd;refine⟨?_,ho _ h⟩;unfold yo_ at h;obtain⟨k1,k2⟩:=zhn ys m;split at h
     · injection h with h;injection h with h1 h2;subst h1;subst h2;have e:pot (ys++[⟨48,(m:Int),0⟩]) .idle=(txB false (ys++[⟨48,(m:Int),0⟩])).length+bb (txN false (ys++[⟨48,(m:Int),0⟩])):=rfl;rw[e,k1,k2];simp[bb];try omega
     · split at h
       · rename_i hk;split at h
         · injection h with h;injection h with h1 h2;subst h1;subst h2;rw[<-k1];simp only[pot];omega
         · rename_i hn;have hn':¬yh_ (r:Int)=true:=hn;injection h with h;injection h with h1 h2;subst h1;subst h2;rw[<-k1];have e:∀zs:List TkV,pot zs .idle=(txB false zs).length+bb (txN false zs):=fun _=>rfl;rw[e,jG_ _ [⟨(r:Int),0,0⟩],jF_ _ [⟨(r:Int),0,0⟩],List.length_append,txB,txN,if_neg (by simp only;omega),if_neg hn',if_pos hk,if_neg (by simp only;omega),if_neg hn',if_pos hk,txB,txN];simp[bb];try omega
       · cases h
 | idle =>
   rw[zO_]at h;split at h
   · rename_i hd;refine⟨?_,by omega⟩;unfold yz_ at h;split at h
     · cases h
     · injection h with h;injection h with h1 h2;subst h1;subst h2;have e1:(decDigits (0*10+(r-48))).length=1:=(by rw[decDigits_one (by omega)];rfl);simp only[pot];omega
   · rename_i hd;exact⟨zfx h hd,ho _ h⟩
def znc:List Nat->Nat
  | []=>0
  | r::rs=>(encodeRune (r:Int)).length+znc rs
theorem zdQ:∀(rs:List Nat){ys ts:List TkV}{ph:GPh},uv_ rs ys ph=some ts->(∀t∈ys,zes t)->zoN ph->(txB false ts).length<=pot ys ph+znc rs/\∀r∈rs,(r:Int)≠65533
  | [],ys,ts,ph,h,hb,hp=>by
    refine⟨?_,fun r hr=>by simp at hr⟩;rw[uv_]at h;cases ph with
    | idle=>rw[zdS]at h;injection h with h;subst h;simp only[pot];omega
    | num m=>rw[zdS]at h;injection h with h;subst h;rw[(zhn ys m).1];omega
    | wait q=>cases h
  | r :: rs,ys,ts,ph,h,hb,hp=>by
    rw[uv_]at h;cases hq:zO_ ys ph r with
    | none=>rw[hq]at h;cases h
    | some q =>
      rw[hq]at h;obtain⟨a,b⟩:=zdP (ys':=q.1) (ph':=q.2) hq hb hp;obtain⟨c,d⟩:=ziu (ys':=q.1) (ph':=q.2) hq hp;obtain⟨e,f⟩:=zdQ rs h a b;refine⟨by rw[znc];omega,fun x hx=>?_⟩;rcases List.mem_cons.1 hx with rfl|hx
      · exact d
      · exact f x hx
theorem zfR (s:ByteArray)(p:Nat)(h:p<s.size)(hr:(Utf8.decode s p).1≠65533):(encodeRune ((Utf8.decode s p).1:Int)).length=(Utf8.decode s p).2/\p+(Utf8.decode s p).2<=s.size:=by
 have hd:Utf8.decode s p=decodeL (s.data.toList.drop p):=by
  unfold decodeL;have e:s=⟨(s.data.toList.take p).toArray⟩++⟨(s.data.toList.drop p).toArray⟩:=by
   rw[<-zmF,List.take_append_drop]
  have hl:(⟨(s.data.toList.take p).toArray⟩:ByteArray).size=p:=by
   rw[xF_,List.length_take];have:s.data.toList.length=s.size:=rfl;omega
  have:=k5_ ⟨(s.data.toList.take p).toArray⟩ ⟨(s.data.toList.drop p).toArray⟩ 0;rw[<-e,hl,Nat.add_zero]at this;exact this
 have hlen:s.data.toList.length=s.size:=rfl;have hne:s.data.toList.drop p≠[]:=by
  intro hh;have:=congrArg List.length hh;rw[List.length_drop,List.length_nil]at this;omega
 have hle:p+(Utf8.decode s p).2<=s.size:=by
  rw[decode_at];have:=decodeN_le_n' (s.size-p) (s.get! p).toNat (s.get! (p+1)).toNat (s.get! (p+2)).toNat (s.get! (p+3)).toNat (by omega);omega
 refine⟨?_,hle⟩;have hk:=encode_decode (s.data.toList.drop p) hne (fun hh=>by rw[<-hd]at hh;exact hr hh.1);rw[<-hd]at hk;rw[hk,List.length_take,List.length_drop];omega
theorem zgB (s:ByteArray):∀(f p:Nat),p<=s.size->(∀r∈zN_ s f p,(r:Int)≠65533)->znc (zN_ s f p)<=s.size-p
  | 0,p,_,_=>by rw[zN_,znc];omega
  | f+1,p,hp,h=>by
    rw[zN_]at h⊢;by_cases hlt:p<s.size
    · rw[if_pos hlt]at h⊢;obtain⟨a,b⟩:=zfR s p hlt (fun e=>h _ (List.mem_cons_self ..) (by rw[e];rfl));have:=zgB s f (p+(Utf8.decode s p).2) b (fun r hr=>h r (by simp[hr]));have hw:=vL_ s p hlt;rw[znc,a];omega
    · rw[if_neg hlt,znc];omega
theorem zpe {s:ByteArray}{ts:List TkV}(h:uv_ (vD_ s) [] .idle=some ts):(txB false ts).length<=s.size:=by
 obtain⟨a,b⟩:=zdQ _ h (fun t ht=>by simp at ht) trivial;have c:=zgB s s.size 0 (by omega) b;have e:pot [] .idle=0:=rfl;unfold vD_ at a;omega
end
section
open Go.RowKit
def db:Nat->Nat
  | 0=>700
  | d+1=>2*db d+1000
end
section
open Go.RowKit
section
variable {w:World} {A:Option Addr} {n c:Nat} {l:List Int}
theorem Fnr.of_own {W:World}{B n:Nat}{e:TypeId}{v:Value}{l:List FnV}(h:W.ownsRow B e 3 v n (kL_ l))(hm:n<=1000)(ha:∀f∈l,-9223372036854775808<=f.args/\f.args<=9223372036854775807):∃A c,v=.slice A n c/\Fnr W A n c l:=by
 have hl:l.length=n:=by have:=h.1;rw[y6_]at this;omega
 rcases h.2 with⟨rfl,rfl⟩|⟨g,cap,cur,rfl,hb,hg,hn,hc,hs,ht⟩
 · exact⟨none,0,rfl,hl,fun h=>absurd h (by rw[y6_];omega),Nat.le_refl _,by omega,fun h=>absurd h (by omega),ha⟩
 · exact⟨_,cap,rfl,hl,fun _=>⟨_,rfl,tf_lt hg,fun j u hj=>h.cells rfl j u hj⟩,hn,hm,fun _ ad e=>by injection e with e;subst e;rfl,ha⟩
end
end
section
open Go.RowKit
structure TurnV where
  what:Int
  func:Int
  at_:Int
  n:Int
  text:ByteArray
structure TurnOk (t:TurnV):Prop where
  what:-9223372036854775808<=t.what/\t.what<=9223372036854775807
  func:-9223372036854775808<=t.func/\t.func<=9223372036854775807
  at_:-9223372036854775808<=t.at_/\t.at_<=9223372036854775807
  n:-9223372036854775808<=t.n/\t.n<=9223372036854775807
  text:t.text.size<=9223372036854775807
end
section
open Go.RowKit
open Go.Lib (decDigits encodeRune)
def vG_ (B : Nat) (w : World) : Prop := Lib.TabBelow Tryz.prog B w "internal/strconv.uint64pow10" .u64 Lib.pow10Tab
theorem vG_.on {B:Nat}{w w':World}(h:vG_ B w)(hb:Below B w w'):vG_ B w':=Lib.TabBelow.on h hb
theorem vG_.keep {B:Nat}{w w':World}(h:vG_ B w)(hB:B<=w.heap.size)(hc:Chg [] w w'):vG_ B w':=h.on (hc.below0.mono hB)
theorem vG_.less {B B':Nat}{w:World}(h:vG_ B w)(hB:B<=B'):vG_ B' w:=fun w' hb=>h w' (hb.mono hB)
theorem ys_ (l:List UInt8):bts l=Lib.byteCells l:=by
 unfold bts Lib.byteCells;rfl
abbrev u8T:List TypeId:=[5]
def zmI (B:Nat)(w:World)(out:List UInt8)(e:Ending)(w':World):Prop :=
 ∃v' n',e=.returned v'/\n'=out.length/\w'.ownsRow B 5 1 v' n' (bts out)/\Fr B u8T w w'
theorem qo_ {B n:Nat}{v:Value}{out:List UInt8}{w:World}(r:Int)(hr:-2147483648<=r/\r<=2147483647)(ho:w.ownsRow B 5 1 v n (bts out))(hn:n=out.length)(hB:B<=w.heap.size)(hm:out.length<=1000000) :
    Calls Tryz.prog 31 #[v,.int .i32 r] w (zmI B w (out++encodeRune r)):=by
 subst hn;refine(Tryz.utf8_AppendRune_plain B v out.length (bts out) r hr.1 hr.2 w ho (by omega) hB).mono ?_;rintro e w' ⟨v',rfl,ho',o,hg⟩;have hl:(Lib.runeCells r).length=(encodeRune r).length:=Lib.runeCells_length r;refine⟨v',(out++encodeRune r).length,rfl,rfl,?_,?_⟩
 · rw[List.length_append,<-hl,ys_,Lib.byteCells_append,Lib.byteCells_encodeRune,<-ys_];exact ho'
 · exact((Fr.of_chg ((Chg.refl [] w).alloc o)).grown (zk_ ho ((Chg.refl [] w).alloc o)) (Nat.le_refl _) (by simp) hg)
theorem zeq {B n:Nat}{v:Value}{out:List UInt8}{w:World}(m:Nat)(hm:m<=9223372036854775807)(hP:vG_ B w)(ho:w.ownsRow B 5 1 v n (bts out))(hn:n=out.length)(hB:B<=w.heap.size)(hl:out.length<=1000000) :
    Calls Tryz.prog 65 #[v,.int .i64 (m:Int),.int .i64 10] w (zmI B w (out++decDigits m)):=by
 subst hn;refine(Tryz.strconv_AppendInt_10 B out.length (m:Int) (by omega) (by omega) v (bts out) w ho hB (by omega) hP).mono ?_;rintro e w' ⟨v',rfl,ho',hb,hk⟩;rw[Lib.itoa_nonneg]at ho';refine⟨v',(out++decDigits m).length,rfl,rfl,?_,?_⟩
 · rw[List.length_append,ys_,Lib.byteCells_append,<-ys_];exact ho'
 · refine⟨hb.os,hb.tape,hb.output,hb.size,fun k hlt hc=>?_⟩;rcases hc with h|h
   · exact hb.block k h
   · have e:w.heap[k]?=some (w.heap[k]):=Array.getElem?_eq_getElem hlt;rw[e];refine hk k _ e (by simp) (fun c fz hh=>?_);exact h c 5 fz (by rw[e,hh]) (by simp)
structure TkRng (t:TkV):Prop where
  sign:-2147483648<=t.sign/\t.sign<=2147483647
  n:-9223372036854775808<=t.n/\t.n<=9223372036854775807
  name:-2147483648<=t.name/\t.name<=2147483647
def zjD (o:List UInt8)(w:World)(e:Ending)(w':World):Prop:=e=.returned (.string (zj_ o))/\Chg [] w w'
theorem zap (nb:Bool)(t:TkV)(l:List TkV)(h:t.sign=48):txB nb (t::l)=(if nb then [32] else [])++(decDigits t.n.toNat++txB true l):=by rw[txB,if_pos h]
theorem qA_ (nb:Bool)(t:TkV)(l:List TkV)(h:t.sign≠48)(h1:yh_ t.sign=true)(h2:yr_ t.name=true):txB nb (t::l)=encodeRune t.sign++(encodeRune t.name++txB false l):=by rw[txB,if_neg h,if_pos h1,if_pos h2]
theorem gm_ (nb:Bool)(t:TkV)(l:List TkV)(h:t.sign≠48)(h1:yh_ t.sign=true)(h2:yr_ t.name=false):txB nb (t::l)=txB nb l:=by rw[txB,if_neg h,if_pos h1,if_neg (by rw[h2];decide)]
theorem qB_ (nb:Bool)(t:TkV)(l:List TkV)(h:t.sign≠48)(h1:yh_ t.sign=false)(h2:yi_ t.sign=true):txB nb (t::l)=encodeRune t.sign++txB false l:=by rw[txB,if_neg h,if_neg (by rw[h1];decide),if_pos h2]
theorem zaq (nb:Bool)(t:TkV)(l:List TkV)(h:t.sign≠48)(h1:yh_ t.sign=false)(h2:yi_ t.sign=false):txB nb (t::l)=txB nb l:=by rw[txB,if_neg h,if_neg (by rw[h1];decide),if_neg (by rw[h2];decide)]
theorem kO_ (r:Int):(encodeRune r).length<=4:=by
 unfold encodeRune;rw[List.length_map];exact(Lib.encodeRuneZ_length r).2
theorem zpW (m:Nat)(h:m<=9223372036854775807):(decDigits m).length<=19:=by
 have key:∀(k m:Nat),m<10^(k+1)->(decDigits m).length<=k+1:=by
  intro k
  induction k with
  | zero=>intro m hm;rw[Lib.decDigits_one (by omega)];simp
  | succ k ih =>
    intro m hm;by_cases h10:m<10
    · rw[Lib.decDigits_one h10];simp
    · rw[decDigits,dif_neg h10,List.length_append];have:=ih (m/10) (by rw[Nat.pow_succ]at hm;omega);simp;omega
 exact key 18 m (by omega)
section
variable {w:World} {A:Option Addr} {n c:Nat} {l:List TkV}
theorem ziq (hT:Tks w A n c l) (hr:∀t∈l,TkRng t) (hn:n<=1000) (hP:vG_ w.heap.size w):Calls Tryz.prog 32 #[.slice A n c] w (zjD (txB false l) w):=by
 obtain⟨i0,hi0,hz0,hz1,hz2⟩:=info_parts j4_;have HT:=hQ_ hT;have HR:=hQ_ hr;have HP:=hQ_ hP;have HNL:=hQ_ hT.len;clear hT hr hP;go_enter Tryz.func32,Tryz.ntmps32;go_wp2_with fail;go_loopw [3,4,9] (fun v b i wr=>∃(k:Nat)(nb:Bool)(out:List UInt8)(no:Nat),i=.int .i64 (k:Int)/\b=.bool nb/\k<=n/\Hid (no=out.length)/\no<=25*k/\Hid (wr.ownsRow w.heap.size 5 1 v no (bts out))/\Hid (out++txB nb (l.drop k)=txB false l)/\Hid (Chg [] w wr)) (fun _ _ i _=>n-(intOf i).toNat);case atStart=>exact⟨0,false,[],0,rfl,rfl,by omega,hQ_ rfl,by omega,hQ_ (World.ownsRow_nil _ _ _ _),hQ_ rfl,hQ_ (Chg.refl [] _)⟩
 case round =>
  obtain⟨k,nb,out,no,rfl,rfl,hk,HNO,hno,HO,HX,HC⟩:=hrel;by_cases hkn:k<n
  · have hkI:(k:Int)<(n:Int):=(by omega);obtain⟨t,htk⟩:∃t,l[k]?=some t:=⟨l[k]'(by rw[HNL.o];exact hkn),by simp⟩;have htr:=HR.o t (List.mem_of_getElem? htk);obtain⟨fb,fo,rfl,hfbl,e0,e1,e2⟩:=(HT.o.keep HC.o).cell htk;have HD:=hQ_ (show l.drop k=t::l.drop (k+1) from List.drop_eq_getElem?_toList_append.trans (by rw[htk];rfl));have HS:=hQ_ (show out++txB nb (t::l.drop (k+1))=txB false l from by rw[<-HD.o];exact HX.o);clear htk;obtain⟨ts,tn,tm⟩:=t;have hts:=htr.sign;have htn:=htr.n;have htm:=htr.name;simp only at e0 e1 e2 hts htn htm;clear htr;have hnum:=hQ_ hno;go_upto_region 7 with fail;have hX:=zb_.new wr 132 [.int .i32 ts,.int .i64 tn,.int .i32 tm];have hc2:=(Chg.refl [] wr).alloc (.cells #[.int .i32 ts,.int .i64 tn,.int .i32 tm] 132);have HX2:=hQ_ hX;have HC2:=hQ_ hc2;have HO2:=hQ_ (zk_ HO.o hc2);have HB2:=hQ_ (show w.heap.size<=(wr.alloc (.cells #[.int .i32 ts,.int .i64 tn,.int .i32 tm] 132)).heap.size from Nat.le_trans HC.o.size hc2.size);generalize wr.heap.size=gx at HX2⊢;generalize wr.alloc (.cells #[.int .i32 ts,.int .i64 tn,.int .i32 tm] 132)=w3 at HX2 HC2 HO2 HB2⊢;clear hX e0 e1 e2 hfbl hc2;have x0:=HX2.o.cell 0;have x1:=HX2.o.cell 1;have x2:=HX2.o.cell 2;have HF3:=hQ_ (show Fr w.heap.size u8T w w3 from Fr.of_chg (HC.o.new HC2.o));have HPW:=hQ_ (fun (W:World) (h:Fr w.heap.size u8T w W)=>HP.o.keep (Nat.le_refl _) (h.chg (Nat.le_refl _)));have HKX:=hQ_ (fun (W:World) (h:Fr w.heap.size u8T w3 W)=>h.whole HX2.o (by decide));by_cases h48:ts=48
    · subst h48;obtain⟨m,hmax,hm⟩:∃m:Nat,max tn 0=(m:Int)/\m=tn.toNat:=⟨tn.toNat,by omega,rfl⟩;have HM:=hQ_ hm;have HMB:=hQ_ (show m<=9223372036854775807 by omega);have HMC:=hQ_ (zpW m (by omega));clear hm;have HNX:=hQ_ (fun (o:List UInt8) (h:o=out++((if nb then [32] else [])++decDigits m))=>show o++txB true (l.drop (k+1))=txB false l from by
       rw[h,<-HS.o,zap _ _ _ rfl,HM.o];simp only[List.append_assoc]);cases nb with
      | true =>
        go_wp2_with (first
         | (at_builtin;refine wpList_append_own _ rfl (.tmp 22) (.tmp 23) _ rfl w.heap.size 5 i0 _ 1 1 Tryz.underlying39 hi0 hz0 hz1 hz2 rfl (by decide) u3 no (bts out) rfl (zk_ HO2.o ((Chg.refl [] w3).alloc _)) ⟨w3.heap.size,0,none⟩ 1 1 [.int .u8 32] rfl rfl (zK_ _ _ _) (by simp[Value.oneCell']) (by simp only[maxLen];omega) (by omega) (by have:=HB2.o;simp;omega) ?_;intro v6 w6 ho6 hg6 _;have HF6:=hQ_ ((Fr.of_chg (B:=w.heap.size) (TS:=u8T) ((Chg.refl [] w3).alloc (.cells #[.int .u8 32] 5))).grown (zk_ HO2.o ((Chg.refl [] w3).alloc _)) (Nat.le_refl _) (by simp) hg6);have HO6:=hQ_ (show w6.ownsRow w.heap.size 5 1 v6 (no+1) (bts (out++[32])) from by rw[ys_,Lib.byteCells_append,<-ys_];exact ho6);have y0:=(HKX.o w6 HF6.o).cell 0;have y1:=(HKX.o w6 HF6.o).cell 1;clear ho6 hg6)
         | (go_at_call 65;refine(zeq m HMB.o (HPW.o _ (HF3.o.trans HF6.o)) HO6.o (by rw[List.length_append,<-HNO.o];rfl) (Nat.le_trans HB2.o HF6.o.size) (by rw[List.length_append,<-HNO.o];simp;omega)).mono ?_;rintro e w7 ⟨v7,n7,rfl,hn7,ho7,hf7⟩;have HF7:=hQ_ (HF6.o.trans hf7);have HO7:=hQ_ ho7;have HN7:=hQ_ hn7;have hn7b:n7<=25*(k+1):=(by rw[hn7,List.length_append,List.length_append,<-HNO.o];have:=HMC.o;simp;omega);have z0:=(HKX.o w7 HF7.o).cell 0;clear hn7 ho7 hf7));go_roundw;(case rel=>exact⟨k+1,true,_,n7,by go_num,rfl,by omega,HN7,hn7b,HO7,hQ_ (HNX.o _ (by simp)),hQ_ ((HF3.o.trans HF7.o).chg (Nat.le_refl _))⟩);case measure=>simp[intOf];omega
      | false =>
        go_wp2_with (
         go_at_call 65;refine(zeq m HMB.o (HPW.o _ HF3.o) HO2.o HNO.o HB2.o (by rw[<-HNO.o];omega)).mono ?_;rintro e w7 ⟨v7,n7,rfl,hn7,ho7,hf7⟩;have HF7:=hQ_ hf7;have HO7:=hQ_ ho7;have HN7:=hQ_ hn7;have hn7b:n7<=25*(k+1):=(by rw[hn7,List.length_append,<-HNO.o];have:=HMC.o;omega);have z0:=(HKX.o w7 HF7.o).cell 0;clear hn7 ho7 hf7);go_roundw;(case rel=>exact⟨k+1,true,_,n7,by go_num,rfl,by omega,HN7,hn7b,HO7,hQ_ (HNX.o _ (by simp)),hQ_ ((HF3.o.trans HF7.o).chg (Nat.le_refl _))⟩);case measure=>simp[intOf];omega
    · have h48d:(ts==48)=false:=(by simpa using h48);have HKN:=hQ_ (kK_ ts w3);have HNA:=hQ_ (fun W=>zaQ ts W);have HNB:=hQ_ (fun W=>u7_ tm W);have HSK:=hQ_ (fun (h:txB nb (⟨ts,tn,tm⟩::l.drop (k+1))=txB nb (l.drop (k+1)))=>show out++txB nb (l.drop (k+1))=txB false l from by rw[<-h];exact HS.o);by_cases hkw:yi_ ts=true
      · rw [hkw]at HKN;by_cases hnm:yh_ ts=true
        · rw [hnm]at HNA;by_cases hnb:yr_ tm=true
          · rw[hnb]at HNB;have HNX:=hQ_ (fun (o:List UInt8) (h:o=out++(encodeRune ts++encodeRune tm))=>show o++txB false (l.drop (k+1))=txB false l from by
             rw[h,<-HS.o,qA_ _ _ _ h48 hnm hnb];simp only[List.append_assoc]);clear hkw hnm hnb;go_wp2_with (first
             | (go_at_call 66;refine HKN.o.mono ?_;rintro e w5 ⟨rfl,hc5⟩;have HF5:=hQ_ (Fr.of_chg (B:=w.heap.size) (TS:=u8T) hc5);have HO5:=hQ_ (zk_ HO2.o hc5);have y0:=(HKX.o w5 HF5.o).cell 0;have y2:=(HKX.o w5 HF5.o).cell 2;clear hc5)
             | (go_at_call 67;refine(HNA.o _).mono ?_;rintro e w8 ⟨rfl,rfl⟩)
             | (go_at_call 60;refine(HNB.o _).mono ?_;rintro e w8 ⟨rfl,rfl⟩));have hnn:=HNO.o;have HLN:=hQ_ (show no+4+4<=25*(k+1)/\no<=25000 from⟨by have:=hnum.out;omega,by have:=hnum.out;omega⟩);clear hnn;have HF5d:=hQ_ (show Fr w.heap.size u8T w3 w5.drew from HF5.o.trans (Fr.of_chg (Chg.refl [] w5).drew));have TOK:=zpz (B:=w.heap.size) (TS:=u8T) (hard:=[3,6]) (soft:=[3,6,7]);refine wp_flow (by kernel_rfl) (frT w.heap.size u8T [3,6] [3,6,7]) TOK (by kernel_rfl) ?_;refine flow_move_out TOK rfl rfl rfl ?_;refine flow1 (r:=.pointer (some ⟨gx,0,none⟩)) TOK rfl (.out rfl rfl) rfl (fun ev W he e1=>by go_simp) ?_;refine flow1h (r:=.int .i32 ts) TOK rfl (.inn rfl) rfl (fun ev W he hW e1=>by have r0:=(HKX.o W (HF5d.o.trans hW)).cell 0;clear hW;go_simp) ?_;refine vd_ (jk_ w.heap.size 5 (bts (out++encodeRune ts))) (yj_ _ _ _) (.inl rfl) rfl rfl (fun ev W he hW hfs=>?_) ?_
            · have hc0:Chg [] w5 W:=(Chg.refl [] w5).drew.trans (zom hW);rw[vq_ he (by kernel_rfl)];obtain⟨_,f1,f2,_⟩:=hfs;have e1:ev (.tmp 50)=u3:=f1;have e2:ev (.tmp 52)=.int .i32 ts:=f2;rw[show Array.map ev #[.tmp 50,.tmp 52]=#[ev (.tmp 50),ev (.tmp 52)] by simp];unfold yB_;simp only;rw[e1,e2];refine(qo_ ts hts (zk_ HO5.o hc0) HNO.o (Nat.le_trans (Nat.le_trans HB2.o HF5.o.size) hc0.size) (by have:=HLN.o;rw[<-HNO.o];omega)).mono ?_;rintro e w7 ⟨v7,n7,rfl,hn7,ho7,hf7⟩;exact⟨v7,rfl,ziD rfl hf7,by unfold jk_;rw[zg_,<-hn7];exact ho7⟩
            refine flow1 (r:=.pointer (some ⟨gx,2,none⟩)) TOK rfl (.out rfl rfl) rfl (fun ev W he e1=>by go_simp) ?_;refine flow1h (r:=.int .i32 tm) TOK rfl (.inn rfl) rfl (fun ev W he hW e1=>by have r0:=(HKX.o W (HF5d.o.trans hW)).cell 2;clear hW;go_simp) ?_;refine flow_call (jk_ w.heap.size 5 (bts (out++encodeRune ts++encodeRune tm))) (yj_ _ _ _) (.inl rfl) (by kernel_rfl) rfl (fun ev W he hW hfs=>?_) ?_
            · obtain⟨f1,f2,_⟩:=hfs;have e2:ev (.tmp 55)=.int .i32 tm:=f2;have f3:jk_ w.heap.size 5 (bts (out++encodeRune ts)) (ev (.tmp 53)) W:=f1;unfold jk_ at f3;rw[show(List.map ev [.tmp 53,.tmp 55]).toArray=#[ev (.tmp 53),ev (.tmp 55)] by simp,e2];refine(qo_ tm htm f3 (by rw[zg_]) (Nat.le_trans (Nat.le_trans HB2.o HF5.o.size) hW.size) (by have:=HLN.o;have:=kO_ ts;rw[List.length_append,<-HNO.o];omega)).mono ?_;rintro e w7 ⟨v7,n7,rfl,hn7,ho7,hf7⟩;exact⟨v7,rfl,ziD rfl hf7,by unfold jk_;rw[zg_,<-hn7];exact ho7⟩
            refine flow_assign TOK rfl (yj_ _ _ _) (.inl rfl) rfl ?_;intro vs W hW hF;have hd:jk_ w.heap.size 5 (bts (out++encodeRune ts++encodeRune tm)) (vs 3) W:=hF 3 _ rfl rfl;have HO9:=hQ_ hd;have HF9:=hQ_ (show Fr w.heap.size u8T w3 W from HF5d.o.trans hW);simp only[zW_,Act.put,List.setIfInBounds_toArray,List.set_cons_zero,List.set_cons_succ];clear hF hW hd TOK;obtain⟨w9,hw9⟩:∃w9:World,w9=W:=⟨_,rfl⟩;rw[<-hw9]at HO9 HF9⊢;clear hw9;obtain⟨n9,hn9⟩:∃n9,n9=(out++encodeRune ts++encodeRune tm).length:=⟨_,rfl⟩;have HO8:=hQ_ (show w9.ownsRow w.heap.size 5 1 (vs 3) n9 (bts (out++encodeRune ts++encodeRune tm)) from by have:=HO9.o;unfold jk_ at this;rwa[zg_,<-hn9]at this);have hn9b:n9<=25*(k+1):=(by have:=HLN.o;have:=kO_ ts;have:=kO_ tm;rw[hn9,List.length_append,List.length_append,<-HNO.o];omega);have HN9:=hQ_ hn9;have s0:=(HKX.o w9 HF9.o).cell 0;clear hn9;generalize vs 3=v3 at HO8⊢;clear HO9;go_wp2_with fail;go_roundw;(case rel=>exact⟨k+1,false,_,n9,by go_num,rfl,by omega,HN9,hn9b,HO8,hQ_ (HNX.o _ (by simp only[List.append_assoc])),hQ_ ((HF3.o.trans HF9.o).chg (Nat.le_refl _))⟩);case measure=>simp[intOf];omega
          · have hnbf:yr_ tm=false:=(by simpa using hnb);rw[hnbf]at HNB;have HS2:=hQ_ (HSK.o (gm_ nb ⟨ts,tn,tm⟩ _ h48 hnm hnbf));clear hkw hnm hnb hnbf;go_wp2_with (first
             | (go_at_call 66;refine HKN.o.mono ?_;rintro e w5 ⟨rfl,hc5⟩;have HF5:=hQ_ (Fr.of_chg (B:=w.heap.size) (TS:=u8T) hc5);have HO5:=hQ_ (zk_ HO2.o hc5);have HC5:=hQ_ (HC.o.new (HC2.o.new hc5));have y0:=(HKX.o w5 HF5.o).cell 0;have y2:=(HKX.o w5 HF5.o).cell 2;clear hc5)
             | (go_at_call 67;refine(HNA.o _).mono ?_;rintro e w8 ⟨rfl,rfl⟩)
             | (go_at_call 60;refine(HNB.o _).mono ?_;rintro e w8 ⟨rfl,rfl⟩));go_roundw;(case rel=>exact⟨k+1,nb,out,no,by go_num,rfl,by omega,HNO,by omega,HO5,HS2,HC5⟩);case measure=>simp[intOf];omega
        · have hnmf:yh_ ts=false:=(by simpa using hnm);rw[hnmf]at HNA;have HNX:=hQ_ (fun (o:List UInt8)(h:o=out++encodeRune ts)=>show o++txB false (l.drop (k+1))=txB false l from by
           rw[h,<-HS.o,qB_ _ _ _ h48 hnmf hkw];simp only[List.append_assoc]);clear hkw hnm hnmf;have hlo:out.length<=25000:=(by rw[<-HNO.o];omega);go_wp2_with (first
           | (go_at_call 31;refine(qo_ ts hts HO5.o HNO.o (Nat.le_trans HB2.o HF5.o.size) (by omega)).mono ?_;rintro e w7 ⟨v7,n7,rfl,hn7,ho7,hf7⟩;have HF7:=hQ_ (HF5.o.trans hf7);have HO7:=hQ_ ho7;have HN7:=hQ_ hn7;have hn7b:n7<=25*(k+1):=(by have:=kO_ ts;rw[hn7,List.length_append,<-HNO.o];omega);have z0:=(HKX.o w7 HF7.o).cell 0;clear hn7 ho7 hf7)
           | (go_at_call 66;refine HKN.o.mono ?_;rintro e w5 ⟨rfl,hc5⟩;have HF5:=hQ_ (Fr.of_chg (B:=w.heap.size) (TS:=u8T) hc5);have HO5:=hQ_ (zk_ HO2.o hc5);have HC5:=hQ_ (HC.o.new (HC2.o.new hc5));have y0:=(HKX.o w5 HF5.o).cell 0;have y2:=(HKX.o w5 HF5.o).cell 2;clear hc5)
           | (go_at_call 67;refine(HNA.o _).mono ?_;rintro e w8 ⟨rfl,rfl⟩)
           | (go_at_call 60;refine(HNB.o _).mono ?_;rintro e w8 ⟨rfl,rfl⟩));go_roundw;(case rel=>exact⟨k+1,false,_,n7,by go_num,rfl,by omega,HN7,hn7b,HO7,hQ_ (HNX.o _ rfl),hQ_ ((HF3.o.trans HF7.o).chg (Nat.le_refl _))⟩);case measure=>simp[intOf];omega
      · have hkf:yi_ ts=false:=(by simpa using hkw);have hnmf:yh_ ts=false:=by
         cases hh:yh_ ts with
         | false=>rfl
         | true=>exact absurd (xC_ hh).1 hkw
        rw[hkf]at HKN;have HS2:=hQ_ (HSK.o (zaq nb ⟨ts,tn,tm⟩ _ h48 hnmf hkf));clear hkw hkf hnmf;go_wp2_with (first
         | (go_at_call 66;refine HKN.o.mono ?_;rintro e w5 ⟨rfl,hc5⟩;have HF5:=hQ_ (Fr.of_chg (B:=w.heap.size) (TS:=u8T) hc5);have HO5:=hQ_ (zk_ HO2.o hc5);have HC5:=hQ_ (HC.o.new (HC2.o.new hc5));have y0:=(HKX.o w5 HF5.o).cell 0;have y2:=(HKX.o w5 HF5.o).cell 2;clear hc5)
         | (go_at_call 67;refine(HNA.o _).mono ?_;rintro e w8 ⟨rfl,rfl⟩)
         | (go_at_call 60;refine(HNB.o _).mono ?_;rintro e w8 ⟨rfl,rfl⟩));go_roundw;(case rel=>exact⟨k+1,nb,out,no,by go_num,rfl,by omega,HNO,by omega,HO5,HS2,HC5⟩);case measure=>simp[intOf];omega
  · have hkI:¬(k:Int)<(n:Int):=(by omega);have HXE:=hQ_ (show out=txB false l from by
     have:=HX.o;rw[List.drop_eq_nil_of_le (by rw[HNL.o];omega),show txB nb []=[] from by cases nb<;>rfl,List.append_nil]at this;exact this);obtain⟨A3,c3,rfl,hbs,_⟩:=Bs.of_own HO.o;have HSTR:=hQ_ (hbs.str 39 5 9 Tryz.underlying39 Tryz.underlying5 Tryz.underlying9);have hstr:=HSTR.o;go_wp2_with fail;go_ret;exact⟨by rw[<-HXE.o];rfl,HC.o⟩
end
end
section
open Go.RowKit
open Go.Lib (decDigits encodeRune)
structure OwnM (w:World) (B:Nat) (v:Value) (n:Nat) (out:List UInt8):Prop where
  len:out.length=n
  row:∃g cap cur fz,v=.slice (some ⟨g,0,none⟩) n cap/\B<=g/\w.heap[g]?=some (.cells cur 5 fz)/\(fz.2=0\/fz.1=cur.size)/\n<=cap/\cap<=maxLen/\cur.size=cap/\cur.toList.take n=bts out
section
variable {w w':World} {B n:Nat} {v:Value} {out:List UInt8}
theorem OwnM.keep (h:OwnM w B v n out)(hc:Chg [] w w'):OwnM w' B v n out:=by
 obtain⟨hl,g,cap,cur,fz,e,hB,hg,rest⟩:=h;refine⟨hl,g,cap,cur,fz,e,hB,?_,rest⟩;rw[hc.block g (Array.getElem?_eq_some_iff.1 hg).1 (by simp),hg]
theorem OwnM.fr (h:OwnM w B v n out)(hg:w.grownBy w' v.ownBlock):Fr B u8T w w':=by
 obtain⟨hl,g,cap,cur,fz,rfl,hB,hgg,rest⟩:=h;refine⟨hg.os,hg.tape,hg.output,hg.size,fun k hk hc=>?_⟩;refine hg.block k hk (fun e=>?_);simp only[Value.ownBlock,Option.some.injEq]at e;subst e;rcases hc with h1|h1
 · omega
 · exact h1 _ _ _ hgg (by simp)
theorem OwnM.cells (h:OwnM w B v n out):∃g cap,v=.slice (some ⟨g,0,none⟩) n cap/\(∀j u,(bts out)[j]?=some u->w.cell? ((⟨g,0,none⟩:Addr).add j)=some u)/\n<=cap/\cap<=maxLen:=by
 obtain⟨hl,g,cap,cur,fz,rfl,hB,hgg,hf,hnc,hcm,hcs,htk⟩:=h;refine⟨g,cap,rfl,fun j u hu=>?_,hnc,hcm⟩;have hadd:(⟨g,0,none⟩:Addr).add j=⟨g,j,none⟩:=by unfold Addr.add;split<;>simp_all
 rw[hadd,cell_of_row w g j cur _ fz hgg];rw[<-htk,List.getElem?_take]at hu;split at hu
 · simpa using hu
 · cases hu
theorem zhx {g:Nat}{cur:Array Value}{t:TypeId}{fz:Nat×Nat}(hg:w.heap[g]?=some (.cells cur t fz))(hf:fz.2=0\/fz.1=cur.size)(j:Nat)(hj:j<cur.size):w.frozen? ⟨g,j,none⟩=false:=by
 obtain⟨lo,hi⟩:=fz;simp only[World.frozen?,hg,Bool.and_eq_false_iff,decide_eq_false_iff_not];simp only at hf;omega
end
theorem gn_ {α:Type}(l:List α)(o:Nat)(v:α)(h:o<l.length):(l.set o v).take (o+1)=l.take o++[v]:=by
 induction l generalizing o with
 | nil=>simp at h
 | cons a l ih =>
   cases o with
   | zero=>simp
   | succ o=>simp at h⊢;exact ih o h
theorem kY_ (g:Nat)(t:TypeId)(fz:Nat×Nat):∀(vs:List Value)(o:Nat)(cur:Array Value)(w:World),w.heap[g]?=some (.cells cur t fz)->o+vs.length<=cur.size ->
    ∃cur',(w.setCells g o vs).heap[g]?=some (.cells cur' t fz)/\cur'.size=cur.size/\cur'.toList.take (o+vs.length)=cur.toList.take o++vs
  | [],o,cur,w,hg,_=>⟨cur,hg,rfl,by simp⟩
  | v::r,o,cur,w,hg,hl=>by
    have h1:(w.setCell ⟨g,o,none⟩ v).heap[g]?=some (.cells (cur.setIfInBounds o v) t fz):=(by
     rw[setCell_eq_setRow w g o cur t fz v hg];exact setRow_heap w g cur _ t fz hg);have hl':o+(r.length+1)<=cur.size:=hl;obtain⟨c',a,b,c⟩:=kY_ g t fz r (o+1) (cur.setIfInBounds o v) _ h1 (by simp;omega);refine⟨c',a,by rw[b];simp,?_⟩;have e:o+(v::r).length=o+1+r.length:=(by simp only[List.length_cons];omega);rw[e,c,Array.toList_setIfInBounds,gn_ _ _ _ (by simp;omega)];simp
theorem us_ (g:Nat):∀(vs:List Value)(o:Nat)(w:World),w.grownBy (w.setCells g o vs) (some g)
  | [],_,w=>World.grownBy.refl w _
  | v::r,o,w=>Lib.grownBy_trans (Lib.grownBy_setCell w g o v) (us_ g r (o+1) _)
theorem zkz (w:World)(tx ty:TypeId)(x:Value)(m:Nat)(new:List UInt8){B n:Nat}{v:Value}{out:List UInt8}(h:OwnM w B v n out)(hs:Go.Src Tryz.prog 1 tx x m (bts new) w)(hB:B<=w.heap.size)(hm:n+m<=1000000) :
    ∃v' w',(Builtin.append_ #[39,tx] ty #[v,x]).run Tryz.prog w=.ok v' w'/\OwnM w' B v' (n+m) (out++new)/\w.grownBy w' v.ownBlock:=by
 obtain⟨i,hi,hz,h1,h2⟩:=info_parts j4_;have hsl:new.length=m:=by have:=hs.newsLen;simpa[bts] using this
 obtain⟨hl,g,cap,cur,fz,rfl,hBg,hg,hf,hnc,hcm,hcs,htk⟩:=h;by_cases hr:n+m<=cap
 · have hlen:(bts new).length=m:=(by simpa[bts] using hsl);have hrun:=run_append_room_src (P:=Tryz.prog) w 39 tx ty 5 i Tryz.underlying39 hi g 0 n cap x m (bts new) (by rw[h1];exact hs) hr
     (fun j hj=>by rw[h1,cell_of_row w g _ cur _ fz hg];simp;omega)
     (fun j hj=>by rw[h1];exact zhx hg hf _ (by omega));rw[h1,Nat.mul_one,Nat.zero_add]at hrun;obtain⟨c',a,b,c⟩:=kY_ g 5 fz (bts new) n cur w hg (by omega);refine⟨_,_,hrun,⟨by rw[List.length_append];omega,g,cap,c',fz,rfl,hBg,a,by rw[b];exact hf,hr,hcm,by rw[b];exact hcs,?_⟩,us_ g _ _ w⟩;rw[hlen]at c;rw[c,htk];simp[bts]
 · have hold:(Builtin.firstCells i.size n (.slice (some ⟨g,0,none⟩) n cap)).run Tryz.prog w.drew=.ok (bts out).toArray w.drew:=(by
    refine run_firstCells_some w.drew i.size n ⟨g,0,none⟩ n cap (bts out) (by rw[h1];simp[bts,hl]) (fun j u hu=>?_);have hadd:(⟨g,0,none⟩:Addr).add j=⟨g,j,none⟩:=(by unfold Addr.add;split<;>simp_all);rw[hadd];show w.cell? _=_;rw[cell_of_row w g j cur _ fz hg];rw[<-htk,List.getElem?_take]at hu;split at hu
    · simpa using hu
    · cases hu);have hrun:=run_append_grow_src (P:=Tryz.prog) w 39 tx ty 5 i _ Tryz.underlying39 hi hz (some ⟨g,0,none⟩) n cap (bts out) hold x m (bts new) (by rw[h1];exact hs) (by omega) (by omega)
     (by rw[h2];exact growslice_fits (by omega) (by omega));have hge:=grownCap_ge w (n+m) cap 5;refine⟨_,_,hrun,⟨by rw[List.length_append];omega,w.heap.size,_,_,(0,0),rfl,hB,heap_alloc_new w.drew _,.inl rfl,hge,grownCap_le_maxLen w (n+m) cap _ (by unfold maxLen;omega),?_,?_⟩,⟨rfl,rfl,rfl,by simp,fun k hk _=>heap_alloc_old w.drew _ hk⟩⟩
   · simp only[Array.size_append,List.size_toArray,size_zeroCells,List.length_append];simp[bts,Value.cells,hl,hsl];omega
   · have:n+m=(bts out++bts new).length:=(by simp[bts,hl,hsl]);simp only[Array.toList_append];rw[this,List.take_left];simp[bts]
section
variable (w:World)
theorem yq_ {ops:Array Oper}{rest:List Oper}{o:Oper}{a:Act}{Q:Exit->Act->World->Prop}(hgd:o.guard=none)(s x:Operand)(tx:TypeId)
    (hop:o.op=Op.call { callee:=Callee.builtin Builtin.append,args:=#[s,x],argTypes:=#[39,tx] }) {B n:Nat} {v:Value} {out:List UInt8} (hs:a.eval s=v) (h:OwnM w B v n out)
    (X:Value) (m:Nat) (new:List UInt8) (hx:a.eval x=X) (hsrc:Go.Src Tryz.prog 1 tx X m (bts new) w) (hB:B<=w.heap.size) (hm:n+m<=1000000)
    (hK:∀v' w',OwnM w' B v' (n+m) (out++new)->w.grownBy w' v.ownBlock->wpList Tryz.prog ops Q rest (a.put o.dst v') w'):wpList Tryz.prog ops Q (o::rest) a w:=by
      refine wpList_plain hgd fun K hK'=>?_;obtain⟨v',w',hrun,r1,r2⟩:=zkz w tx o.type X m new h hsrc hB hm;unfold Oper.wp;simp[execOp,hop,resolve,invoke,builtin,hs,hx,hrun,Result.andThen];exact hK' _ _ (hK v' w' r1 r2)
end
def WrM (B:Nat)(w:World)(out:List UInt8)(e:Ending)(w':World):Prop :=
 ∃v' n',e=.returned v'/\n'=out.length/\OwnM w' B v' n' out/\Fr B u8T w w'
end
section
open Go.RowKit
open Go.Lib (decDigits encodeRune)
set_option linter.unusedSimpArgs false
variable {w:World} {B n:Nat} {v:Value} {out:List UInt8}
theorem uy_ (w:World)(xs:List Value)(m:Nat)(h1:∀u∈xs,u.oneCell'=true)(hl:xs.length=m):Go.Src Tryz.prog 1 39 (.slice (some ⟨w.heap.size,0,none⟩) m m) m xs (w.alloc (.cells xs.toArray 5)) :=
 Go.Src.ofSlice _ Tryz.underlying39 ⟨w.heap.size,0,none⟩ m m xs (by rw[hl,Nat.mul_one]) (zK_ _ _ _) h1
theorem OwnM.wrote {w':World}{W:World}{v':Value}{m:Nat}{new:List UInt8}(h:OwnM w B v n out)(hc:Chg [] w W)(ho:OwnM w' B v' (n+m) (out++new))(hg:W.grownBy w' v.ownBlock):WrM B w (out++new) (.returned v') w' :=
 ⟨v',n+m,rfl,ho.len.symm,ho,(Fr.of_chg hc).trans ((h.keep hc).fr hg)⟩
theorem zfl (r:Int)(h0:128<=r)(h1:r<=2047)(ho:OwnM w B v n out)(hB:B<=w.heap.size)(hm:n<=900000):Calls Tryz.prog 64 #[v,.int .i32 r] w (WrM B w (out++encodeRune r)):=by
 have HE:=hQ_ (show bts (encodeRune r)=[.int .u8 (192+r/64),.int .u8 (128+r%64)] from by rw[ys_,Lib.byteCells_encodeRune,Lib.runeCells,Lib.encodeRuneZ_two h0 h1];rfl);have HO:=hQ_ ho;clear ho;go_enter Tryz.func64,Tryz.ntmps64;go_wp2_with (
  at_builtin;refine yq_ _ rfl _ _ _ rfl rfl (HO.o.keep ((Chg.refl [] w).alloc (.cells #[.int .u8 (192+r/64),.int .u8 (128+r%64)] 5))) (.slice (some ⟨w.heap.size,0,none⟩) 2 2) 2 (encodeRune r) rfl ?src ?hB ?hm ?_);case src =>
  rw[HE.o];exact uy_ w [.int .u8 (192+r/64),.int .u8 (128+r%64)] 2 (by intro u hu;simp at hu;rcases hu with rfl|rfl<;>rfl) rfl
 case hB=>simp;omega
 case hm=>omega
 intro v' w2 ho2 hg2
 go_wp2
 go_ret;exact HO.o.wrote ((Chg.refl [] w).alloc _) ho2 hg2
theorem zhN (r:Int)(h0:2048<=r)(h1:r<55296)(ho:OwnM w B v n out)(hB:B<=w.heap.size)(hm:n<=900000):Calls Tryz.prog 64 #[v,.int .i32 r] w (WrM B w (out++encodeRune r)):=by
 have HE:=hQ_ (show bts (encodeRune r)=[.int .u8 (224+r/4096),.int .u8 (128+r/64%64),.int .u8 (128+r%64)] from by rw[ys_,Lib.byteCells_encodeRune,Lib.runeCells,Lib.encodeRuneZ_three (.inl ⟨h0,h1⟩)];rfl);have HO:=hQ_ ho;clear ho;go_enter Tryz.func64,Tryz.ntmps64;go_wp2_with (
  at_builtin;refine yq_ _ rfl _ _ _ rfl rfl (HO.o.keep ((Chg.refl [] w).alloc (.cells #[.int .u8 (224+r/4096),.int .u8 (128+r/64%64),.int .u8 (128+r%64)] 5))) (.slice (some ⟨w.heap.size,0,none⟩) 3 3) 3 (encodeRune r) rfl ?src ?hB ?hm ?_);case src =>
  rw[HE.o];exact uy_ w [.int .u8 (224+r/4096),.int .u8 (128+r/64%64),.int .u8 (128+r%64)] 3 (by intro u hu;simp at hu;rcases hu with rfl|rfl|rfl<;>rfl) rfl
 case hB=>simp;omega
 case hm=>omega
 intro v' w2 ho2 hg2
 go_wp2
 go_ret;exact HO.o.wrote ((Chg.refl [] w).alloc _) ho2 hg2
theorem zhO (r:Int)(h0:57343<r)(h1:r<=65535)(ho:OwnM w B v n out)(hB:B<=w.heap.size)(hm:n<=900000):Calls Tryz.prog 64 #[v,.int .i32 r] w (WrM B w (out++encodeRune r)):=by
 have HE:=hQ_ (show bts (encodeRune r)=[.int .u8 (224+r/4096),.int .u8 (128+r/64%64),.int .u8 (128+r%64)] from by rw[ys_,Lib.byteCells_encodeRune,Lib.runeCells,Lib.encodeRuneZ_three (.inr ⟨h0,h1⟩)];rfl);have HO:=hQ_ ho;clear ho;go_enter Tryz.func64,Tryz.ntmps64;go_wp2_with (
  at_builtin;refine yq_ _ rfl _ _ _ rfl rfl (HO.o.keep ((Chg.refl [] w).alloc (.cells #[.int .u8 (224+r/4096),.int .u8 (128+r/64%64),.int .u8 (128+r%64)] 5))) (.slice (some ⟨w.heap.size,0,none⟩) 3 3) 3 (encodeRune r) rfl ?src ?hB ?hm ?_);case src =>
  rw[HE.o];exact uy_ w [.int .u8 (224+r/4096),.int .u8 (128+r/64%64),.int .u8 (128+r%64)] 3 (by intro u hu;simp at hu;rcases hu with rfl|rfl|rfl<;>rfl) rfl
 case hB=>simp;omega
 case hm=>omega
 intro v' w2 ho2 hg2
 go_wp2
 go_ret;exact HO.o.wrote ((Chg.refl [] w).alloc _) ho2 hg2
theorem zco (r:Int)(h0:65536<=r)(h1:r<=1114111)(ho:OwnM w B v n out)(hB:B<=w.heap.size)(hm:n<=900000):Calls Tryz.prog 64 #[v,.int .i32 r] w (WrM B w (out++encodeRune r)):=by
 have HE:=hQ_ (show bts (encodeRune r)=[.int .u8 (240+r/262144),.int .u8 (128+r/4096%64),.int .u8 (128+r/64%64),.int .u8 (128+r%64)] from by rw[ys_,Lib.byteCells_encodeRune,Lib.runeCells,Lib.encodeRuneZ_four h0 h1];rfl);have HO:=hQ_ ho;clear ho;go_enter Tryz.func64,Tryz.ntmps64;go_wp2_with (
  at_builtin;refine yq_ _ rfl _ _ _ rfl rfl (HO.o.keep ((Chg.refl [] w).alloc (.cells #[.int .u8 (240+r/262144),.int .u8 (128+r/4096%64),.int .u8 (128+r/64%64),.int .u8 (128+r%64)] 5))) (.slice (some ⟨w.heap.size,0,none⟩) 4 4) 4 (encodeRune r) rfl ?src ?hB ?hm ?_);case src =>
  rw[HE.o];exact uy_ w [.int .u8 (240+r/262144),.int .u8 (128+r/4096%64),.int .u8 (128+r/64%64),.int .u8 (128+r%64)] 4 (by intro u hu;simp at hu;rcases hu with rfl|rfl|rfl|rfl<;>rfl) rfl
 case hB=>simp;omega
 case hm=>omega
 intro v' w2 ho2 hg2
 go_wp2
 go_ret;exact HO.o.wrote ((Chg.refl [] w).alloc _) ho2 hg2
theorem znT {r:Int}(h:yr_ r=true):(0<=r/\r<=127)\/(128<=r/\r<=2047)\/(2048<=r/\r<55296)\/(57343<r/\r<=65535)\/(65536<=r/\r<=1114111):=by
 by_cases hs:yR_ r=true
 · have:97<=r/\r<=122:=(by
    unfold yR_ at hs;simpa using hs);omega
 · have hs':yR_ r=false:=(by simpa using hs);by_cases h2:255<r
   · rw[kA_ hs' h2]at h;unfold vN_ at h;simp at h;omega
   · rw[zdD hs' h2]at h;cases h
theorem zfm (r:Int)(hr:yr_ r=true)(ho:OwnM w B v n out)(hB:B<=w.heap.size)(hm:n<=900000):Calls Tryz.prog 31 #[v,.int .i32 r] w (WrM B w (out++encodeRune r)):=by
 have HN:=hQ_ (znT hr);have HO:=hQ_ ho;clear ho hr;by_cases h127:r<=127
 · have h0:0<=r:=(by have:=HN.o;omega);have HE:=hQ_ (show bts (encodeRune r)=[.int .u8 r] from by rw[ys_,Lib.byteCells_encodeRune,Lib.runeCells,Lib.encodeRuneZ_one h0 h127];rfl);go_enter Tryz.func31,Tryz.ntmps31;go_wp2_with (
    at_builtin;refine yq_ _ rfl _ _ _ rfl rfl (HO.o.keep ((Chg.refl [] w).alloc (.cells #[.int .u8 r] 5))) (.slice (some ⟨w.heap.size,0,none⟩) 1 1) 1 (encodeRune r) rfl ?src ?hB ?hm ?_);case src =>
    rw[HE.o];exact uy_ w [.int .u8 r] 1 (by intro u hu;simp at hu;subst hu;rfl) rfl
   (case hB=>simp;omega);(case hm=>omega);intro v' w2 ho2 hg2
   go_wp2
   go_ret;exact HO.o.wrote ((Chg.refl [] w).alloc _) ho2 hg2
 · have h128:128<=r:=(by omega);have hmx:r<=1114111:=(by have:=HN.o;omega);have HC:=hQ_ (show Calls Tryz.prog 64 #[v,.int .i32 r] w (WrM B w (out++encodeRune r)) from by
    rcases HN.o with h|h|h|h|h
    · omega
    · exact zfl r h.1 h.2 HO.o hB hm
    · exact zhN r h.1 h.2 HO.o hB hm
    · exact zhO r h.1 h.2 HO.o hB hm
    · exact zco r h.1 h.2 HO.o hB hm);go_enter Tryz.func31,Tryz.ntmps31;go_wp2_with (
    go_at_call 64;refine HC.o.mono ?_;rintro e w5 ⟨v',n',rfl,hn',ho',hf'⟩);go_ret;exact⟨v',n',rfl,hn',ho',hf'⟩
end
section
open Go.RowKit
theorem Sto.more {w w':World}{p bL bS bW g gN:Nat}{ex:List Nat}{s:St}{x:SV}{vP:Value}(h:Sto w ⟨p,bL,bS,bW,g,gN,ex⟩ s x vP)(hc:Chg [] w w'){q:Nat}(hq:w.heap.size<=q)(hq2:q<w'.heap.size):Sto w' ⟨p,bL,bS,bW,g,gN,q::ex⟩ s x vP:=by
 have h1:=zi_.1 h.rt;have hpl:=h.pl;have h64:=h.p64;have hk:=h.keep hc;obtain⟨A,c,us,e,hc1,hs,hu,hA,hR⟩:=h.pgs;have hin:∀i,i∈SK.D ⟨p,bL,bS,bW,g,gN,q::ex⟩->i=q\/i∈SK.D ⟨p,bL,bS,bW,g,gN,ex⟩:=fun i hi=>by
  simp only[SK.D,List.mem_cons]at hi⊢;rcases hi with h|h|h|h|h|h|h|h<;>simp[h]
 refine { dsk:=hk.dsk,rec_:=hk.rec_,pgs:=?_,nm:=hk.nm,ng:=hk.ng,rt:=hk.rt,ep:=hk.ep,pl:=hk.pl,nl:=hk.nl,p64:=hk.p64,us:=hk.us,sq:=hk.sq,exl:=fun i hi=>?_ }
 · refine⟨A,c,us,e,hc1,hs.keep hc,hu,fun ad ha=>⟨(hA ad ha).1,fun hm=>?_⟩,fun i u l hu' hl=>?_⟩
   · rcases hin _ hm with hm|hm
     · obtain⟨ad',ea,hb,_⟩:=hs (by omega);rw[ha]at ea;injection ea with ea;subst ea;omega
     · exact(hA ad ha).2 hm
   · obtain⟨A',n',c',eu,hB,hD⟩:=hR i u l hu' hl;refine⟨A',n',c',eu,hB.keep hc,fun ad ha hm=>?_⟩;rcases hin _ hm with hm|hm
     · obtain⟨ad',ea,hb,_⟩:=hB.src (by rw[zg_,h64 l (List.mem_of_getElem? hl)];omega);rw[ha]at ea;injection ea with ea;subst ea;omega
     · exact hD ad ha hm
 · simp only[List.mem_cons]at hi;rcases hi with rfl|hi
   · exact hq2
   · exact hk.exl i hi
theorem Sto.past {w w':World}{k:SK}{s:St}{x:SV}{vP:Value}(h:Sto w k s x vP){q:Nat}(hc:Chg [q] w w')(hq:q∈k.ex)(hn:∀i∈[k.p,k.bL,k.bS,k.bW,k.g,k.gN],i≠q):Sto w' k s x vP:=by
 have hne:∀i∈[k.p,k.bL,k.bS,k.bW,k.g,k.gN],i∉[q]:=fun i hi hm=>hn i hi (by simpa using hm);exact { h with dsk:=Dsk.away h.dsk hc (hne _ (by simp)) (hne _ (by simp)) (hne _ (by simp)) (hne _ (by simp)),rec_:=h.rec_.chg hc (hne _ (by simp)),pgs:=h.pgs.chg hc (fun i hi=>by simp only[List.mem_singleton]at hi;subst hi;simp[SK.D,hq]),nm:=h.nm.chg hc (hne _ (by simp)),exl:=fun i hi=>Nat.lt_of_lt_of_le (h.exl i hi) hc.size }
end
section
open Go.RowKit
structure HV where
  pg:Int
  ms:Int
  fs:List FnV
  t:Nat
  f:Nat
  calls:Nat
  L:List UInt8
  V:List Bool
  most:Nat
structure HK where
  h:Nat
  pm:Nat
  gC:Nat
  gD:Nat
  A:Option Addr
  c:Nat
def hoC (k:SK)(j:HK)(y:HV):List Value:=[.pointer (some ⟨k.g,0,none⟩),.int .i64 y.pg,.int .i64 y.ms,.slice j.A y.fs.length j.c,.pointer (some ⟨j.pm,0,none⟩),.int .i64 (y.t:Int),.int .i64 (y.f:Int),.int .i64 (y.calls:Int)]
structure Ho (w:World) (k:SK) (s:St) (x:SV) (j:HK) (y:HV):Prop where
  sto:∃vP,Sto w k s x vP
  hin:j.h∈k.ex
  hne:∀i∈[k.p,k.bL,k.bS,k.bW,k.g,k.gN],i≠j.h
  rec_:zb_ w j.h 64 (hoC k j y)
  fn:Fnr w j.A y.fs.length j.c y.fs
  fA:0<y.fs.length->∀ad,j.A=some ad->ad.block∉k.D
  mm:∃X Y,Mm w j.pm j.gC j.gD y.L X y.V Y y.most
  far:j.pm∉k.D/\j.gC∉k.D/\j.gD∉k.D
  tS:y.t<=2048
  fS:y.f<=1000
section
variable {w w':World} {k:SK} {s:St} {x:SV} {j:HK} {y:HV}
theorem Ho.keep (h:Ho w k s x j y)(hc:Chg [] w w'):Ho w' k s x j y:=by
 obtain⟨vP,hs⟩:=h.sto;obtain⟨X,Y,hm⟩:=h.mm;exact { h with sto:=⟨vP,hs.keep hc⟩,rec_:=h.rec_.keep hc,fn:=h.fn.keep hc,mm:=⟨X,Y,hm.keep hc⟩ }
theorem Ho.cells (h:Ho w k s x j y):w.cell? ⟨j.h,0,none⟩=some (.pointer (some ⟨k.g,0,none⟩))/\w.cell? ⟨j.h,1,none⟩=some (.int .i64 y.pg)/\w.cell? ⟨j.h,2,none⟩=some (.int .i64 y.ms)/\w.cell? ⟨j.h,3,none⟩=some (.slice j.A y.fs.length j.c) /\
    w.cell? ⟨j.h,4,none⟩=some (.pointer (some ⟨j.pm,0,none⟩))/\w.cell? ⟨j.h,5,none⟩=some (.int .i64 (y.t:Int))/\w.cell? ⟨j.h,6,none⟩=some (.int .i64 (y.f:Int))/\w.cell? ⟨j.h,7,none⟩=some (.int .i64 (y.calls:Int)) :=
 ⟨h.rec_.cell 0,h.rec_.cell 1,h.rec_.cell 2,h.rec_.cell 3,h.rec_.cell 4,h.rec_.cell 5,h.rec_.cell 6,h.rec_.cell 7⟩
end
end
section
open Go.RowKit
section
variable {w:World} {k:SK} {s:St} {x:SV} {j:HK} {y:HV}
theorem zlp (h:Ho w k s x j y):Calls Tryz.prog 12 #[.pointer (some ⟨j.h,0,none⟩)] w (zoO w y.L):=by
 obtain⟨X,Y,hM⟩:=h.mm;obtain⟨_,_,_,_,c4,_⟩:=h.cells;have HM:=hQ_ (kC_ hM);have HFIN:=hQ_ (show ∀(v:Value)(W:World),W.ownsRow w.heap.size 5 1 v y.L.length (bts y.L)->Chg [] w W->zoO w y.L (.returned v) W from fun v W h1 h2=>⟨v,rfl,h1,h2⟩);unfold zoO at HM;generalize zoO w y.L=PO at HFIN⊢;clear hM h;go_enter Tryz.func12,Tryz.ntmps12;go_wp2_with (
  go_at_call 34;with_reducible refine HM.o.mono ?_
  rintro e w1 ⟨v,rfl,hv,hc⟩;have HV:=hQ_ hv;have HC:=hQ_ hc;clear hv hc);exact HFIN.o _ _ HV.o HC.o
end
end
section
open Go.RowKit
abbrev zaY : List (String × DataW Unit) := [("math/bits.deBruijn32tab", Rows.laid_math_bits_deBruijn32tab), ("math/bits.deBruijn64tab", Rows.laid_math_bits_deBruijn64tab), ("internal/strconv.uint64pow10", Rows.laid_internal_strconv_uint64pow10)]
theorem zdY (os:Os)(args:Array Value):laidMetH Tryz.prog zaY ((World.doorLaid Tryz.prog 400 os).forCall (fun _ _=>0) ⟨#[],args,[]⟩).memory :=
 laidMetH_of_parts3 (fuel:=8) (laidMet_of_run' 8 (by kernel_rfl) (by kernel_rfl)) (by kernel_rfl) (by kernel_rfl)
theorem zkQ:(Rows.laid_internal_strconv_uint64pow10:DataW Unit)=Lib.tabData .u64 Lib.pow10Tab:=by rfl
theorem zmn {W:World}(h:laidMetH Tryz.prog zaY W):vG_ W.heap.size W:=by
 rw[MakeChecks.laidMetH_plain _ _ _ (by kernel_rfl)]at h;have h3:=laidMet.tail (laidMet.tail h);rw[zkQ]at h3;exact Lib.tabBelow_of_tabIs (Lib.tabIs_of_head (g:=1) (t:=255) (e:=226) (n:=20) (by kernel_rfl) (by kernel_rfl) Tryz.underlying255 Tryz.underlying226 (by kernel_rfl) (by kernel_rfl) h3)
end
end Go.Proofs.YtcbcfcdmdedefaaGreatDoor
