import Derived.Test.YtcbcfcdmdedefaaGreatDoorZHQ14
set_option maxRecDepth 100000
set_option maxHeartbeats 16000000
namespace Go.Proofs.YtcbcfcdmdedefaaGreatDoor
section
open Go.RowKit
open Go.Lib
def zdd (s:ByteArray):List TkV:=(uJ_ s).getD []
def txC (s:ByteArray):List UInt8:=txB false (zdd s)
def z2_ (f:FnV):FnV:=⟨f.name,f.args,⟨(txC f.code).toArray⟩⟩
def uE_ (l:List FnV):List FnV->Nat->Bool
  | [],_=>true
  | f::r,k=>(yr_ f.name&&(yQ_ l f.name==(k:Int))&&decide (0<=f.args)&&decide (f.args<=4))&&uE_ l r (k+1)
def u9_ (l:List FnV):Nat->Nat->Int
  | 0,_=>0
  | q+1,k=>if (rFn l (k:Int)).1=0 then u9_ l q (k+1) else (rFn l (k:Int)).1
def yf_ (pages most:Int)(l:List FnV):Int :=
 if pages<0\/most<pages\/64<most then 25
 else if 32<l.length then 3
 else if uE_ l l 0=true then u9_ l l.length 0 else 12
def utF (f:FnV):List UInt8:=encodeRune f.name++(decDigits f.args.toNat++(32::(txC f.code++[10])))
def zao:List FnV->List UInt8
  | []=>[]
  | f::l=>utF f++zao l
def utx (pages most:Int)(l:List FnV):List UInt8:=117::110::105::116::32::(decDigits pages.toNat++(32::(decDigits most.toNat++(10::zao l))))
def zI_ (pages most:Int)(l:List FnV):List UInt8×Int :=
 if yf_ pages most l=0 then (if 2048<(utx pages most l).length then ([],3) else (utx pages most l,0)) else ([],yf_ pages most l)
def zM_:List UInt8->List UInt8->List (List UInt8)×List UInt8
  | [],acc=>([],acc)
  | b::t,acc=>if b=10 then (acc::(zM_ t []).1,(zM_ t []).2) else zM_ t (acc++[b])
def jB_:List UInt8->Nat->Option Nat
  | [],n=>some n
  | b::t,n=>if 48<=b.toNat/\b.toNat<=57 then (if (9223372036854775807-(b.toNat-48))/10<n then none else jB_ t (n*10+(b.toNat-48))) else none
def zbU (s:List UInt8):Option Nat:=if s=[]\/(1<s.length/\s.getD 0 0=48) then none else jB_ s 0
def vI_:List UInt8->Option (List UInt8×List UInt8)
  | []=>none
  | b::t=>if b=32 then some ([],t) else (vI_ t).map fun p=>(b::p.1,p.2)
def gM_ (s:List UInt8):Option (Nat×Nat) :=
 if s.take 5=[117,110,105,116,32] then (match vI_ (s.drop 5) with
   | none=>none
   | some (a,b)=>match zbU a,zbU b with
     | some x,some y=>some (x,y)
     | _,_=>none) else none
def gP_ (s:List UInt8):Option FnV :=
 match s.drop (Utf8.decode ⟨s.toArray⟩ 0).2 with
 | x::y::code=>if s≠[]/\48<=x.toNat/\x.toNat<=57/\y=32 then some ⟨((Utf8.decode ⟨s.toArray⟩ 0).1:Int),((x.toNat-48:Nat):Int),⟨code.toArray⟩⟩ else none
 | _=>none
def xl_:List (List UInt8)->Option (List FnV)
  | []=>some []
  | s::l=>match gP_ s with
    | none=>none
    | some f=>(xl_ l).map (f::·)
def xN_ (s:List UInt8):Option (Nat×Nat×List FnV) :=
 match (zM_ s []).1 with
 | []=>none
 | a::l=>if (zM_ s []).2=[] then (match gM_ a with
   | none=>none
   | some (p,m)=>(xl_ l).map fun fs=>(p,m,fs)) else none
def yg_ (s:List UInt8):Int×Int×Int×List FnV :=
 if 2048<s.length then (3,0,0,[])
 else match xN_ s with
   | none=>(12,0,0,[])
   | some (p,m,l)=>if yf_ p m l=0 then (if (zI_ p m l).1=s then (0,(p:Int),(m:Int),l) else (12,0,0,[])) else (yf_ p m l,0,0,[])
/- What was written is right. -/
theorem jH_ {s:ByteArray}{ts:List TkV}(h:uJ_ s=some ts):uJ_ ⟨(txC s).toArray⟩=some ts/\(txC s).length<=s.size:=by
 have hs:¬512<s.size:=by
  intro hh;unfold uJ_ at h;rw[if_pos hh]at h;cases h
 have hr:=gO_ s hs;rw[h]at hr;have e:txC s=txB false ts:=by unfold txC zdd;rw[h];rfl
 have hlen:=zpe hr.symm;have hok:=zcG _ hr.symm (fun t ht=>by simp at ht) trivial;rw[e];refine⟨?_,hlen⟩;rw[gO_ _ (by rw[xF_];omega)];exact zpd ts hok
theorem qb_ (name:Int):∀(l:List FnV)(k:Nat),xU_ name (l.map z2_) k=xU_ name l k
  | [],_=>rfl
  | f::l,k=>by
    rw[List.map_cons,xU_,xU_,qb_ name l (k+1)];rfl
theorem ziM (l:List FnV)(name:Int):yQ_ (l.map z2_) name=yQ_ l name:=by
 unfold yQ_;rw[qb_]
theorem zju (l:List FnV)(name:Int):vH_ (l.map z2_) name=vH_ l name:=by
 unfold vH_;rw[qb_];cases xU_ name l 0 with
 | none=>rfl
 | some k =>
   simp only[List.getElem?_map];cases l[k]? with
   | none=>rfl
   | some f=>rfl
theorem zfb (l:List FnV)(s name:Int):xe_ (l.map z2_) s name=xe_ l s name:=by
 unfold xe_;rw[zju]
theorem zkJ (l:List FnV)(h:Int)(bs:List BkV)(s name:Int):qy_ (l.map z2_) h bs s name=qy_ l h bs s name:=by
 unfold qy_;rw[zfb]
theorem zaG (l:List FnV):∀(ts:List TkV)(h:Int)(bs:List BkV)(out:List Int),k9_ (l.map z2_) ts h bs out=k9_ l ts h bs out
  | [],_,_,_=>rfl
  | t::ts,h,bs,out=>by
    rw[kv_,kv_,zkJ,zaG l ts]
theorem zhj {l:List FnV}{f:FnV}(h:(jR_ l f.code).1=0):jR_ (l.map z2_) (z2_ f).code=jR_ l f.code:=by
 unfold jR_ at h⊢;cases ht:uJ_ f.code with
 | none =>
   rw[ht]at h;simp only at h;unfold zeI at h;split at h<;>omega
 | some ts =>
   rw[show uJ_ (z2_ f).code=some ts from(jH_ ht).1];simp only;cases qC_ (yD_ ts) with
   | none=>rfl
   | some R=>exact zaG l ts 0 [] []
theorem zhk {l:List FnV}{k:Nat}{f:FnV}(hk:l[k]?=some f):rFn l (k:Int)=jR_ l f.code:=by
 have hl:=(List.getElem?_eq_some_iff.1 hk).1;unfold rFn;rw[if_neg (by omega),show((k:Int)).toNat=k from rfl,hk]
theorem zny {l:List FnV}{k:Nat}(hk:k<l.length)(h:(rFn l (k:Int)).1=0):rFn (l.map z2_) (k:Int)=rFn l (k:Int):=by
 have h1:l[k]?=some l[k]:=List.getElem?_eq_getElem hk;have h2:(l.map z2_)[k]?=some (z2_ l[k]):=by rw[List.getElem?_map,h1];rfl
 rw[zhk h1]at h⊢;rw[zhk h2,zhj h]
theorem zaS (l:List FnV):∀(r:List FnV)(k:Nat),uE_ (l.map z2_) (r.map z2_) k=uE_ l r k
  | [],_=>rfl
  | f::r,k=>by
    rw[List.map_cons,uE_,uE_,zaS l r (k+1),ziM];rfl
theorem gQ_ {l:List FnV}:∀(q k:Nat),u9_ l q k=0↔∀j,k<=j->j<k+q->(rFn l (j:Int)).1=0
  | 0,k=>by rw[u9_];exact⟨fun _ j h1 h2=>by omega,fun _=>rfl⟩
  | q+1,k=>by
    rw[u9_];by_cases h:(rFn l (k:Int)).1=0
    · rw[if_pos h,gQ_ q (k+1)];refine⟨fun hh j h1 h2=>?_,fun hh j h1 h2=>hh j (by omega) (by omega)⟩;by_cases e:j=k
      · rw[e];exact h
      · exact hh j (by omega) (by omega)
    · rw[if_neg h];exact⟨fun hh=>absurd hh h,fun hh=>absurd (hh k (by omega) (by omega)) h⟩
structure RightF (pages most:Int) (l:List FnV):Prop where
  p0:0<=pages
  pm:pages<=most
  m64:most<=64
  few:l.length<=32
  name:uE_ l l 0=true
  ok:∀k:Nat,k<l.length->(rFn l (k:Int)).1=0
theorem vO_ {pages most:Int}{l:List FnV}:yf_ pages most l=0↔RightF pages most l:=by
 unfold yf_;constructor
 · intro h;split at h
   · omega
   · split at h
     · omega
     · split at h
       · rename_i h1 h2 h3;exact⟨by omega,by omega,by omega,by omega,h3,fun k hk=>(gQ_ _ _).1 h k (by omega) (by omega)⟩
       · omega
 · rintro⟨h1,h2,h3,h4,h5,h6⟩;rw[if_neg (by omega),if_neg (by omega),if_pos h5,gQ_];exact fun j _ h=>h6 j (by omega)
theorem zdE {l:List FnV}:∀{r:List FnV}{k:Nat},uE_ l r k=true->∀(j:Nat)(f:FnV),r[j]?=some f->yr_ f.name=true/\yQ_ l f.name=((k+j:Nat):Int)/\0<=f.args/\f.args<=4
  | [],_,_,j,f,hj=>by simp at hj
  | g :: r,k,h,j,f,hj=>by
    rw[uE_]at h;simp only[Bool.and_eq_true,decide_eq_true_eq,beq_iff_eq]at h;cases j with
    | zero=>simp at hj;subst hj;exact⟨h.1.1.1.1,h.1.1.1.2,h.1.1.2,h.1.2⟩
    | succ j =>
      have:=zdE h.2 j f (by simpa using hj);rw[show k+(j+1)=k+1+j from by omega];exact this
theorem RightF.fn {pages most:Int}{l:List FnV}(h:RightF pages most l){k:Nat}{f:FnV}(hk:l[k]?=some f):yr_ f.name=true/\yQ_ l f.name=(k:Int)/\0<=f.args/\f.args<=4:=by
 have:=zdE h.name k f hk;rw[Nat.zero_add]at this;exact this
theorem RightF.plain {pages most:Int}{l:List FnV}(h:RightF pages most l):RightF pages most (l.map z2_):=by
 refine⟨h.p0,h.pm,h.m64,by rw[List.length_map];exact h.few,by rw[zaS];exact h.name,fun k hk=>?_⟩;rw[List.length_map]at hk;rw[zny hk (h.ok k hk)];exact h.ok k hk
theorem RightF.tok {pages most:Int}{l:List FnV}(h:RightF pages most l){f:FnV}(hf:f∈l):∃ts,uJ_ f.code=some ts:=by
 obtain⟨k,hk,e⟩:=List.getElem_of_mem hf;have h1:l[k]?=some f:=by rw[List.getElem?_eq_getElem hk,e]
 have:=h.ok k hk;rw[zhk h1]at this;unfold jR_ at this;cases ht:uJ_ f.code with
 | none =>
   rw[ht]at this;simp only at this;unfold zeI at this;split at this<;>omega
 | some ts=>exact⟨ts,rfl⟩
theorem zgr {f:FnV}{ts:List TkV}(h:uJ_ f.code=some ts):txC (z2_ f).code=txC f.code:=by
 have e:=(jH_ h).1;unfold txC zdd;rw[show uJ_ (z2_ f).code=some ts from e,h]
theorem qI_:∀{l:List FnV},(∀f∈l,∃ts,uJ_ f.code=some ts)->zao (l.map z2_)=zao l
  | [],_=>rfl
  | f::l,h=>by
    obtain⟨ts,ht⟩:=h f (by simp);rw[List.map_cons,zao,zao,qI_ (fun g hg=>h g (by simp[hg])),utF,utF,zgr ht];rfl
theorem RightF.text {pages most:Int}{l:List FnV}(h:RightF pages most l):utx pages most (l.map z2_)=utx pages most l:=by
 unfold utx;rw[qI_ (fun f hf=>h.tok hf)]
/- Bytes that are no end of a line, and no blank. -/
theorem gZ_:∀(n:Nat),∀b∈decDigits n,48<=b.toNat/\b.toNat<=57:=by
 intro n
 induction n using Nat.strongRecOn with
 | _ n ih =>
   by_cases h:n<10
   · rw[decDigits_one h];intro b hb;rw[List.mem_singleton]at hb;subst hb;simp;omega
   · rw[decDigits,dif_neg h];intro b hb;rcases List.mem_append.1 hb with hb|hb
     · exact ih (n/10) (by omega) b hb
     · rw[List.mem_singleton]at hb;subst hb;simp;omega
theorem zbW {b c:UInt8}(h:b.toNat≠c.toNat):b≠c:=fun e=>h (by rw[e])
theorem jp_ {r:Int}(hr:okR r)(h:33<=r):∀b∈encodeRune r,b≠10:=by
 intro b hb;unfold encodeRune at hb;obtain⟨z,hz,rfl⟩:=List.mem_map.1 hb;have h10:(10:UInt8).toNat=10:=rfl;refine zbW ?_;have hbd:=encodeRuneZ_byte r z hz;rw[zgt z hbd.1 hbd.2,h10];have hc:(0<=r/\r<=127)\/(128<=r/\r<=2047)\/((2048<=r/\r<55296)\/(57343<r/\r<=65535))\/(65536<=r/\r<=1114111):=by unfold okR at hr;omega
 rcases hc with h|h|h|h
 · rw[encodeRuneZ_one h.1 h.2,List.mem_singleton]at hz;omega
 · rw[encodeRuneZ_two h.1 h.2]at hz;simp at hz;omega
 · rw[encodeRuneZ_three h]at hz;simp at hz;omega
 · rw[encodeRuneZ_four h.1 h.2]at hz;simp at hz;omega
theorem v2_:∀(l:List TkV) (nb:Bool),∀b∈txB nb l,b≠10
  | [],_,b,hb=>by simp[txB]at hb
  | t :: l,nb,b,hb=>by
    rw[txB]at hb;split at hb
    · rcases List.mem_append.1 hb with hb|hb
      · cases nb<;>simp at hb;subst hb;decide
      · rcases List.mem_append.1 hb with hb|hb
        · have:=gZ_ _ b hb;exact zbW (by show b.toNat≠10;omega)
        · exact v2_ l true b hb
    · split at hb
      · rename_i hn;split at hb
        · rename_i hm;have h1:=xg_ (xC_ hn).1;have h2:=vv_ hm;rcases List.mem_append.1 hb with hb|hb
          · exact jp_ h1.1 h1.2.2.1 b hb
          · rcases List.mem_append.1 hb with hb|hb
            · exact jp_ h2.1 (by omega) b hb
            · exact v2_ l false b hb
        · exact v2_ l nb b hb
      · split at hb
        · rename_i hk;have h1:=xg_ hk;rcases List.mem_append.1 hb with hb|hb
          · exact jp_ h1.1 h1.2.2.1 b hb
          · exact v2_ l false b hb
        · exact v2_ l nb b hb
theorem kp_:∀(a:List UInt8)(t acc:List UInt8),(∀b∈a,b≠10)->zM_ (a++10::t) acc=((acc++a)::(zM_ t []).1,(zM_ t []).2)
  | [],t,acc,_=>by rw[List.nil_append,zM_,if_pos rfl,List.append_nil]
  | b::a,t,acc,h=>by
    rw[List.cons_append,zM_,if_neg (h b (by simp)),kp_ a t (acc++[b]) (fun c hc=>h c (by simp[hc]))];simp
theorem qe_:∀(a b:List UInt8),(∀x∈a,x≠32)->vI_ (a++32::b)=some (a,b)
  | [],b,_=>by rw[List.nil_append,vI_,if_pos rfl]
  | x::a,b,h=>by
    rw[List.cons_append,vI_,if_neg (h x (by simp)),qe_ a b (fun y hy=>h y (by simp[hy]))];rfl
theorem zdb:∀(a b:List UInt8)(n:Nat),jB_ (a++b) n=(jB_ a n).bind (jB_ b)
  | [],b,n=>rfl
  | x :: a,b,n=>by
    rw[List.cons_append,jB_,jB_];split
    · split
      · rfl
      · exact zdb a b _
    · rfl
theorem zjT:∀(n:Nat),n<=9223372036854775807->jB_ (decDigits n) 0=some n:=by
 intro n
 induction n using Nat.strongRecOn with
 | _ n ih =>
   intro hn;by_cases h:n<10
   · rw[decDigits_one h];have e:(UInt8.ofNat (48+n)).toNat=48+n:=(by simp;omega);rw[jB_,e,if_pos (by omega),if_neg (by omega),jB_];congr 1;omega
   · rw[decDigits,dif_neg h,zdb,ih (n/10) (by omega) (by omega)];have e:(UInt8.ofNat (48+n%10)).toNat=48+n%10:=(by simp;omega);simp only[Option.bind_some];rw[jB_,e,if_pos (by omega),if_neg (by omega),jB_];congr 1;omega
theorem zmD (n:Nat):decDigits n≠[]:=by
 intro h;have:=decDigits_length n;have h2:=nDigits_pos n;rw[h,List.length_nil]at this;omega
theorem zlH:∀(n:Nat),1<=n->(decDigits n).getD 0 0≠48:=by
 intro n
 induction n using Nat.strongRecOn with
 | _ n ih =>
   intro hn;by_cases h:n<10
   · rw[decDigits_one h];refine zbW ?_;show(UInt8.ofNat (48+n)).toNat≠48;simp;omega
   · rw[decDigits,dif_neg h];have h1:=ih (n/10) (by omega) (by omega);have h2:=zmD (n/10);cases hd:decDigits (n/10) with
     | nil=>exact absurd hd h2
     | cons x y =>
       rw[hd]at h1;simpa using h1
theorem zda (n:Nat)(hn:n<=9223372036854775807):zbU (decDigits n)=some n:=by
 unfold zbU;rw[if_neg,zjT n hn];rintro(h|⟨h1,h2⟩)
 · exact zmD n h
 · by_cases h0:1<=n
   · exact zlH n h0 h2
   · have:n=0:=(by omega);subst this;rw[decDigits_one (by omega)]at h1;simp at h1
theorem ziz {f:FnV}(hn:yr_ f.name=true)(ha:0<=f.args/\f.args<=4):gP_ (encodeRune f.name++(decDigits f.args.toNat++(32::txC f.code)))=some (z2_ f):=by
 obtain⟨ho,_,h97⟩:=vv_ hn;have hd:=zjc f.name ho (decDigits f.args.toNat++(32::txC f.code));have e1:decDigits f.args.toNat=[UInt8.ofNat (48+f.args.toNat)]:=decDigits_one (by omega);rw[e1]at hd⊢;unfold gP_;rw[hd];simp only[List.drop_left,List.cons_append,List.nil_append];have e2:(UInt8.ofNat (48+f.args.toNat)).toNat=48+f.args.toNat:=by simp;omega
 rw[e2,if_pos ⟨by have:=zcJ f.name;intro hh;have:=congrArg List.length hh;simp at this,by omega,by omega,trivial⟩];unfold z2_;congr 2
 · omega
 · omega
theorem q9_:∀{l:List FnV},(∀f∈l,yr_ f.name=true/\0<=f.args/\f.args<=4)->(zM_ (zao l) []).2=[]/\xl_ (zM_ (zao l) []).1=some (l.map z2_)
  | [],_=>⟨rfl,rfl⟩
  | f :: l,h=>by
    obtain⟨h1,h2⟩:=h f (by simp);obtain⟨i1,i2⟩:=q9_ (l:=l) (fun g hg=>h g (by simp[hg]));have e:zao (f::l)=(encodeRune f.name++(decDigits f.args.toNat++(32::txC f.code)))++10::zao l:=(by
     rw[zao,utF];simp);have hne:∀b∈(encodeRune f.name++(decDigits f.args.toNat++(32::txC f.code))),b≠10:=by
     intro b hb;rcases List.mem_append.1 hb with hb|hb
     · exact jp_ (vv_ h1).1 (by have:=(vv_ h1).2.2;omega) b hb
     · rcases List.mem_append.1 hb with hb|hb
       · have:=gZ_ _ b hb;exact zbW (by show b.toNat≠10;omega)
       · rcases List.mem_cons.1 hb with rfl|hb
         · decide
         · exact v2_ _ _ b hb
    rw[e,kp_ _ _ _ hne];refine⟨i1,?_⟩;simp only[List.nil_append];rw[xl_,ziz h1 h2];simp only;rw[i2];rfl
theorem zfe {p m:Nat}{l:List FnV}(hp:p<=64)(hm:m<=64)(h:∀f∈l,yr_ f.name=true/\0<=f.args/\f.args<=4):xN_ (utx (p:Int) (m:Int) l)=some (p,m,l.map z2_):=by
 obtain⟨i1,i2⟩:=q9_ h;have e:utx (p:Int) (m:Int) l=(117::110::105::116::32::(decDigits p++(32::decDigits m)))++10::zao l:=by
  unfold utx;simp
 have hdig:∀(q:Nat)(b:UInt8),b∈decDigits q->b≠10/\b≠32:=fun q b hb=>by
  have:=gZ_ _ b hb;exact⟨zbW (by show b.toNat≠10;omega),zbW (by show b.toNat≠32;omega)⟩
 have hne:∀b∈(117::110::105::116::32::(decDigits p++(32::decDigits m))),b≠(10:UInt8):=by
  intro b hb;simp only[List.mem_cons,List.mem_append]at hb;rcases hb with rfl|rfl|rfl|rfl|rfl|hb|rfl|hb
  · decide
  · decide
  · decide
  · decide
  · decide
  · exact(hdig _ b hb).1
  · decide
  · exact(hdig _ b hb).1
 unfold xN_;rw[e,kp_ _ _ _ hne];simp only[List.nil_append];rw[if_pos i1];have hh:gM_ (117::110::105::116::32::(decDigits p++(32::decDigits m)))=some (p,m):=by
  unfold gM_;rw[if_pos (by rfl)];rw[show List.drop 5 (117::110::105::116::32::(decDigits p++(32::decDigits m)))=decDigits p++(32::decDigits m) from rfl,qe_ _ _ (fun b hb=>(hdig _ b hb).2)];simp only;rw[zda p (by omega),zda m (by omega)]
 rw[hh];simp only;rw[i2];rfl
theorem zff {pages most:Int}{l:List FnV}(h:RightF pages most l)(hlen:(utx pages most l).length<=2048):yg_ (utx pages most l)=(0,pages,most,l.map z2_):=by
 obtain⟨p,rfl⟩:∃p:Nat,pages=(p:Int):=⟨pages.toNat,by have:=h.p0;omega⟩;obtain⟨m,rfl⟩:∃m:Nat,most=(m:Int):=⟨most.toNat,by have:=h.p0;have:=h.pm;omega⟩;have hm:=h.m64;have hpm:=h.pm;unfold yg_;rw[if_neg (by omega),zfe (by omega) (by omega) (fun f hf=>by
  obtain⟨k,hk,e⟩:=List.getElem_of_mem hf;have:=h.fn (k:=k) (f:=f) (by rw[List.getElem?_eq_getElem hk,e]);exact⟨this.1,this.2.2⟩)];simp only;have h2:=h.plain;have hu:=h.text;have h3:=vO_.2 h2;rw[if_pos h3,if_pos];unfold zI_;rw[if_pos h3,hu,if_neg (by omega)]
end
section
open Go.RowKit
def qu_ (W:World)(r:Int)(e:Ending)(w':World):Prop:=e=.returned (.int .i64 r)/\Chg [] W w'
section
variable {W:World} {A:Option Addr} {n c:Nat} {l:List FnV} {pages most:Int}
theorem jC_ (hn:n>32)(hn2:n<=9223372036854775807)(R:Int)(hR:R=if pages<0\/most<pages\/64<most then 25 else 3):Calls Tryz.prog 28 #[.agg #[.int .i64 pages,.int .i64 most,.slice A n c]] W (qu_ W R):=by
 have HRR:=hQ_ hR;clear hR;go_enter Tryz.func28,Tryz.ntmps28;go_upto_region 1 with fail;have hN:=zb_.new W 25 [.int .i64 pages,.int .i64 most,.slice A n c];have hal:Chg [] W (W.alloc (.cells #[.int .i64 pages,.int .i64 most,.slice A n c] 25)):=(Chg.refl [] W).alloc _;obtain⟨g,hg⟩:∃g,g=W.heap.size:=⟨_,rfl⟩;rw[<-hg]at hN⊢;have HU:=hQ_ hN;have HC:=hQ_ hal;generalize W.alloc (.cells #[.int .i64 pages,.int .i64 most,.slice A n c] 25)=w1 at HU HC⊢;clear hN hal hg;have u0:=HU.o.cell 0;have u1:=HU.o.cell 1;have u2:=HU.o.cell 2;have b4:decide (32<(n:Int))=true:=by simp;omega
 by_cases h0:pages<0
 · have hE:=hQ_ (show R=25 from by rw[HRR.o,if_pos (.inl h0)]);have b1:decide (pages<0)=true:=(by simpa using h0);clear h0;go_wp2_with fail;go_ret;exact⟨by rw[hE.out];rfl,HC.o⟩
 · have b1:decide (pages<0)=false:=(by simpa using h0);by_cases h1:most<pages
   · have hE:=hQ_ (show R=25 from by rw[HRR.o,if_pos (.inr (.inl h1))]);have b2:decide (most<pages)=true:=(by simpa using h1);clear h0 h1;go_wp2_with fail;go_ret;exact⟨by rw[hE.out];rfl,HC.o⟩
   · have b2:decide (most<pages)=false:=(by simpa using h1);by_cases h2:64<most
     · have hE:=hQ_ (show R=25 from by rw[HRR.o,if_pos (.inr (.inr h2))]);have b3:decide (64<most)=true:=(by simpa using h2);clear h0 h1 h2;go_wp2_with fail;go_ret;exact⟨by rw[hE.out];rfl,HC.o⟩
     · have hE:=hQ_ (show R=3 from by rw[HRR.o,if_neg (by omega)]);have b3:decide (64<most)=false:=(by simpa using h2);clear h0 h1 h2;go_wp2_with fail;go_ret;exact⟨by rw[hE.out];rfl,HC.o⟩
theorem qJ_ (h:Fnr W A n c l) (hsm:∀f∈l,f.code.size<=9223372036854775807):Calls Tryz.prog 28 #[yC_ pages most A n c] W (qu_ W (yf_ pages most l)):=by
 by_cases hn32:32<n
 · have e:yf_ pages most l=(if pages<0\/most<pages\/64<most then (25:Int) else 3):=(by
    unfold yf_;have hq:32<l.length:=(by rw[h.len];exact hn32);rw[if_pos hq]);unfold yC_;exact jC_ hn32 (by have:=h.max;omega) _ e
 have H:=hQ_ h;have hmx:=h.max;have HCF:=hQ_ (fun (w:World)(hc:Chg [] W w)(k:Int)=>zbB (pages:=pages) (most:=most) (h.keep hc) hsm k);have HFI:=hQ_ (fun (w:World)(hc:Chg [] W w)(nm:Int)=>xE_ (pages:=pages) (most:=most) (h.keep hc) nm);have HLN:=hQ_ h.len;obtain⟨R,hR⟩:∃R,R=yf_ pages most l:=⟨_,rfl⟩;rw[<-hR];unfold yC_ at HCF HFI⊢;clear h hsm;have b4:decide (32<(n:Int))=false:=by simp;omega
 go_enter Tryz.func28,Tryz.ntmps28;go_upto_region 1 with fail;have hN:=zb_.new W 25 [.int .i64 pages,.int .i64 most,.slice A n c];have hal:Chg [] W (W.alloc (.cells #[.int .i64 pages,.int .i64 most,.slice A n c] 25)):=(Chg.refl [] W).alloc _;obtain⟨g,hg⟩:∃g,g=W.heap.size:=⟨_,rfl⟩;rw[<-hg]at hN⊢;have HU:=hQ_ hN;have HC:=hQ_ hal;generalize W.alloc (.cells #[.int .i64 pages,.int .i64 most,.slice A n c] 25)=w1 at HU HC⊢;clear hN hal hg;have u0:=HU.o.cell 0;have u1:=HU.o.cell 1;have u2:=HU.o.cell 2;by_cases h0:pages<0
 · have hE:=hQ_ (show R=25 from by rw[hR];unfold yf_;rw[if_pos (.inl h0)]);have b1:decide (pages<0)=true:=(by simpa using h0);clear h0 hR;go_wp2_with fail;go_ret;exact⟨by rw[hE.out];rfl,HC.o⟩
 have b1:decide (pages<0)=false:=by simpa using h0
 by_cases h1:most<pages
 · have hE:=hQ_ (show R=25 from by rw[hR];unfold yf_;rw[if_pos (.inr (.inl h1))]);have b2:decide (most<pages)=true:=(by simpa using h1);clear h0 h1 hR;go_wp2_with fail;go_ret;exact⟨by rw[hE.out];rfl,HC.o⟩
 have b2:decide (most<pages)=false:=by simpa using h1
 by_cases h2:64<most
 · have hE:=hQ_ (show R=25 from by rw[hR];unfold yf_;rw[if_pos (.inr (.inr h2))]);have b3:decide (64<most)=true:=(by simpa using h2);clear h0 h1 h2 hR;go_wp2_with fail;go_ret;exact⟨by rw[hE.out];rfl,HC.o⟩
 have b3:decide (64<most)=false:=by simpa using h2
 have HRE:=hQ_ (show R=if uE_ l (l.drop 0) 0=true then u9_ l l.length 0 else 12 from by rw[hR];unfold yf_;rw[if_neg (by omega),if_neg (by rw[HLN.o];omega)];rfl);clear h0 h1 h2 hR;go_wp2_with fail;go_loopw [30] (fun i wr=>∃k:Nat,i=.int .i64 (k:Int)/\k<=n/\Hid (Chg [] w1 wr)/\Hid (R=if uE_ l (l.drop k) k=true then u9_ l l.length 0 else 12)) (fun i _=>n-(intOf i).toNat);case atStart=>exact⟨0,rfl,by omega,hQ_ (Chg.refl [] _),HRE⟩
 case round =>
  obtain⟨k,rfl,hk,HCr,HRk⟩:=hrel;have HUr:=hQ_ (HU.o.keep HCr.o);by_cases hkn:k<n
  · have hkI:(k:Int)<(n:Int):=(by omega);obtain⟨t,htk⟩:∃t,l[k]?=some t:=⟨l[k]'(by rw[H.o.len];exact hkn),by simp⟩;have HSt:=hQ_ (show R=if ((yr_ t.name&&(yQ_ l t.name==(k:Int))&&decide (0<=t.args)&&decide (t.args<=4))&&uE_ l (l.drop (k+1)) (k+1))=true then u9_ l l.length 0 else 12 from by
     rw[HRk.o,show l.drop k=t::l.drop (k+1) from List.drop_eq_getElem?_toList_append.trans (by rw[htk];rfl),uE_]);obtain⟨fb,fo,rfl,hfbl,e0,e1,e2⟩:=(H.o.keep (HC.o.new HCr.o)).cell htk;obtain⟨tn,ta,tc⟩:=t;simp only at e0 e1 e2;clear htk;go_upto_region 8 with fail;have hX:=zb_.new wr 44 [.int .i32 tn,.int .i64 ta,.string tc];have hc2:=(Chg.refl [] wr).alloc (.cells #[.int .i32 tn,.int .i64 ta,.string tc] 44);have HX2:=hQ_ hX;have HC2:=hQ_ (HCr.o.new hc2);have HU2:=hQ_ (HUr.o.keep hc2);generalize wr.heap.size=gx at HX2⊢;generalize wr.alloc (.cells #[.int .i32 tn,.int .i64 ta,.string tc] 44)=w3 at HX2 HC2 HU2⊢;clear hX e0 e1 e2 hfbl hc2;have x0:=HX2.o.cell 0;have x1:=HX2.o.cell 1;have v0:=HU2.o.cell 0;have v1:=HU2.o.cell 1;have v2:=HU2.o.cell 2;have HNM:=hQ_ (fun w=>u7_ tn w);have HFX:=hQ_ (HFI.o w3 (HC.o.new HC2.o) tn);by_cases hnm:yr_ tn=true
    · rw [hnm]at HNM;by_cases hfi:yQ_ l tn=(k:Int)
      · rw [hfi]at HFX;by_cases ha0:ta<0
        · have q1:decide (ta<0)=true:=(by simpa using ha0);have HE:=hQ_ (show R=12 from by rw[HSt.o,if_neg];simp;omega);clear hnm hfi ha0;go_wp2_with (first
           | (go_at_call 60;refine(HNM.o _).mono ?_;rintro e w4 ⟨rfl,rfl⟩)
           | (go_at_call 50;refine HFX.o.mono ?_;rintro e w5 ⟨rfl,hc5⟩;have y1:=zd_ (by simpa using x1:w3.cell? ⟨gx,1,none⟩=some (.int .i64 ta)) hc5;have HC5:=hQ_ (HC2.o.new hc5);clear hc5));go_ret;exact⟨by rw[HE.o];rfl,HC.o.new HC5.o⟩
        · have q1:decide (ta<0)=false:=(by simpa using ha0);by_cases ha4:4<ta
          · have q2:decide (4<ta)=true:=(by simpa using ha4);have HE:=hQ_ (show R=12 from by rw[HSt.o,if_neg];simp;omega);clear hnm hfi ha0 ha4;go_wp2_with (first
             | (go_at_call 60;refine(HNM.o _).mono ?_;rintro e w4 ⟨rfl,rfl⟩)
             | (go_at_call 50;refine HFX.o.mono ?_;rintro e w5 ⟨rfl,hc5⟩;have y1:=zd_ (by simpa using x1:w3.cell? ⟨gx,1,none⟩=some (.int .i64 ta)) hc5;have HC5:=hQ_ (HC2.o.new hc5);clear hc5));go_ret;exact⟨by rw[HE.o];rfl,HC.o.new HC5.o⟩
          · have q2:decide (4<ta)=false:=(by simpa using ha4);have HE:=hQ_ (show R=if uE_ l (l.drop (k+1)) (k+1)=true then u9_ l l.length 0 else 12 from by
             rw[HSt.o];simp only[hnm,hfi,beq_self_eq_true,Bool.true_and,decide_eq_true (show 0<=ta by omega),decide_eq_true (show ta<=4 by omega)]);clear hnm hfi ha0 ha4;go_wp2_with (first
             | (go_at_call 60;refine(HNM.o _).mono ?_;rintro e w4 ⟨rfl,rfl⟩)
             | (go_at_call 50;refine HFX.o.mono ?_;rintro e w5 ⟨rfl,hc5⟩;have y1:=zd_ (by simpa using x1:w3.cell? ⟨gx,1,none⟩=some (.int .i64 ta)) hc5;have HC5:=hQ_ (HC2.o.new hc5);clear hc5));exact⟨⟨k+1,by simp,by omega,HC5,HE⟩,by simp[intOf];omega⟩
      · have HE:=hQ_ (show R=12 from by rw[HSt.o,if_neg];simp[hfi]);obtain⟨fi,hfe⟩:∃fi,fi=yQ_ l tn:=⟨_,rfl⟩;rw[<-hfe]at HFX hfi;have qf:(fi != (k:Int))=true:=(by simpa using hfi);clear hnm hfi hfe;go_wp2_with (first
         | (go_at_call 60;refine(HNM.o _).mono ?_;rintro e w4 ⟨rfl,rfl⟩)
         | (go_at_call 50;refine HFX.o.mono ?_;rintro e w5 ⟨rfl,hc5⟩;have y1:=zd_ (by simpa using x1:w3.cell? ⟨gx,1,none⟩=some (.int .i64 ta)) hc5;have HC5:=hQ_ (HC2.o.new hc5);clear hc5));go_ret;exact⟨by rw[HE.o];rfl,HC.o.new HC5.o⟩
    · have hnf:yr_ tn=false:=(by simpa using hnm);rw[hnf]at HNM;have HE:=hQ_ (show R=12 from by rw[HSt.o,if_neg];simp[hnf]);clear hnm hnf;go_wp2_with (first
       | (go_at_call 60;refine(HNM.o _).mono ?_;rintro e w4 ⟨rfl,rfl⟩)
       | (go_at_call 50;refine HFX.o.mono ?_;rintro e w5 ⟨rfl,hc5⟩;have y1:=zd_ (by simpa using x1:w3.cell? ⟨gx,1,none⟩=some (.int .i64 ta)) hc5;have HC5:=hQ_ (HC2.o.new hc5);clear hc5));go_ret;exact⟨by rw[HE.o];rfl,HC.o.new HC2.o⟩
  · have hkI:(n:Int)<=(k:Int):=(by omega);have HRF:=hQ_ (show R=u9_ l (n-0) 0 from by
     rw[HRk.o,List.drop_eq_nil_of_le (by rw[HLN.o];omega),uE_,if_pos rfl,HLN.o,Nat.sub_zero]);have v0:=HUr.o.cell 0;have v1:=HUr.o.cell 1;have v2:=HUr.o.cell 2;go_wp2_with fail;go_loopw [61] (fun i ws=>∃k:Nat,i=.int .i64 (k:Int)/\k<=n/\Hid (Chg [] w1 ws)/\Hid (R=u9_ l (n-k) k)) (fun i _=>n-(intOf i).toNat);(case atStart=>exact⟨0,rfl,by omega,HCr,HRF⟩);case round =>
     obtain⟨j,rfl,hj,HCs,HRj⟩:=hrel;have HUs:=hQ_ (HU.o.keep HCs.o);by_cases hjn:j<n
     · have hjI:(j:Int)<(n:Int):=(by omega);have s0:=HUs.o.cell 0;have s1:=HUs.o.cell 1;have s2:=HUs.o.cell 2;have HFN:=hQ_ (HCF.o wr (HC.o.new HCs.o) (j:Int));have HST:=hQ_ (show R=if (rFn l (j:Int)).1=0 then u9_ l (n-(j+1)) (j+1) else (rFn l (j:Int)).1 from by
        rw[HRj.o,show n-j=(n-(j+1))+1 from by omega,u9_]);generalize rFn l (j:Int)=Q at HFN HST;go_wp2_with fail;refine HFN.o.mono ?_;rintro e w5 ⟨v,rfl,ho,hc5⟩;have HC5:=hQ_ (HCs.o.new hc5);obtain⟨Av,cv,rfl,_⟩:=zr_ ho;clear ho hc5;obtain⟨q1,q2⟩:=Q;simp only at HST⊢;by_cases hq:q1=0
       · subst hq;have HR2:=hQ_ (HST.o.trans (if_pos rfl));go_wp2_with fail;go_roundw;(case rel=>exact⟨j+1,by go_num,by omega,HC5,HR2⟩);case measure=>simp[intOf];omega
       · have hqd:(q1 != 0)=true:=(by simpa using hq);have HR2:=hQ_ (HST.o.trans (if_neg hq));clear hq;go_wp2_with fail;go_ret;exact⟨by rw[HR2.o];rfl,HC.o.new HC5.o⟩
     · have hjI:(n:Int)<=(j:Int):=(by omega);have HR2:=hQ_ (show R=0 from by rw[HRj.o,show n-j=0 from by omega,u9_]);go_wp2_with fail;go_ret;exact⟨by rw[HR2.o];rfl,HC.o.new HCs.o⟩
end
end
section
open Go.RowKit
open Go.Lib (decDigits encodeRune)
theorem zgC (a b:List UInt8):zj_ a++zj_ b=zj_ (a++b):=by
 apply ByteArray.ext;simp[zj_,ByteArray.data_append]
theorem zL_ (a:List UInt8):(zj_ a).size=a.length:=by
 show a.toArray.size=_;simp
theorem jI_ (a b:List UInt8)(h:a.length+b.length<=1000000)(W:World):(Op.stringOp .add (zj_ a) (zj_ b)).run Tryz.prog W=.ok (.string (zj_ (a++b))) W:=by
 rw[<-zgC];exact run_string_add_sum _ _ _ (by rw[zL_,zL_];omega)
end
section
open Go.RowKit
open Go.Lib (decDigits encodeRune)
theorem zes.rng {t:TkV}(h:zes t):TkRng t:=by
 rcases h with⟨h1,h2,h3,h4⟩|⟨h1,h2,h3⟩|⟨h0,h1,h2,h3,h4⟩
 · exact⟨by omega,by omega,by omega⟩
 · have a:=(xg_ (xC_ h1).1).1;have b:=(vv_ h3).1;unfold okR at a b;exact⟨by omega,by omega,by omega⟩
 · have a:=(xg_ h2).1;unfold okR at a;exact⟨by omega,by omega,by omega⟩
theorem vG_.here {w w':World}(h:vG_ w.heap.size w)(hc:Chg [] w w'):vG_ w'.heap.size w':=(h.keep (Nat.le_refl _) hc).less hc.size
end
section
open Go.RowKit
theorem y9_ (l:List UInt8):(zj_ l).data.toList=l:=by simp[zj_]
theorem uN_ (l:List UInt8)(a b:Nat):(zj_ l).extract a b=zj_ ((l.drop a).take (b-a)):=by
 apply ByteArray.ext;rw[ByteArray.data_extract];apply Array.toList_inj.1;rw[Array.toList_extract];simp[zj_,List.extract]
theorem zje:∀l:List UInt8,Lib.indexByte l 32=(match vI_ l with|none=>-1|some (a,_)=>(a.length:Int))
  | []=>rfl
  | b :: l=>by
    rw[Lib.indexByte,vI_,zje l];by_cases h:b=32
    · subst h;simp
    · rw[if_neg (by simpa using h),if_neg h];cases vI_ l with
      | none=>rfl
      | some p =>
        obtain⟨x,y⟩:=p;simp only[Option.map_some,List.length_cons];rw[if_neg (by simp)];simp
theorem jq_:∀{l a b:List UInt8},vI_ l=some (a,b)->a=l.take a.length/\b=l.drop (a.length+1)/\a.length<l.length
  | [],a,b,h=>by simp[vI_]at h
  | x :: l,a,b,h=>by
    rw[vI_]at h;by_cases hx:x=32
    · rw[if_pos hx]at h;injection h with h;injection h with h1 h2;subst h1 h2;simp
    · rw[if_neg hx]at h;cases hc:vI_ l with
      | none=>rw[hc]at h;simp at h
      | some p =>
        obtain⟨y,z⟩:=p;rw[hc]at h;simp only[Option.map_some,Option.some.injEq,Prod.mk.injEq]at h;obtain⟨rfl,rfl⟩:=h;obtain⟨h1,h2,h3⟩:=jq_ hc;refine⟨?_,?_,by simp;omega⟩
        · rw[List.length_cons,List.take_succ_cons,<-h1]
        · rw[List.length_cons,List.drop_succ_cons,<-h2]
def zmE (l:List UInt8):Value:=match vI_ l with
  | some (a,b)=>.tuple #[.string (zj_ a),.string (zj_ b),.bool true]
  | none=>.tuple #[.string (zj_ l),.string (zj_ []),.bool false]
def kV_ (l:List UInt8)(w:World)(e:Ending)(w':World):Prop:=e=.returned (zmE l)/\Chg [] w w'
section
variable {w:World}
theorem zcq (l:List UInt8)(hl:l.length<=1000000):Calls Tryz.prog 185 #[.string (zj_ l),.string ⟨#[32]⟩] w (kV_ l w):=by
 have HX:=hQ_ (Tryz.stringslite_Index_one (zj_ l) 32 w);rw[y9_,zje]at HX;obtain⟨V,hV⟩:∃V,V=zmE l:=⟨_,rfl⟩;unfold kV_;rw[<-hV];unfold zmE at hV;cases hc:vI_ l with
 | none =>
   rw[hc]at HX hV;simp only at HX hV;have HV:=hQ_ hV;clear hV hc;go_enter Tryz.func185,Tryz.ntmps185;go_wp2_with (go_at_call 187;refine HX.o.mono ?_;rintro e w1 ⟨rfl,rfl⟩);go_ret3;exact⟨by rw[HV.o];rfl,Chg.refl _ _⟩
 | some p =>
   obtain⟨a,b⟩:=p;rw[hc]at HX hV;simp only at HX hV;obtain⟨h1,h2,h3⟩:=jq_ hc;have HV:=hQ_ hV;have e1:(zj_ l).extract 0 a.length=zj_ a:=(by rw[uN_,List.drop_zero,Nat.sub_zero,<-h1]);have e2:(zj_ l).extract (a.length+1) (zj_ l).size=zj_ b:=(by
    rw[uN_,zL_,List.take_of_length_le (by rw[List.length_drop];omega),<-h2]);have hsz:=zL_ l;have HE:=hQ_ (And.intro e1 e2);clear hV hc h1 h2;obtain⟨n,hn⟩:∃n,n=a.length:=⟨_,rfl⟩;rw[<-hn]at HX h3 HE;obtain⟨N,hN⟩:∃N,N=l.length:=⟨_,rfl⟩;rw[<-hN]at hsz h3 hl;clear hn hN e1 e2;generalize zj_ l=S at *;have c1:(0:Int)<=(n:Int):=(by omega);have c2:(n:Int)<=(S.size:Int):=(by omega);have c3:(0:Int)<=(n:Int)+1:=(by omega);have c4:(n:Int)+1<=(S.size:Int):=(by omega);have HSZ:=hQ_ hsz;clear hsz;go_enter Tryz.func185,Tryz.ntmps185;go_wp2_with (go_at_call 187;refine HX.o.mono ?_;rintro e w1 ⟨rfl,rfl⟩);have HD:=hQ_ ((Chg.refl [] w1).drew);go_region;(all_goals go_wp2_with fail);(all_goals go_ret3);all_goals exact⟨by rw[HV.o,<-HE.o.1,<-HE.o.2];rfl,HD.o⟩
theorem zcM (l:List UInt8)(hl:l.length<=1000000):Calls Tryz.prog 171 #[.string (zj_ l),.string ⟨#[32]⟩] w (kV_ l w):=by
 have HX:=hQ_ (zcq (w:=w) l hl);obtain⟨V,hV⟩:∃V,V=zmE l:=⟨_,rfl⟩;unfold kV_ at HX⊢;rw[<-hV]at HX⊢;obtain⟨x,y,z,hxyz⟩:∃x y z,V=.tuple #[.string x,.string y,.bool z]:=by
  rw[hV];unfold zmE;split<;>exact⟨_,_,_,rfl⟩
 clear hV;subst hxyz;go_enter Tryz.func171,Tryz.ntmps171;go_wp2_with (go_at_call 185;refine HX.o.mono ?_;rintro e w1 ⟨rfl,hc1⟩;have HC1:=hQ_ hc1;clear hc1);go_ret3;exact⟨rfl,HC1.o⟩
end
end
section
open Go.RowKit
open Go.Lib (decodeN decode_at decodeN_shape decodeN_le_n')
theorem g0_ (l:List UInt8) (p:Nat) (h:p<l.length) :
    ((l.getD p 0).toNat<128/\Utf8.decode (zj_ l) p=((l.getD p 0).toNat,1)) \/
    (128<=(l.getD p 0).toNat/\128<=(Utf8.decode (zj_ l) p).1/\1<=(Utf8.decode (zj_ l) p).2/\p+(Utf8.decode (zj_ l) p).2<=l.length/\∀j,p<=j->j<p+(Utf8.decode (zj_ l) p).2->128<=(l.getD j 0).toNat):=by
      have hg:∀i,(zj_ l).get! i=l.getD i 0:=fun i=>yO_ l i;have hs:(zj_ l).size=l.length:=zL_ l;have hw:=vL_ (zj_ l) p (by rw[hs];exact h);rw[decode_at,hg,hg,hg,hg,hs]at hw⊢;have hle:=decodeN_le_n' (l.length-p) (l.getD p 0).toNat (l.getD (p+1) 0).toNat (l.getD (p+2) 0).toNat (l.getD (p+3) 0).toNat (by omega);rcases decodeN_shape (l.length-p) (l.getD p 0).toNat (l.getD (p+1) 0).toNat (l.getD (p+2) 0).toNat (l.getD (p+3) 0).toNat with⟨c,e⟩|⟨c1,c2,c3,cv,e⟩|⟨c1,c2,c3,c4,cv,cs,e⟩|⟨c1,c2,c3,c4,c5,cv,cw,e⟩|e
      · exact .inl ⟨c,e⟩
      · rw[e]at hle⊢;simp only at hle⊢;refine .inr ⟨by omega,by omega,by omega,by omega,fun j h1 h2=>?_⟩;have:j=p\/j=p+1:=(by omega);rcases this with rfl|rfl<;>omega
      · rw[e]at hle⊢;simp only at hle⊢;refine .inr ⟨by omega,by omega,by omega,by omega,fun j h1 h2=>?_⟩;have:j=p\/j=p+1\/j=p+2:=(by omega);rcases this with rfl|rfl|rfl<;>omega
      · rw[e]at hle⊢;simp only at hle⊢;refine .inr ⟨by omega,by omega,by omega,by omega,fun j h1 h2=>?_⟩;have:j=p\/j=p+1\/j=p+2\/j=p+3:=(by omega);rcases this with rfl|rfl|rfl|rfl<;>omega
      · by_cases hb:(l.getD p 0).toNat<128
        · left
          refine⟨hb,?_⟩;unfold decodeN;rw[if_pos hb]
        · rw[e]at hle⊢;simp only at hle⊢;refine .inr ⟨by omega,by omega,by omega,by omega,fun j h1 h2=>?_⟩;have:j=p:=(by omega);subst this;omega
theorem zbv {l:List UInt8}{p:Nat}(h:p<l.length):l.drop p=l.getD p 0::l.drop (p+1):=by
 rw[List.drop_eq_getElem_cons h];congr 1;simp[List.getD,List.getElem?_eq_getElem h]
def zjU (l:List UInt8):Value:=match zbU l with
  | some n=>.tuple #[.int .i64 (n:Int),.bool true]
  | none=>.tuple #[.int .i64 0,.bool false]
def g9_ (l:List UInt8)(w:World)(e:Ending)(w':World):Prop:=e=.returned (zjU l)/\Chg [] w w'
theorem zgo:∀(l:List UInt8){n m:Nat},n<=9223372036854775807->jB_ l n=some m->m<=9223372036854775807
  | [],n,m,h,e=>by rw[jB_]at e;injection e with e;omega
  | b :: l,n,m,h,e=>by
    rw[jB_]at e;split at e
    · split at e
      · cases e
      · exact zgo l (by omega) e
    · cases e
theorem zmP {l:List UInt8}{m:Nat}(e:zbU l=some m):m<=9223372036854775807:=by
 unfold zbU at e;split at e
 · cases e
 · exact zgo l (by omega) e
section
variable {w:World}
theorem jD_ (l:List UInt8) (hl:l.length<=1000000):Calls Tryz.prog 172 #[.string (zj_ l)] w (g9_ l w):=by
 obtain⟨V,hV⟩:∃V,V=zjU l:=⟨_,rfl⟩;unfold g9_;rw[<-hV];unfold zjU zbU at hV;have hsz:=zL_ l;by_cases h0:l=[]
 · subst h0;rw[if_pos (.inl rfl)]at hV;have HV:=hQ_ hV;clear hV;have e0:zj_ []=⟨#[]⟩:=rfl;rw[e0];go_enter Tryz.func172,Tryz.ntmps172;go_wp2_with fail;go_ret2;exact⟨by rw[HV.o];rfl,Chg.refl _ _⟩
 have hlen:0<l.length:=List.length_pos_iff.2 h0;have hne:(zj_ l).toList.isEmpty=false:=by
  rw[ByteArray.toList_eq,y9_];cases l with
  | nil=>exact absurd rfl h0
  | cons=>rfl
 have hlJ:(0:Int)<((zj_ l).size:Int):=by omega
 have hg0:∀h:0<(zj_ l).size,((zj_ l)[0]'h).toNat=(l.getD 0 0).toNat:=by
  intro h;have e1:=get_at (zj_ l) 0 h;rw[Nat.add_zero,show(zj_ l).get! 0=l.getD 0 0 from yO_ l 0]at e1;rw[<-e1]
 by_cases hz:1<l.length/\l.getD 0 0=48
 · rw[if_pos (.inr hz)]at hV;have HV:=hQ_ hV;have hlI:(1:Int)<(l.length:Int):=(by omega);rw[hz.2]at hg0;have hg1:∀h:0<(zj_ l).size,((zj_ l)[0]'h).toNat=48:=hg0;clear hV h0 hz hg0;generalize zj_ l=S at *;go_enter Tryz.func172,Tryz.ntmps172;go_wp2_with fail;go_ret2;exact⟨by rw[HV.o];rfl,Chg.refl _ _⟩
 · have hVV:V=(match jB_ (l.drop 0) 0 with|some n=>Value.tuple #[.int .i64 (n:Int),.bool true]|none=>.tuple #[.int .i64 0,.bool false]):=(by
    rw[hV,if_neg (fun h=>h.elim h0 hz)];rfl);have HVV:=hQ_ hVV;have hspl:((1:Int)<(l.length:Int)/\∀h:0<(zj_ l).size,(((((zj_ l)[0]'h).toNat:Int)==48)=false))\/decide ((1:Int)<(l.length:Int))=false:=(by
    by_cases h1:1<l.length
    · left
      refine⟨by omega,fun h=>?_⟩;rw[hg0 h];have h2:l.getD 0 0≠48:=fun h=>hz ⟨h1,h⟩;have h3:(l.getD 0 0).toNat≠48:=fun h=>h2 (UInt8.toNat_inj.1 (by rw[h];rfl));generalize (l.getD 0 0).toNat=q at h3;simp;omega
    · right;simp;omega);clear hV hVV hz h0 hg0;obtain⟨S,hS⟩:∃S,S=zj_ l:=⟨_,rfl⟩;have HS:=hQ_ hS;have HLN:=hQ_ hsz;have hszS:S.size=l.length:=(by rw[hS];exact hsz);rw[<-hS]at hne hlJ;rw[<-hS]at hspl;have hspl2:=hspl;rw[<-hS];clear hspl hS hsz;obtain⟨n,hn⟩:∃n,n=l.length:=⟨_,rfl⟩;rw[<-hn]at hszS hspl2 hlen hl;have HNL:=hQ_ hn;clear hn;have HSN:=hQ_ hszS;rcases hspl2 with⟨hA,hB⟩|hA;all_goals
     go_enter Tryz.func172,Tryz.ntmps172;go_upto_region 5 with fail;clear hne hlJ;have hI:(w.iter S 0).heap[w.heap.size]?=some (.stringIter S 0):=World.iter_heap w S 0;have hc0:Chg [] w (w.iter S 0):=(Chg.refl [] w).alloc _;obtain⟨kI,hkI⟩:∃k,k=w.heap.size:=⟨_,rfl⟩;rw[<-hkI]at hI⊢;generalize w.iter S 0=w1 at hI hc0⊢;have HI:=hQ_ hI;have HC0:=hQ_ hc0;have HK:=hQ_ hkI;clear hI hc0 hkI;have HCZ:=hQ_ (fun (W:World)(hW:Chg [kI] w1 W)=>show Chg [] w W from HC0.o.then_ hW (fun i hi hl=>by have:=HK.o;simp only[List.mem_cons,List.not_mem_nil,or_false]at hi;omega));go_loopw [4] (fun v wr=>∃m:Nat,v=.int .i64 (m:Int)/\m<=9223372036854775807/\(∃pos,Hid (wr.heap[kI]?=some (.stringIter S pos))/\pos<=n/\Hid (V=(match jB_ (l.drop pos) m with|some n=>Value.tuple #[.int .i64 (n:Int),.bool true]|none=>.tuple #[.int .i64 0,.bool false])))/\Hid (Chg [kI] w1 wr)) (fun _ wr=>n-wr.iterPos kI);(case atStart=>exact⟨0,rfl,by omega,⟨0,HI,by omega,HVV⟩,hQ_ (Chg.refl _ _)⟩);case round =>
      obtain⟨m,rfl,hm,⟨pos,HIr,hpos,HR⟩,HCr⟩:=hrel;by_cases hlt:pos<n
      · have hltS:pos<S.size:=(by omega);have hnx:=fun ty=>Lib.run_next_any_at (P:=Tryz.prog) wr kI S pos ty HIr.o hltS;go_upto_region 7 with fail;have hdb:=g0_ l pos (by rw[<-HNL.o];exact hlt);rw[<-HS.o]at hdb;have hdr:=zbv (l:=l) (p:=pos) (by rw[<-HNL.o];exact hlt);obtain⟨d,hd⟩:∃d,d=(Utf8.decode S pos).2:=⟨_,rfl⟩;obtain⟨x,hx⟩:∃r,r=(Utf8.decode S pos).1:=⟨_,rfl⟩;have hx2:x<=2147483647:=(by rw[hx];exact decode_le S pos);have HI2:=hQ_ (Lib.iterAt_heap wr kI S pos (pos+d) HIr.o);have HC2:=hQ_ (show Chg [kI] w1 (wr.iterAt kI S (pos+d)) from HCr.o.trans ⟨rfl,rfl,rfl,by rw[Lib.iterAt_size];exact Nat.le_refl _,fun i _ hn=>Lib.iterAt_other wr kI i S (pos+d) (by simpa using hn)⟩);rw[<-hd,<-hx];have HMP:=hQ_ (show wr.iterPos kI=pos from by unfold World.iterPos;rw[HIr.o]);have HP2:=hQ_ (show(wr.iterAt kI S (pos+d)).iterPos kI=pos+d from by unfold World.iterPos;rw[HI2.o]);generalize wr.iterAt kI S (pos+d)=w3 at HI2 HC2 HP2⊢;obtain⟨c,hc⟩:∃c,c=l.getD pos 0:=⟨_,rfl⟩;rw[<-hc]at hdb hdr;have HRR:=hQ_ (show V=(match jB_ (c::l.drop (pos+1)) m with|some n=>Value.tuple #[.int .i64 (n:Int),.bool true]|none=>.tuple #[.int .i64 0,.bool false]) from by rw[<-hdr];exact HR.o);have hdb2:(c.toNat<128/\x=c.toNat/\d=1)\/(128<=c.toNat/\128<=x):=by
         rcases hdb with⟨h1,h2⟩|⟨h1,h2,_⟩
         · exact .inl ⟨h1,by rw[hx,h2],by rw[hd,h2]⟩
         · exact .inr ⟨h1,by rw[hx];exact h2⟩
        clear hdb hx hd hnx hdr hc;have hwx:IntKind.i32.wrap ((x:Int)-48)=(x:Int)-48:=(by rw[IntKind.wrap_i32];omega);have hno:¬(48<=x/\x<=57)->V=.tuple #[.int .i64 0,.bool false]:=fun h=>by
         rw[HRR.o,jB_,if_neg];rcases hdb2 with⟨_,h2,_⟩|⟨h1,h2⟩<;>omega
        by_cases hd48:48<=x
        · by_cases hd57:x<=57
          · obtain⟨hcx,hd1⟩:c.toNat=x/\d=1:=(by
             rcases hdb2 with⟨_,h2,h3⟩|⟨h1,h2⟩
             · exact⟨h2.symm,h3⟩
             · omega);subst hd1;have hq:((9223372036854775807:Int)-((x:Int)-48)).tdiv 10=(((9223372036854775807-(x-48))/10:Nat):Int):=(by
             rw[Int.tdiv_eq_ediv_of_nonneg (by omega)];omega);obtain⟨q,hqe⟩:∃q,q=(9223372036854775807-(x-48))/10:=⟨_,rfl⟩;rw[<-hqe]at hq;have hqB:(q:Int)<=922337203685477580:=(by omega);have hqC:(0:Int)<=(q:Int):=(by omega);have b1:decide ((x:Int)-48<0)=false:=(by simp;omega);have b2:decide (9<(x:Int)-48)=false:=(by simp;omega);by_cases hov:q<m
            · have HV:=hQ_ (show V=.tuple #[.int .i64 0,.bool false] from by
               rw[HRR.o,jB_,if_pos (by omega),if_pos (by rw[hcx,<-hqe];exact hov)]);have hovI:(q:Int)<(m:Int):=(by omega);have hovD:decide ((q:Int)<(m:Int))=true:=(by simpa using hov);clear hov hdb2 hno hqe hcx;go_wp2_with fail;go_ret2;exact⟨by rw[HV.o];rfl,HCZ.o _ HC2.o⟩
            · have HV:=hQ_ (show V=(match jB_ (l.drop (pos+1)) (m*10+(x-48)) with|some n=>Value.tuple #[.int .i64 (n:Int),.bool true]|none=>.tuple #[.int .i64 0,.bool false]) from by
               rw[HRR.o,jB_,if_pos (by omega),if_neg (by rw[hcx,<-hqe];exact hov),hcx]);have hovI:¬(q:Int)<(m:Int):=(by omega);have hovD:decide ((q:Int)<(m:Int))=false:=(by simpa using hov);have hovJ:(m:Int)<=(q:Int):=(by omega);clear hovI hovD;have hm2:m*10+(x-48)<=9223372036854775807:=(by omega);have HMM:=hQ_ (show((m*10+(x-48):Nat):Int)=(m:Int)*10+((x:Int)-48) from by omega);clear hov hdb2 hno hqe hcx;go_wp2_with fail;go_roundw;(case rel=>exact⟨m*10+(x-48),by rw[HMM.o],hm2,⟨pos+1,HI2,by omega,HV⟩,HC2⟩);case measure=>rw[HP2.o,HMP.o];omega
          · have HV:=hQ_ (hno (by omega));have b1:decide ((x:Int)-48<0)=false:=(by simp;omega);have b2:decide (9<(x:Int)-48)=true:=(by simp;omega);clear hdb2 hno hd48 hd57;go_wp2_with fail;go_ret2;exact⟨by rw[HV.o];rfl,HCZ.o _ HC2.o⟩
        · have HV:=hQ_ (hno (by omega));have b1:decide ((x:Int)-48<0)=true:=(by simp;omega);clear hdb2 hno hd48;go_wp2_with fail;go_ret2;exact⟨by rw[HV.o];rfl,HCZ.o _ HC2.o⟩
      · have hnx:=fun ty=>Lib.run_next_end_at (P:=Tryz.prog) wr kI S pos ty HIr.o (by omega);have HV:=hQ_ (show V=.tuple #[.int .i64 (m:Int),.bool true] from by
         rw[HR.o,List.drop_eq_nil_of_le (by rw[<-HNL.o];omega),jB_]);go_wp2_with fail;go_ret2;exact⟨by rw[HV.o];rfl,HCZ.o _ HCr.o⟩
end
end
section
open Go.RowKit
def zbZ (L:List (List UInt8)):List Value:=L.map fun x=>.string (zj_ x)
theorem zkd (L M:List (List UInt8)):zbZ (L++M)=zbZ L++zbZ M:=by simp[zbZ]
theorem zlk:(Tryz.prog.info? 9).map (fun i=>(i.zero,i.size,i.bytes))=some (some (.string ⟨#[]⟩),1,16):=by kernel_rfl
theorem qL_:∀(a t acc:List UInt8),(∀b∈a,b≠10)->zM_ (a++t) acc=zM_ t (acc++a)
  | [],t,acc,_=>by simp
  | b::a,t,acc,h=>by
    rw[List.cons_append,zM_,if_neg (h b (by simp)),qL_ a t (acc++[b]) (fun c hc=>h c (by simp[hc]))];simp
theorem v3_:∀(t acc:List UInt8),(zM_ t acc).2.length+((zM_ t acc).1.map List.length).sum+(zM_ t acc).1.length=t.length+acc.length
  | [],acc=>by simp[zM_]
  | b::t,acc=>by
    rw[zM_];split
    · have:=v3_ t [];simp only[List.length_cons,List.map_cons,List.sum_cons,List.length_nil]at this⊢;omega
    · have:=v3_ t (acc++[b]);simp only[List.length_append,List.length_cons,List.length_nil]at this⊢;omega
def uF_ (l:List UInt8):Bool:=decide (0<(zM_ l []).1.length)&&decide ((zM_ l []).2=[])
def ki_ (l:List UInt8)(ok:Bool)(w:World)(e:Ending)(w':World):Prop :=
 ∃v,e=.returned (.tuple #[v,.bool ok])/\w'.ownsRow w.heap.size 9 1 v (zM_ l []).1.length (zbZ (zM_ l []).1)/\Chg [] w w'
section
variable {w:World}
theorem zeF (l:List UInt8) (hl:l.length<=1000000):Calls Tryz.prog 151 #[.string (zj_ l)] w (ki_ l (uF_ l) w):=by
 obtain⟨i0,hi0,hz0,hz1,hz2⟩:=info_parts zlk;obtain⟨X,hX⟩:∃X,X=zM_ l []:=⟨_,rfl⟩;obtain⟨B,hB⟩:∃B,B=uF_ l:=⟨_,rfl⟩;rw[<-hB];have HPP:=hQ_ (show ∀(v:Value)(wr:World),wr.ownsRow w.heap.size 9 1 v X.1.length (zbZ X.1)->Chg [] w wr->ki_ l B w (.returned (.tuple #[v,.bool B])) wr from fun v wr h1 h2=>⟨v,rfl,by rw[<-hX];exact h1,h2⟩);unfold uF_ at hB;rw[<-hX]at hB;have HB0:=hQ_ hB;clear hB;have HSP:=hQ_ (show X.2.length+(X.1.map List.length).sum+X.1.length=l.length from by rw[hX];simpa using v3_ l []);have HX0:=hQ_ (show X=(([]:List (List UInt8))++(zM_ (l.drop 0) []).1,(zM_ (l.drop 0) []).2) from by rw[hX];rfl);clear hX;obtain⟨S,hS⟩:∃S,S=zj_ l:=⟨_,rfl⟩;have HS:=hQ_ hS;have hszS:S.size=l.length:=by rw[hS];exact zL_ l
 rw[<-hS];clear hS;obtain⟨n,hn⟩:∃n,n=l.length:=⟨_,rfl⟩;rw[<-hn]at hszS hl;have HNL:=hQ_ hn;clear hn;have HSZ:=hQ_ hszS;go_enter Tryz.func151,Tryz.ntmps151;go_upto_region 4 with fail;have hI:(w.iter S 0).heap[w.heap.size]?=some (.stringIter S 0):=World.iter_heap w S 0;have hc0:Chg [] w (w.iter S 0):=(Chg.refl [] w).alloc _;obtain⟨kI,hkI⟩:∃k,k=w.heap.size:=⟨_,rfl⟩;have hsz:(w.iter S 0).heap.size=kI+1:=by rw[hkI];simp[World.iter]
 rw[<-hkI]at hI⊢;generalize w.iter S 0=w1 at hI hc0 hsz⊢;have HI:=hQ_ hI;have HC0:=hQ_ hc0;have HK:=hQ_ hkI;have HSZ1:=hQ_ hsz;clear hI hc0 hkI hsz hszS;have HCZ:=hQ_ (fun (W:World)(hW:Chg [kI] w1 W)=>show Chg [] w W from HC0.o.then_ hW (fun i hi hl=>by have:=HK.o;simp only[List.mem_cons,List.not_mem_nil,or_false]at hi;omega));go_loopw [4,5] (fun v f wr=>∃(q pos k:Nat)(L:List (List UInt8)),f=.int .i64 (q:Int)/\q<=pos/\pos<=n/\k<=pos/\Hid (k=L.length)/\Hid (wr.ownsRow (kI+1) 9 1 v k (zbZ L))/\Hid (wr.heap[kI]?=some (.stringIter S pos))/\Hid (X=(L++(zM_ (l.drop pos) ((l.drop q).take (pos-q))).1,(zM_ (l.drop pos) ((l.drop q).take (pos-q))).2))/\Hid (Chg [kI] w1 wr)) (fun _ _ wr=>n-wr.iterPos kI);case atStart=>exact⟨0,0,0,[],rfl,by omega,by omega,by omega,hQ_ rfl,hQ_ (World.ownsRow_nil _ _ _ _),HI,HX0,hQ_ (Chg.refl _ _)⟩
 case round =>
  obtain⟨q,pos,k,L,rfl,hqp,hpn,hkp,HKL,HO,HIr,HX,HCr⟩:=hrel;by_cases hlt:pos<n
  · have hltS:pos<S.size:=(by rw[HSZ.o];exact hlt);have hnx:=fun ty=>Lib.run_next_any_at (P:=Tryz.prog) wr kI S pos ty HIr.o hltS;go_upto_region 6 with fail;have hdb:=g0_ l pos (by rw[<-HNL.o];exact hlt);rw[<-HS.o]at hdb;obtain⟨d,hd⟩:∃d,d=(Utf8.decode S pos).2:=⟨_,rfl⟩;obtain⟨x,hx⟩:∃r,r=(Utf8.decode S pos).1:=⟨_,rfl⟩;have hx2:x<=2147483647:=(by rw[hx];exact decode_le S pos);have HI2:=hQ_ (Lib.iterAt_heap wr kI S pos (pos+d) HIr.o);have hcI:Chg [kI] wr (wr.iterAt kI S (pos+d)):=⟨rfl,rfl,rfl,by rw[Lib.iterAt_size];exact Nat.le_refl _,fun i _ hn=>Lib.iterAt_other wr kI i S (pos+d) (by simpa using hn)⟩;have HC2:=hQ_ (HCr.o.trans hcI);have HO2:=hQ_ (zS_ HO.o hcI (by simp));rw[<-hd,<-hx];have hdb2:(x=(l.getD pos 0).toNat/\d=1)\/(128<=x/\1<=d/\pos+d<=n/\∀j,pos<=j->j<pos+d->128<=(l.getD j 0).toNat):=by
     rcases hdb with⟨h1,h2⟩|⟨h1,h2,h3,h4,h5⟩
     · exact .inl ⟨by rw[hx,h2],by rw[hd,h2]⟩
     · exact .inr ⟨by rw[hx];exact h2,by rw[hd];exact h3,by rw[hd,HNL.o];exact h4,by rw[hd];exact h5⟩
    have HMP:=hQ_ (show wr.iterPos kI=pos from by unfold World.iterPos;rw[HIr.o]);have HP2:=hQ_ (show(wr.iterAt kI S (pos+d)).iterPos kI=pos+d from by unfold World.iterPos;rw[HI2.o]);have hdr:=zbv (l:=l) (p:=pos) (by rw[<-HNL.o];exact hlt);generalize wr.iterAt kI S (pos+d)=w3 at HI2 HC2 HO2 HP2 hcI⊢;clear hx hd hnx hdb hcI;by_cases h10:x=10
    · subst h10;obtain⟨hb,rfl⟩:(l.getD pos 0)=10/\d=1:=(by
       rcases hdb2 with⟨h1,h2⟩|⟨h1,_⟩
       · exact⟨UInt8.toNat_inj.1 (by rw[<-h1];rfl),h2⟩
       · omega);have HX2:=hQ_ (show X=((L++[(l.drop q).take (pos-q)])++(zM_ (l.drop (pos+1)) ((l.drop (pos+1)).take (pos+1-(pos+1)))).1,(zM_ (l.drop (pos+1)) ((l.drop (pos+1)).take (pos+1-(pos+1)))).2) from by
       rw[HX.o,hdr,hb,zM_,if_pos rfl,Nat.sub_self,List.take_zero];simp);have hqI:(0:Int)<=(q:Int):=(by omega);have hpI:(q:Int)<=(pos:Int):=(by omega);have hpS:(pos:Int)<=(S.size:Int):=(by omega);have hpT:(pos:Int)<=(n:Int):=(by omega);have HEX:=hQ_ (show S.extract q pos=zj_ ((l.drop q).take (pos-q)) from by rw[HS.o];exact uN_ l q pos);have HB3:=hQ_ (show kI+1<=w3.heap.size from by rw[<-HSZ1.o];exact HC2.o.size);clear hdb2 hdr hb hx2;go_wp2_with (
       at_builtin;refine wpList_append_own _ rfl (.tmp 16) (.tmp 21) _ rfl (kI+1) 9 i0 _ 1 16 Tryz.underlying237 hi0 hz0 hz1 hz2 rfl (by decide) u4 k (zbZ L) rfl (zk_ HO2.o ((Chg.refl [] w3).alloc _)) ⟨w3.heap.size,0,none⟩ 1 1 [.string (S.extract q pos)] rfl rfl (zK_ _ _ _) (by simp[Value.oneCell']) (by simp only[maxLen];omega) (by omega) (by have:=HB3.o;simp;omega) ?_;intro v6 w6 ho6 hg6 _;have HO6:=hQ_ ho6;have HG6:=hQ_ hg6;clear ho6 hg6);have HO7:=hQ_ (show w6.ownsRow (kI+1) 9 1 v6 (k+1) (zbZ (L++[(l.drop q).take (pos-q)])) from by
       rw[zkd];show w6.ownsRow _ _ _ _ _ (zbZ L++[.string (zj_ ((l.drop q).take (pos-q)))]);rw[<-HEX.o];exact HO6.o);have HOW:=hQ_ (zk_ HO2.o ((Chg.refl [] w3).alloc (.cells #[.string (S.extract q pos)] 9)));have hkw:kI<w3.heap.size:=(by have:=HB3.o;omega);have HI6:=hQ_ (show w6.heap[kI]?=some (.stringIter S (pos+1)) from by
       rw[HG6.o.block kI (by simp;omega) (fun hc=>by have:=(HOW.o.lt kI hc.symm).1;omega)];exact(((Chg.refl [] w3).alloc (.cells #[.string (S.extract q pos)] 9)).block kI hkw (by simp)).trans HI2.o);have HC6:=hQ_ (show Chg [kI] w1 w6 from vg_ (HC2.o.alloc _) HG6.o (fun g hg=>by have:=(HOW.o.lt g hg).1;have:=HSZ1.o;omega));have HP6:=hQ_ (show w6.iterPos kI=pos+1 from by unfold World.iterPos;rw[HI6.o]);go_roundw;(case rel=>exact⟨pos+1,pos+1,k+1,_,by go_num,by omega,by omega,by omega,hQ_ (by rw[HKL.o];simp),HO7,HI6,HX2,HC6⟩);case measure=>rw[HP6.o,HMP.o];omega
    · have h10d:((x:Int)==10)=false:=(by simp;omega);have hd1:1<=d:=by rcases hdb2 with⟨_,h⟩|⟨_,h,_⟩<;>omega
      have hdn:pos+d<=n:=by rcases hdb2 with⟨_,h⟩|⟨_,_,h,_⟩<;>omega
      have HX2:=hQ_ (show X=(L++(zM_ (l.drop (pos+d)) ((l.drop q).take (pos+d-q))).1,(zM_ (l.drop (pos+d)) ((l.drop q).take (pos+d-q))).2) from by
       have hsk:l.drop pos=(l.drop pos).take d++l.drop (pos+d):=(by
        rw[<-List.drop_drop,List.take_append_drop]);have hne:∀b∈(l.drop pos).take d,b≠10:=by
        intro b hb;obtain⟨j,hj,rfl⟩:=List.getElem_of_mem hb;have hjd:j<d:=(by rw[List.length_take]at hj;omega);have hjl:pos+j<l.length:=(by rw[List.length_take,List.length_drop]at hj;omega);have e1:((l.drop pos).take d)[j]=l.getD (pos+j) 0:=(by
         rw[List.getElem_take,List.getElem_drop];simp[List.getD,List.getElem?_eq_getElem hjl]);rw[e1];rcases hdb2 with⟨h1,h2⟩|⟨_,_,_,h4⟩
        · obtain rfl:j=0:=(by omega);rw[Nat.add_zero];intro hh;rw[hh]at h1;exact h10 h1
        · have:=h4 (pos+j) (by omega) (by omega);exact zbW (by show _≠10;omega)
       have htk:(l.drop q).take (pos+d-q)=(l.drop q).take (pos-q)++(l.drop pos).take d:=(by
        rw[show pos+d-q=(pos-q)+d from by omega,List.take_add,List.drop_drop,show q+(pos-q)=pos from by omega]);rw[htk,<-qL_ _ _ _ hne,<-hsk];exact HX.o);clear hdb2 hdr h10;go_wp2_with fail;go_roundw;(case rel=>exact⟨q,pos+d,k,L,rfl,by omega,by omega,by omega,HKL,HO2,HI2,HX2,HC2⟩);case measure=>rw[HP2.o,HMP.o];omega
  · have hnx:=fun ty=>Lib.run_next_end_at (P:=Tryz.prog) wr kI S pos ty HIr.o (by rw[HSZ.o];exact hlt);obtain rfl:pos=n:=(by omega);have HXE:=hQ_ (show X=(L,l.drop q) from by
     rw[HX.o,HNL.o,List.drop_length,zM_,List.append_nil,List.take_of_length_le (by rw[List.length_drop];exact Nat.le_refl _)]);have hX1:X.1=L:=(by rw[HXE.o]);have hX2:X.2=l.drop q:=(by rw[HXE.o]);have HCf:=hQ_ (HCZ.o _ HCr.o);have hOf:=(show wr.ownsRow w.heap.size 9 1 u4 X.1.length (zbZ X.1) from by rw[hX1,<-HKL.o];exact z0_ HO.o (by have:=HK.o;omega));have HPO:=hQ_ (HPP.o _ _ hOf HCf.o);clear hOf;have HKf:=hQ_ (show k=X.1.length from by rw[hX1];exact HKL.o);obtain⟨A4,c4,rfl,_⟩:=zr_ HO.o;have hq2:(X.2=[])=(q=pos):=(by
     rw[hX2,HNL.o];apply propext;constructor
     · intro h;have:=congrArg List.length h;rw[List.length_drop,List.length_nil]at this;have:=HNL.o;omega
     · intro h;rw[h,List.drop_length]);have HB:=hQ_ (show B=(decide (0<k)&&decide (q=pos)) from by
     rw[HB0.o,<-HKf.o];congr 1;rw[decide_eq_decide,hq2]);have hnS:=HSZ.o;clear hX1 hX2 hq2;by_cases hk0:0<k
    · have hkI:(0:Int)<(k:Int):=(by omega);by_cases hqn:q=pos
      · subst hqn;have HBT:=hQ_ (show B=true from by rw[HB.o,decide_eq_true hk0];simp);clear hk0;go_wp2_with fail;go_ret2;have:=HPO.o;rw[HBT.o]at this⊢;exact this
      · have hqd:((q:Int)==(pos:Int))=false:=(by simp;omega);have HBT:=hQ_ (show B=false from by rw[HB.o,decide_eq_false hqn];simp);clear hk0 hqn;go_wp2_with fail;go_ret2;have:=HPO.o;rw[HBT.o]at this⊢;exact this
    · have hkI:¬(0:Int)<(k:Int):=(by omega);have HBT:=hQ_ (show B=false from by rw[HB.o,decide_eq_false hk0];rfl);clear hk0;go_wp2_with fail;go_ret2;have:=HPO.o;rw[HBT.o]at this⊢;exact this
end
end
end Go.Proofs.YtcbcfcdmdedefaaGreatDoor
