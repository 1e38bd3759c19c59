import Derived.Test.YtcbcfcdmdedefaaGreatDoorZHQ6
set_option maxRecDepth 100000
set_option maxHeartbeats 16000000
namespace Go.Proofs.YtcbcfcdmdedefaaGreatDoor
open Go.RowKit
inductive GPh where
  | idle
  | num (m:Nat)
  | wait (q:Nat)
def pend:GPh->List TkV
  | .idle=>[]
  | .num m=>[⟨48,(m:Int),0⟩]
  | .wait q=>[⟨(q:Int),0,0⟩]
def xm_:GPh->Bool
  | .num _=>true
  | _=>false
def waits:GPh->Bool
  | .wait _=>true
  | _=>false
def yz_ (ys:List TkV)(m x:Nat):Option (List TkV×GPh):=if (9223372036854775807-x)/10<m then none else some (ys,.num (m*10+x))
def yo_ (bs:List TkV)(r:Nat):Option (List TkV×GPh) :=
 if r=32 then some (bs,.idle) else if yi_ (r:Int)=true then (if yh_ (r:Int)=true then some (bs,.wait r) else some (bs++[⟨(r:Int),0,0⟩],.idle)) else none
def zO_ (ys:List TkV):GPh->Nat->Option (List TkV×GPh)
  | .wait q,r=>if yr_ (r:Int)=true then some (ys++[⟨(q:Int),0,(r:Int)⟩],.idle) else none
  | .num m,r=>if 48<=r/\r<=57 then yz_ ys m (r-48) else yo_ (ys++[⟨48,(m:Int),0⟩]) r
  | .idle,r=>if 48<=r/\r<=57 then yz_ ys 0 (r-48) else yo_ ys r
def zdS (ys:List TkV):GPh->Option (List TkV)
  | .idle=>some ys
  | .num m=>some (ys++[⟨48,(m:Int),0⟩])
  | .wait _=>none
def uv_:List Nat->List TkV->GPh->Option (List TkV)
  | [],ys,ph=>zdS ys ph
  | r::rs,ys,ph=>match zO_ ys ph r with
    | none=>none
    | some (ys',ph')=>uv_ rs ys' ph'
theorem ziv {ys ys':List TkV}{ph ph':GPh}{r:Nat}(h:zO_ ys ph r=some (ys',ph')):ys'.length+(pend ph').length<=ys.length+(pend ph).length+1:=by
 have ho:∀bs:List TkV,yo_ bs r=some (ys',ph')->ys'.length+(pend ph').length<=bs.length+1:=fun bs h=>by
  unfold yo_ at h;split at h
  · injection h with h;injection h with h1 h2;subst h1;subst h2;simp[pend]
  · split at h
    · split at h
      · injection h with h;injection h with h1 h2;subst h1;subst h2;simp[pend]
      · injection h with h;injection h with h1 h2;subst h1;subst h2;simp[pend]
    · cases h
 have hc:∀m x,yz_ ys m x=some (ys',ph')->ys'.length+(pend ph').length<=ys.length+1:=fun m x h=>by
  unfold yz_ at h;split at h
  · cases h
  · injection h with h;injection h with h1 h2;subst h1;subst h2;simp[pend]
 cases ph with
 | wait q =>
   rw[zO_]at h;split at h
   · injection h with h;injection h with h1 h2;subst h1;subst h2;simp[pend]
   · cases h
 | num m =>
   have e1:(pend (.num m)).length=1:=rfl;rw[zO_]at h;split at h
   · have:=hc _ _ h;omega
   · have:=ho _ h;rw[List.length_append,List.length_singleton]at this;omega
 | idle =>
   have e1:(pend .idle).length=0:=rfl;rw[zO_]at h;split at h
   · have:=hc _ _ h;omega
   · have:=ho _ h;omega
theorem qc_ {L rs:List Nat}{i r:Nat}(h:L.drop i=r::rs):L[i]?=some r/\L.drop (i+1)=rs:=by
 have h1:L[i]?=(L.drop i)[0]?:=by rw[List.getElem?_drop];rfl
 refine⟨by rw[h1,h];rfl,?_⟩;have:L.drop (i+1)=(L.drop i).drop 1:=by rw[List.drop_drop]
 rw[this,h];rfl
theorem gW_ {L:List Nat}{i:Nat}(h:L.drop i=[]):L[i]?=none:=by
 have:=List.drop_eq_nil_iff.1 h;exact List.getElem?_eq_none this
theorem zdR {L:List Nat}:∀(rs:List Nat) (i f m:Nat) (ys:List TkV),L.drop i=rs->rs.length<=f ->
    (gD_ L f i m=none/\uv_ rs ys (.num m)=none)\/∃m' j,gD_ L f i m=some (m',j)/\i<=j/\uv_ rs ys (.num m)=uv_ (L.drop j) (ys++[⟨48,(m':Int),0⟩]) .idle
  | [],i,f,m,ys,h,hf=>by
    refine .inr ⟨m,i,?_,Nat.le_refl _,by rw[h];rfl⟩;cases f with
    | zero=>rfl
    | succ f=>rw[gD_,gW_ h]
  | r :: rs,i,f,m,ys,h,hf=>by
    obtain⟨h1,h2⟩:=qc_ h;obtain⟨f,rfl⟩:∃f',f=f'+1:=⟨f-1,by simp at hf;omega⟩;rw[gD_,h1];simp only;by_cases hd:48<=r/\r<=57
    · rw[if_pos hd];have hg:zO_ ys (.num m) r=yz_ ys m (r-48):=(by rw[zO_,if_pos hd]);by_cases hb:(9223372036854775807-(r-48))/10<m
      · left
        rw[if_pos hb,uv_,hg];unfold yz_;rw[if_pos hb];exact⟨rfl,rfl⟩
      · rw[if_neg hb,uv_,hg];unfold yz_;rw[if_neg hb];simp only;rcases zdR rs (i+1) f (m*10+(r-48)) ys h2 (by simp at hf;omega) with h3|⟨m',j,h3,h4,h5⟩
        · exact .inl h3
        · exact .inr ⟨m',j,h3,by omega,h5⟩
    · rw[if_neg hd];refine .inr ⟨m,i,rfl,Nat.le_refl _,?_⟩;rw[h,uv_,uv_];have e:zO_ ys (.num m) r=zO_ (ys++[⟨48,(m:Int),0⟩]) .idle r:=(by
       rw[zO_,zO_,if_neg hd,if_neg hd]);rw[e]
theorem jZ_ (r:Nat):yh_ (r:Int)=true↔r=955\/r=960:=by unfold yh_;simp;omega
theorem u8_ {L:List Nat}:∀(k:Nat) (i f:Nat) (ys:List TkV),L.length-i<=k->L.length-i<f->uv_ (L.drop i) ys .idle=zbY L f i ys
  | k,i,f,ys,hk,hf=>by
    obtain⟨f,rfl⟩:∃f',f=f'+1:=⟨f-1,by omega⟩;rw[zbY];cases hr:L.drop i with
    | nil=>rw[gW_ hr];rfl
    | cons r rs =>
      obtain⟨h1,h2⟩:=qc_ hr;have hil:i<L.length:=(List.getElem?_eq_some_iff.1 h1).1;have hrl:rs.length=L.length-(i+1):=(by rw[<-h2,List.length_drop]);obtain⟨k,rfl⟩:∃k',k=k'+1:=⟨k-1,by omega⟩;rw[h1];simp only;rw[uv_];by_cases h32:r=32
      · subst h32;rw[if_pos rfl,show zO_ ys .idle 32=some (ys,.idle) from rfl];simp only;rw[<-h2];exact u8_ k (i+1) f ys (by omega) (by omega)
      rw[if_neg h32];by_cases hd:48<=r/\r<=57
      · rw[if_pos hd];have hg:zO_ ys .idle r=some (ys,.num (r-48)):=(by
         rw[zO_,if_pos hd];unfold yz_;rw[if_neg (by omega)];simp);have hn:gD_ L L.length i 0=gD_ L (L.length-1) (i+1) (r-48):=(by
         obtain⟨n,hn⟩:∃n,L.length=n+1:=⟨L.length-1,by omega⟩;rw[hn,gD_,h1];simp only;rw[if_pos hd,if_neg (by omega)];simp);rw[hg,hn];simp only;rcases zdR rs (i+1) (L.length-1) (r-48) ys h2 (by omega) with⟨h3,h4⟩|⟨m',j,h3,h4,h5⟩
        · rw[h3,h4]
        · rw[h3,h5];exact u8_ k j f _ (by omega) (by omega)
      rw[if_neg hd];have hgo:zO_ ys .idle r=yo_ ys r:=(by rw[zO_,if_neg hd]);rw[hgo];unfold yo_;rw[if_neg h32];by_cases hnm:r=955\/r=960
      · rw[if_pos hnm];have hk:yi_ (r:Int)=true:=by rcases hnm with rfl|rfl<;>decide
        rw[if_pos hk,if_pos ((jZ_ r).2 hnm)];simp only;cases hrs:rs with
        | nil =>
          rw[hrs]at h2;rw[gW_ h2];rfl
        | cons x xs =>
          rw[hrs]at h2;obtain⟨h3,h4⟩:=qc_ h2;rw[h3];simp only;rw[uv_];by_cases hnx:yr_ (x:Int)=true
          · rw[if_pos hnx,show zO_ ys (.wait r) x=some (ys++[⟨(r:Int),0,(x:Int)⟩],.idle) from by rw[zO_,if_pos hnx]];simp only;rw[<-h4];exact u8_ k (i+2) f _ (by omega) (by omega)
          · rw[if_neg hnx,show zO_ ys (.wait r) x=none from by rw[zO_,if_neg hnx]]
      · rw[if_neg hnm];by_cases hk:yi_ (r:Int)=true
        · rw[if_pos hk,if_pos hk,if_neg (fun h=>hnm ((jZ_ r).1 h))];simp only;rw[<-h2];exact u8_ k (i+1) f _ (by omega) (by omega)
        · rw[if_neg hk,if_neg hk]
theorem gO_ (s:ByteArray)(h:¬512<s.size):uJ_ s=uv_ (vD_ s) [] .idle:=by
 unfold uJ_;rw[if_neg h];have:=u8_ (L:=vD_ s) (vD_ s).length 0 ((vD_ s).length+1) [] (by omega) (by omega);rw[List.drop_zero]at this;exact this.symm
structure NPart where
  loop:Bool
  at_:Nat
  waits:Nat
  left:List Nat
structure NSt where
  tO:List Int
  deep:Nat
  op:List NPart
def yM_ (i:Nat):List NPart->Option (List NPart)
  | []=>none
  | p::r=>if p.loop=true then some (⟨p.loop,p.at_,p.waits,p.left++[i]⟩::r) else (yM_ i r).map (p::·)
def xa_ (v:Int):List Nat->List Int->List Int
  | [],t=>t
  | j::r,t=>xa_ v r (t.set j v)
def yZ_ (i:Nat)(s:Int)(m:NSt):Option NSt :=
 if s=63\/s=91 then
   if m.op.length+1<=16 then some ⟨m.tO,max m.deep (m.op.length+1),⟨decide (s=91),i,i,[]⟩::m.op⟩ else none
 else if s=58 then match m.op with
   | p::r=>if p.loop=false/\p.waits=p.at_ then some ⟨m.tO.set p.at_ ((i:Int)+1),m.deep,⟨p.loop,p.at_,i,p.left⟩::r⟩ else none
   | []=>none
 else if s=59 then match m.op with
   | p::r=>if p.loop=false then some ⟨m.tO.set p.waits (i:Int),m.deep,r⟩ else none
   | []=>none
 else if s=93 then match m.op with
   | p::r=>if p.loop=true then some ⟨xa_ ((i:Int)+1) p.left (m.tO.set i (p.at_:Int)),m.deep,r⟩ else none
   | []=>none
 else if s=126 then (yM_ i m.op).map fun o=>⟨m.tO,m.deep,o⟩
 else some m
def gE_:Nat->List Int->NSt->Option NSt
  | _,[],m=>some m
  | i,s::r,m=>(yZ_ i s ⟨m.tO.set i (-1),m.deep,m.op⟩).bind (gE_ (i+1) r)
structure RSt where
  tO:List Int
  deep:Nat
  op:List Nat
def zaK (ss:List Int)(i:Nat)(s:Int)(m:RSt):Option RSt :=
 if s=63\/s=91 then
   if m.op.length+1<=16 then some ⟨m.tO,max m.deep (m.op.length+1),i::m.op⟩ else none
 else if s=58 then match m.op with
   | p::r=>if ss[p]?=some 63 then some ⟨m.tO.set p ((i:Int)+1),m.deep,i::r⟩ else none
   | []=>none
 else if s=59 then match m.op with
   | p::r=>if ss[p]?=some 91 then none else some ⟨m.tO.set p (i:Int),m.deep,r⟩
   | []=>none
 else if s=93 then match m.op with
   | p::r=>if ss[p]?=some 91 then some ⟨m.tO.set i (p:Int),m.deep,r⟩ else none
   | []=>none
 else some m
def zdn (ss:List Int):Nat->List Int->RSt->Option RSt
  | _,[],m=>some m
  | i,s::r,m=>(zaK ss i s ⟨m.tO.set i (-1),m.deep,m.op⟩).bind (zdn ss (i+1) r)
structure Part (ss:List Int) (n:Nat) (p:NPart):Prop where
  lt:p.at_<n
  ltw:p.waits<n
  le:p.at_<=p.waits
  loop:p.loop=true->p.waits=p.at_/\ss[p.at_]?=some 91
  if_:p.loop=false->ss[p.at_]?=some 63/\(p.waits=p.at_\/ss[p.waits]?=some 58)
theorem Part.more {ss:List Int}{n k:Nat}{p:NPart}(h:Part ss n p)(hk:n<=k):Part ss k p:=⟨by have:=h.lt;omega,by have:=h.ltw;omega,h.le,h.loop,h.if_⟩
theorem Part.is_loop {ss:List Int}{n:Nat}{p:NPart}(h:Part ss n p):ss[p.waits]?=some 91↔p.loop=true:=by
 constructor
 · intro h1;cases hl:p.loop with
   | true=>rfl
   | false =>
     obtain⟨a,b|b⟩:=h.if_ hl
     · rw[b,a]at h1;cases h1
     · rw[b]at h1;cases h1
 · intro hl;obtain⟨a,b⟩:=h.loop hl;rw[a,b]
theorem Part.is_if {ss:List Int}{n:Nat}{p:NPart}(h:Part ss n p):ss[p.waits]?=some 63↔(p.loop=false/\p.waits=p.at_):=by
 constructor
 · intro h1;cases hl:p.loop with
   | true =>
     obtain⟨a,b⟩:=h.loop hl;rw[a,b]at h1;cases h1
   | false =>
     obtain⟨a,b|b⟩:=h.if_ hl
     · exact⟨rfl,b⟩
     · rw[b]at h1;cases h1
 · rintro⟨hl,e⟩;rw[e];exact(h.if_ hl).1
theorem zct {i:Nat}:∀{l:List NPart},(∃p∈l,p.loop=true)->∃o,yM_ i l=some o:=by
 intro l
 induction l with
 | nil=>rintro⟨p,h,_⟩;cases h
 | cons p r ih =>
   rintro⟨q,hq,hl⟩;unfold yM_;by_cases h:p.loop=true
   · exact⟨_,if_pos h⟩
   · rw[if_neg h];have:∃q∈r,q.loop=true:=by
      rcases List.mem_cons.1 hq with rfl|hq
      · exact absurd hl h
      · exact⟨q,hq,hl⟩
     obtain⟨o,ho⟩:=ih this;exact⟨p::o,by rw[ho];rfl⟩
theorem k3_ {i:Nat}:∀{l o:List NPart},yM_ i l=some o->∃a p r,l=a++p::r/\(∀q∈a,q.loop=false)/\p.loop=true/\o=a++⟨p.loop,p.at_,p.waits,p.left++[i]⟩::r:=by
 intro l
 induction l with
 | nil=>intro o h;cases h
 | cons p r ih =>
   intro o h;unfold yM_ at h;by_cases hp:p.loop=true
   · rw[if_pos hp]at h;injection h with h;exact⟨[],p,r,rfl,(fun q hq=>by cases hq),hp,h.symm⟩
   · rw[if_neg hp]at h;cases hr:yM_ i r with
     | none=>rw[hr]at h;cases h
     | some o' =>
       rw[hr]at h;injection h with h;obtain⟨a,q,r',e1,e2,e3,e4⟩:=ih hr;exact⟨p::a,q,r',by rw[e1];rfl,fun x hx=>by rcases List.mem_cons.1 hx with rfl|hx;exact(Bool.not_eq_true _).mp hp;exact e2 x hx,e3,by rw[<-h,e4];rfl⟩
theorem zcu {i:Nat}:∀{l:List NPart},yM_ i l=none->∀p∈l,p.loop=false:=by
 intro l h p hp;cases hl:p.loop with
 | false=>rfl
 | true =>
   obtain⟨o,ho⟩:=zct (i:=i) ⟨p,hp,hl⟩;rw[h]at ho;cases ho
def vk_ (ss:List Int)(t:List Int)(j a b:Nat):Prop:=∀k,j<=k->a<=k->k<b->ss[k]?=some 93->∃v,t[k]?=some v/\(j:Int)<=v
structure Sim (ss:List Int) (n:Nat) (m:NSt) (r:RSt):Prop where
  deep:m.deep=r.deep
  op:m.op.map (·.waits)=r.op
  lenM:m.tO.length=ss.length
  lenR:r.tO.length=ss.length
  parts:∀p∈m.op,Part ss n p
  desc:m.op.Pairwise fun p q=>q.waits<p.at_
  same:∀j:Nat,ss[j]?≠some 126->m.tO[j]?=r.tO[j]?
  pend:∀p∈m.op,∀j∈p.left,p.loop=true/\ss[j]?=some 126/\p.waits<j/\j<n/\vk_ ss r.tO j 0 n/\∀q∈m.op,q.loop=true->p.at_<q.at_->j<q.at_
  done:∀j:Nat,j<n->ss[j]?=some 126->(∃p∈m.op,j∈p.left)\/∃k:Nat,j<k/\k<n/\m.tO[j]?=some ((k:Int)+1)/\ss[k]?=some 93/\(∃v,r.tO[k]?=some v/\v<(j:Int))/\vk_ ss r.tO j 0 k
theorem vk_.keep {ss t u:List Int}{j a b:Nat}(h:vk_ ss t j a b)(hu:∀k:Nat,k<b->ss[k]?=some 93->u[k]?=t[k]?):vk_ ss u j a b:=fun k h1 h2 h3 h4=>by rw[hu k h3 h4];exact h k h1 h2 h3 h4
theorem vk_.next {ss t:List Int}{j b:Nat}(h:vk_ ss t j 0 b)(hb:ss[b]?=some 93->∃v,t[b]?=some v/\(j:Int)<=v):vk_ ss t j 0 (b+1):=fun k h1 h2 h3 h4=>by
 rcases Nat.lt_or_ge k b with hk|hk
 · exact h k h1 h2 hk h4
 · obtain rfl:k=b:=(by omega);exact hb h4
theorem Sim.plain {ss:List Int}{n:Nat}{m:NSt}{r:RSt}(h:Sim ss n m r){tm tr:List Int}{dm:Nat}{om:List NPart}(hn:ss[n]?≠some 93)(hn2:ss[n]?≠some 126)(lm:tm.length=ss.length)(lr:tr.length=ss.length)
    (hsame:∀j:Nat,ss[j]?≠some 126->tm[j]?=tr[j]?) (h9:∀k:Nat,k<n->ss[k]?=some 93->tr[k]?=r.tO[k]?) (h6:∀j:Nat,j<n->ss[j]?=some 126->tm[j]?=m.tO[j]?)
    (hparts:∀p∈om,Part ss (n+1) p) (hdesc:om.Pairwise fun p q=>q.waits<p.at_)
    (hleft:∀p∈om,p.left=[]\/∃p0∈m.op,p0.left=p.left/\p0.loop=p.loop/\p0.at_=p.at_/\p0.waits=p.waits)
    (hleft2:∀p∈m.op,p.left≠[]->∃p0∈om,p0.left=p.left)
    (hloop:∀q∈om,q.loop=true->q.at_=n\/∃q0∈m.op,q0.loop=true/\q0.at_=q.at_) :
    Sim ss (n+1) ⟨tm,dm,om⟩ ⟨tr,dm,om.map (·.waits)⟩ where
  deep:=rfl
  op:=rfl
  lenM:=lm
  lenR:=lr
  parts:=hparts
  desc:=hdesc
  same:=hsame
  pend:=fun p hp j hj=>by
   rcases hleft p hp with e|⟨p0,hp0,e1,e2,e3,e4⟩
   · rw[e]at hj;cases hj
   · rw[<-e1]at hj;obtain⟨a1,a2,a3,a4,a5,a6⟩:=h.pend p0 hp0 j hj;refine⟨by rw[<-e2];exact a1,a2,by omega,by omega,(a5.keep h9).next (fun h9'=>absurd h9' hn),fun q hq hl hlt=>?_⟩;rcases hloop q hq hl with e|⟨q0,hq0,l0,e0⟩
     · omega
     · rw[<-e0]at hlt⊢;exact a6 q0 hq0 l0 (by omega)
  done:=fun j hj hs=>by
   have hjn:j<n:=by
    rcases Nat.lt_or_ge j n with hk|hk
    · exact hk
    · obtain rfl:j=n:=(by omega);exact absurd hs hn2
   rcases h.done j hjn hs with⟨p,hp,hj2⟩|⟨k,b1,b2,b3,b4,⟨v,b5,b6⟩,b7⟩
   · obtain⟨p0,hp0,e⟩:=hleft2 p hp (fun e=>by rw[e]at hj2;cases hj2);exact .inl ⟨p0,hp0,by rw[e];exact hj2⟩
   · exact .inr ⟨k,b1,by omega,by rw[h6 j hjn hs];exact b3,b4,⟨v,by rw[h9 k b2 b4];exact b5,b6⟩,b7.keep (fun k' hk' h9'=>h9 k' (by omega) h9')⟩
theorem qO_ (v:Int):∀(l:List Nat)(t:List Int),(xa_ v l t).length=t.length
  | [],_=>rfl
  | j::r,t=>by show(xa_ v r (t.set j v)).length=_;rw[qO_ v r,List.length_set]
theorem v4_ (v:Int)(j:Nat):∀(l:List Nat)(t:List Int),j∉l->(xa_ v l t)[j]?=t[j]?
  | [],_,_=>rfl
  | i::r,t,h=>by
    show(xa_ v r (t.set i v))[j]?=_;rw[v4_ v j r _ (fun e=>h (List.mem_cons_of_mem _ e)),List.getElem?_set_ne (fun e=>h (by rw[e];exact List.mem_cons_self ..))]
theorem qN_ (v:Int)(j:Nat):∀(l:List Nat)(t:List Int),j∈l->j<t.length->(xa_ v l t)[j]?=some v
  | i :: r,t,h,ht=>by
    show(xa_ v r (t.set i v))[j]?=_;by_cases hr:j∈r
    · exact qN_ v j r _ hr (by rw[List.length_set];exact ht)
    · rw[v4_ v j r _ hr];rcases List.mem_cons.1 h with e|e
      · rw[e,List.getElem?_set_self (by rw[<-e];exact ht)]
      · exact absurd e hr
theorem jh_ {ss a b:List Int}(h:∀j:Nat,ss[j]?≠some 126->a[j]?=b[j]?)(hl:a.length=b.length)(i:Nat)(v:Int):∀j:Nat,ss[j]?≠some 126->(a.set i v)[j]?=(b.set i v)[j]?:=fun j hj=>by
 rw[List.getElem?_set,List.getElem?_set,hl,h j hj]
theorem ud_ {ss a:List Int}{i:Nat}{s v x:Int}(hi:ss[i]?=some x)(hx:x≠s):∀k:Nat,ss[k]?=some s->(a.set i v)[k]?=a[k]?:=fun k hk=>by
 rw[List.getElem?_set_ne (fun e=>by subst e;rw[hi]at hk;injection hk with hk;exact hx hk)]
theorem zkl {ss:List Int} {n:Nat} {m:NSt} {r:RSt} {s:Int} (h:Sim ss n m r) (hs:ss[n]?=some s) :
    (∃m' r',yZ_ n s ⟨m.tO.set n (-1),m.deep,m.op⟩=some m'/\zaK ss n s ⟨r.tO.set n (-1),r.deep,r.op⟩=some r'/\Sim ss (n+1) m' r') \/
    (yZ_ n s ⟨m.tO.set n (-1),m.deep,m.op⟩=none/\zaK ss n s ⟨r.tO.set n (-1),r.deep,r.op⟩=none) \/
    (s=126/\yZ_ n s ⟨m.tO.set n (-1),m.deep,m.op⟩=none/\∀p∈m.op,p.loop=false):=by
      have hop:=h.op;have hln:n<ss.length:=by
       rcases Nat.lt_or_ge n ss.length with hk|hk
       · exact hk
       · rw[List.getElem?_eq_none hk]at hs;cases hs
      have hlen:r.op.length=m.op.length:=(by rw[<-hop,List.length_map]);have lmr:m.tO.length=r.tO.length:=(by rw[h.lenM,h.lenR]);have hs0:=jh_ h.same lmr n (-1);have lm0:(m.tO.set n (-1)).length=ss.length:=(by rw[List.length_set,h.lenM]);have lr0:(r.tO.set n (-1)).length=ss.length:=(by rw[List.length_set,h.lenR]);have k0:∀(t:List Int)(k:Nat),k<n->(t.set n (-1))[k]?=t[k]?:=fun t k hk=>List.getElem?_set_ne (by omega);have hdp:=h.deep;obtain⟨mt,md,mo⟩:=m;obtain⟨rt,rd,ro⟩:=r;simp only at *;subst hdp hop;unfold yZ_ zaK;simp only;by_cases c1:s=63\/s=91
      · rw[if_pos c1,if_pos c1,hlen];by_cases c2:mo.length+1<=16
        · rw[if_pos c2,if_pos c2];refine .inl ⟨_,_,rfl,rfl,?_⟩;have h93:ss[n]?≠some 93:=(by rw[hs];intro e;injection e with e;omega);have h126:ss[n]?≠some 126:=(by rw[hs];intro e;injection e with e;omega);refine h.plain h93 h126 lm0 lr0 hs0 (fun k hk _=>k0 rt k hk) (fun j hj _=>k0 mt j hj) ?_ ?_ ?_ ?_ ?_
          · intro p hp;rcases List.mem_cons.1 hp with rfl|hp
            · refine⟨by simp only;omega,by simp only;omega,Nat.le_refl _,fun hl=>⟨rfl,?_⟩,fun hl=>⟨?_,.inl rfl⟩⟩
              · have:s=91:=of_decide_eq_true hl;rw[hs,this]
              · have:¬s=91:=of_decide_eq_false hl;have:s=63:=(by omega);rw[hs,this]
            · exact(h.parts p hp).more (by omega)
          · refine List.pairwise_cons.2 ⟨fun q hq=>?_,h.desc⟩;exact(h.parts q hq).ltw
          · intro p hp;rcases List.mem_cons.1 hp with rfl|hp
            · exact .inl rfl
            · exact .inr ⟨p,hp,rfl,rfl,rfl,rfl⟩
          · exact fun p hp _=>⟨p,List.mem_cons_of_mem _ hp,rfl⟩
          · intro q hq hl;rcases List.mem_cons.1 hq with rfl|hq
            · exact .inl rfl
            · exact .inr ⟨q,hq,hl,rfl⟩
        · rw[if_neg c2,if_neg c2];exact .inr (.inl ⟨rfl,rfl⟩)
      · rw [if_neg c1,if_neg c1];by_cases c3:s=58
        · rw[if_pos c3,if_pos c3];subst c3;cases mo with
          | nil=>exact .inr (.inl ⟨rfl,rfl⟩)
          | cons p o =>
            have hP:=h.parts p (List.mem_cons_self ..);simp only[List.map_cons];by_cases c4:p.loop=false/\p.waits=p.at_
            · rw[if_pos c4,if_pos (hP.is_if.2 c4),c4.2];refine .inl ⟨_,_,rfl,rfl,?_⟩;have hp63:=(hP.if_ c4.1).1;refine h.plain (by rw[hs];decide) (by rw[hs];decide) (by rw[List.length_set];exact lm0) (by rw[List.length_set];exact lr0) (jh_ hs0 (by rw[lm0,lr0]) _ _) (fun k hk h9=>by rw[ud_ hp63 (by decide) k h9,k0 rt k hk]) (fun j hj h6=>by rw[ud_ hp63 (by decide) j h6,k0 mt j hj]) ?_ ?_ ?_ ?_ ?_
              · intro q hq;rcases List.mem_cons.1 hq with rfl|hq
                · exact⟨by have:=hP.lt;simp only;omega,by simp only;omega,by have:=hP.lt;simp only;omega,(fun hl=>by simp only at hl;rw[c4.1]at hl;cases hl),fun _=>⟨hp63,.inr hs⟩⟩
                · exact(h.parts q (List.mem_cons_of_mem _ hq)).more (by omega)
              · have:=List.pairwise_cons.1 h.desc;exact List.pairwise_cons.2 ⟨fun q hq=>this.1 q hq,this.2⟩
              · intro q hq;rcases List.mem_cons.1 hq with rfl|hq
                · refine .inl ?_;simp only;cases hl:p.left with
                  | nil=>rfl
                  | cons j l =>
                    have:=(h.pend p (List.mem_cons_self ..) j (by rw[hl];exact List.mem_cons_self ..)).1;rw[c4.1]at this;cases this
                · exact .inr ⟨q,List.mem_cons_of_mem _ hq,rfl,rfl,rfl,rfl⟩
              · intro q hq _;rcases List.mem_cons.1 hq with rfl|hq
                · exact⟨_,List.mem_cons_self ..,rfl⟩
                · exact⟨q,List.mem_cons_of_mem _ hq,rfl⟩
              · intro q hq hl;rcases List.mem_cons.1 hq with rfl|hq
                · simp only at hl;rw[c4.1]at hl;cases hl
                · exact .inr ⟨q,List.mem_cons_of_mem _ hq,hl,rfl⟩
            · rw[if_neg c4,if_neg (fun e=>c4 (hP.is_if.1 e))];exact .inr (.inl ⟨rfl,rfl⟩)
        · rw [if_neg c3,if_neg c3];by_cases c5:s=59
          · rw[if_pos c5,if_pos c5];subst c5;cases mo with
            | nil=>exact .inr (.inl ⟨rfl,rfl⟩)
            | cons p o =>
              have hP:=h.parts p (List.mem_cons_self ..);simp only[List.map_cons];by_cases c6:p.loop=false
              · rw[if_pos c6,if_neg (fun e=>by have:=hP.is_loop.1 e;rw[c6]at this;cases this)];refine .inl ⟨_,_,rfl,rfl,?_⟩;have hw:∃x,ss[p.waits]?=some x/\x≠93/\x≠126:=(by
                 obtain⟨a,b|b⟩:=hP.if_ c6
                 · exact⟨63,by rw[b,a],by decide,by decide⟩
                 · exact⟨58,b,by decide,by decide⟩);obtain⟨x,hw,x1,x2⟩:=hw;refine h.plain (by rw[hs];decide) (by rw[hs];decide) (by rw[List.length_set];exact lm0) (by rw[List.length_set];exact lr0) (jh_ hs0 (by rw[lm0,lr0]) _ _) (fun k hk h9=>by rw[ud_ hw x1 k h9,k0 rt k hk]) (fun j hj h6=>by rw[ud_ hw x2 j h6,k0 mt j hj]) ?_ ?_ ?_ ?_ ?_
                · exact fun q hq=>(h.parts q (List.mem_cons_of_mem _ hq)).more (by omega)
                · exact(List.pairwise_cons.1 h.desc).2
                · exact fun q hq=>.inr ⟨q,List.mem_cons_of_mem _ hq,rfl,rfl,rfl,rfl⟩
                · intro q hq hne;rcases List.mem_cons.1 hq with rfl|hq
                  · exfalso;cases hl:q.left with
                    | nil=>exact hne hl
                    | cons j l =>
                      have:=(h.pend q (List.mem_cons_self ..) j (by rw[hl];exact List.mem_cons_self ..)).1;rw[c6]at this;cases this
                  · exact⟨q,hq,rfl⟩
                · exact fun q hq hl=>.inr ⟨q,List.mem_cons_of_mem _ hq,hl,rfl⟩
              · have c7:p.loop=true:=(Bool.not_eq_false _).mp c6;rw[if_neg c6,if_pos (hP.is_loop.2 c7)];exact .inr (.inl ⟨rfl,rfl⟩)
          · rw[if_neg c5,if_neg c5];by_cases c8:s=93
            · rw[if_pos c8,if_pos c8];subst c8;cases mo with
              | nil=>exact .inr (.inl ⟨rfl,rfl⟩)
              | cons p o =>
                have hP:=h.parts p (List.mem_cons_self ..);simp only[List.map_cons];by_cases c9:p.loop=true
                · rw [if_pos c9,if_pos (hP.is_loop.2 c9),(hP.loop c9).1];refine .inl ⟨_,_,rfl,rfl,?_⟩;have hd:=List.pairwise_cons.1 h.desc;have hpl:=fun j hj=>h.pend p (List.mem_cons_self ..) j hj;have hr9:∀k:Nat,k<n->ss[k]?=some 93->((rt.set n (-1)).set n (p.at_:Int))[k]?=rt[k]?:=fun k hk _=>(by
                   rw[List.getElem?_set_ne (by omega),k0 rt k hk]);have hrn:((rt.set n (-1)).set n (p.at_:Int))[n]?=some (p.at_:Int):=List.getElem?_set_self (by rw[lr0];exact hln);refine⟨rfl,rfl,by rw[qO_,List.length_set];exact lm0,by rw[List.length_set];exact lr0,fun q hq=>(h.parts q (List.mem_cons_of_mem _ hq)).more (by omega),hd.2,fun j hj=>?_,fun q hq j hj=>?_,fun j hj hj6=>?_⟩
                  · rw[v4_ _ _ _ _ (fun e=>hj (hpl j e).2.1)];exact jh_ hs0 (by rw[lm0,lr0]) _ _ j hj
                  · obtain⟨a1,a2,a3,a4,a5,a6⟩:=h.pend q (List.mem_cons_of_mem _ hq) j hj;have hqp:=hd.1 q hq;have hqle:=(h.parts q (List.mem_cons_of_mem _ hq)).le;have:=a6 p (List.mem_cons_self ..) c9 (by omega);exact⟨a1,a2,a3,by omega,(a5.keep hr9).next (fun _=>⟨_,hrn,by omega⟩),fun q' hq' hl' hlt'=>a6 q' (List.mem_cons_of_mem _ hq') hl' hlt'⟩
                  · have hjn:j<n:=by
                     rcases Nat.lt_or_ge j n with hk|hk
                     · exact hk
                     · obtain rfl:j=n:=(by omega);rw[hs]at hj6;cases hj6
                    by_cases hjp:j∈p.left
                    · obtain⟨a1,a2,a3,a4,a5,a6⟩:=hpl j hjp;have hle:=hP.le;exact .inr ⟨n,hjn,by omega,qN_ _ _ _ _ hjp (by rw[List.length_set,lm0];omega),hs,⟨_,hrn,by omega⟩,a5.keep hr9⟩
                    · rcases h.done j hjn hj6 with⟨q,hq,hj2⟩|⟨k,b1,b2,b3,b4,⟨v,b5,b6⟩,b7⟩
                      · rcases List.mem_cons.1 hq with rfl|hq
                        · exact absurd hj2 hjp
                        · exact .inl ⟨q,hq,hj2⟩
                      · refine .inr ⟨k,b1,by omega,?_,b4,⟨v,by rw[hr9 k b2 b4];exact b5,b6⟩,b7.keep (fun k' hk' h9'=>hr9 k' (by omega) h9')⟩;rw[v4_ _ _ _ _ hjp,List.getElem?_set_ne (by omega),k0 mt j hjn];exact b3
                · rw[if_neg c9,if_neg (fun e=>c9 (hP.is_loop.1 e))];exact .inr (.inl ⟨rfl,rfl⟩)
            · rw[if_neg c8,if_neg c8];by_cases c10:s=126
              · rw [if_pos c10];subst c10;cases hlv:yM_ n mo with
                | none=>exact .inr (.inr ⟨rfl,rfl,zcu hlv⟩)
                | some o =>
                  obtain⟨a,p,r0,e1,e2,e3,e4⟩:=k3_ hlv;have hw:o.map (·.waits)=mo.map (·.waits):=(by rw[e1,e4];simp);have hf:o.map (fun p=>(p.at_,p.waits))=mo.map (fun p=>(p.at_,p.waits)):=(by rw[e1,e4];simp);have hpm:p∈mo:=(by rw[e1];simp);have hP:=h.parts p hpm;have hin:∀q∈o,q=⟨p.loop,p.at_,p.waits,p.left++[n]⟩\/q∈mo:=fun q hq=>by
                   rw[e4]at hq;rw[e1];simp only[List.mem_append,List.mem_cons]at hq⊢;rcases hq with hq|hq|hq
                   · exact .inr (.inl hq)
                   · exact .inl hq
                   · exact .inr (.inr (.inr hq))
                  have hback:∀q∈mo,q=p\/q∈o:=fun q hq=>by
                   rw[e1]at hq;rw[e4];simp only[List.mem_append,List.mem_cons]at hq⊢;rcases hq with hq|hq|hq
                   · exact .inr (.inl hq)
                   · exact .inl hq
                   · exact .inr (.inr (.inr hq))
                  have hself:(⟨p.loop,p.at_,p.waits,p.left++[n]⟩:NPart)∈o:=(by rw[e4];simp);have hr9:∀k:Nat,k<n->ss[k]?=some 93->(rt.set n (-1))[k]?=rt[k]?:=fun k hk _=>k0 rt k hk;have hn9:ss[n]?≠some 93:=(by rw[hs];decide);have hold:∀q∈o,q.loop=true->∃q0∈mo,q0.loop=true/\q0.at_=q.at_:=fun q hq hl=>by
                   rcases hin q hq with rfl|hq
                   · exact⟨p,hpm,e3,rfl⟩
                   · exact⟨q,hq,hl,rfl⟩
                  have hpend:∀p0∈mo,∀j∈p0.left,p0.loop=true/\ss[j]?=some 126/\p0.waits<j/\j<n+1/\vk_ ss (rt.set n (-1)) j 0 (n+1)/\∀q∈o,q.loop=true->p0.at_<q.at_->j<q.at_:=fun p0 hp0 j hj=>(by
                   obtain⟨a1,a2,a3,a4,a5,a6⟩:=h.pend p0 hp0 j hj;refine⟨a1,a2,a3,by omega,(a5.keep hr9).next (fun h9=>absurd h9 hn9),fun q hq hl hlt=>?_⟩;obtain⟨q0,hq0,l0,e0⟩:=hold q hq hl;rw[<-e0]at hlt⊢;exact a6 q0 hq0 l0 hlt);refine .inl ⟨⟨mt.set n (-1),md,o⟩,⟨rt.set n (-1),md,mo.map (·.waits)⟩,rfl,rfl,⟨rfl,hw,lm0,lr0,fun q hq=>?_,?_,hs0,fun q hq j hj=>?_,fun j hj hj6=>?_⟩⟩
                  · rcases hin q hq with rfl|hq
                    · have:=hP.more (k:=n+1) (by omega);exact⟨this.lt,this.ltw,this.le,this.loop,this.if_⟩
                    · exact(h.parts q hq).more (by omega)
                  · have:=h.desc;have hR:(mo.map (fun p=>(p.at_,p.waits))).Pairwise (fun a b=>b.2<a.1):=List.pairwise_map.2 this;rw[<-hf]at hR;exact List.pairwise_map.1 hR
                  · rcases hin q hq with rfl|hq
                    · simp only[List.mem_append,List.mem_cons,List.not_mem_nil,or_false]at hj;rcases hj with hj|rfl
                      · exact hpend p hpm j hj
                      · refine⟨e3,hs,hP.ltw,by omega,fun k h1 _ h3 h9=>?_,fun q hq hl hlt=>?_⟩
                        · obtain rfl:k=j:=(by omega);exact absurd h9 hn9
                        · exfalso;rw[e4]at hq;simp only[List.mem_append,List.mem_cons]at hq;simp only at hlt;rcases hq with hq|rfl|hq
                          · rw[e2 q hq]at hl;cases hl
                          · simp only at hlt;omega
                          · have hd:=h.desc;rw[e1]at hd;have:=(List.pairwise_cons.1 (List.pairwise_append.1 hd).2.1).1 q hq;have hle:=(h.parts q (by rw[e1];simp[hq])).le;omega
                    · exact hpend q hq j hj
                  · rcases Nat.lt_or_ge j n with hjn|hjn
                    · rcases h.done j hjn hj6 with⟨q,hq,hj2⟩|⟨k,b1,b2,b3,b4,⟨v,b5,b6⟩,b7⟩
                      · rcases hback q hq with rfl|hq
                        · exact .inl ⟨_,hself,by simp[hj2]⟩
                        · exact .inl ⟨q,hq,hj2⟩
                      · exact .inr ⟨k,b1,by omega,by rw[k0 mt j hjn];exact b3,b4,⟨v,by rw[hr9 k b2 b4];exact b5,b6⟩,b7.keep (fun k' hk' h9'=>hr9 k' (by omega) h9')⟩
                    · obtain rfl:j=n:=(by omega);exact .inl ⟨_,hself,by simp⟩
              · rw[if_neg c10];refine .inl ⟨_,_,rfl,rfl,?_⟩;have h93:ss[n]?≠some 93:=(by rw[hs];intro e;injection e with e;exact c8 e);have h126:ss[n]?≠some 126:=(by rw[hs];intro e;injection e with e;exact c10 e);exact h.plain h93 h126 lm0 lr0 hs0 (fun k hk _=>k0 rt k hk) (fun j hj _=>k0 mt j hj) (fun q hq=>(h.parts q hq).more (by omega)) h.desc (fun q hq=>.inr ⟨q,hq,rfl,rfl,rfl,rfl⟩) (fun q hq _=>⟨q,hq,rfl⟩) (fun q hq hl=>.inr ⟨q,hq,hl,rfl⟩)
structure Dead (ss:List Int) (j n:Nat) (r:RSt):Prop where
  lt:j<n
  len:r.tO.length=ss.length
  open_:∀w∈r.op,w<n/\(ss[w]?=some 63\/ss[w]?=some 58\/(ss[w]?=some 91/\j<w))
  behind:vk_ ss r.tO j 0 n
theorem zjd {ss:List Int} {j n:Nat} {r r':RSt} {s:Int} (h:Dead ss j n r) (hs:ss[n]?=some s) (hr:zaK ss n s ⟨r.tO.set n (-1),r.deep,r.op⟩=some r'):Dead ss j (n+1) r':=by
 have hln:n<ss.length:=by
  rcases Nat.lt_or_ge n ss.length with hk|hk
  · exact hk
  · rw[List.getElem?_eq_none hk]at hs;cases hs
 have hjn:=h.lt;obtain⟨rt,rd,ro⟩:=r;have hlen:=h.len;have hop:=h.open_;have hb:=h.behind;simp only at hlen hop hb hr;have k0:∀(k:Nat),k<n->(rt.set n (-1))[k]?=rt[k]?:=fun k hk=>List.getElem?_set_ne (by omega);have l0:(rt.set n (-1)).length=ss.length:=by rw[List.length_set];exact hlen
 unfold zaK at hr;simp only at hr;by_cases c1:s=63\/s=91
 · rw[if_pos c1]at hr;by_cases c2:ro.length+1<=16
   · rw[if_pos c2]at hr;injection hr with hr;subst hr;refine⟨by omega,l0,fun w hw=>?_,(hb.keep fun k hk _=>k0 k hk).next fun h9=>?_⟩
     · rcases List.mem_cons.1 hw with rfl|hw
       · refine⟨by omega,?_⟩;rw[hs];rcases c1 with rfl|rfl
         · exact .inl rfl
         · exact .inr (.inr ⟨rfl,hjn⟩)
       · exact⟨by have:=(hop w hw).1;omega,(hop w hw).2⟩
     · rw[hs]at h9;injection h9 with h9;omega
   · rw[if_neg c2]at hr;cases hr
 · rw [if_neg c1]at hr;by_cases c3:s=58
   · rw[if_pos c3]at hr;subst c3;cases ro with
     | nil=>cases hr
     | cons p o =>
       simp only at hr;by_cases c4:ss[p]?=some 63
       · rw[if_pos c4]at hr;injection hr with hr;subst hr;refine⟨by omega,by rw[List.length_set];exact l0,fun w hw=>?_,(hb.keep fun k hk h9=>?_).next fun h9=>?_⟩
         · rcases List.mem_cons.1 hw with rfl|hw
           · exact⟨by omega,.inr (.inl hs)⟩
           · have:=hop w (List.mem_cons_of_mem _ hw);exact⟨by have:=this.1;omega,this.2⟩
         · rw[ud_ c4 (by decide) k h9,k0 k hk]
         · rw[hs]at h9;cases h9
       · rw[if_neg c4]at hr;cases hr
   · rw[if_neg c3]at hr;by_cases c5:s=59
     · rw[if_pos c5]at hr;subst c5;cases ro with
       | nil=>cases hr
       | cons p o =>
         simp only at hr;by_cases c6:ss[p]?=some 91
         · rw[if_pos c6]at hr;cases hr
         · rw[if_neg c6]at hr;injection hr with hr;subst hr;have hw:∃x,ss[p]?=some x/\x≠93:=by
            rcases(hop p (List.mem_cons_self ..)).2 with e|e|⟨e,_⟩
            · exact⟨_,e,by decide⟩
            · exact⟨_,e,by decide⟩
            · exact absurd e c6
           obtain⟨x,hw,x1⟩:=hw;refine⟨by omega,by rw[List.length_set];exact l0,fun w hw=>?_,(hb.keep fun k hk h9=>?_).next fun h9=>?_⟩
           · have:=hop w (List.mem_cons_of_mem _ hw);exact⟨by have:=this.1;omega,this.2⟩
           · rw[ud_ hw x1 k h9,k0 k hk]
           · rw[hs]at h9;cases h9
     · rw[if_neg c5]at hr;by_cases c8:s=93
       · rw[if_pos c8]at hr;cases ro with
         | nil=>cases hr
         | cons p o =>
           simp only at hr;by_cases c9:ss[p]?=some 91
           · rw[if_pos c9]at hr;injection hr with hr;subst hr;have hjp:j<p:=by
              rcases(hop p (List.mem_cons_self ..)).2 with e|e|⟨_,e⟩
              · rw[c9]at e;cases e
              · rw[c9]at e;cases e
              · exact e
             refine⟨by omega,by rw[List.length_set];exact l0,fun w hw=>?_,(hb.keep fun k hk h9=>?_).next fun h9=>?_⟩
             · have:=hop w (List.mem_cons_of_mem _ hw);exact⟨by have:=this.1;omega,this.2⟩
             · rw[List.getElem?_set_ne (by omega),k0 k hk]
             · exact⟨_,List.getElem?_set_self (by rw[l0];exact hln),by omega⟩
           · rw[if_neg c9]at hr;cases hr
       · rw[if_neg c8]at hr;injection hr with hr;subst hr;refine⟨by omega,l0,fun w hw=>⟨by have:=(hop w hw).1;omega,(hop w hw).2⟩,(hb.keep fun k hk _=>k0 k hk).next fun h9=>?_⟩;rw[hs]at h9;injection h9 with h9;exact absurd h9 c8
theorem zec {ss:List Int}{j:Nat}:∀(rest:List Int)(n:Nat)(r:RSt),n+rest.length=ss.length->(∀i:Nat,rest[i]?=ss[n+i]?)->Dead ss j n r->zdn ss n rest r=none\/∃r',zdn ss n rest r=some r'/\Dead ss j ss.length r'
  | [],n,r,hl,_,h=>.inr ⟨r,rfl,by rw[<-hl];exact h⟩
  | s::rest,n,r,hl,hi,h=>by
    have hs:ss[n]?=some s:=(by have:=hi 0;simpa using this.symm);unfold zdn;cases hr:zaK ss n s ⟨r.tO.set n (-1),r.deep,r.op⟩ with
    | none=>exact .inl rfl
    | some r'=>exact zec rest (n+1) r' (by rw[<-hl];simp only[List.length_cons];omega) (fun i=>by have:=hi (i+1);simpa[Nat.add_assoc,Nat.add_comm 1 i] using this) (zjd h hs hr)
theorem zgP {ss:List Int}:∀(rest:List Int)(n:Nat)(m:NSt)(r:RSt),n+rest.length=ss.length->(∀i:Nat,rest[i]?=ss[n+i]?)->Sim ss n m r ->
    (∃m' r',gE_ n rest m=some m'/\zdn ss n rest r=some r'/\Sim ss ss.length m' r') \/
    (gE_ n rest m=none/\(zdn ss n rest r=none\/∃r' j,zdn ss n rest r=some r'/\ss[j]?=some 126/\Dead ss j ss.length r'))
  | [],n,m,r,hl,_,h=>.inl ⟨m,r,rfl,rfl,by rw[<-hl];exact h⟩
  | s :: rest,n,m,r,hl,hi,h=>by
    have hs:ss[n]?=some s:=(by have:=hi 0;simpa using this.symm);have hl':n+1+rest.length=ss.length:=(by rw[<-hl];simp only[List.length_cons];omega);have hi':∀i:Nat,rest[i]?=ss[n+1+i]?:=fun i=>(by have:=hi (i+1);simpa[Nat.add_assoc,Nat.add_comm 1 i] using this);rcases zkl h hs with⟨m',r',e1,e2,h'⟩|⟨e1,e2⟩|⟨e0,e1,e2⟩
    · unfold gE_ zdn;rw[e1,e2];exact zgP rest (n+1) m' r' hl' hi' h'
    · unfold gE_ zdn;rw[e1,e2];exact .inr ⟨rfl,.inl rfl⟩
    · subst e0;unfold gE_ zdn;rw[e1];have er:zaK ss n 126 ⟨r.tO.set n (-1),r.deep,r.op⟩=some ⟨r.tO.set n (-1),r.deep,r.op⟩:=rfl;rw[er];have hd:Dead ss n (n+1) ⟨r.tO.set n (-1),r.deep,r.op⟩:=(by
       refine⟨by omega,by rw[List.length_set];exact h.lenR,fun w hw=>?_,fun k h1 _ h3 h9=>?_⟩
       · simp only at hw;rw[<-h.op,List.mem_map]at hw;obtain⟨p,hp,rfl⟩:=hw;have hP:=h.parts p hp;obtain⟨a,b|b⟩:=hP.if_ (e2 p hp)
         · exact⟨by have:=hP.ltw;omega,.inl (by rw[b];exact a)⟩
         · exact⟨by have:=hP.ltw;omega,.inr (.inl b)⟩
       · obtain rfl:k=n:=(by omega);rw[hs]at h9;cases h9);refine .inr ⟨rfl,?_⟩;rcases zec rest (n+1) _ hl' hi' hd with e|⟨r',e,hd'⟩
      · exact .inl e
      · exact .inr ⟨r',n,e,hs,hd'⟩
theorem zgO (ss:List Int):Sim ss 0 ⟨List.replicate ss.length 0,0,[]⟩ ⟨List.replicate ss.length 0,0,[]⟩ :=
 ⟨rfl,rfl,List.length_replicate,List.length_replicate,fun p hp=>(by cases hp),List.Pairwise.nil,fun _ _=>rfl,fun p hp=>(by cases hp),fun j hj=>absurd hj (by omega)⟩
theorem zhH (ss:List Int):(∃m r,gE_ 0 ss ⟨List.replicate ss.length 0,0,[]⟩=some m/\zdn ss 0 ss ⟨List.replicate ss.length 0,0,[]⟩=some r/\Sim ss ss.length m r) \/
    (gE_ 0 ss ⟨List.replicate ss.length 0,0,[]⟩=none/\(zdn ss 0 ss ⟨List.replicate ss.length 0,0,[]⟩=none\/∃r' j,zdn ss 0 ss ⟨List.replicate ss.length 0,0,[]⟩=some r'/\ss[j]?=some 126/\Dead ss j ss.length r')) :=
      zgP ss 0 _ _ (by omega) (fun i=>by rw[Nat.zero_add]) (zgO ss)
theorem Sim.leaves {ss:List Int}{m:NSt}{r:RSt}(h:Sim ss ss.length m r)(ho:m.op=[])(j:Nat)(hj:ss[j]?=some 126) :
    ∃k:Nat,j<k/\k<ss.length/\m.tO[j]?=some ((k:Int)+1)/\ss[k]?=some 93/\(∃v,r.tO[k]?=some v/\v<(j:Int))/\vk_ ss r.tO j 0 k:=by
 have hln:j<ss.length:=by
  rcases Nat.lt_or_ge j ss.length with hk|hk
  · exact hk
  · rw[List.getElem?_eq_none hk]at hj;cases hj
 rcases h.done j hln hj with⟨p,hp,_⟩|hd
 · rw[ho]at hp;cases hp
 · exact hd
def vR_ (ss t:List Int)(j:Nat):Nat->Nat->Int
  | 0,_=>-1
  | f+1,i=>if ss[i]?=some 93/\t.getD i 0<(j:Int) then (i:Int)+1 else vR_ ss t j f (i+1)
theorem u2_ {ss t:List Int}{j k:Nat}(hk:ss[k]?=some 93)(hv:∃v,t[k]?=some v/\v<(j:Int))(hb:vk_ ss t j 0 k):∀(f i:Nat),j<=i->i<=k->k<i+f->vR_ ss t j f i=(k:Int)+1
  | 0,i,_,h1,h2=>absurd h1 (by omega)
  | f+1,i,h0,h1,h2=>by
    unfold vR_;by_cases e:i=k
    · subst e;obtain⟨v,e1,e2⟩:=hv;rw[if_pos ⟨hk,by rw[List.getD_eq_getElem?_getD,e1];exact e2⟩]
    · rw[if_neg,u2_ hk hv hb f (i+1) (by omega) (by omega) (by omega)];rintro⟨a,b⟩;obtain⟨v,e1,e2⟩:=hb i h0 (by omega) (by omega) a;rw[List.getD_eq_getElem?_getD,e1]at b;simp only[Option.getD_some]at b;omega
theorem k2_ {ss t:List Int}{j n:Nat}(hb:vk_ ss t j 0 n):∀(f i:Nat),j<=i->i+f<=n->vR_ ss t j f i=-1
  | 0,i,_,_=>rfl
  | f+1,i,h0,h1=>by
    unfold vR_;rw[if_neg,k2_ hb f (i+1) (by omega) (by omega)];rintro⟨a,b⟩;obtain⟨v,e1,e2⟩:=hb i h0 (by omega) (by omega) a;rw[List.getD_eq_getElem?_getD,e1]at b;simp only[Option.getD_some]at b;omega
def gT_ (ss:List Int):Nat->List Int->List Int->Option (List Int)
  | _,[],t=>some t
  | i,s::r,t=>if s=126 then (if vR_ ss t i (ss.length-i) i<0 then none else gT_ ss (i+1) r (t.set i (vR_ ss t i (ss.length-i) i))) else gT_ ss (i+1) r t
def qC_ (ss:List Int):Option (List Int×Nat) :=
 (zdn ss 0 ss ⟨List.replicate ss.length 0,0,[]⟩).bind fun r=>if r.op=[] then (gT_ ss 0 ss r.tO).map fun t=>(t,r.deep) else none
def kB_ (ss:List Int):Option (List Int×Nat) :=
 (gE_ 0 ss ⟨List.replicate ss.length 0,0,[]⟩).bind fun m=>if m.op=[] then some (m.tO,m.deep) else none
theorem gS_ {ss:List Int} {m:NSt} {r:RSt} (h:Sim ss ss.length m r) (ho:m.op=[]):∀(rest:List Int) (n:Nat) (t:List Int),n+rest.length=ss.length->(∀i:Nat,rest[i]?=ss[n+i]?)->t.length=ss.length ->
    (∀j:Nat,ss[j]?≠some 126\/j<n->t[j]?=m.tO[j]?)->gT_ ss n rest t=some m.tO
  | [],n,t,hl,_,hlt,ha=>by
    show some t=_;congr 1;apply List.ext_getElem?;intro j;rcases Nat.lt_or_ge j n with hj|hj
    · exact ha j (.inr hj)
    · have hl':n=ss.length:=hl;rw[List.getElem?_eq_none (by omega),List.getElem?_eq_none (by rw[h.lenM];omega)]
  | s :: rest,n,t,hl,hi,hlt,ha=>by
    have hs:ss[n]?=some s:=(by have:=hi 0;simpa using this.symm);have hl':n+1+rest.length=ss.length:=(by rw[<-hl];simp only[List.length_cons];omega);have hi':∀i:Nat,rest[i]?=ss[n+1+i]?:=fun i=>(by have:=hi (i+1);simpa[Nat.add_assoc,Nat.add_comm 1 i] using this);unfold gT_;by_cases c:s=126
    · rw[if_pos c];subst c;obtain⟨k,k1,k2,k3,k4,⟨v,k5,k6⟩,k7⟩:=h.leaves ho n hs;have h9:∀k:Nat,ss[k]?=some 93->t[k]?=r.tO[k]?:=fun k hk=>(by
       have hne:ss[k]?≠some 126:=(by rw[hk];decide);rw[ha k (.inl hne),h.same k hne]);have hv:vR_ ss t n (ss.length-n) n=(k:Int)+1:=u2_ k4 ⟨v,by rw[h9 k k4];exact k5,k6⟩ (k7.keep fun k' _ hk'=>h9 k' hk') _ n (Nat.le_refl _) (by omega) (by omega);rw[hv,if_neg (by omega)];refine gS_ h ho rest (n+1) _ hl' hi' (by rw[List.length_set];exact hlt) (fun j hj=>?_);by_cases e:n=j
      · subst e;rw[List.getElem?_set_self (by omega),k3]
      · rw[List.getElem?_set_ne e];exact ha j (hj.imp id fun h=>by omega)
    · rw[if_neg c];refine gS_ h ho rest (n+1) t hl' hi' hlt (fun j hj=>?_);rcases hj with hj|hj
      · exact ha j (.inl hj)
      · by_cases e:j=n
        · subst e;exact ha j (.inl (by rw[hs];intro e;injection e with e;exact c e))
        · exact ha j (.inr (by omega))
theorem zcH {ss:List Int} {r:RSt} {d:Nat} (hd:Dead ss d ss.length r) (h6:ss[d]?=some 126):∀(rest:List Int) (n:Nat) (t:List Int),n+rest.length=ss.length->(∀i:Nat,rest[i]?=ss[n+i]?)->n<=d ->
    (∀k:Nat,ss[k]?=some 93->t[k]?=r.tO[k]?)->gT_ ss n rest t=none
  | [],n,t,hl,_,hn,_=>absurd hd.lt (by have:n=ss.length:=hl;omega)
  | s :: rest,n,t,hl,hi,hn,ha=>by
    have hs:ss[n]?=some s:=(by have:=hi 0;simpa using this.symm);have hl':n+1+rest.length=ss.length:=(by rw[<-hl];simp only[List.length_cons];omega);have hi':∀i:Nat,rest[i]?=ss[n+1+i]?:=fun i=>(by have:=hi (i+1);simpa[Nat.add_assoc,Nat.add_comm 1 i] using this);unfold gT_;by_cases c:s=126
    · rw[if_pos c];subst c;by_cases e:n=d
      · subst e;rw[k2_ (hd.behind.keep fun k _ hk=>ha k hk) _ n (Nat.le_refl _) (by omega),if_pos (by omega)]
      · split
        · rfl
        · exact zcH hd h6 rest (n+1) _ hl' hi' (by omega) (fun k hk=>by rw[List.getElem?_set_ne (fun e=>by subst e;rw[hs]at hk;cases hk)];exact ha k hk)
    · rw[if_neg c];have:n≠d:=fun e=>(by subst e;rw[hs]at h6;injection h6 with h6;exact c h6);exact zcH hd h6 rest (n+1) t hl' hi' (by omega) ha
theorem uZ_ (ss:List Int):kB_ ss=qC_ ss:=by
 unfold kB_ qC_;rcases zhH ss with⟨m,r,e1,e2,h⟩|⟨e1,e2|⟨r,d,e2,h6,hd⟩⟩
 · rw[e1,e2];show(if m.op=[] then some (m.tO,m.deep) else none)=if r.op=[] then (gT_ ss 0 ss r.tO).map fun t=>(t,r.deep) else none;by_cases ho:m.op=[]
   · have hr:r.op=[]:=(by rw[<-h.op,ho];rfl);rw[if_pos ho,if_pos hr,gS_ h ho ss 0 r.tO (by omega) (fun i=>by rw[Nat.zero_add]) h.lenR (fun j hj=>(h.same j (hj.resolve_right (by omega))).symm),h.deep];rfl
   · have hr:¬r.op=[]:=fun e=>ho (by rw[<-h.op]at e;exact List.map_eq_nil_iff.1 e);rw[if_neg ho,if_neg hr]
 · rw[e1,e2];rfl
 · rw[e1,e2];show none=if r.op=[] then (gT_ ss 0 ss r.tO).map fun t=>(t,r.deep) else none;rw[zcH hd h6 ss 0 r.tO (by omega) (fun i=>by rw[Nat.zero_add]) (by omega) (fun _ _=>rfl)];split<;>rfl
structure Lo (B:Nat) (T:List Nat) (a b:World):Prop where
  os:b.os=a.os
  tape:b.tape=a.tape
  output:b.output=a.output
  size:a.heap.size<=b.heap.size
  block:∀k,k<B->k<a.heap.size->k∉T->b.heap[k]?=a.heap[k]?
theorem Lo.of_chg {B:Nat}{T T':List Nat}{a b:World}(h:Chg T' a b)(hT:∀i∈T',B<=i\/i∈T):Lo B T a b :=
 ⟨h.os,h.tape,h.output,h.size,fun k hB hk hn=>h.block k hk fun hm=>by rcases hT k hm with h|h;omega;exact hn h⟩
theorem Lo.refl (B:Nat)(T:List Nat)(a:World):Lo B T a a:=Lo.of_chg (Chg.refl [] a) fun i hi=>by cases hi
theorem Lo.trans {B:Nat}{T:List Nat}{a b c:World}(h:Lo B T a b)(k:Lo B T b c):Lo B T a c :=
 ⟨k.os.trans h.os,k.tape.trans h.tape,k.output.trans h.output,Nat.le_trans h.size k.size,fun i hB hi hn=>(k.block i hB (Nat.lt_of_lt_of_le hi h.size) hn).trans (h.block i hB hi hn)⟩
theorem Lo.chg {B:Nat}{T:List Nat}{w a b:World}(h0:Chg [] w a)(h:Lo B T a b)(hB:w.heap.size<=B)(hT:∀i∈T,w.heap.size<=i):Chg [] w b :=
 ⟨h.os.trans h0.os,h.tape.trans h0.tape,h.output.trans h0.output,Nat.le_trans h0.size h.size,fun k hk _=>(h.block k (by omega) (Nat.lt_of_lt_of_le hk h0.size) fun hm=>by have:=hT k hm;omega).trans (h0.block k hk (by simp))⟩
theorem Lo.of_grown {B B2 e k n:Nat}{T:List Nat}{v:Value}{xs:List Value}{a b:World}(ho:a.ownsRow B2 e k v n xs)(hB:B<=B2)(hg:a.grownBy b v.ownBlock):Lo B T a b :=
 ⟨hg.os,hg.tape,hg.output,hg.size,fun i hi hk _=>hg.block i hk fun hc=>by have:=(ho.lt i hc.symm).1;omega⟩
def nts (l:List Nat):List Value:=l.map fun k:Nat=>Value.int .i64 (k:Int)
theorem znP (l:List Nat):(nts l).length=l.length:=by simp[nts]
theorem znQ (l m:List Nat):nts (l++m)=nts l++nts m:=by simp[nts]
theorem zhF (l:List Int)(i:Nat)(x:Int):(nms l).set i (.int .i64 x)=nms (l.set i x):=by simp[nms]
structure PV where
  p:NPart
  v:Value
def pvC (x:PV):List Value:=[.bool x.p.loop,.int .i64 (x.p.at_:Int),.int .i64 (x.p.waits:Int),x.v]
def kl_:List PV->List Value
  | []=>[]
  | x::l=>pvC x++kl_ l
theorem v8_:∀l,(kl_ l).length=l.length*4
  | []=>rfl
  | x::l=>by rw[kl_,List.length_append,v8_ l];simp[pvC];omega
theorem vs_:∀l m,kl_ (l++m)=kl_ l++kl_ m
  | [],_=>rfl
  | x::l,m=>by rw[List.cons_append,kl_,kl_,vs_ l m,List.append_assoc]
theorem gx_ (x:PV):kl_ [x]=pvC x:=by simp[kl_]
theorem y4_:∀(l:List PV)(k:Nat)(x:PV)(j:Nat),l[k]?=some x->j<4->(kl_ l)[k*4+j]?=(pvC x)[j]?
  | [],k,x,j,h,hj=>by simp at h
  | y::l,0,x,j,h,hj=>by
    simp at h;subst h;rw[kl_,List.getElem?_append_left (by simp[pvC];omega)];congr 1;omega
  | y::l,k+1,x,j,h,hj=>by
    simp at h;rw[kl_,List.getElem?_append_right (by simp[pvC];omega)];rw[<-y4_ l k x j h hj];congr 1;simp[pvC];omega
structure Mt (W:World) (gm gt B n:Nat) (m:NSt) (vo:Value) (xs:List PV):Prop where
  rec_:zb_ W gm 244 [.slice (some ⟨gt,0,none⟩) n n,.int .i64 (m.deep:Int),vo]
  to_:zb_ W gt 3 (nms m.tO)
  len:m.tO.length=n
  op:m.op=(xs.map (·.p)).reverse
  own:W.ownsRow B 265 4 vo xs.length (kl_ xs)
  left:∀x∈xs,W.ownsRow B 3 1 x.v x.p.left.length (nts x.p.left)
  apart:xs.Pairwise fun x y=>x.v.ownBlock=none\/x.v.ownBlock≠y.v.ownBlock
  lo:gm<B/\gt<B/\gm≠gt
  few:xs.length<=16
  deep:m.deep<=16
  wf:∀x∈xs,x.p.at_<n/\x.p.waits<n/\x.p.left.length<=n/\∀j∈x.p.left,j<n
  big:n<=100000
  room:B<=W.heap.size
theorem yw_ (W:World)(p:Addr)(u:Value):(W.setCell p u).heap.size=W.heap.size:=by simp[World.setCell]
section
variable {W W':World} {gm gt B n:Nat} {m:NSt} {vo:Value} {xs:List PV}
theorem Mt.keep (h:Mt W gm gt B n m vo xs)(hc:Chg [] W W'):Mt W' gm gt B n m vo xs :=
 { h with rec_:=h.rec_.keep hc,to_:=h.to_.keep hc,own:=zf_ h.own hc,left:=fun x hx=>zk_ (h.left x hx) hc,room:=Nat.le_trans h.room hc.size }
theorem v7_ {e k q g c j:Nat}{u:Value}{cs:List Value}(h:W.ownsRow B e k (.slice (some ⟨g,0,none⟩) q c) q cs):(W.setCell ⟨g,j,none⟩ u).ownsRow B e k (.slice (some ⟨g,0,none⟩) q c) q (cs.set j u):=by
 refine⟨by rw[List.length_set];exact h.1,?_⟩;rcases h.2 with⟨h',_⟩|⟨g',cap,cur,h',hb,hg,hn,hc,hs,ht⟩
 · cases h'
 · injection h' with h1 _ h3;injection h1 with h1;injection h1 with h1;subst h1;subst h3;refine .inr ⟨g,c,cur.setIfInBounds j u,rfl,hb,?_,hn,hc,by simpa using hs,?_⟩
   · have:=heap_setCell_same W g j cur e u hg;simpa using this
   · rw[Array.toList_setIfInBounds,List.take_set,ht]
theorem y0_ {e k q g c j:Nat}{cs:List Value}(h:W.ownsRow B e k (.slice (some ⟨g,0,none⟩) q c) q cs):W.frozen? ⟨g,j,none⟩=false:=by
 rcases h.2 with⟨h',_⟩|⟨g',cap,cur,h',hb,hg,hn,hc,hs,ht⟩
 · cases h'
 · injection h' with h1 _ h3;injection h1 with h1;injection h1 with h1;subst h1;exact frozen_of_row W g j cur e hg
theorem zG_ {e k q:Nat}{v u:Value}{cs:List Value}{p:Addr}(h:W.ownsRow B e k v q cs)(hp:v.ownBlock≠some p.block):(W.setCell p u).ownsRow B e k v q cs:=by
 refine⟨h.1,h.2.imp id ?_⟩;rintro⟨g,cap,cur,rfl,hb,hg,r⟩;exact⟨g,cap,cur,rfl,hb,(Below.heap_setCell W p u g (fun hc=>hp (by rw[<-hc];rfl))).trans hg,r⟩
theorem zdA {B2 e k q e2 k2 q2:Nat}{v v2:Value}{cs cs2:List Value}(h:W.ownsRow B e k v q cs)(h2:W.ownsRow B2 e2 k2 v2 q2 cs2)(hne:e≠e2){g:Nat}(hg:v.ownBlock=some g):v2.ownBlock≠some g:=by
 intro hg2;rcases h.2 with⟨rfl,_⟩|⟨a,cap,cur,rfl,_,ha,_⟩
 · cases hg
 rcases h2.2 with⟨rfl,_⟩|⟨b,cap2,cur2,rfl,_,hb,_⟩
 · cases hg2
 injection hg with hg;injection hg2 with hg2;simp only at hg hg2;rw[hg]at ha;rw[hg2]at hb;rw[ha]at hb;injection hb with hb;injection hb with _ hb _;exact hne hb
theorem x6_ {e k q q':Nat}{A:Option Addr}{c:Nat}{cs:List Value}(h:W.ownsRow B e k (.slice A q c) q cs)(hq:q'<=q)(h0:A≠none):W.ownsRow B e k (.slice A q' c) q' (cs.take (q'*k)):=by
 have hl:=h.1;refine⟨by rw[List.length_take,hl];exact Nat.min_eq_left (Nat.mul_le_mul_right _ hq),?_⟩;rcases h.2 with⟨h',_⟩|⟨g',cap,cur,h',hb,hg,hn,hc,hs,ht⟩
 · injection h' with h1;exact absurd h1 h0
 · injection h' with h1 _ h3;subst h1;subst h3;exact .inr ⟨g',c,cur,rfl,hb,hg,by omega,hc,hs,by rw[<-ht,List.take_take,Nat.min_eq_left (Nat.mul_le_mul_right _ hq)]⟩
theorem Mt.poke (h:Mt W gm gt B n m vo xs)(j:Nat)(x:Int):Mt (W.setCell ⟨gt,j,none⟩ (.int .i64 x)) gm gt B n ⟨m.tO.set j x,m.deep,m.op⟩ vo xs:=by
 have hown:∀{e k q:Nat}{v:Value}{cs:List Value},W.ownsRow B e k v q cs->v.ownBlock≠some gt:=fun ho hc=>by
  have:=(ho.lt gt hc).1;have:=h.lo;omega
 refine { h with rec_:=h.rec_.far (by simpa using h.lo.2.2) _,to_:=?_,len:=by rw[List.length_set];exact h.len,own:=zG_ h.own (hown h.own),left:=fun y hy=>zG_ (h.left y hy) (hown (h.left y hy)),room:=by rw[yw_];exact h.room };have:=h.to_.set_ j (.int .i64 x);rwa[zhF]at this
theorem Mt.waits {ys:List PV}{x:PV}{g c q:Nat}(h:Mt W gm gt B n m vo (ys++[x]))(hv:vo=.slice (some ⟨g,0,none⟩) q c)(i:Nat)(hi:i<n) :
    Mt (W.setCell ⟨g,ys.length*4+2,none⟩ (.int .i64 (i:Int))) gm gt B n ⟨m.tO,m.deep,⟨x.p.loop,x.p.at_,i,x.p.left⟩::(ys.map (·.p)).reverse⟩ vo (ys++[⟨⟨x.p.loop,x.p.at_,i,x.p.left⟩,x.v⟩]):=by
 subst hv;have hq:q=(ys++[x]).length:=by
  rcases h.own.2 with⟨e,_⟩|⟨_,_,_,e,_⟩
  · cases e
  · injection e
 subst hq;have hB:=(h.own.lt g rfl).1;have hlo:=h.lo;refine⟨h.rec_.far (by simp only;omega) _,h.to_.far (by simp only;omega) _,h.len,by simp,?_,fun y hy=>?_,?_,h.lo,by have:=h.few;simpa using this,h.deep,fun y hy=>?_,h.big,by rw[yw_];exact h.room⟩
 · have ho:=v7_ (j:=ys.length*4+2) (u:=.int .i64 (i:Int)) h.own;have e1:(ys++[(⟨⟨x.p.loop,x.p.at_,i,x.p.left⟩,x.v⟩:PV)]).length=(ys++[x]).length:=(by simp);have e2:(kl_ (ys++[x])).set (ys.length*4+2) (.int .i64 (i:Int))=kl_ (ys++[⟨⟨x.p.loop,x.p.at_,i,x.p.left⟩,x.v⟩]):=(by
    rw[vs_,vs_,gx_,gx_,List.set_append_right _ _ (by rw[v8_];omega),v8_];rw[show ys.length*4+2-ys.length*4=2 by omega];rfl);rw[e1,<-e2];exact ho
 · rcases List.mem_append.1 hy with hy|hy
   · exact zG_ (h.left y (List.mem_append_left _ hy)) (zdA h.own (h.left y (List.mem_append_left _ hy)) (by decide) rfl)
   · simp only[List.mem_cons,List.not_mem_nil,or_false]at hy;subst hy;have hx:=h.left x (by simp);exact zG_ hx (zdA h.own hx (by decide) rfl)
 · have:=h.apart;rw[List.pairwise_append]at this⊢;refine⟨this.1,List.pairwise_singleton _ _,fun y hy z hz=>?_⟩;simp only[List.mem_cons,List.not_mem_nil,or_false]at hz;subst hz;exact this.2.2 y hy x (by simp)
 · rcases List.mem_append.1 hy with hy|hy
   · exact h.wf y (List.mem_append_left _ hy)
   · simp only[List.mem_cons,List.not_mem_nil,or_false]at hy;subst hy;have:=h.wf x (by simp);exact⟨this.1,hi,this.2.2⟩
theorem Mt.drop {ys:List PV}{x:PV}{A:Option Addr}{c q:Nat}(h:Mt W gm gt B n m vo (ys++[x]))(hv:vo=.slice A q c) :
    Mt (W.setCell ⟨gm,2,none⟩ (.slice A ys.length c)) gm gt B n ⟨m.tO,m.deep,(ys.map (·.p)).reverse⟩ (.slice A ys.length c) ys:=by
 subst hv;have hq:q=(ys++[x]).length:=by
  rcases h.own.2 with⟨e,e2⟩|⟨_,_,_,e,_⟩
  · injection e with _ e _;rw[e2,e]
  · injection e
 subst hq;have hA:A≠none:=by
  rintro rfl;rcases h.own.2 with⟨e,_⟩|⟨_,_,_,e,_⟩
  · injection e with _ e _;simp at e
  · injection e with e _;cases e
 have hown:∀{e k q:Nat}{v:Value}{cs:List Value},W.ownsRow B e k v q cs->v.ownBlock≠some gm:=fun ho hc=>by
  have:=(ho.lt gm hc).1;have:=h.lo;omega
 have ht:=x6_ (q':=ys.length) h.own (by simp) hA;have e2:(kl_ (ys++[x])).take (ys.length*4)=kl_ ys:=by rw[vs_,<-v8_,List.take_left]
 rw[e2]at ht;refine⟨?_,h.to_.far (by simpa using Ne.symm h.lo.2.2) _,h.len,rfl,zG_ ht (hown ht),fun y hy=>?_,?_,h.lo,by have:=h.few;simp at this;omega,h.deep,fun y hy=>h.wf y (List.mem_append_left _ hy),h.big,by rw[yw_];exact h.room⟩
 · have:=h.rec_.set_ 2 (.slice A ys.length c);simpa using this
 · have:=h.left y (List.mem_append_left _ hy);exact zG_ this (hown this)
 · exact(List.pairwise_append.1 h.apart).1
end
structure Fr (B:Nat) (TS:List TypeId) (a b:World):Prop where
  os:b.os=a.os
  tape:b.tape=a.tape
  output:b.output=a.output
  size:a.heap.size<=b.heap.size
  block:∀k,k<a.heap.size->(k<B\/∀cs t fz,a.heap[k]?=some (.cells cs t fz)->t∉TS)->b.heap[k]?=a.heap[k]?
section
variable {B:Nat} {TS:List TypeId} {a b c:World}
theorem Fr.refl (B:Nat)(TS:List TypeId)(a:World):Fr B TS a a:=⟨rfl,rfl,rfl,Nat.le_refl _,fun _ _ _=>rfl⟩
theorem Fr.trans (h:Fr B TS a b)(k:Fr B TS b c):Fr B TS a c:=by
 refine⟨k.os.trans h.os,k.tape.trans h.tape,k.output.trans h.output,Nat.le_trans h.size k.size,fun i hi hc=>?_⟩;have h1:=h.block i hi hc;rw[<-h1];refine k.block i (Nat.lt_of_lt_of_le hi h.size) ?_;rw[h1];exact hc
theorem Fr.of_chg (h:Chg [] a b):Fr B TS a b:=⟨h.os,h.tape,h.output,h.size,fun k hk _=>h.block k hk (by simp)⟩
theorem Fr.new (h:Fr B TS a b)(k:Chg [] b c):Fr B TS a c:=h.trans (Fr.of_chg k)
theorem Fr.sub {B':Nat}{TS':List TypeId}(h:Fr B TS a b)(hB:B'<=B)(hT:∀t,t∈TS->t∈TS'):Fr B' TS' a b :=
 ⟨h.os,h.tape,h.output,h.size,fun k hk hc=>h.block k hk (hc.imp (fun h=>Nat.lt_of_lt_of_le h hB) (fun h cs t fz e ht=>h cs t fz e (hT t ht)))⟩
theorem Fr.chg (h:Fr B TS a b)(hB:a.heap.size<=B):Chg [] a b:=⟨h.os,h.tape,h.output,h.size,fun k hk _=>h.block k hk (.inl (Nat.lt_of_lt_of_le hk hB))⟩
theorem Fr.set (h:Fr B TS a b){p:Addr}(hp:B<=p.block){cs:Array Value}{t:TypeId}{fz:Nat×Nat}(hb:b.heap[p.block]?=some (.cells cs t fz))(ht:t∈TS)(u:Value):Fr B TS a (b.setCell p u):=by
 refine h.trans ⟨rfl,rfl,rfl,?_,fun k hk hc=>?_⟩
 · rw[yw_];exact Nat.le_refl _
 · refine Below.heap_setCell b p u k (fun e=>?_);subst e;rcases hc with h1|h1
   · omega
   · exact h1 cs t fz hb ht
theorem Fr.setw (h:Fr B TS a b){g j t:Nat}{cs:List Value}(hW:zb_ b g t cs)(hp:B<=g)(ht:t∈TS)(u:Value):Fr B TS a (b.setCell ⟨g,j,none⟩ u):=h.set (p:=⟨g,j,none⟩) hp hW ht u
theorem Fr.seto (h:Fr B TS a b){g j B2 k n m e:Nat}{xs:List Value}{cap:Nat}(ho:b.ownsRow B2 e k (.slice (some ⟨g,0,none⟩) n cap) m xs)(hB:B<=B2)(ht:e∈TS)(u:Value):Fr B TS a (b.setCell ⟨g,j,none⟩ u):=by
 rcases ho.2 with⟨e',_⟩|⟨g',cap',cur,e',hb,hg,_⟩
 · cases e'
 · injection e' with e1 _ _;injection e1 with e1;injection e1 with e1;subst e1;exact h.set (p:=⟨g,j,none⟩) (Nat.le_trans hB hb) hg ht u
theorem Fr.grown (h:Fr B TS a b){B2 k n e:Nat}{v:Value}{xs:List Value}(ho:b.ownsRow B2 e k v n xs)(hB:B<=B2)(ht:e∈TS)(hg:b.grownBy c v.ownBlock):Fr B TS a c:=by
 refine h.trans ⟨hg.os,hg.tape,hg.output,hg.size,fun i hi hc=>hg.block i hi (fun hr=>?_)⟩;rcases ho.2 with⟨rfl,_⟩|⟨g',cap',cur,rfl,hb,hgb,_⟩
 · simp[Value.ownBlock]at hr
 · simp[Value.ownBlock]at hr;subst hr;rcases hc with h1|h1
   · omega
   · exact h1 _ _ _ hgb ht
theorem Fr.whole (h:Fr B TS a b){g t:Nat}{cs:List Value}(hW:zb_ a g t cs)(ht:t∉TS):zb_ b g t cs :=
 (h.block g hW.lt (.inr fun _ _ _ e=>by rw[show a.heap[g]?=_ from hW]at e;injection e with e;injection e with _ e2 _;subst e2;exact ht)).trans hW
theorem Fr.obj (h:Fr B TS a b){k:Nat}{o:Obj}(ho:a.heap[k]?=some o)(hn:∀cs t fz,o≠.cells cs t fz):b.heap[k]?=some o:=by
 have hk:k<a.heap.size:=by
  rcases Nat.lt_or_ge k a.heap.size with h|h
  · exact h
  · rw[Array.getElem?_eq_none h]at ho;cases ho
 rw[h.block k hk (.inr fun cs t fz e=>by rw[ho]at e;injection e with e;exact absurd e (hn cs t fz)),ho]
theorem Fr.own (h:Fr B TS a b){B2 k n e:Nat}{v:Value}{xs:List Value}(ho:a.ownsRow B2 e k v n xs)(ht:e∉TS):b.ownsRow B2 e k v n xs:=by
 refine⟨ho.1,?_⟩;rcases ho.2 with h1|⟨g,cap,cur,rfl,hb,hg,r⟩
 · exact .inl h1
 · refine .inr ⟨g,cap,cur,rfl,hb,?_,r⟩;have hlt:g<a.heap.size:=by
    rcases Nat.lt_or_ge g a.heap.size with h|h
    · exact h
    · rw[Array.getElem?_eq_none h]at hg;cases hg
   exact(h.block g hlt (.inr fun _ _ _ e=>by rw[hg]at e;injection e with e;injection e with _ e2 _;subst e2;exact ht)).trans hg
end
abbrev glT:List TypeId:=[132,130]
structure Gl (W:World) (g:Nat) (v:Value) (ys:List TkV) (ph:GPh):Prop where
  rec_:zb_ W g 130 [v,.bool (xm_ ph),.bool (waits ph)]
  own:W.ownsRow (g+1) 132 3 v (ys.length+(pend ph).length) (vC_ (ys++pend ph))
  few:ys.length<=1000
  big:∀m,ph=.num m->m<=9223372036854775807
def kU_ (W:World)(g:Nat)(o:Option (List TkV×GPh))(e:Ending)(w':World):Prop :=
 Fr g glT W w'/\((o=none/\e=.returned (.bool false))\/∃ys' ph' v',o=some (ys',ph')/\e=.returned (.bool true)/\Gl w' g v' ys' ph')
theorem zdx (ph:GPh):(pend ph).length<=1:=by cases ph<;>simp[pend]
section
variable {W W':World} {g:Nat} {v:Value} {ys:List TkV} {ph:GPh}
theorem Gl.keep (h:Gl W g v ys ph)(hc:Chg [] W W'):Gl W' g v ys ph:=⟨h.rec_.keep hc,zf_ h.own hc,h.few,h.big⟩
theorem Gl.away (h:Gl W g v ys ph):v.ownBlock≠some g:=fun e=>by have:=(h.own.lt g e).1;omega
theorem Gl.slice (h:Gl W g v ys ph):∃A n c,v=.slice A n c/\n=ys.length+(pend ph).length:=by
 obtain⟨A,c,e,_⟩:=zh_ h.own;exact⟨A,_,c,e,rfl⟩
theorem Gl.begin_ {W2:World}{v':Value}(h:Gl W g v ys .idle){W1:World}(hW1:W1=W.setCell ⟨g,1,none⟩ (.bool true))(hc:Chg [] W1 W2){w3:World}{n1:Nat}(hn1:n1=ys.length+1)(ho:w3.ownsRow (g+1) 132 3 v' n1 (vC_ ys++[.int .i32 48,.int .i64 0,.int .i32 0]))(hg:W2.grownBy w3 v.ownBlock) :
    Gl (w3.setCell ⟨g,0,none⟩ v') g v' ys (.num 0)/\Fr g glT W (w3.setCell ⟨g,0,none⟩ v'):=by
 subst hn1;have hr1:zb_ W1 g 130 [v,.bool true,.bool false]:=by subst hW1;have:=h.rec_.set_ 1 (.bool true);simpa[xm_,waits] using this
 have ho1:W1.ownsRow (g+1) 132 3 v ys.length (vC_ ys):=by subst hW1;have:=zG_ (p:=⟨g,1,none⟩) (u:=.bool true) h.own (fun e=>h.away e);simpa[pend] using this
 have hr3:=zn_ (hr1.keep hc) (zf_ ho1 hc) (by decide) hg;refine⟨⟨?_,?_,h.few,fun m e=>by injection e with e;omega⟩,?_⟩
 · have:=hr3.set_ 0 v';simpa[xm_,waits] using this
 · have:=zG_ (p:=⟨g,0,none⟩) (u:=v') ho (fun e=>by have:=(ho.lt g e).1;omega);simpa[pend,y2_,vC_,tkC] using this
 · subst hW1;exact((((Fr.refl g glT W).setw h.rec_ (Nat.le_refl _) (by simp[glT]) _).new hc).grown (zf_ ho1 hc) (Nat.le_succ g) (by simp[glT]) hg).setw hr3 (Nat.le_refl _) (by simp[glT]) _
theorem Gl.number {gr c m:Nat}(h:Gl W g (.slice (some ⟨gr,0,none⟩) (ys.length+1) c) ys (.num m))(m':Nat)(hm:m'<=9223372036854775807) :
    Gl (W.setCell ⟨gr,ys.length*3+1,none⟩ (.int .i64 (m':Int))) g (.slice (some ⟨gr,0,none⟩) (ys.length+1) c) ys (.num m')/\Fr g glT W (W.setCell ⟨gr,ys.length*3+1,none⟩ (.int .i64 (m':Int))):=by
 have hgr:=(h.own.lt gr rfl).1;refine⟨⟨h.rec_.far (by simp only;omega) _,?_,h.few,fun m e=>by injection e with e;omega⟩,(Fr.refl g glT W).seto h.own (Nat.le_succ g) (by simp[glT]) _⟩;have h2:=v7_ (j:=ys.length*3+1) (u:=.int .i64 (m':Int)) h.own;have e:(vC_ (ys++pend (.num m))).set (ys.length*3+1) (.int .i64 (m':Int))=vC_ (ys++pend (.num m')):=by
  rw[y2_,y2_,List.set_append_right _ _ (by rw[yG_];omega),yG_,show ys.length*3+1-ys.length*3=1 from by omega];rfl
 rw[e]at h2;exact h2
end
section
variable {W:World} {g:Nat} {v:Value} {ys:List TkV} {ph:GPh}
def zaP:GPh->Nat
  | .num m=>m
  | _=>0
theorem zfw (h:Gl W g v ys ph)(hw:waits ph=false)(x:Nat)(hx:x<=9)(hfew:ys.length<=900):Calls Tryz.prog 105 #[.pointer (some ⟨g,0,none⟩),.int .i64 (x:Int)] W (kU_ W g (yz_ ys (zaP ph) x)):=by
 obtain⟨i0,hi0,hz0,hz1,hz2⟩:=info_parts q5_;obtain⟨A,n,c,rfl,hn⟩:=h.slice;have H:=hQ_ h;have q0:=h.rec_.cell 0;have q1:=h.rec_.cell 1;have f0:=h.rec_.frozen 0;have f1:=h.rec_.frozen 1;have hnum:=h.big;have HN:=hQ_ hn;clear h hn;go_enter Tryz.func105,Tryz.ntmps105;go_upto_if 11 with fail;go_cut [] (fun wx=>∃v2,Hid (Gl wx g v2 ys (.num (zaP ph)))/\Hid (Fr g glT W wx));case first =>
  cases ph with
  | wait q=>cases hw
  | num m =>
    go_wp2_with fail;go_meet;exact⟨_,H,hQ_ (Fr.refl _ _ _)⟩
  | idle =>
    go_upto_region 3 with fail;have hn:n=ys.length:=(by have:=HN.o;simpa[pend] using this);have hn9:n<=900:=(by omega);obtain⟨w1,hw1⟩:∃w1,w1=W.setCell ⟨g,1,none⟩ (.bool true):=⟨_,rfl⟩;have hr1:zb_ w1 g 130 [.slice A n c,.bool true,.bool false]:=(by subst hw1;have:=H.o.rec_.set_ 1 (.bool true);simpa[xm_,waits,pend] using this);have ho1:w1.ownsRow (g+1) 132 3 (.slice A n c) n (vC_ ys):=(by subst hw1;have:=zG_ (p:=⟨g,1,none⟩) (u:=.bool true) H.o.own (fun e=>H.o.away e);rw[<-HN.o]at this;simpa[pend] using this);rw[<-hw1];have hal:Chg [] w1 (w1.alloc (.cells #[.int .i32 48,.int .i64 0,.int .i32 0] 132)):=(Chg.refl [] w1).alloc _;have hsz:w1.heap.size=W.heap.size:=(by subst hw1;exact yw_ _ _ _);have hgz:=H.o.rec_.lt;have HW1:=hQ_ hw1;have HR1:=hQ_ hr1;have HO1:=hQ_ ho1;have HO2:=hQ_ (zf_ ho1 hal);have HR2:=hQ_ (hr1.keep hal);have HAL:=hQ_ hal;have c0:=hr1.cell 0;have c2:=HR2.o.cell 0;have HBZ:=hQ_ (show g+1<=(w1.alloc (.cells #[.int .i32 48,.int .i64 0,.int .i32 0] 132)).heap.size from by have:=hal.size;omega);have HNN:=hQ_ hn;clear hw1 hr1 ho1 hal hsz hgz q0 q1 f0 f1 hn;go_upto_region 4 with(
     at_builtin;refine wpList_append_own _ rfl (.tmp 19) (.tmp 21) _ rfl (g+1) 132 i0 _ 3 24 Tryz.underlying72 hi0 hz0 hz1 hz2 rfl (by decide) (.slice A n c) n (vC_ ys) rfl HO2.o ⟨w1.heap.size,0,none⟩ 1 1 [.int .i32 48,.int .i64 0,.int .i32 0] rfl rfl (zK_ _ _ _) (by simp[Value.oneCell']) (by simp only[maxLen];omega) (by omega) HBZ.o ?_;intro v' w3 ho3 hg3 _;have HO3:=hQ_ ho3;have HG3:=hQ_ hg3;have hr3:=zn_ HR2.o HO2.o (by decide) hg3;have c3:=hr3.cell 0;have f3:=hr3.frozen 0;obtain⟨A3,c3',rfl,_⟩:=zh_ ho3;clear ho3 hg3 hr3);obtain⟨hGl,hLow⟩:=H.o.begin_ HW1.o HAL.o (by have:=HNN.o;omega) HO3.o HG3.o;go_meet;exact⟨_,hQ_ hGl,hQ_ hLow⟩
 case rest =>
  obtain⟨v2,HG,HL⟩:=hcut;obtain⟨w2,rfl⟩:∃w2:World,w2=wc:=⟨_,rfl⟩;obtain⟨m,hme⟩:∃m,m=zaP ph:=⟨_,rfl⟩;rw[<-hme]at HG;have HME:=hQ_ hme;clear hme;have hm:=HG.o.big m rfl;clear H HN q0 q1 f0 f1 hnum hw;obtain⟨A2,n2,c2,rfl,hn2⟩:=HG.o.slice;have hn2':n2=ys.length+1:=hn2;obtain⟨gr,hgr,y1⟩:=zv_ HG.o.own (j:=ys.length*3+1) (u:=.int .i64 (m:Int)) (by rw[<-hn2]) (by rw[y2_,List.getElem?_append_right (by rw[yG_];omega),yG_,show ys.length*3+1-ys.length*3=1 from by omega];rfl);subst hgr;have hown:=HG.o.own;rw[<-hn2]at hown;have fy1:=y0_ (j:=ys.length*3+1) hown;have r0:=HG.o.rec_.cell 0;clear hown hn2;obtain⟨k,hk⟩:∃k,k=ys.length:=⟨_,rfl⟩;rw[<-hk]at hn2' y1 fy1;have HK:=hQ_ hk;subst hn2';have hk9:k<=900:=by omega
  clear hk;by_cases hbig:(9223372036854775807-x)/10<m
  · have hbI:(9223372036854775807-(x:Int))/10<(m:Int):=(by omega);have hbd:decide ((9223372036854775807-(x:Int))/10<(m:Int))=true:=(by simpa using hbI);have HP:=hQ_ (show kU_ W g (yz_ ys (zaP ph) x) (.returned (.bool false)) w2 from⟨HL.o,.inl ⟨by rw[<-HME.o];unfold yz_;rw[if_pos hbig],rfl⟩⟩);clear hbig;go_wp2_with fail;go_ret;exact HP.o
  · have hbI:(m:Int)<=(9223372036854775807-(x:Int))/10:=(by omega);have hbd:decide ((9223372036854775807-(x:Int))/10<(m:Int))=false:=(by simp;omega);have hmx:(m:Int)*10+(x:Int)<=9223372036854775807:=(by omega);have HP:=hQ_ (show kU_ W g (yz_ ys (zaP ph) x) (.returned (.bool true)) (w2.setCell ⟨gr,k*3+1,none⟩ (.int .i64 ((m:Int)*10+(x:Int)))) from by
     have hG2:=HG.o;rw[HK.o]at hG2⊢;obtain⟨h1,h2⟩:=hG2.number (m*10+x) (by omega);rw[show((m*10+x:Nat):Int)=(m:Int)*10+(x:Int) from by omega]at h1 h2;exact⟨HL.o.trans h2,.inr ⟨ys,_,_,by rw[<-HME.o];unfold yz_;rw[if_neg hbig],rfl,h1⟩⟩);clear hbig;go_wp2_with fail;go_ret;exact HP.o
end
def frT (B:Nat)(TS:List TypeId)(hard soft:List Nat):Turns:=⟨Chg [],Fr B TS,hard,soft⟩
theorem zpz {B:Nat}{TS:List TypeId}{hard soft:List Nat}:(frT B TS hard soft).Ok:=⟨Chg.refl [],fun _ _ h=>Fr.of_chg h,fun _ _ _ h k=>h.trans k⟩
theorem ziD {B:Nat}{TS:List TypeId}{hard soft:List Nat}{k:Nat}(hk:hard.contains k=true){W W':World}(h:Fr B TS W W'):(frT B TS hard soft).by_ k W W':=by
 unfold Turns.by_;rw[if_pos (show(frT B TS hard soft).hard.contains k=true from hk)];exact h
theorem zom {a b:World}(h:Star (Chg []) a b):Chg [] a b:=h.fold (Chg.refl []) fun _ _ _ h k=>h.trans k
structure Fe (K:Nat->Prop) (TS:List TypeId) (a b:World):Prop where
  os:b.os=a.os
  tape:b.tape=a.tape
  output:b.output=a.output
  size:a.heap.size<=b.heap.size
  block:∀k,k<a.heap.size->(¬K k\/∀cs t fz,a.heap[k]?=some (.cells cs t fz)->t∉TS)->b.heap[k]?=a.heap[k]?
section
variable {K:Nat->Prop} {TS:List TypeId} {a b c:World}
theorem Fe.refl (K:Nat->Prop)(TS:List TypeId)(a:World):Fe K TS a a:=⟨rfl,rfl,rfl,Nat.le_refl _,fun _ _ _=>rfl⟩
theorem Fe.trans (h:Fe K TS a b)(k:Fe K TS b c):Fe K TS a c:=by
 refine⟨k.os.trans h.os,k.tape.trans h.tape,k.output.trans h.output,Nat.le_trans h.size k.size,fun i hi hc=>?_⟩;have h1:=h.block i hi hc;rw[<-h1];refine k.block i (Nat.lt_of_lt_of_le hi h.size) ?_;rw[h1];exact hc
theorem Fe.of_chg (h:Chg [] a b):Fe K TS a b:=⟨h.os,h.tape,h.output,h.size,fun k hk _=>h.block k hk (by simp)⟩
theorem Fe.of_chgT {T:List Nat}(h:Chg T a b)(hT:∀i∈T,K i/\∀cs t fz,a.heap[i]?=some (.cells cs t fz)->t∈TS)(hO:∀i∈T,∃cs t fz,a.heap[i]?=some (.cells cs t fz)):Fe K TS a b :=
 ⟨h.os,h.tape,h.output,h.size,fun k hk hc=>h.block k hk fun hm=>by
  obtain⟨h1,h2⟩:=hT k hm;obtain⟨cs,t,fz,h3⟩:=hO k hm;rcases hc with hc|hc
  · exact hc h1
  · exact hc cs t fz h3 (h2 cs t fz h3)⟩
theorem Fe.new (h:Fe K TS a b)(k:Chg [] b c):Fe K TS a c:=h.trans (Fe.of_chg k)
theorem Fe.sub {TS':List TypeId}(h:Fe K TS a b)(hT:∀t,t∈TS->t∈TS'):Fe K TS' a b :=
 ⟨h.os,h.tape,h.output,h.size,fun k hk hc=>h.block k hk (hc.imp id (fun h cs t fz e ht=>h cs t fz e (hT t ht)))⟩
theorem Fe.chg {T:List Nat}{B:Nat}(h:Fe (fun k=>B<=k\/k∈T) TS a b)(hB:a.heap.size<=B):Chg T a b:=⟨h.os,h.tape,h.output,h.size,fun k hk hn=>h.block k hk (.inl fun hc=>by
 rcases hc with hc|hc
 · omega
 · exact hn hc)⟩
theorem Fe.set (h:Fe K TS a b){p:Addr}(hp:K p.block){cs:Array Value}{t:TypeId}{fz:Nat×Nat}(hb:b.heap[p.block]?=some (.cells cs t fz))(ht:t∈TS)(u:Value):Fe K TS a (b.setCell p u):=by
 refine h.trans ⟨rfl,rfl,rfl,?_,fun k hk hc=>?_⟩
 · rw[yw_];exact Nat.le_refl _
 · refine Below.heap_setCell b p u k (fun e=>?_);subst e;rcases hc with h1|h1
   · exact h1 hp
   · exact h1 cs t fz hb ht
theorem Fe.setw (h:Fe K TS a b){g j t:Nat}{cs:List Value}(hW:zb_ b g t cs)(hp:K g)(ht:t∈TS)(u:Value):Fe K TS a (b.setCell ⟨g,j,none⟩ u):=h.set (p:=⟨g,j,none⟩) hp hW ht u
theorem Fe.seto (h:Fe K TS a b){g j B2 k n m e:Nat}{xs:List Value}{cap:Nat}(ho:b.ownsRow B2 e k (.slice (some ⟨g,0,none⟩) n cap) m xs)(hp:K g)(ht:e∈TS)(u:Value):Fe K TS a (b.setCell ⟨g,j,none⟩ u):=by
 rcases ho.2 with⟨e',_⟩|⟨g',cap',cur,e',hb,hg,_⟩
 · cases e'
 · injection e' with e1 _ _;injection e1 with e1;injection e1 with e1;subst e1;exact h.set (p:=⟨g,j,none⟩) hp hg ht u
theorem Fe.grown (h:Fe K TS a b){B2 k n e:Nat}{v:Value}{xs:List Value}(ho:b.ownsRow B2 e k v n xs)(hK:∀i,v.ownBlock=some i->K i)(ht:e∈TS)(hg:b.grownBy c v.ownBlock):Fe K TS a c:=by
 refine h.trans ⟨hg.os,hg.tape,hg.output,hg.size,fun i hi hc=>hg.block i hi (fun hr=>?_)⟩;rcases ho.2 with⟨rfl,_⟩|⟨g',cap',cur,rfl,hb,hgb,_⟩
 · simp[Value.ownBlock]at hr
 · simp[Value.ownBlock]at hr;subst hr;rcases hc with h1|h1
   · exact h1 (hK _ rfl)
   · exact h1 _ _ _ hgb ht
theorem Fe.whole (h:Fe K TS a b){g t:Nat}{cs:List Value}(hW:zb_ a g t cs)(ht:t∉TS):zb_ b g t cs :=
 (h.block g hW.lt (.inr fun _ _ _ e=>by rw[show a.heap[g]?=_ from hW]at e;injection e with e;injection e with _ e2 _;subst e2;exact ht)).trans hW
theorem Fe.own (h:Fe K TS a b){B2 k n e:Nat}{v:Value}{xs:List Value}(ho:a.ownsRow B2 e k v n xs)(ht:e∉TS):b.ownsRow B2 e k v n xs:=by
 refine⟨ho.1,?_⟩;rcases ho.2 with h1|⟨g,cap,cur,rfl,hb,hg,r⟩
 · exact .inl h1
 · refine .inr ⟨g,cap,cur,rfl,hb,?_,r⟩;have hlt:g<a.heap.size:=by
    rcases Nat.lt_or_ge g a.heap.size with h|h
    · exact h
    · rw[Array.getElem?_eq_none h]at hg;cases hg
   exact(h.block g hlt (.inr fun _ _ _ e=>by rw[hg]at e;injection e with e;injection e with _ e2 _;subst e2;exact ht)).trans hg
theorem Fe.mm (h:Fe K TS a b){p gC gD:Nat}{L:List UInt8}{X:List Value}{V:List Bool}{Y:List Value}{most:Nat}(hM:Mm a p gC gD L X V Y most)(h1:105∉TS)(h2:5∉TS)(h3:4∉TS):Mm b p gC gD L X V Y most :=
 ⟨h.whole hM.rec_ h1,h.whole hM.cel h2,h.whole hM.dir h3,hM.len,hM.le,hM.top,hM.capX,hM.capY⟩
end
end Go.Proofs.YtcbcfcdmdedefaaGreatDoor
