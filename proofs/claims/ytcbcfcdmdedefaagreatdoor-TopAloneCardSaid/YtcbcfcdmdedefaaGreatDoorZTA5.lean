import Derived.Test.YtcbcfcdmdedefaaGreatDoorZTA4
set_option maxRecDepth 100000
set_option maxHeartbeats 16000000
namespace Go.Proofs.YtcbcfcdmdedefaaGreatDoor
open Go.RowKit
structure NPart where
  loop:Bool
  at_:Nat
  waits:Nat
  left:List Nat
structure NSt where
  tO:List Int
  deep:Nat
  op:List NPart
def yL_ (i:Nat):List NPart->Option (List NPart)
  | []=>none
  | p::r=>if p.loop=true then some (⟨p.loop,p.at_,p.waits,p.left++[i]⟩::r) else (yL_ i r).map (p::·)
def y9_ (v:Int):List Nat->List Int->List Int
  | [],t=>t
  | j::r,t=>y9_ v r (t.set j v)
def yX_ (i:Nat)(s:Int)(m:NSt):Option NSt :=
 if s=63\/s=91 then
   if m.op.length+1<=16 then some ⟨m.tO,max m.deep (m.op.length+1),⟨decide (s=91),i,i,[]⟩::m.op⟩ else none
 else if s=58 then match m.op with
   | p::r=>if p.loop=false/\p.waits=p.at_ then some ⟨m.tO.set p.at_ ((i:Int)+1),m.deep,⟨p.loop,p.at_,i,p.left⟩::r⟩ else none
   | []=>none
 else if s=59 then match m.op with
   | p::r=>if p.loop=false then some ⟨m.tO.set p.waits (i:Int),m.deep,r⟩ else none
   | []=>none
 else if s=93 then match m.op with
   | p::r=>if p.loop=true then some ⟨y9_ ((i:Int)+1) p.left (m.tO.set i (p.at_:Int)),m.deep,r⟩ else none
   | []=>none
 else if s=126 then (yL_ i m.op).map fun o=>⟨m.tO,m.deep,o⟩
 else some m
def gA_:Nat->List Int->NSt->Option NSt
  | _,[],m=>some m
  | i,s::r,m=>(yX_ i s ⟨m.tO.set i (-1),m.deep,m.op⟩).bind (gA_ (i+1) r)
structure RSt where
  tO:List Int
  deep:Nat
  op:List Nat
def zaF (ss:List Int)(i:Nat)(s:Int)(m:RSt):Option RSt :=
 if s=63\/s=91 then
   if m.op.length+1<=16 then some ⟨m.tO,max m.deep (m.op.length+1),i::m.op⟩ else none
 else if s=58 then match m.op with
   | p::r=>if ss[p]?=some 63 then some ⟨m.tO.set p ((i:Int)+1),m.deep,i::r⟩ else none
   | []=>none
 else if s=59 then match m.op with
   | p::r=>if ss[p]?=some 91 then none else some ⟨m.tO.set p (i:Int),m.deep,r⟩
   | []=>none
 else if s=93 then match m.op with
   | p::r=>if ss[p]?=some 91 then some ⟨m.tO.set i (p:Int),m.deep,r⟩ else none
   | []=>none
 else some m
def zdg (ss:List Int):Nat->List Int->RSt->Option RSt
  | _,[],m=>some m
  | i,s::r,m=>(zaF ss i s ⟨m.tO.set i (-1),m.deep,m.op⟩).bind (zdg ss (i+1) r)
structure Part (ss:List Int) (n:Nat) (p:NPart):Prop where
  lt:p.at_<n
  ltw:p.waits<n
  le:p.at_<=p.waits
  loop:p.loop=true->p.waits=p.at_/\ss[p.at_]?=some 91
  if_:p.loop=false->ss[p.at_]?=some 63/\(p.waits=p.at_\/ss[p.waits]?=some 58)
theorem Part.more {ss:List Int}{n k:Nat}{p:NPart}(h:Part ss n p)(hk:n<=k):Part ss k p:=⟨by have:=h.lt;omega,by have:=h.ltw;omega,h.le,h.loop,h.if_⟩
theorem Part.is_loop {ss:List Int}{n:Nat}{p:NPart}(h:Part ss n p):ss[p.waits]?=some 91↔p.loop=true:=by
 constructor
 · intro h1;cases hl:p.loop with
   | true=>rfl
   | false =>
     obtain⟨a,b|b⟩:=h.if_ hl
     · rw[b,a]at h1;cases h1
     · rw[b]at h1;cases h1
 · intro hl;obtain⟨a,b⟩:=h.loop hl;rw[a,b]
theorem Part.is_if {ss:List Int}{n:Nat}{p:NPart}(h:Part ss n p):ss[p.waits]?=some 63↔(p.loop=false/\p.waits=p.at_):=by
 constructor
 · intro h1;cases hl:p.loop with
   | true =>
     obtain⟨a,b⟩:=h.loop hl;rw[a,b]at h1;cases h1
   | false =>
     obtain⟨a,b|b⟩:=h.if_ hl
     · exact⟨rfl,b⟩
     · rw[b]at h1;cases h1
 · rintro⟨hl,e⟩;rw[e];exact(h.if_ hl).1
theorem zcn {i:Nat}:∀{l:List NPart},(∃p∈l,p.loop=true)->∃o,yL_ i l=some o:=by
 intro l
 induction l with
 | nil=>rintro⟨p,h,_⟩;cases h
 | cons p r ih =>
   rintro⟨q,hq,hl⟩;unfold yL_;by_cases h:p.loop=true
   · exact⟨_,if_pos h⟩
   · rw[if_neg h];have:∃q∈r,q.loop=true:=by
      rcases List.mem_cons.1 hq with rfl|hq
      · exact absurd hl h
      · exact⟨q,hq,hl⟩
     obtain⟨o,ho⟩:=ih this;exact⟨p::o,by rw[ho];rfl⟩
theorem k0_ {i:Nat}:∀{l o:List NPart},yL_ i l=some o->∃a p r,l=a++p::r/\(∀q∈a,q.loop=false)/\p.loop=true/\o=a++⟨p.loop,p.at_,p.waits,p.left++[i]⟩::r:=by
 intro l
 induction l with
 | nil=>intro o h;cases h
 | cons p r ih =>
   intro o h;unfold yL_ at h;by_cases hp:p.loop=true
   · rw[if_pos hp]at h;injection h with h;exact⟨[],p,r,rfl,(fun q hq=>by cases hq),hp,h.symm⟩
   · rw[if_neg hp]at h;cases hr:yL_ i r with
     | none=>rw[hr]at h;cases h
     | some o' =>
       rw[hr]at h;injection h with h;obtain⟨a,q,r',e1,e2,e3,e4⟩:=ih hr;exact⟨p::a,q,r',by rw[e1];rfl,fun x hx=>by rcases List.mem_cons.1 hx with rfl|hx;exact(Bool.not_eq_true _).mp hp;exact e2 x hx,e3,by rw[<-h,e4];rfl⟩
theorem zco {i:Nat}:∀{l:List NPart},yL_ i l=none->∀p∈l,p.loop=false:=by
 intro l h p hp;cases hl:p.loop with
 | false=>rfl
 | true =>
   obtain⟨o,ho⟩:=zcn (i:=i) ⟨p,hp,hl⟩;rw[h]at ho;cases ho
def vj_ (ss:List Int)(t:List Int)(j a b:Nat):Prop:=∀k,j<=k->a<=k->k<b->ss[k]?=some 93->∃v,t[k]?=some v/\(j:Int)<=v
structure Sim (ss:List Int) (n:Nat) (m:NSt) (r:RSt):Prop where
  deep:m.deep=r.deep
  op:m.op.map (·.waits)=r.op
  lenM:m.tO.length=ss.length
  lenR:r.tO.length=ss.length
  parts:∀p∈m.op,Part ss n p
  desc:m.op.Pairwise fun p q=>q.waits<p.at_
  same:∀j:Nat,ss[j]?≠some 126->m.tO[j]?=r.tO[j]?
  pend:∀p∈m.op,∀j∈p.left,p.loop=true/\ss[j]?=some 126/\p.waits<j/\j<n/\vj_ ss r.tO j 0 n/\∀q∈m.op,q.loop=true->p.at_<q.at_->j<q.at_
  done:∀j:Nat,j<n->ss[j]?=some 126->(∃p∈m.op,j∈p.left)\/∃k:Nat,j<k/\k<n/\m.tO[j]?=some ((k:Int)+1)/\ss[k]?=some 93/\(∃v,r.tO[k]?=some v/\v<(j:Int))/\vj_ ss r.tO j 0 k
theorem vj_.keep {ss t u:List Int}{j a b:Nat}(h:vj_ ss t j a b)(hu:∀k:Nat,k<b->ss[k]?=some 93->u[k]?=t[k]?):vj_ ss u j a b:=fun k h1 h2 h3 h4=>by rw[hu k h3 h4];exact h k h1 h2 h3 h4
theorem vj_.next {ss t:List Int}{j b:Nat}(h:vj_ ss t j 0 b)(hb:ss[b]?=some 93->∃v,t[b]?=some v/\(j:Int)<=v):vj_ ss t j 0 (b+1):=fun k h1 h2 h3 h4=>by
 rcases Nat.lt_or_ge k b with hk|hk
 · exact h k h1 h2 hk h4
 · obtain rfl:k=b:=(by omega);exact hb h4
theorem Sim.plain {ss:List Int}{n:Nat}{m:NSt}{r:RSt}(h:Sim ss n m r){tm tr:List Int}{dm:Nat}{om:List NPart}(hn:ss[n]?≠some 93)(hn2:ss[n]?≠some 126)(lm:tm.length=ss.length)(lr:tr.length=ss.length)
    (hsame:∀j:Nat,ss[j]?≠some 126->tm[j]?=tr[j]?) (h9:∀k:Nat,k<n->ss[k]?=some 93->tr[k]?=r.tO[k]?) (h6:∀j:Nat,j<n->ss[j]?=some 126->tm[j]?=m.tO[j]?)
    (hparts:∀p∈om,Part ss (n+1) p) (hdesc:om.Pairwise fun p q=>q.waits<p.at_)
    (hleft:∀p∈om,p.left=[]\/∃p0∈m.op,p0.left=p.left/\p0.loop=p.loop/\p0.at_=p.at_/\p0.waits=p.waits)
    (hleft2:∀p∈m.op,p.left≠[]->∃p0∈om,p0.left=p.left)
    (hloop:∀q∈om,q.loop=true->q.at_=n\/∃q0∈m.op,q0.loop=true/\q0.at_=q.at_) :
    Sim ss (n+1) ⟨tm,dm,om⟩ ⟨tr,dm,om.map (·.waits)⟩ where
  deep:=rfl
  op:=rfl
  lenM:=lm
  lenR:=lr
  parts:=hparts
  desc:=hdesc
  same:=hsame
  pend:=fun p hp j hj=>by
   rcases hleft p hp with e|⟨p0,hp0,e1,e2,e3,e4⟩
   · rw[e]at hj;cases hj
   · rw[<-e1]at hj;obtain⟨a1,a2,a3,a4,a5,a6⟩:=h.pend p0 hp0 j hj;refine⟨by rw[<-e2];exact a1,a2,by omega,by omega,(a5.keep h9).next (fun h9'=>absurd h9' hn),fun q hq hl hlt=>?_⟩;rcases hloop q hq hl with e|⟨q0,hq0,l0,e0⟩
     · omega
     · rw[<-e0]at hlt⊢;exact a6 q0 hq0 l0 (by omega)
  done:=fun j hj hs=>by
   have hjn:j<n:=by
    rcases Nat.lt_or_ge j n with hk|hk
    · exact hk
    · obtain rfl:j=n:=(by omega);exact absurd hs hn2
   rcases h.done j hjn hs with⟨p,hp,hj2⟩|⟨k,b1,b2,b3,b4,⟨v,b5,b6⟩,b7⟩
   · obtain⟨p0,hp0,e⟩:=hleft2 p hp (fun e=>by rw[e]at hj2;cases hj2);exact .inl ⟨p0,hp0,by rw[e];exact hj2⟩
   · exact .inr ⟨k,b1,by omega,by rw[h6 j hjn hs];exact b3,b4,⟨v,by rw[h9 k b2 b4];exact b5,b6⟩,b7.keep (fun k' hk' h9'=>h9 k' (by omega) h9')⟩
theorem qM_ (v:Int):∀(l:List Nat)(t:List Int),(y9_ v l t).length=t.length
  | [],_=>rfl
  | j::r,t=>by show(y9_ v r (t.set j v)).length=_;rw[qM_ v r,List.length_set]
theorem v4_ (v:Int)(j:Nat):∀(l:List Nat)(t:List Int),j∉l->(y9_ v l t)[j]?=t[j]?
  | [],_,_=>rfl
  | i::r,t,h=>by
    show(y9_ v r (t.set i v))[j]?=_;rw[v4_ v j r _ (fun e=>h (List.mem_cons_of_mem _ e)),List.getElem?_set_ne (fun e=>h (by rw[e];exact List.mem_cons_self ..))]
theorem qL_ (v:Int)(j:Nat):∀(l:List Nat)(t:List Int),j∈l->j<t.length->(y9_ v l t)[j]?=some v
  | i :: r,t,h,ht=>by
    show(y9_ v r (t.set i v))[j]?=_;by_cases hr:j∈r
    · exact qL_ v j r _ hr (by rw[List.length_set];exact ht)
    · rw[v4_ v j r _ hr];rcases List.mem_cons.1 h with e|e
      · rw[e,List.getElem?_set_self (by rw[<-e];exact ht)]
      · exact absurd e hr
theorem jf_ {ss a b:List Int}(h:∀j:Nat,ss[j]?≠some 126->a[j]?=b[j]?)(hl:a.length=b.length)(i:Nat)(v:Int):∀j:Nat,ss[j]?≠some 126->(a.set i v)[j]?=(b.set i v)[j]?:=fun j hj=>by
 rw[List.getElem?_set,List.getElem?_set,hl,h j hj]
theorem ud_ {ss a:List Int}{i:Nat}{s v x:Int}(hi:ss[i]?=some x)(hx:x≠s):∀k:Nat,ss[k]?=some s->(a.set i v)[k]?=a[k]?:=fun k hk=>by
 rw[List.getElem?_set_ne (fun e=>by subst e;rw[hi]at hk;injection hk with hk;exact hx hk)]
theorem zks {ss:List Int} {n:Nat} {m:NSt} {r:RSt} {s:Int} (h:Sim ss n m r) (hs:ss[n]?=some s) :
    (∃m' r',yX_ n s ⟨m.tO.set n (-1),m.deep,m.op⟩=some m'/\zaF ss n s ⟨r.tO.set n (-1),r.deep,r.op⟩=some r'/\Sim ss (n+1) m' r') \/
    (yX_ n s ⟨m.tO.set n (-1),m.deep,m.op⟩=none/\zaF ss n s ⟨r.tO.set n (-1),r.deep,r.op⟩=none) \/
    (s=126/\yX_ n s ⟨m.tO.set n (-1),m.deep,m.op⟩=none/\∀p∈m.op,p.loop=false):=by
      have hop:=h.op;have hln:n<ss.length:=by
       rcases Nat.lt_or_ge n ss.length with hk|hk
       · exact hk
       · rw[List.getElem?_eq_none hk]at hs;cases hs
      have hlen:r.op.length=m.op.length:=(by rw[<-hop,List.length_map]);have lmr:m.tO.length=r.tO.length:=(by rw[h.lenM,h.lenR]);have hs0:=jf_ h.same lmr n (-1);have lm0:(m.tO.set n (-1)).length=ss.length:=(by rw[List.length_set,h.lenM]);have lr0:(r.tO.set n (-1)).length=ss.length:=(by rw[List.length_set,h.lenR]);have k0:∀(t:List Int)(k:Nat),k<n->(t.set n (-1))[k]?=t[k]?:=fun t k hk=>List.getElem?_set_ne (by omega);have hdp:=h.deep;obtain⟨mt,md,mo⟩:=m;obtain⟨rt,rd,ro⟩:=r;simp only at *;subst hdp hop;unfold yX_ zaF;simp only;by_cases c1:s=63\/s=91
      · rw[if_pos c1,if_pos c1,hlen];by_cases c2:mo.length+1<=16
        · rw[if_pos c2,if_pos c2];refine .inl ⟨_,_,rfl,rfl,?_⟩;have h93:ss[n]?≠some 93:=(by rw[hs];intro e;injection e with e;omega);have h126:ss[n]?≠some 126:=(by rw[hs];intro e;injection e with e;omega);refine h.plain h93 h126 lm0 lr0 hs0 (fun k hk _=>k0 rt k hk) (fun j hj _=>k0 mt j hj) ?_ ?_ ?_ ?_ ?_
          · intro p hp;rcases List.mem_cons.1 hp with rfl|hp
            · refine⟨by simp only;omega,by simp only;omega,Nat.le_refl _,fun hl=>⟨rfl,?_⟩,fun hl=>⟨?_,.inl rfl⟩⟩
              · have:s=91:=of_decide_eq_true hl;rw[hs,this]
              · have:¬s=91:=of_decide_eq_false hl;have:s=63:=(by omega);rw[hs,this]
            · exact(h.parts p hp).more (by omega)
          · refine List.pairwise_cons.2 ⟨fun q hq=>?_,h.desc⟩;exact(h.parts q hq).ltw
          · intro p hp;rcases List.mem_cons.1 hp with rfl|hp
            · exact .inl rfl
            · exact .inr ⟨p,hp,rfl,rfl,rfl,rfl⟩
          · exact fun p hp _=>⟨p,List.mem_cons_of_mem _ hp,rfl⟩
          · intro q hq hl;rcases List.mem_cons.1 hq with rfl|hq
            · exact .inl rfl
            · exact .inr ⟨q,hq,hl,rfl⟩
        · rw[if_neg c2,if_neg c2];exact .inr (.inl ⟨rfl,rfl⟩)
      · rw [if_neg c1,if_neg c1];by_cases c3:s=58
        · rw[if_pos c3,if_pos c3];subst c3;cases mo with
          | nil=>exact .inr (.inl ⟨rfl,rfl⟩)
          | cons p o =>
            have hP:=h.parts p (List.mem_cons_self ..);simp only[List.map_cons];by_cases c4:p.loop=false/\p.waits=p.at_
            · rw[if_pos c4,if_pos (hP.is_if.2 c4),c4.2];refine .inl ⟨_,_,rfl,rfl,?_⟩;have hp63:=(hP.if_ c4.1).1;refine h.plain (by rw[hs];decide) (by rw[hs];decide) (by rw[List.length_set];exact lm0) (by rw[List.length_set];exact lr0) (jf_ hs0 (by rw[lm0,lr0]) _ _) (fun k hk h9=>by rw[ud_ hp63 (by decide) k h9,k0 rt k hk]) (fun j hj h6=>by rw[ud_ hp63 (by decide) j h6,k0 mt j hj]) ?_ ?_ ?_ ?_ ?_
              · intro q hq;rcases List.mem_cons.1 hq with rfl|hq
                · exact⟨by have:=hP.lt;simp only;omega,by simp only;omega,by have:=hP.lt;simp only;omega,(fun hl=>by simp only at hl;rw[c4.1]at hl;cases hl),fun _=>⟨hp63,.inr hs⟩⟩
                · exact(h.parts q (List.mem_cons_of_mem _ hq)).more (by omega)
              · have:=List.pairwise_cons.1 h.desc;exact List.pairwise_cons.2 ⟨fun q hq=>this.1 q hq,this.2⟩
              · intro q hq;rcases List.mem_cons.1 hq with rfl|hq
                · refine .inl ?_;simp only;cases hl:p.left with
                  | nil=>rfl
                  | cons j l =>
                    have:=(h.pend p (List.mem_cons_self ..) j (by rw[hl];exact List.mem_cons_self ..)).1;rw[c4.1]at this;cases this
                · exact .inr ⟨q,List.mem_cons_of_mem _ hq,rfl,rfl,rfl,rfl⟩
              · intro q hq _;rcases List.mem_cons.1 hq with rfl|hq
                · exact⟨_,List.mem_cons_self ..,rfl⟩
                · exact⟨q,List.mem_cons_of_mem _ hq,rfl⟩
              · intro q hq hl;rcases List.mem_cons.1 hq with rfl|hq
                · simp only at hl;rw[c4.1]at hl;cases hl
                · exact .inr ⟨q,List.mem_cons_of_mem _ hq,hl,rfl⟩
            · rw[if_neg c4,if_neg (fun e=>c4 (hP.is_if.1 e))];exact .inr (.inl ⟨rfl,rfl⟩)
        · rw [if_neg c3,if_neg c3];by_cases c5:s=59
          · rw[if_pos c5,if_pos c5];subst c5;cases mo with
            | nil=>exact .inr (.inl ⟨rfl,rfl⟩)
            | cons p o =>
              have hP:=h.parts p (List.mem_cons_self ..);simp only[List.map_cons];by_cases c6:p.loop=false
              · rw[if_pos c6,if_neg (fun e=>by have:=hP.is_loop.1 e;rw[c6]at this;cases this)];refine .inl ⟨_,_,rfl,rfl,?_⟩;have hw:∃x,ss[p.waits]?=some x/\x≠93/\x≠126:=(by
                 obtain⟨a,b|b⟩:=hP.if_ c6
                 · exact⟨63,by rw[b,a],by decide,by decide⟩
                 · exact⟨58,b,by decide,by decide⟩);obtain⟨x,hw,x1,x2⟩:=hw;refine h.plain (by rw[hs];decide) (by rw[hs];decide) (by rw[List.length_set];exact lm0) (by rw[List.length_set];exact lr0) (jf_ hs0 (by rw[lm0,lr0]) _ _) (fun k hk h9=>by rw[ud_ hw x1 k h9,k0 rt k hk]) (fun j hj h6=>by rw[ud_ hw x2 j h6,k0 mt j hj]) ?_ ?_ ?_ ?_ ?_
                · exact fun q hq=>(h.parts q (List.mem_cons_of_mem _ hq)).more (by omega)
                · exact(List.pairwise_cons.1 h.desc).2
                · exact fun q hq=>.inr ⟨q,List.mem_cons_of_mem _ hq,rfl,rfl,rfl,rfl⟩
                · intro q hq hne;rcases List.mem_cons.1 hq with rfl|hq
                  · exfalso;cases hl:q.left with
                    | nil=>exact hne hl
                    | cons j l =>
                      have:=(h.pend q (List.mem_cons_self ..) j (by rw[hl];exact List.mem_cons_self ..)).1;rw[c6]at this;cases this
                  · exact⟨q,hq,rfl⟩
                · exact fun q hq hl=>.inr ⟨q,List.mem_cons_of_mem _ hq,hl,rfl⟩
              · have c7:p.loop=true:=(Bool.not_eq_false _).mp c6;rw[if_neg c6,if_pos (hP.is_loop.2 c7)];exact .inr (.inl ⟨rfl,rfl⟩)
          · rw[if_neg c5,if_neg c5];by_cases c8:s=93
            · rw[if_pos c8,if_pos c8];subst c8;cases mo with
              | nil=>exact .inr (.inl ⟨rfl,rfl⟩)
              | cons p o =>
                have hP:=h.parts p (List.mem_cons_self ..);simp only[List.map_cons];by_cases c9:p.loop=true
                · rw [if_pos c9,if_pos (hP.is_loop.2 c9),(hP.loop c9).1];refine .inl ⟨_,_,rfl,rfl,?_⟩;have hd:=List.pairwise_cons.1 h.desc;have hpl:=fun j hj=>h.pend p (List.mem_cons_self ..) j hj;have hr9:∀k:Nat,k<n->ss[k]?=some 93->((rt.set n (-1)).set n (p.at_:Int))[k]?=rt[k]?:=fun k hk _=>(by
                   rw[List.getElem?_set_ne (by omega),k0 rt k hk]);have hrn:((rt.set n (-1)).set n (p.at_:Int))[n]?=some (p.at_:Int):=List.getElem?_set_self (by rw[lr0];exact hln);refine⟨rfl,rfl,by rw[qM_,List.length_set];exact lm0,by rw[List.length_set];exact lr0,fun q hq=>(h.parts q (List.mem_cons_of_mem _ hq)).more (by omega),hd.2,fun j hj=>?_,fun q hq j hj=>?_,fun j hj hj6=>?_⟩
                  · rw[v4_ _ _ _ _ (fun e=>hj (hpl j e).2.1)];exact jf_ hs0 (by rw[lm0,lr0]) _ _ j hj
                  · obtain⟨a1,a2,a3,a4,a5,a6⟩:=h.pend q (List.mem_cons_of_mem _ hq) j hj;have hqp:=hd.1 q hq;have hqle:=(h.parts q (List.mem_cons_of_mem _ hq)).le;have:=a6 p (List.mem_cons_self ..) c9 (by omega);exact⟨a1,a2,a3,by omega,(a5.keep hr9).next (fun _=>⟨_,hrn,by omega⟩),fun q' hq' hl' hlt'=>a6 q' (List.mem_cons_of_mem _ hq') hl' hlt'⟩
                  · have hjn:j<n:=by
                     rcases Nat.lt_or_ge j n with hk|hk
                     · exact hk
                     · obtain rfl:j=n:=(by omega);rw[hs]at hj6;cases hj6
                    by_cases hjp:j∈p.left
                    · obtain⟨a1,a2,a3,a4,a5,a6⟩:=hpl j hjp;have hle:=hP.le;exact .inr ⟨n,hjn,by omega,qL_ _ _ _ _ hjp (by rw[List.length_set,lm0];omega),hs,⟨_,hrn,by omega⟩,a5.keep hr9⟩
                    · rcases h.done j hjn hj6 with⟨q,hq,hj2⟩|⟨k,b1,b2,b3,b4,⟨v,b5,b6⟩,b7⟩
                      · rcases List.mem_cons.1 hq with rfl|hq
                        · exact absurd hj2 hjp
                        · exact .inl ⟨q,hq,hj2⟩
                      · refine .inr ⟨k,b1,by omega,?_,b4,⟨v,by rw[hr9 k b2 b4];exact b5,b6⟩,b7.keep (fun k' hk' h9'=>hr9 k' (by omega) h9')⟩;rw[v4_ _ _ _ _ hjp,List.getElem?_set_ne (by omega),k0 mt j hjn];exact b3
                · rw[if_neg c9,if_neg (fun e=>c9 (hP.is_loop.1 e))];exact .inr (.inl ⟨rfl,rfl⟩)
            · rw[if_neg c8,if_neg c8];by_cases c10:s=126
              · rw [if_pos c10];subst c10;cases hlv:yL_ n mo with
                | none=>exact .inr (.inr ⟨rfl,rfl,zco hlv⟩)
                | some o =>
                  obtain⟨a,p,r0,e1,e2,e3,e4⟩:=k0_ hlv;have hw:o.map (·.waits)=mo.map (·.waits):=(by rw[e1,e4];simp);have hf:o.map (fun p=>(p.at_,p.waits))=mo.map (fun p=>(p.at_,p.waits)):=(by rw[e1,e4];simp);have hpm:p∈mo:=(by rw[e1];simp);have hP:=h.parts p hpm;have hin:∀q∈o,q=⟨p.loop,p.at_,p.waits,p.left++[n]⟩\/q∈mo:=fun q hq=>by
                   rw[e4]at hq;rw[e1];simp only[List.mem_append,List.mem_cons]at hq⊢;rcases hq with hq|hq|hq
                   · exact .inr (.inl hq)
                   · exact .inl hq
                   · exact .inr (.inr (.inr hq))
                  have hback:∀q∈mo,q=p\/q∈o:=fun q hq=>by
                   rw[e1]at hq;rw[e4];simp only[List.mem_append,List.mem_cons]at hq⊢;rcases hq with hq|hq|hq
                   · exact .inr (.inl hq)
                   · exact .inl hq
                   · exact .inr (.inr (.inr hq))
                  have hself:(⟨p.loop,p.at_,p.waits,p.left++[n]⟩:NPart)∈o:=(by rw[e4];simp);have hr9:∀k:Nat,k<n->ss[k]?=some 93->(rt.set n (-1))[k]?=rt[k]?:=fun k hk _=>k0 rt k hk;have hn9:ss[n]?≠some 93:=(by rw[hs];decide);have hold:∀q∈o,q.loop=true->∃q0∈mo,q0.loop=true/\q0.at_=q.at_:=fun q hq hl=>by
                   rcases hin q hq with rfl|hq
                   · exact⟨p,hpm,e3,rfl⟩
                   · exact⟨q,hq,hl,rfl⟩
                  have hpend:∀p0∈mo,∀j∈p0.left,p0.loop=true/\ss[j]?=some 126/\p0.waits<j/\j<n+1/\vj_ ss (rt.set n (-1)) j 0 (n+1)/\∀q∈o,q.loop=true->p0.at_<q.at_->j<q.at_:=fun p0 hp0 j hj=>(by
                   obtain⟨a1,a2,a3,a4,a5,a6⟩:=h.pend p0 hp0 j hj;refine⟨a1,a2,a3,by omega,(a5.keep hr9).next (fun h9=>absurd h9 hn9),fun q hq hl hlt=>?_⟩;obtain⟨q0,hq0,l0,e0⟩:=hold q hq hl;rw[<-e0]at hlt⊢;exact a6 q0 hq0 l0 hlt);refine .inl ⟨⟨mt.set n (-1),md,o⟩,⟨rt.set n (-1),md,mo.map (·.waits)⟩,rfl,rfl,⟨rfl,hw,lm0,lr0,fun q hq=>?_,?_,hs0,fun q hq j hj=>?_,fun j hj hj6=>?_⟩⟩
                  · rcases hin q hq with rfl|hq
                    · have:=hP.more (k:=n+1) (by omega);exact⟨this.lt,this.ltw,this.le,this.loop,this.if_⟩
                    · exact(h.parts q hq).more (by omega)
                  · have:=h.desc;have hR:(mo.map (fun p=>(p.at_,p.waits))).Pairwise (fun a b=>b.2<a.1):=List.pairwise_map.2 this;rw[<-hf]at hR;exact List.pairwise_map.1 hR
                  · rcases hin q hq with rfl|hq
                    · simp only[List.mem_append,List.mem_cons,List.not_mem_nil,or_false]at hj;rcases hj with hj|rfl
                      · exact hpend p hpm j hj
                      · refine⟨e3,hs,hP.ltw,by omega,fun k h1 _ h3 h9=>?_,fun q hq hl hlt=>?_⟩
                        · obtain rfl:k=j:=(by omega);exact absurd h9 hn9
                        · exfalso;rw[e4]at hq;simp only[List.mem_append,List.mem_cons]at hq;simp only at hlt;rcases hq with hq|rfl|hq
                          · rw[e2 q hq]at hl;cases hl
                          · simp only at hlt;omega
                          · have hd:=h.desc;rw[e1]at hd;have:=(List.pairwise_cons.1 (List.pairwise_append.1 hd).2.1).1 q hq;have hle:=(h.parts q (by rw[e1];simp[hq])).le;omega
                    · exact hpend q hq j hj
                  · rcases Nat.lt_or_ge j n with hjn|hjn
                    · rcases h.done j hjn hj6 with⟨q,hq,hj2⟩|⟨k,b1,b2,b3,b4,⟨v,b5,b6⟩,b7⟩
                      · rcases hback q hq with rfl|hq
                        · exact .inl ⟨_,hself,by simp[hj2]⟩
                        · exact .inl ⟨q,hq,hj2⟩
                      · exact .inr ⟨k,b1,by omega,by rw[k0 mt j hjn];exact b3,b4,⟨v,by rw[hr9 k b2 b4];exact b5,b6⟩,b7.keep (fun k' hk' h9'=>hr9 k' (by omega) h9')⟩
                    · obtain rfl:j=n:=(by omega);exact .inl ⟨_,hself,by simp⟩
              · rw[if_neg c10];refine .inl ⟨_,_,rfl,rfl,?_⟩;have h93:ss[n]?≠some 93:=(by rw[hs];intro e;injection e with e;exact c8 e);have h126:ss[n]?≠some 126:=(by rw[hs];intro e;injection e with e;exact c10 e);exact h.plain h93 h126 lm0 lr0 hs0 (fun k hk _=>k0 rt k hk) (fun j hj _=>k0 mt j hj) (fun q hq=>(h.parts q hq).more (by omega)) h.desc (fun q hq=>.inr ⟨q,hq,rfl,rfl,rfl,rfl⟩) (fun q hq _=>⟨q,hq,rfl⟩) (fun q hq hl=>.inr ⟨q,hq,hl,rfl⟩)
structure Dead (ss:List Int) (j n:Nat) (r:RSt):Prop where
  lt:j<n
  len:r.tO.length=ss.length
  open_:∀w∈r.op,w<n/\(ss[w]?=some 63\/ss[w]?=some 58\/(ss[w]?=some 91/\j<w))
  behind:vj_ ss r.tO j 0 n
theorem zjd {ss:List Int} {j n:Nat} {r r':RSt} {s:Int} (h:Dead ss j n r) (hs:ss[n]?=some s) (hr:zaF ss n s ⟨r.tO.set n (-1),r.deep,r.op⟩=some r'):Dead ss j (n+1) r':=by
 have hln:n<ss.length:=by
  rcases Nat.lt_or_ge n ss.length with hk|hk
  · exact hk
  · rw[List.getElem?_eq_none hk]at hs;cases hs
 have hjn:=h.lt;obtain⟨rt,rd,ro⟩:=r;have hlen:=h.len;have hop:=h.open_;have hb:=h.behind;simp only at hlen hop hb hr;have k0:∀(k:Nat),k<n->(rt.set n (-1))[k]?=rt[k]?:=fun k hk=>List.getElem?_set_ne (by omega);have l0:(rt.set n (-1)).length=ss.length:=by rw[List.length_set];exact hlen
 unfold zaF at hr;simp only at hr;by_cases c1:s=63\/s=91
 · rw[if_pos c1]at hr;by_cases c2:ro.length+1<=16
   · rw[if_pos c2]at hr;injection hr with hr;subst hr;refine⟨by omega,l0,fun w hw=>?_,(hb.keep fun k hk _=>k0 k hk).next fun h9=>?_⟩
     · rcases List.mem_cons.1 hw with rfl|hw
       · refine⟨by omega,?_⟩;rw[hs];rcases c1 with rfl|rfl
         · exact .inl rfl
         · exact .inr (.inr ⟨rfl,hjn⟩)
       · exact⟨by have:=(hop w hw).1;omega,(hop w hw).2⟩
     · rw[hs]at h9;injection h9 with h9;omega
   · rw[if_neg c2]at hr;cases hr
 · rw [if_neg c1]at hr;by_cases c3:s=58
   · rw[if_pos c3]at hr;subst c3;cases ro with
     | nil=>cases hr
     | cons p o =>
       simp only at hr;by_cases c4:ss[p]?=some 63
       · rw[if_pos c4]at hr;injection hr with hr;subst hr;refine⟨by omega,by rw[List.length_set];exact l0,fun w hw=>?_,(hb.keep fun k hk h9=>?_).next fun h9=>?_⟩
         · rcases List.mem_cons.1 hw with rfl|hw
           · exact⟨by omega,.inr (.inl hs)⟩
           · have:=hop w (List.mem_cons_of_mem _ hw);exact⟨by have:=this.1;omega,this.2⟩
         · rw[ud_ c4 (by decide) k h9,k0 k hk]
         · rw[hs]at h9;cases h9
       · rw[if_neg c4]at hr;cases hr
   · rw[if_neg c3]at hr;by_cases c5:s=59
     · rw[if_pos c5]at hr;subst c5;cases ro with
       | nil=>cases hr
       | cons p o =>
         simp only at hr;by_cases c6:ss[p]?=some 91
         · rw[if_pos c6]at hr;cases hr
         · rw[if_neg c6]at hr;injection hr with hr;subst hr;have hw:∃x,ss[p]?=some x/\x≠93:=by
            rcases(hop p (List.mem_cons_self ..)).2 with e|e|⟨e,_⟩
            · exact⟨_,e,by decide⟩
            · exact⟨_,e,by decide⟩
            · exact absurd e c6
           obtain⟨x,hw,x1⟩:=hw;refine⟨by omega,by rw[List.length_set];exact l0,fun w hw=>?_,(hb.keep fun k hk h9=>?_).next fun h9=>?_⟩
           · have:=hop w (List.mem_cons_of_mem _ hw);exact⟨by have:=this.1;omega,this.2⟩
           · rw[ud_ hw x1 k h9,k0 k hk]
           · rw[hs]at h9;cases h9
     · rw[if_neg c5]at hr;by_cases c8:s=93
       · rw[if_pos c8]at hr;cases ro with
         | nil=>cases hr
         | cons p o =>
           simp only at hr;by_cases c9:ss[p]?=some 91
           · rw[if_pos c9]at hr;injection hr with hr;subst hr;have hjp:j<p:=by
              rcases(hop p (List.mem_cons_self ..)).2 with e|e|⟨_,e⟩
              · rw[c9]at e;cases e
              · rw[c9]at e;cases e
              · exact e
             refine⟨by omega,by rw[List.length_set];exact l0,fun w hw=>?_,(hb.keep fun k hk h9=>?_).next fun h9=>?_⟩
             · have:=hop w (List.mem_cons_of_mem _ hw);exact⟨by have:=this.1;omega,this.2⟩
             · rw[List.getElem?_set_ne (by omega),k0 k hk]
             · exact⟨_,List.getElem?_set_self (by rw[l0];exact hln),by omega⟩
           · rw[if_neg c9]at hr;cases hr
       · rw[if_neg c8]at hr;injection hr with hr;subst hr;refine⟨by omega,l0,fun w hw=>⟨by have:=(hop w hw).1;omega,(hop w hw).2⟩,(hb.keep fun k hk _=>k0 k hk).next fun h9=>?_⟩;rw[hs]at h9;injection h9 with h9;exact absurd h9 c8
theorem zdU {ss:List Int}{j:Nat}:∀(rest:List Int)(n:Nat)(r:RSt),n+rest.length=ss.length->(∀i:Nat,rest[i]?=ss[n+i]?)->Dead ss j n r->zdg ss n rest r=none\/∃r',zdg ss n rest r=some r'/\Dead ss j ss.length r'
  | [],n,r,hl,_,h=>.inr ⟨r,rfl,by rw[<-hl];exact h⟩
  | s::rest,n,r,hl,hi,h=>by
    have hs:ss[n]?=some s:=(by have:=hi 0;simpa using this.symm);unfold zdg;cases hr:zaF ss n s ⟨r.tO.set n (-1),r.deep,r.op⟩ with
    | none=>exact .inl rfl
    | some r'=>exact zdU rest (n+1) r' (by rw[<-hl];simp only[List.length_cons];omega) (fun i=>by have:=hi (i+1);simpa[Nat.add_assoc,Nat.add_comm 1 i] using this) (zjd h hs hr)
theorem zgM {ss:List Int}:∀(rest:List Int)(n:Nat)(m:NSt)(r:RSt),n+rest.length=ss.length->(∀i:Nat,rest[i]?=ss[n+i]?)->Sim ss n m r ->
    (∃m' r',gA_ n rest m=some m'/\zdg ss n rest r=some r'/\Sim ss ss.length m' r') \/
    (gA_ n rest m=none/\(zdg ss n rest r=none\/∃r' j,zdg ss n rest r=some r'/\ss[j]?=some 126/\Dead ss j ss.length r'))
  | [],n,m,r,hl,_,h=>.inl ⟨m,r,rfl,rfl,by rw[<-hl];exact h⟩
  | s :: rest,n,m,r,hl,hi,h=>by
    have hs:ss[n]?=some s:=(by have:=hi 0;simpa using this.symm);have hl':n+1+rest.length=ss.length:=(by rw[<-hl];simp only[List.length_cons];omega);have hi':∀i:Nat,rest[i]?=ss[n+1+i]?:=fun i=>(by have:=hi (i+1);simpa[Nat.add_assoc,Nat.add_comm 1 i] using this);rcases zks h hs with⟨m',r',e1,e2,h'⟩|⟨e1,e2⟩|⟨e0,e1,e2⟩
    · unfold gA_ zdg;rw[e1,e2];exact zgM rest (n+1) m' r' hl' hi' h'
    · unfold gA_ zdg;rw[e1,e2];exact .inr ⟨rfl,.inl rfl⟩
    · subst e0;unfold gA_ zdg;rw[e1];have er:zaF ss n 126 ⟨r.tO.set n (-1),r.deep,r.op⟩=some ⟨r.tO.set n (-1),r.deep,r.op⟩:=rfl;rw[er];have hd:Dead ss n (n+1) ⟨r.tO.set n (-1),r.deep,r.op⟩:=(by
       refine⟨by omega,by rw[List.length_set];exact h.lenR,fun w hw=>?_,fun k h1 _ h3 h9=>?_⟩
       · simp only at hw;rw[<-h.op,List.mem_map]at hw;obtain⟨p,hp,rfl⟩:=hw;have hP:=h.parts p hp;obtain⟨a,b|b⟩:=hP.if_ (e2 p hp)
         · exact⟨by have:=hP.ltw;omega,.inl (by rw[b];exact a)⟩
         · exact⟨by have:=hP.ltw;omega,.inr (.inl b)⟩
       · obtain rfl:k=n:=(by omega);rw[hs]at h9;cases h9);refine .inr ⟨rfl,?_⟩;rcases zdU rest (n+1) _ hl' hi' hd with e|⟨r',e,hd'⟩
      · exact .inl e
      · exact .inr ⟨r',n,e,hs,hd'⟩
theorem zgL (ss:List Int):Sim ss 0 ⟨List.replicate ss.length 0,0,[]⟩ ⟨List.replicate ss.length 0,0,[]⟩ :=
 ⟨rfl,rfl,List.length_replicate,List.length_replicate,fun p hp=>(by cases hp),List.Pairwise.nil,fun _ _=>rfl,fun p hp=>(by cases hp),fun j hj=>absurd hj (by omega)⟩
theorem zhE (ss:List Int):(∃m r,gA_ 0 ss ⟨List.replicate ss.length 0,0,[]⟩=some m/\zdg ss 0 ss ⟨List.replicate ss.length 0,0,[]⟩=some r/\Sim ss ss.length m r) \/
    (gA_ 0 ss ⟨List.replicate ss.length 0,0,[]⟩=none/\(zdg ss 0 ss ⟨List.replicate ss.length 0,0,[]⟩=none\/∃r' j,zdg ss 0 ss ⟨List.replicate ss.length 0,0,[]⟩=some r'/\ss[j]?=some 126/\Dead ss j ss.length r')) :=
      zgM ss 0 _ _ (by omega) (fun i=>by rw[Nat.zero_add]) (zgL ss)
theorem Sim.leaves {ss:List Int}{m:NSt}{r:RSt}(h:Sim ss ss.length m r)(ho:m.op=[])(j:Nat)(hj:ss[j]?=some 126) :
    ∃k:Nat,j<k/\k<ss.length/\m.tO[j]?=some ((k:Int)+1)/\ss[k]?=some 93/\(∃v,r.tO[k]?=some v/\v<(j:Int))/\vj_ ss r.tO j 0 k:=by
 have hln:j<ss.length:=by
  rcases Nat.lt_or_ge j ss.length with hk|hk
  · exact hk
  · rw[List.getElem?_eq_none hk]at hj;cases hj
 rcases h.done j hln hj with⟨p,hp,_⟩|hd
 · rw[ho]at hp;cases hp
 · exact hd
def vP_ (ss t:List Int)(j:Nat):Nat->Nat->Int
  | 0,_=>-1
  | f+1,i=>if ss[i]?=some 93/\t.getD i 0<(j:Int) then (i:Int)+1 else vP_ ss t j f (i+1)
theorem u1_ {ss t:List Int}{j k:Nat}(hk:ss[k]?=some 93)(hv:∃v,t[k]?=some v/\v<(j:Int))(hb:vj_ ss t j 0 k):∀(f i:Nat),j<=i->i<=k->k<i+f->vP_ ss t j f i=(k:Int)+1
  | 0,i,_,h1,h2=>absurd h1 (by omega)
  | f+1,i,h0,h1,h2=>by
    unfold vP_;by_cases e:i=k
    · subst e;obtain⟨v,e1,e2⟩:=hv;rw[if_pos ⟨hk,by rw[List.getD_eq_getElem?_getD,e1];exact e2⟩]
    · rw[if_neg,u1_ hk hv hb f (i+1) (by omega) (by omega) (by omega)];rintro⟨a,b⟩;obtain⟨v,e1,e2⟩:=hb i h0 (by omega) (by omega) a;rw[List.getD_eq_getElem?_getD,e1]at b;simp only[Option.getD_some]at b;omega
theorem kZ_ {ss t:List Int}{j n:Nat}(hb:vj_ ss t j 0 n):∀(f i:Nat),j<=i->i+f<=n->vP_ ss t j f i=-1
  | 0,i,_,_=>rfl
  | f+1,i,h0,h1=>by
    unfold vP_;rw[if_neg,kZ_ hb f (i+1) (by omega) (by omega)];rintro⟨a,b⟩;obtain⟨v,e1,e2⟩:=hb i h0 (by omega) (by omega) a;rw[List.getD_eq_getElem?_getD,e1]at b;simp only[Option.getD_some]at b;omega
def gM_ (ss:List Int):Nat->List Int->List Int->Option (List Int)
  | _,[],t=>some t
  | i,s::r,t=>if s=126 then (if vP_ ss t i (ss.length-i) i<0 then none else gM_ ss (i+1) r (t.set i (vP_ ss t i (ss.length-i) i))) else gM_ ss (i+1) r t
def ks_ (ss:List Int):Option (List Int×Nat) :=
 (zdg ss 0 ss ⟨List.replicate ss.length 0,0,[]⟩).bind fun r=>if r.op=[] then (gM_ ss 0 ss r.tO).map fun t=>(t,r.deep) else none
def ky_ (ss:List Int):Option (List Int×Nat) :=
 (gA_ 0 ss ⟨List.replicate ss.length 0,0,[]⟩).bind fun m=>if m.op=[] then some (m.tO,m.deep) else none
theorem gL_ {ss:List Int} {m:NSt} {r:RSt} (h:Sim ss ss.length m r) (ho:m.op=[]):∀(rest:List Int) (n:Nat) (t:List Int),n+rest.length=ss.length->(∀i:Nat,rest[i]?=ss[n+i]?)->t.length=ss.length ->
    (∀j:Nat,ss[j]?≠some 126\/j<n->t[j]?=m.tO[j]?)->gM_ ss n rest t=some m.tO
  | [],n,t,hl,_,hlt,ha=>by
    show some t=_;congr 1;apply List.ext_getElem?;intro j;rcases Nat.lt_or_ge j n with hj|hj
    · exact ha j (.inr hj)
    · have hl':n=ss.length:=hl;rw[List.getElem?_eq_none (by omega),List.getElem?_eq_none (by rw[h.lenM];omega)]
  | s :: rest,n,t,hl,hi,hlt,ha=>by
    have hs:ss[n]?=some s:=(by have:=hi 0;simpa using this.symm);have hl':n+1+rest.length=ss.length:=(by rw[<-hl];simp only[List.length_cons];omega);have hi':∀i:Nat,rest[i]?=ss[n+1+i]?:=fun i=>(by have:=hi (i+1);simpa[Nat.add_assoc,Nat.add_comm 1 i] using this);unfold gM_;by_cases c:s=126
    · rw[if_pos c];subst c;obtain⟨k,k1,k2,k3,k4,⟨v,k5,k6⟩,k7⟩:=h.leaves ho n hs;have h9:∀k:Nat,ss[k]?=some 93->t[k]?=r.tO[k]?:=fun k hk=>(by
       have hne:ss[k]?≠some 126:=(by rw[hk];decide);rw[ha k (.inl hne),h.same k hne]);have hv:vP_ ss t n (ss.length-n) n=(k:Int)+1:=u1_ k4 ⟨v,by rw[h9 k k4];exact k5,k6⟩ (k7.keep fun k' _ hk'=>h9 k' hk') _ n (Nat.le_refl _) (by omega) (by omega);rw[hv,if_neg (by omega)];refine gL_ h ho rest (n+1) _ hl' hi' (by rw[List.length_set];exact hlt) (fun j hj=>?_);by_cases e:n=j
      · subst e;rw[List.getElem?_set_self (by omega),k3]
      · rw[List.getElem?_set_ne e];exact ha j (hj.imp id fun h=>by omega)
    · rw[if_neg c];refine gL_ h ho rest (n+1) t hl' hi' hlt (fun j hj=>?_);rcases hj with hj|hj
      · exact ha j (.inl hj)
      · by_cases e:j=n
        · subst e;exact ha j (.inl (by rw[hs];intro e;injection e with e;exact c e))
        · exact ha j (.inr (by omega))
theorem zcC {ss:List Int} {r:RSt} {d:Nat} (hd:Dead ss d ss.length r) (h6:ss[d]?=some 126):∀(rest:List Int) (n:Nat) (t:List Int),n+rest.length=ss.length->(∀i:Nat,rest[i]?=ss[n+i]?)->n<=d ->
    (∀k:Nat,ss[k]?=some 93->t[k]?=r.tO[k]?)->gM_ ss n rest t=none
  | [],n,t,hl,_,hn,_=>absurd hd.lt (by have:n=ss.length:=hl;omega)
  | s :: rest,n,t,hl,hi,hn,ha=>by
    have hs:ss[n]?=some s:=(by have:=hi 0;simpa using this.symm);have hl':n+1+rest.length=ss.length:=(by rw[<-hl];simp only[List.length_cons];omega);have hi':∀i:Nat,rest[i]?=ss[n+1+i]?:=fun i=>(by have:=hi (i+1);simpa[Nat.add_assoc,Nat.add_comm 1 i] using this);unfold gM_;by_cases c:s=126
    · rw[if_pos c];subst c;by_cases e:n=d
      · subst e;rw[kZ_ (hd.behind.keep fun k _ hk=>ha k hk) _ n (Nat.le_refl _) (by omega),if_pos (by omega)]
      · split
        · rfl
        · exact zcC hd h6 rest (n+1) _ hl' hi' (by omega) (fun k hk=>by rw[List.getElem?_set_ne (fun e=>by subst e;rw[hs]at hk;cases hk)];exact ha k hk)
    · rw[if_neg c];have:n≠d:=fun e=>(by subst e;rw[hs]at h6;injection h6 with h6;exact c h6);exact zcC hd h6 rest (n+1) t hl' hi' (by omega) ha
theorem uY_ (ss:List Int):ky_ ss=ks_ ss:=by
 unfold ky_ ks_;rcases zhE ss with⟨m,r,e1,e2,h⟩|⟨e1,e2|⟨r,d,e2,h6,hd⟩⟩
 · rw[e1,e2];show(if m.op=[] then some (m.tO,m.deep) else none)=if r.op=[] then (gM_ ss 0 ss r.tO).map fun t=>(t,r.deep) else none;by_cases ho:m.op=[]
   · have hr:r.op=[]:=(by rw[<-h.op,ho];rfl);rw[if_pos ho,if_pos hr,gL_ h ho ss 0 r.tO (by omega) (fun i=>by rw[Nat.zero_add]) h.lenR (fun j hj=>(h.same j (hj.resolve_right (by omega))).symm),h.deep];rfl
   · have hr:¬r.op=[]:=fun e=>ho (by rw[<-h.op]at e;exact List.map_eq_nil_iff.1 e);rw[if_neg ho,if_neg hr]
 · rw[e1,e2];rfl
 · rw[e1,e2];show none=if r.op=[] then (gM_ ss 0 ss r.tO).map fun t=>(t,r.deep) else none;rw[zcC hd h6 ss 0 r.tO (by omega) (fun i=>by rw[Nat.zero_add]) (by omega) (fun _ _=>rfl)];split<;>rfl
structure Lo (B:Nat) (T:List Nat) (a b:World):Prop where
  os:b.os=a.os
  tape:b.tape=a.tape
  output:b.output=a.output
  size:a.heap.size<=b.heap.size
  block:∀k,k<B->k<a.heap.size->k∉T->b.heap[k]?=a.heap[k]?
theorem Lo.of_chg {B:Nat}{T T':List Nat}{a b:World}(h:Chg T' a b)(hT:∀i∈T',B<=i\/i∈T):Lo B T a b :=
 ⟨h.os,h.tape,h.output,h.size,fun k hB hk hn=>h.block k hk fun hm=>by rcases hT k hm with h|h;omega;exact hn h⟩
theorem Lo.refl (B:Nat)(T:List Nat)(a:World):Lo B T a a:=Lo.of_chg (Chg.refl [] a) fun i hi=>by cases hi
theorem Lo.trans {B:Nat}{T:List Nat}{a b c:World}(h:Lo B T a b)(k:Lo B T b c):Lo B T a c :=
 ⟨k.os.trans h.os,k.tape.trans h.tape,k.output.trans h.output,Nat.le_trans h.size k.size,fun i hB hi hn=>(k.block i hB (Nat.lt_of_lt_of_le hi h.size) hn).trans (h.block i hB hi hn)⟩
theorem Lo.chg {B:Nat}{T:List Nat}{w a b:World}(h0:Chg [] w a)(h:Lo B T a b)(hB:w.heap.size<=B)(hT:∀i∈T,w.heap.size<=i):Chg [] w b :=
 ⟨h.os.trans h0.os,h.tape.trans h0.tape,h.output.trans h0.output,Nat.le_trans h0.size h.size,fun k hk _=>(h.block k (by omega) (Nat.lt_of_lt_of_le hk h0.size) fun hm=>by have:=hT k hm;omega).trans (h0.block k hk (by simp))⟩
theorem Lo.of_grown {B B2 e k n:Nat}{T:List Nat}{v:Value}{xs:List Value}{a b:World}(ho:a.ownsRow B2 e k v n xs)(hB:B<=B2)(hg:a.grownBy b v.ownBlock):Lo B T a b :=
 ⟨hg.os,hg.tape,hg.output,hg.size,fun i hi hk _=>hg.block i hk fun hc=>by have:=(ho.lt i hc.symm).1;omega⟩
def nts (l:List Nat):List Value:=l.map fun k:Nat=>Value.int .i64 (k:Int)
theorem znJ (l:List Nat):(nts l).length=l.length:=by simp[nts]
theorem znK (l m:List Nat):nts (l++m)=nts l++nts m:=by simp[nts]
theorem zhC (l:List Int)(i:Nat)(x:Int):(nms l).set i (.int .i64 x)=nms (l.set i x):=by simp[nms]
structure PV where
  p:NPart
  v:Value
def pvC (x:PV):List Value:=[.bool x.p.loop,.int .i64 (x.p.at_:Int),.int .i64 (x.p.waits:Int),x.v]
def ki_:List PV->List Value
  | []=>[]
  | x::l=>pvC x++ki_ l
theorem v8_:∀l,(ki_ l).length=l.length*4
  | []=>rfl
  | x::l=>by rw[ki_,List.length_append,v8_ l];simp[pvC];omega
theorem vq_:∀l m,ki_ (l++m)=ki_ l++ki_ m
  | [],_=>rfl
  | x::l,m=>by rw[List.cons_append,ki_,ki_,vq_ l m,List.append_assoc]
theorem gt_ (x:PV):ki_ [x]=pvC x:=by simp[ki_]
theorem y4_:∀(l:List PV)(k:Nat)(x:PV)(j:Nat),l[k]?=some x->j<4->(ki_ l)[k*4+j]?=(pvC x)[j]?
  | [],k,x,j,h,hj=>by simp at h
  | y::l,0,x,j,h,hj=>by
    simp at h;subst h;rw[ki_,List.getElem?_append_left (by simp[pvC];omega)];congr 1;omega
  | y::l,k+1,x,j,h,hj=>by
    simp at h;rw[ki_,List.getElem?_append_right (by simp[pvC];omega)];rw[<-y4_ l k x j h hj];congr 1;simp[pvC];omega
structure Mt (W:World) (gm gt B n:Nat) (m:NSt) (vo:Value) (xs:List PV):Prop where
  rec_:zb_ W gm 244 [.slice (some ⟨gt,0,none⟩) n n,.int .i64 (m.deep:Int),vo]
  to_:zb_ W gt 3 (nms m.tO)
  len:m.tO.length=n
  op:m.op=(xs.map (·.p)).reverse
  own:W.ownsRow B 265 4 vo xs.length (ki_ xs)
  left:∀x∈xs,W.ownsRow B 3 1 x.v x.p.left.length (nts x.p.left)
  apart:xs.Pairwise fun x y=>x.v.ownBlock=none\/x.v.ownBlock≠y.v.ownBlock
  lo:gm<B/\gt<B/\gm≠gt
  few:xs.length<=16
  deep:m.deep<=16
  wf:∀x∈xs,x.p.at_<n/\x.p.waits<n/\x.p.left.length<=n/\∀j∈x.p.left,j<n
  big:n<=100000
  room:B<=W.heap.size
theorem yu_ (W:World)(p:Addr)(u:Value):(W.setCell p u).heap.size=W.heap.size:=by simp[World.setCell]
section
variable {W W':World} {gm gt B n:Nat} {m:NSt} {vo:Value} {xs:List PV}
theorem Mt.keep (h:Mt W gm gt B n m vo xs)(hc:Chg [] W W'):Mt W' gm gt B n m vo xs :=
 { h with rec_:=h.rec_.keep hc,to_:=h.to_.keep hc,own:=ze_ h.own hc,left:=fun x hx=>zk_ (h.left x hx) hc,room:=Nat.le_trans h.room hc.size }
theorem v7_ {e k q g c j:Nat}{u:Value}{cs:List Value}(h:W.ownsRow B e k (.slice (some ⟨g,0,none⟩) q c) q cs):(W.setCell ⟨g,j,none⟩ u).ownsRow B e k (.slice (some ⟨g,0,none⟩) q c) q (cs.set j u):=by
 refine⟨by rw[List.length_set];exact h.1,?_⟩;rcases h.2 with⟨h',_⟩|⟨g',cap,cur,h',hb,hg,hn,hc,hs,ht⟩
 · cases h'
 · injection h' with h1 _ h3;injection h1 with h1;injection h1 with h1;subst h1;subst h3;refine .inr ⟨g,c,cur.setIfInBounds j u,rfl,hb,?_,hn,hc,by simpa using hs,?_⟩
   · have:=heap_setCell_same W g j cur e u hg;simpa using this
   · rw[Array.toList_setIfInBounds,List.take_set,ht]
theorem y0_ {e k q g c j:Nat}{cs:List Value}(h:W.ownsRow B e k (.slice (some ⟨g,0,none⟩) q c) q cs):W.frozen? ⟨g,j,none⟩=false:=by
 rcases h.2 with⟨h',_⟩|⟨g',cap,cur,h',hb,hg,hn,hc,hs,ht⟩
 · cases h'
 · injection h' with h1 _ h3;injection h1 with h1;injection h1 with h1;subst h1;exact frozen_of_row W g j cur e hg
theorem zG_ {e k q:Nat}{v u:Value}{cs:List Value}{p:Addr}(h:W.ownsRow B e k v q cs)(hp:v.ownBlock≠some p.block):(W.setCell p u).ownsRow B e k v q cs:=by
 refine⟨h.1,h.2.imp id ?_⟩;rintro⟨g,cap,cur,rfl,hb,hg,r⟩;exact⟨g,cap,cur,rfl,hb,(Below.heap_setCell W p u g (fun hc=>hp (by rw[<-hc];rfl))).trans hg,r⟩
theorem zdt {B2 e k q e2 k2 q2:Nat}{v v2:Value}{cs cs2:List Value}(h:W.ownsRow B e k v q cs)(h2:W.ownsRow B2 e2 k2 v2 q2 cs2)(hne:e≠e2){g:Nat}(hg:v.ownBlock=some g):v2.ownBlock≠some g:=by
 intro hg2;rcases h.2 with⟨rfl,_⟩|⟨a,cap,cur,rfl,_,ha,_⟩
 · cases hg
 rcases h2.2 with⟨rfl,_⟩|⟨b,cap2,cur2,rfl,_,hb,_⟩
 · cases hg2
 injection hg with hg;injection hg2 with hg2;simp only at hg hg2;rw[hg]at ha;rw[hg2]at hb;rw[ha]at hb;injection hb with hb;injection hb with _ hb _;exact hne hb
theorem x2_ {e k q q':Nat}{A:Option Addr}{c:Nat}{cs:List Value}(h:W.ownsRow B e k (.slice A q c) q cs)(hq:q'<=q)(h0:A≠none):W.ownsRow B e k (.slice A q' c) q' (cs.take (q'*k)):=by
 have hl:=h.1;refine⟨by rw[List.length_take,hl];exact Nat.min_eq_left (Nat.mul_le_mul_right _ hq),?_⟩;rcases h.2 with⟨h',_⟩|⟨g',cap,cur,h',hb,hg,hn,hc,hs,ht⟩
 · injection h' with h1;exact absurd h1 h0
 · injection h' with h1 _ h3;subst h1;subst h3;exact .inr ⟨g',c,cur,rfl,hb,hg,by omega,hc,hs,by rw[<-ht,List.take_take,Nat.min_eq_left (Nat.mul_le_mul_right _ hq)]⟩
theorem Mt.poke (h:Mt W gm gt B n m vo xs)(j:Nat)(x:Int):Mt (W.setCell ⟨gt,j,none⟩ (.int .i64 x)) gm gt B n ⟨m.tO.set j x,m.deep,m.op⟩ vo xs:=by
 have hown:∀{e k q:Nat}{v:Value}{cs:List Value},W.ownsRow B e k v q cs->v.ownBlock≠some gt:=fun ho hc=>by
  have:=(ho.lt gt hc).1;have:=h.lo;omega
 refine { h with rec_:=h.rec_.far (by simpa using h.lo.2.2) _,to_:=?_,len:=by rw[List.length_set];exact h.len,own:=zG_ h.own (hown h.own),left:=fun y hy=>zG_ (h.left y hy) (hown (h.left y hy)),room:=by rw[yu_];exact h.room };have:=h.to_.set_ j (.int .i64 x);rwa[zhC]at this
theorem Mt.waits {ys:List PV}{x:PV}{g c q:Nat}(h:Mt W gm gt B n m vo (ys++[x]))(hv:vo=.slice (some ⟨g,0,none⟩) q c)(i:Nat)(hi:i<n) :
    Mt (W.setCell ⟨g,ys.length*4+2,none⟩ (.int .i64 (i:Int))) gm gt B n ⟨m.tO,m.deep,⟨x.p.loop,x.p.at_,i,x.p.left⟩::(ys.map (·.p)).reverse⟩ vo (ys++[⟨⟨x.p.loop,x.p.at_,i,x.p.left⟩,x.v⟩]):=by
 subst hv;have hq:q=(ys++[x]).length:=by
  rcases h.own.2 with⟨e,_⟩|⟨_,_,_,e,_⟩
  · cases e
  · injection e
 subst hq;have hB:=(h.own.lt g rfl).1;have hlo:=h.lo;refine⟨h.rec_.far (by simp only;omega) _,h.to_.far (by simp only;omega) _,h.len,by simp,?_,fun y hy=>?_,?_,h.lo,by have:=h.few;simpa using this,h.deep,fun y hy=>?_,h.big,by rw[yu_];exact h.room⟩
 · have ho:=v7_ (j:=ys.length*4+2) (u:=.int .i64 (i:Int)) h.own;have e1:(ys++[(⟨⟨x.p.loop,x.p.at_,i,x.p.left⟩,x.v⟩:PV)]).length=(ys++[x]).length:=(by simp);have e2:(ki_ (ys++[x])).set (ys.length*4+2) (.int .i64 (i:Int))=ki_ (ys++[⟨⟨x.p.loop,x.p.at_,i,x.p.left⟩,x.v⟩]):=(by
    rw[vq_,vq_,gt_,gt_,List.set_append_right _ _ (by rw[v8_];omega),v8_];rw[show ys.length*4+2-ys.length*4=2 by omega];rfl);rw[e1,<-e2];exact ho
 · rcases List.mem_append.1 hy with hy|hy
   · exact zG_ (h.left y (List.mem_append_left _ hy)) (zdt h.own (h.left y (List.mem_append_left _ hy)) (by decide) rfl)
   · simp only[List.mem_cons,List.not_mem_nil,or_false]at hy;subst hy;have hx:=h.left x (by simp);exact zG_ hx (zdt h.own hx (by decide) rfl)
 · have:=h.apart;rw[List.pairwise_append]at this⊢;refine⟨this.1,List.pairwise_singleton _ _,fun y hy z hz=>?_⟩;simp only[List.mem_cons,List.not_mem_nil,or_false]at hz;subst hz;exact this.2.2 y hy x (by simp)
 · rcases List.mem_append.1 hy with hy|hy
   · exact h.wf y (List.mem_append_left _ hy)
   · simp only[List.mem_cons,List.not_mem_nil,or_false]at hy;subst hy;have:=h.wf x (by simp);exact⟨this.1,hi,this.2.2⟩
theorem Mt.drop {ys:List PV}{x:PV}{A:Option Addr}{c q:Nat}(h:Mt W gm gt B n m vo (ys++[x]))(hv:vo=.slice A q c) :
    Mt (W.setCell ⟨gm,2,none⟩ (.slice A ys.length c)) gm gt B n ⟨m.tO,m.deep,(ys.map (·.p)).reverse⟩ (.slice A ys.length c) ys:=by
 subst hv;have hq:q=(ys++[x]).length:=by
  rcases h.own.2 with⟨e,e2⟩|⟨_,_,_,e,_⟩
  · injection e with _ e _;rw[e2,e]
  · injection e
 subst hq;have hA:A≠none:=by
  rintro rfl;rcases h.own.2 with⟨e,_⟩|⟨_,_,_,e,_⟩
  · injection e with _ e _;simp at e
  · injection e with e _;cases e
 have hown:∀{e k q:Nat}{v:Value}{cs:List Value},W.ownsRow B e k v q cs->v.ownBlock≠some gm:=fun ho hc=>by
  have:=(ho.lt gm hc).1;have:=h.lo;omega
 have ht:=x2_ (q':=ys.length) h.own (by simp) hA;have e2:(ki_ (ys++[x])).take (ys.length*4)=ki_ ys:=by rw[vq_,<-v8_,List.take_left]
 rw[e2]at ht;refine⟨?_,h.to_.far (by simpa using Ne.symm h.lo.2.2) _,h.len,rfl,zG_ ht (hown ht),fun y hy=>?_,?_,h.lo,by have:=h.few;simp at this;omega,h.deep,fun y hy=>h.wf y (List.mem_append_left _ hy),h.big,by rw[yu_];exact h.room⟩
 · have:=h.rec_.set_ 2 (.slice A ys.length c);simpa using this
 · have:=h.left y (List.mem_append_left _ hy);exact zG_ this (hown this)
 · exact(List.pairwise_append.1 h.apart).1
end
section
variable {W:World} {gm gt B n:Nat} {m:NSt} {vo:Value}
theorem kC_ (h:Mt W gm gt B n m vo []):Calls Tryz.prog 186 #[.pointer (some ⟨gm,0,none⟩)] W fun e w' =>
 e=.returned (.tuple #[.agg #[.bool false,.int .i64 0,.int .i64 0,.slice none 0 0],.bool false])/\Chg [] W w':=by
 obtain⟨A,c,rfl,_,_,_⟩:=zh_ h.own;have hr:=h.rec_;simp only[List.length_nil]at hr;clear h;go_enter Tryz.func186,Tryz.ntmps186;go_upto_region 1 with fail;have hal:Chg [] W (W.alloc (.cells #[.bool false,.int .i64 0,.int .i64 0,.slice none 0 0] 265)):=(Chg.refl [] W).alloc _;have c2:=(hr.keep hal).cell 2;have hN:zb_ (W.alloc (.cells #[.bool false,.int .i64 0,.int .i64 0,.slice none 0 0] 265)) W.heap.size 265 [.bool false,.int .i64 0,.int .i64 0,.slice none 0 0]:=zb_.new W 265 [.bool false,.int .i64 0,.int .i64 0,.slice none 0 0];obtain⟨g9,hg9⟩:∃g,g=W.heap.size:=⟨_,rfl⟩;rw[<-hg9]at hN⊢;generalize W.alloc (.cells #[.bool false,.int .i64 0,.int .i64 0,.slice none 0 0] 265)=w1 at hal c2 hN⊢;have f0:=hN.frozen 0;have f1:=hN.frozen 1;have f2:=hN.frozen 2;have f3:=hN.frozen 3;have k0:=hN.cell 0;have k1:=hN.cell 1;have k2:=hN.cell 2;have k3:=hN.cell 3;have HC:=hQ_ (show Chg [] W (w1) from hal);have HN:=hQ_ hN;have HG:=hQ_ hg9;clear hal hN hg9 hr;go_wp2_with fail;have hz:=(((HN.o.set_ 0 (.bool false)).set_ 1 (.int .i64 0)).set_ 2 (.int .i64 0)).set_ 3 (.slice none 0 0);simp only[List.set_cons_zero,List.set_cons_succ]at hz;have HCz:=hQ_ (((((HC.o.setCell (p:=⟨g9,0,none⟩) (fun h=>absurd h (by have:=HG.o;simp only;omega)) (.bool false)).setCell (p:=⟨g9,1,none⟩) (fun h=>absurd h (by have:=HG.o;simp only;omega)) (.int .i64 0)).setCell (p:=⟨g9,2,none⟩) (fun h=>absurd h (by have:=HG.o;simp only;omega)) (.int .i64 0)).setCell (p:=⟨g9,3,none⟩) (fun h=>absurd h (by have:=HG.o;simp only;omega)) (.slice none 0 0)));generalize (((w1.setCell ⟨g9,0,none⟩ (.bool false)).setCell ⟨g9,1,none⟩ (.int .i64 0)).setCell ⟨g9,2,none⟩ (.int .i64 0)).setCell ⟨g9,3,none⟩ (.slice none 0 0)=w9 at hz HCz⊢;clear k0 k1 k2 k3 f0 f1 f2 f3 c2;have k0:=hz.cell 0;have k1:=hz.cell 1;have k2:=hz.cell 2;have k3:=hz.cell 3;exact bodyPost_ret (v:=.tuple #[.agg #[.bool false,.int .i64 0,.int .i64 0,.slice none 0 0],.bool false]) (by simp[results,Tryz.results186,go_sem,k0,k1,k2,k3]) rfl ⟨rfl,HCz.o⟩
theorem xx_ {ys:List PV}{x:PV}(h:Mt W gm gt B n m vo (ys++[x])):Calls Tryz.prog 186 #[.pointer (some ⟨gm,0,none⟩)] W fun e w' =>
 e=.returned (.tuple #[.agg #[.bool x.p.loop,.int .i64 (x.p.at_:Int),.int .i64 (x.p.waits:Int),x.v],.bool true])/\Chg [] W w':=by
 obtain⟨px,vx⟩:=x;obtain⟨Av,cv,e,_⟩:=zr_ (h.left ⟨px,vx⟩ (by simp));simp only at e;subst e;have hl:(ys++[(⟨px,.slice Av px.left.length cv⟩:PV)]).length=ys.length+1:=by simp
 obtain⟨A,c,rfl,hc1,hc2,_⟩:=zh_ h.own;have hr:=h.rec_;rw[hl]at hr hc1;have hf:=h.few;rw[hl]at hf;have hal:Chg [] W (W.alloc (.cells #[.bool false,.int .i64 0,.int .i64 0,.slice none 0 0] 265)):=(Chg.refl [] W).alloc _;have hg:∀j u,(pvC ⟨px,.slice Av px.left.length cv⟩)[j]?=some u->j<4->(ki_ (ys++[⟨px,.slice Av px.left.length cv⟩]))[ys.length*4+j]?=some u:=fun j u hu hj=>(y4_ (ys++[⟨px,.slice Av px.left.length cv⟩]) ys.length ⟨px,.slice Av px.left.length cv⟩ j (by simp) hj).trans hu;obtain⟨g,rfl,j0⟩:=zv_ (ze_ h.own hal) rfl (hg 0 _ rfl (by omega));obtain⟨g',e,j1⟩:=zv_ (ze_ h.own hal) rfl (hg 1 _ rfl (by omega));injection e with e;injection e with e;subst e;obtain⟨g',e,j2⟩:=zv_ (ze_ h.own hal) rfl (hg 2 _ rfl (by omega));injection e with e;injection e with e;subst e;obtain⟨g',e,j3⟩:=zv_ (ze_ h.own hal) rfl (hg 3 _ rfl (by omega));injection e with e;injection e with e;subst e;generalize ys.length=q at *;clear hg hl h;rw[Nat.add_zero]at j0;have hsub:IntKind.i64.wrap (((q+1:Nat):Int)-1)=(q:Int):=by rw[IntWalk.i64_in _ (by omega)];omega
 have hne:(((q+1:Nat):Int)==0)=false:=by simp;omega
 have hq0:(0:Int)<=(q:Int):=by omega
 have hq1:(q:Int)<((q+1:Nat):Int):=by omega
 go_enter Tryz.func186,Tryz.ntmps186;go_upto_region 1 with fail;have c2:=(hr.keep hal).cell 2;have hN:zb_ (W.alloc (.cells #[.bool false,.int .i64 0,.int .i64 0,.slice none 0 0] 265)) W.heap.size 265 [.bool false,.int .i64 0,.int .i64 0,.slice none 0 0]:=zb_.new W 265 [.bool false,.int .i64 0,.int .i64 0,.slice none 0 0];obtain⟨g9,hg9⟩:∃g,g=W.heap.size:=⟨_,rfl⟩;rw[<-hg9]at hN⊢;generalize W.alloc (.cells #[.bool false,.int .i64 0,.int .i64 0,.slice none 0 0] 265)=w1 at hal c2 hN j0 j1 j2 j3⊢;have f0:=hN.frozen 0;have f1:=hN.frozen 1;have f2:=hN.frozen 2;have f3:=hN.frozen 3;have k0:=hN.cell 0;have k1:=hN.cell 1;have k2:=hN.cell 2;have k3:=hN.cell 3;have HC:=hQ_ (show Chg [] W (w1) from hal);have HN:=hQ_ hN;have HG:=hQ_ hg9;clear hal hN hg9 hr;go_wp2_with fail;go_region;have hz:=(((HN.o.set_ 0 (.bool px.loop)).set_ 1 (.int .i64 (px.at_:Int))).set_ 2 (.int .i64 (px.waits:Int))).set_ 3 (.slice Av px.left.length cv);simp only[List.set_cons_zero,List.set_cons_succ]at hz;have HCz:=hQ_ (((((HC.o.setCell (p:=⟨g9,0,none⟩) (fun h=>absurd h (by have:=HG.o;simp only;omega)) (.bool px.loop)).setCell (p:=⟨g9,1,none⟩) (fun h=>absurd h (by have:=HG.o;simp only;omega)) (.int .i64 (px.at_:Int))).setCell (p:=⟨g9,2,none⟩) (fun h=>absurd h (by have:=HG.o;simp only;omega)) (.int .i64 (px.waits:Int))).setCell (p:=⟨g9,3,none⟩) (fun h=>absurd h (by have:=HG.o;simp only;omega)) (.slice Av px.left.length cv)));have hz2:=hz.drew;have HCz2:=hQ_ HCz.o.drew;generalize ((((w1.setCell ⟨g9,0,none⟩ (.bool px.loop)).setCell ⟨g9,1,none⟩ (.int .i64 (px.at_:Int))).setCell ⟨g9,2,none⟩ (.int .i64 (px.waits:Int))).setCell ⟨g9,3,none⟩ (.slice Av px.left.length cv)).drew=w9 at hz2 HCz2⊢;clear k0 k1 k2 k3 f0 f1 f2 f3 c2 j0 j1 j2 j3 hz HCz;have k0:=hz2.cell 0;have k1:=hz2.cell 1;have k2:=hz2.cell 2;have k3:=hz2.cell 3;go_wp2_with fail;exact bodyPost_ret (v:=.tuple #[.agg #[.bool px.loop,.int .i64 (px.at_:Int),.int .i64 (px.waits:Int),.slice Av px.left.length cv],.bool true]) (by simp[results,Tryz.results186,go_sem,k0,k1,k2,k3]) rfl ⟨rfl,HCz2.o⟩
end
section
variable {W:World} {gm gt B n:Nat} {m:NSt} {vo:Value}
theorem zfn (h:Mt W gm gt B n m vo [])(i:Nat):Calls Tryz.prog 174 #[.pointer (some ⟨gm,0,none⟩),.int .i64 (i:Int)] W (yd_ false W):=by
 go_enter Tryz.func174,Tryz.ntmps174;go_wp2_with fail;refine(kC_ h).mono ?_;rintro e w1 ⟨rfl,hc1⟩;have HC:=hQ_ (hc1.alloc (.cells #[.bool false,.int .i64 0,.int .i64 0,.slice none 0 0] 265));clear hc1 h;go_wp2_with fail;go_ret;exact⟨rfl,HC.o⟩
theorem zlu {ys:List PV}{x:PV}(h:Mt W gm gt B n m vo (ys++[x]))(hn:x.p.loop=true\/x.p.waits≠x.p.at_)(i:Nat):Calls Tryz.prog 174 #[.pointer (some ⟨gm,0,none⟩),.int .i64 (i:Int)] W (yd_ false W):=by
 have hin:=xx_ h;obtain⟨⟨lp,at_,wt,lf⟩,vx⟩:=x;obtain⟨Av,cv,e,_⟩:=zr_ (h.left ⟨⟨lp,at_,wt,lf⟩,vx⟩ (by simp));simp only at e;subst e;simp only at hin hn;clear h;go_enter Tryz.func174,Tryz.ntmps174;go_wp2_with fail;refine hin.mono ?_;rintro e w1 ⟨rfl,hc1⟩;have HC:=hQ_ (hc1.alloc (.cells #[.bool lp,.int .i64 (at_:Int),.int .i64 (wt:Int),.slice Av lf.length cv] 265));clear hc1 hin;by_cases hl:lp=true
 · subst hl;go_wp2_with fail;go_ret;exact⟨rfl,HC.o⟩
 · obtain rfl:lp=false:=(by simpa using hl);have hne:wt≠at_:=(by simpa using hn);have hd:((wt:Int) != (at_:Int))=true:=(by simp;omega);go_wp2_with fail;go_ret;exact⟨rfl,HC.o⟩
def vZ_ (gm gt B n:Nat)(m':NSt)(W:World)(e:Ending)(w':World):Prop:=e=.returned (.bool true)/\(∃vo' xs',Mt w' gm gt B n m' vo' xs')/\Lo B [gm,gt] W w'
theorem zio {ys:List PV}{x:PV}(h:Mt W gm gt B n m vo (ys++[x]))(hl:x.p.loop=false)(hw:x.p.waits=x.p.at_)(i:Nat)(hi:i<n):Calls Tryz.prog 174 #[.pointer (some ⟨gm,0,none⟩),.int .i64 (i:Int)] W
    (vZ_ gm gt B n ⟨m.tO.set x.p.at_ ((i:Int)+1),m.deep,⟨x.p.loop,x.p.at_,i,x.p.left⟩::(ys.map (·.p)).reverse⟩ W):=by
      have hin:=xx_ h;obtain⟨⟨lp,at_,wt,lf⟩,vx⟩:=x;obtain⟨Av,cv,e,_⟩:=zr_ (h.left ⟨⟨lp,at_,wt,lf⟩,vx⟩ (by simp));simp only at e hl hw;have hw':=hw.symm;subst e hl hw';simp only at hin;have H:=hQ_ h;clear h;go_enter Tryz.func174,Tryz.ntmps174;go_wp2_with fail;refine hin.mono ?_;rintro e w1 ⟨rfl,hc1⟩;clear hin;go_upto_region 2 with fail;have hal:Chg [] w1 (w1.alloc (.cells #[.bool false,.int .i64 (at_:Int),.int .i64 (at_:Int),.slice Av lf.length cv] 265)):=(Chg.refl [] w1).alloc _;have hN:zb_ (w1.alloc (.cells #[.bool false,.int .i64 (at_:Int),.int .i64 (at_:Int),.slice Av lf.length cv] 265)) w1.heap.size 265 [.bool false,.int .i64 (at_:Int),.int .i64 (at_:Int),.slice Av lf.length cv]:=zb_.new w1 265 [.bool false,.int .i64 (at_:Int),.int .i64 (at_:Int),.slice Av lf.length cv];obtain⟨g5,hg5⟩:∃g,g=w1.heap.size:=⟨_,rfl⟩;rw[<-hg5]at hN⊢;generalize w1.alloc (.cells #[.bool false,.int .i64 (at_:Int),.int .i64 (at_:Int),.slice Av lf.length cv] 265)=w2 at hal hN⊢;have HC2:=hQ_ (hc1.new hal);have H2:=hQ_ (H.o.keep HC2.o);have HN:=hQ_ hN;have HG:=hQ_ (show gm<w1.heap.size/\gt<w1.heap.size from⟨(H.o.rec_.keep hc1).lt,(H.o.to_.keep hc1).lt⟩);have HG5:=hQ_ hg5;clear hal hN hc1 hg5;have hlo:=H2.o.lo;have hat:=(H2.o.wf _ (List.mem_append_right _ (List.mem_singleton_self _))).1;simp only at hat;obtain⟨b0,b1,b2⟩:=(show w2.cell? ⟨g5,0,none⟩=some (.bool false)/\w2.cell? ⟨g5,1,none⟩=some (.int .i64 (at_:Int))/\w2.cell? ⟨g5,2,none⟩=some (.int .i64 (at_:Int)) from⟨HN.o.cell 0,HN.o.cell 1,HN.o.cell 2⟩);have c0:=H2.o.rec_.cell 0;have t0:w2.cell? ⟨gt,at_,none⟩=some (.int .i64 (m.tO[at_]'(by rw[H2.o.len];exact hat))):=(H2.o.to_.cell at_).trans (j0_ _ _ (by rw[H2.o.len];exact hat));have f0:=H2.o.to_.frozen at_;have hat0:(0:Int)<=(at_:Int):=(by omega);have hat1:(at_:Int)<(n:Int):=(by omega);have hbig:=H2.o.big;have hsum:IntKind.i64.wrap ((i:Int)+1)=(i:Int)+1:=IntWalk.i64_in _ (by omega);have hdn:((at_:Int) != (at_:Int))=false:=(by simp);go_wp2_with fail;go_region;have H3:=hQ_ ((H2.o.poke at_ ((i:Int)+1)).keep (Chg.refl [] _).drew);have HL3:=hQ_ (show Lo B [gm,gt] W (w2.setCell ⟨gt,at_,none⟩ (.int .i64 ((i:Int)+1))).drew from Lo.of_chg ((HC2.o.sub (T':=[gt]) (by simp)).setCell (p:=⟨gt,at_,none⟩) (by simp) (.int .i64 ((i:Int)+1))).drew (by simp));generalize (w2.setCell ⟨gt,at_,none⟩ (.int .i64 ((i:Int)+1))).drew=w3 at H3 HL3⊢;clear b0 b1 b2 c0 t0 f0 hsum hdn;obtain⟨A,c,rfl,hc1,hc2,_⟩:=zh_ H3.o.own;have hll:(ys++[(⟨⟨false,at_,at_,lf⟩,.slice Av lf.length cv⟩:PV)]).length=ys.length+1:=(by simp);have c2:=H3.o.rec_.cell 2;obtain⟨g,rfl,j2⟩:=zv_ H3.o.own rfl ((y4_ _ ys.length _ 2 (by simp) (by omega)).trans (show(pvC ⟨⟨false,at_,at_,lf⟩,.slice Av lf.length cv⟩)[2]?=some (.int .i64 (at_:Int)) from rfl));rw[hll]at c2;have f2:w3.frozen? ⟨g,ys.length*4+2,none⟩=false:=y0_ H3.o.own;have H4:=hQ_ (H3.o.waits rfl i hi);have hfew:=H3.o.few;have HGB:=hQ_ (H3.o.own.lt g rfl).1;rw[hll]at hfew;obtain⟨q,hq⟩:∃q,q=ys.length:=⟨_,rfl⟩;rw[<-hq]at c2 j2 f2 hfew H4;have hsub:IntKind.i64.wrap (((q+1:Nat):Int)-1)=(q:Int):=(by rw[IntWalk.i64_in _ (by omega)];omega);have hq0:(0:Int)<=(q:Int):=(by omega);have hq1:(q:Int)<((q+1:Nat):Int):=(by omega);clear hq hll H3;go_wp2_with fail;go_region;have HL4:=hQ_ (show Lo B [gm,gt] W (w3.setCell ⟨g,q*4+2,none⟩ (.int .i64 (i:Int))).drew from HL3.o.trans (Lo.of_chg ((Chg.refl [g] w3).setCell (p:=⟨g,q*4+2,none⟩) (by simp) _).drew (by have:=HGB.o;simp;omega)));have H5:=hQ_ (H4.o.keep (Chg.refl [] _).drew);generalize (w3.setCell ⟨g,q*4+2,none⟩ (.int .i64 (i:Int))).drew=w4 at HL4 H5⊢;clear c2 j2 f2 hsub;go_wp2_with fail;go_ret;exact⟨rfl,⟨_,_,H5.o⟩,HL4.o⟩
end
section
variable {W:World} {gm gt B n:Nat} {m:NSt} {vo:Value}
theorem zfI (h:Mt W gm gt B n m vo [])(i:Nat):Calls Tryz.prog 175 #[.pointer (some ⟨gm,0,none⟩),.int .i64 (i:Int)] W (yd_ false W):=by
 go_enter Tryz.func175,Tryz.ntmps175;go_wp2_with fail;refine(kC_ h).mono ?_;rintro e w1 ⟨rfl,hc1⟩;have HC:=hQ_ (hc1.alloc (.cells #[.bool false,.int .i64 0,.int .i64 0,.slice none 0 0] 265));clear hc1 h;go_wp2_with fail;go_ret;exact⟨rfl,HC.o⟩
theorem zlI {ys:List PV}{x:PV}(h:Mt W gm gt B n m vo (ys++[x]))(hn:x.p.loop=true)(i:Nat):Calls Tryz.prog 175 #[.pointer (some ⟨gm,0,none⟩),.int .i64 (i:Int)] W (yd_ false W):=by
 have hin:=xx_ h;obtain⟨⟨lp,at_,wt,lf⟩,vx⟩:=x;obtain⟨Av,cv,e,_⟩:=zr_ (h.left ⟨⟨lp,at_,wt,lf⟩,vx⟩ (by simp));simp only at e;subst e;simp only at hin hn;clear h;subst hn;go_enter Tryz.func175,Tryz.ntmps175;go_wp2_with fail;refine hin.mono ?_;rintro e w1 ⟨rfl,hc1⟩;have HC:=hQ_ (hc1.alloc (.cells #[.bool true,.int .i64 (at_:Int),.int .i64 (wt:Int),.slice Av lf.length cv] 265));clear hc1 hin;go_wp2_with fail;go_ret;exact⟨rfl,HC.o⟩
theorem ziT {ys:List PV}{x:PV}(h:Mt W gm gt B n m vo (ys++[x]))(hl:x.p.loop=false)(i:Nat):Calls Tryz.prog 175 #[.pointer (some ⟨gm,0,none⟩),.int .i64 (i:Int)] W
    (vZ_ gm gt B n ⟨m.tO.set x.p.waits (i:Int),m.deep,(ys.map (·.p)).reverse⟩ W):=by
      have hin:=xx_ h;obtain⟨⟨lp,at_,wt,lf⟩,vx⟩:=x;obtain⟨Av,cv,e,_⟩:=zr_ (h.left ⟨⟨lp,at_,wt,lf⟩,vx⟩ (by simp));simp only at e hl;subst e hl;simp only at hin;have H:=hQ_ h;clear h;go_enter Tryz.func175,Tryz.ntmps175;go_wp2_with fail;refine hin.mono ?_;rintro e w1 ⟨rfl,hc1⟩;clear hin;go_upto_region 2 with fail;have hal:Chg [] w1 (w1.alloc (.cells #[.bool false,.int .i64 (at_:Int),.int .i64 (wt:Int),.slice Av lf.length cv] 265)):=(Chg.refl [] w1).alloc _;have hN:zb_ (w1.alloc (.cells #[.bool false,.int .i64 (at_:Int),.int .i64 (wt:Int),.slice Av lf.length cv] 265)) w1.heap.size 265 [.bool false,.int .i64 (at_:Int),.int .i64 (wt:Int),.slice Av lf.length cv]:=zb_.new w1 265 [.bool false,.int .i64 (at_:Int),.int .i64 (wt:Int),.slice Av lf.length cv];obtain⟨g5,hg5⟩:∃g,g=w1.heap.size:=⟨_,rfl⟩;rw[<-hg5]at hN⊢;generalize w1.alloc (.cells #[.bool false,.int .i64 (at_:Int),.int .i64 (wt:Int),.slice Av lf.length cv] 265)=w2 at hal hN⊢;have HC2:=hQ_ (hc1.new hal);have H2:=hQ_ (H.o.keep HC2.o);have HN:=hQ_ hN;clear hal hN hc1 hg5;have hwt:=(H2.o.wf _ (List.mem_append_right _ (List.mem_singleton_self _))).2.1;simp only at hwt;obtain⟨b0,b2⟩:=(show w2.cell? ⟨g5,0,none⟩=some (.bool false)/\w2.cell? ⟨g5,2,none⟩=some (.int .i64 (wt:Int)) from⟨HN.o.cell 0,HN.o.cell 2⟩);have c0:=H2.o.rec_.cell 0;have t0:w2.cell? ⟨gt,wt,none⟩=some (.int .i64 (m.tO[wt]'(by rw[H2.o.len];exact hwt))):=(H2.o.to_.cell wt).trans (j0_ _ _ (by rw[H2.o.len];exact hwt));have f0:=H2.o.to_.frozen wt;have hat0:(0:Int)<=(wt:Int):=(by omega);have hat1:(wt:Int)<(n:Int):=(by omega);have hbig:=H2.o.big;go_wp2_with fail;go_region;have H3:=hQ_ ((H2.o.poke wt (i:Int)).keep (Chg.refl [] _).drew);have HL3:=hQ_ (show Lo B [gm,gt] W (w2.setCell ⟨gt,wt,none⟩ (.int .i64 (i:Int))).drew from Lo.of_chg ((HC2.o.sub (T':=[gt]) (by simp)).setCell (p:=⟨gt,wt,none⟩) (by simp) (.int .i64 (i:Int))).drew (by simp));generalize (w2.setCell ⟨gt,wt,none⟩ (.int .i64 (i:Int))).drew=w3 at H3 HL3⊢;clear b0 b2 c0 t0 f0;obtain⟨A,c,rfl,hc1,hc2,_⟩:=zh_ H3.o.own;have hll:(ys++[(⟨⟨false,at_,wt,lf⟩,.slice Av lf.length cv⟩:PV)]).length=ys.length+1:=(by simp);have c2:=H3.o.rec_.cell 2;have f2:=H3.o.rec_.frozen 2;rw[hll]at c2 hc1;obtain⟨g,rfl,_⟩:=zv_ H3.o.own rfl ((y4_ _ ys.length _ 2 (by simp) (by omega)).trans (show(pvC ⟨⟨false,at_,wt,lf⟩,.slice Av lf.length cv⟩)[2]?=some (.int .i64 (wt:Int)) from rfl));have H4:=hQ_ (H3.o.drop rfl);have hfew:=H3.o.few;rw[hll]at hfew;obtain⟨q,hq⟩:∃q,q=ys.length:=⟨_,rfl⟩;rw[<-hq]at c2 hfew H4 hc1;have hsub:IntKind.i64.wrap (((q+1:Nat):Int)-1)=(q:Int):=(by rw[IntWalk.i64_in _ (by omega)];omega);have hq0:(0:Int)<=(q:Int):=(by omega);have hq1:(q:Int)<((q+1:Nat):Int):=(by omega);have hq2:(q:Int)<=(c:Int):=(by omega);have hqt:(q:Int).toNat=q:=Int.toNat_natCast _;clear hq hll H3;go_wp2_with fail;go_region;have HL4:=hQ_ (show Lo B [gm,gt] W (w3.setCell ⟨gm,2,none⟩ (.slice (some ⟨g,0,none⟩) q c)).drew from HL3.o.trans (Lo.of_chg ((Chg.refl [gm] w3).setCell (p:=⟨gm,2,none⟩) (by simp) _).drew (by simp)));have H5:=hQ_ (H4.o.keep (Chg.refl [] _).drew);generalize (w3.setCell ⟨gm,2,none⟩ (.slice (some ⟨g,0,none⟩) q c)).drew=w4 at HL4 H5⊢;clear c2 f2 hsub;go_wp2_with fail;go_ret;exact⟨rfl,⟨_,_,H5.o⟩,HL4.o⟩
end
theorem jN_ (v:Int)(j:Nat):∀(l:List Nat)(t:List Int),y9_ v (l++[j]) t=(y9_ v l t).set j v
  | [],t=>rfl
  | k::l,t=>by rw[List.cons_append,y9_,jN_ v j l,y9_]
section
variable {W:World} {gm gt B n:Nat} {m:NSt} {vo:Value}
theorem zbl (h:Mt W gm gt B n m vo [])(i:Nat):Calls Tryz.prog 176 #[.pointer (some ⟨gm,0,none⟩),.int .i64 (i:Int)] W (yd_ false W):=by
 go_enter Tryz.func176,Tryz.ntmps176;go_wp2_with fail;refine(kC_ h).mono ?_;rintro e w1 ⟨rfl,hc1⟩;have HC:=hQ_ (hc1.alloc (.cells #[.bool false,.int .i64 0,.int .i64 0,.slice none 0 0] 265));clear hc1 h;go_wp2_with fail;go_ret;exact⟨rfl,HC.o⟩
theorem zfH {ys:List PV}{x:PV}(h:Mt W gm gt B n m vo (ys++[x]))(hn:x.p.loop=false)(i:Nat):Calls Tryz.prog 176 #[.pointer (some ⟨gm,0,none⟩),.int .i64 (i:Int)] W (yd_ false W):=by
 have hin:=xx_ h;obtain⟨⟨lp,at_,wt,lf⟩,vx⟩:=x;obtain⟨Av,cv,e,_⟩:=zr_ (h.left ⟨⟨lp,at_,wt,lf⟩,vx⟩ (by simp));simp only at e;subst e;simp only at hin hn;clear h;subst hn;go_enter Tryz.func176,Tryz.ntmps176;go_wp2_with fail;refine hin.mono ?_;rintro e w1 ⟨rfl,hc1⟩;have HC:=hQ_ (hc1.alloc (.cells #[.bool false,.int .i64 (at_:Int),.int .i64 (wt:Int),.slice Av lf.length cv] 265));clear hc1 hin;go_wp2_with fail;go_ret;exact⟨rfl,HC.o⟩
theorem zcD {ys:List PV}{x:PV}(h:Mt W gm gt B n m vo (ys++[x]))(hl:x.p.loop=true)(i:Nat)(hi:i<n):Calls Tryz.prog 176 #[.pointer (some ⟨gm,0,none⟩),.int .i64 (i:Int)] W
    (vZ_ gm gt B n ⟨y9_ ((i:Int)+1) x.p.left (m.tO.set i (x.p.at_:Int)),m.deep,(ys.map (·.p)).reverse⟩ W):=by
      have hin:=xx_ h;obtain⟨⟨lp,at_,wt,lf⟩,vx⟩:=x;obtain⟨Av,cv,e,_⟩:=zr_ (h.left ⟨⟨lp,at_,wt,lf⟩,vx⟩ (by simp));simp only at e hl;subst e hl;simp only at hin;have H:=hQ_ h;clear h;go_enter Tryz.func176,Tryz.ntmps176;go_wp2_with fail;refine hin.mono ?_;rintro e w1 ⟨rfl,hc1⟩;clear hin;go_upto_region 2 with fail;have hal:Chg [] w1 (w1.alloc (.cells #[.bool true,.int .i64 (at_:Int),.int .i64 (wt:Int),.slice Av lf.length cv] 265)):=(Chg.refl [] w1).alloc _;have hN:zb_ (w1.alloc (.cells #[.bool true,.int .i64 (at_:Int),.int .i64 (wt:Int),.slice Av lf.length cv] 265)) w1.heap.size 265 [.bool true,.int .i64 (at_:Int),.int .i64 (wt:Int),.slice Av lf.length cv]:=zb_.new w1 265 [.bool true,.int .i64 (at_:Int),.int .i64 (wt:Int),.slice Av lf.length cv];obtain⟨g5,hg5⟩:∃g,g=w1.heap.size:=⟨_,rfl⟩;rw[<-hg5]at hN⊢;generalize w1.alloc (.cells #[.bool true,.int .i64 (at_:Int),.int .i64 (wt:Int),.slice Av lf.length cv] 265)=w2 at hal hN⊢;have HC2:=hQ_ (hc1.new hal);have H2:=hQ_ (H.o.keep HC2.o);have HN:=hQ_ hN;have HG:=hQ_ (show gt<g5 by rw[hg5];exact(H.o.to_.keep hc1).lt);clear hal hN hc1 hg5;obtain⟨b0,b1⟩:=(show w2.cell? ⟨g5,0,none⟩=some (.bool true)/\w2.cell? ⟨g5,1,none⟩=some (.int .i64 (at_:Int)) from⟨HN.o.cell 0,HN.o.cell 1⟩);have c0:=H2.o.rec_.cell 0;have t0:w2.cell? ⟨gt,i,none⟩=some (.int .i64 (m.tO[i]'(by rw[H2.o.len];exact hi))):=(H2.o.to_.cell i).trans (j0_ _ _ (by rw[H2.o.len];exact hi));have f0:=H2.o.to_.frozen i;have hat0:(0:Int)<=(i:Int):=(by omega);have hat1:(i:Int)<(n:Int):=(by omega);have hbig:=H2.o.big;go_wp2_with fail;go_region;have H3:=hQ_ ((H2.o.poke i (at_:Int)).keep (Chg.refl [] _).drew);have HL3:=hQ_ (show Lo B [gm,gt] W (w2.setCell ⟨gt,i,none⟩ (.int .i64 (at_:Int))).drew from Lo.of_chg ((HC2.o.sub (T':=[gt]) (by simp)).setCell (p:=⟨gt,i,none⟩) (by simp) (.int .i64 (at_:Int))).drew (by simp));have HN3:=hQ_ (show zb_ (w2.setCell ⟨gt,i,none⟩ (.int .i64 (at_:Int))).drew g5 265 [.bool true,.int .i64 (at_:Int),.int .i64 (wt:Int),.slice Av lf.length cv] from(HN.o.far (by have:=HG.o;simp only;omega) _).drew);generalize (w2.setCell ⟨gt,i,none⟩ (.int .i64 (at_:Int))).drew=w3 at H3 HL3 HN3⊢;clear b0 b1 c0 t0 f0;have b3:=HN3.o.cell 3;have hsum:IntKind.i64.wrap ((i:Int)+1)=(i:Int)+1:=IntWalk.i64_in _ (by omega);obtain⟨T,hT⟩:∃T,T=m.tO.set i (at_:Int):=⟨_,rfl⟩;rw[<-hT]at H3;have HTT:=hQ_ hT;obtain⟨N,hN⟩:∃N,N=lf.length:=⟨_,rfl⟩;have HLF:=hQ_ (H3.o.wf _ (List.mem_append_right _ (List.mem_singleton_self _))).2.2;have hNb:N<=100000:=(by have:=HLF.o.1;simp only at this;omega);rw[<-hN]at b3;have HNN:=hQ_ hN;clear hT hN;go_wp2_with fail;go_loopw [8,32] (fun _ s wr=>∃k:Nat,k<=N/\s=.int .i64 (k:Int)/\Hid (Mt wr gm gt B n ⟨y9_ ((i:Int)+1) (lf.take k) T,m.deep,m.op⟩ vo (ys++[⟨⟨true,at_,wt,lf⟩,.slice Av lf.length cv⟩]))/\Hid (Lo B [gm,gt] W wr)) (fun _ s _=>N-(intOf s).toNat);(case atStart=>exact⟨0,Nat.zero_le _,rfl,H3,HL3⟩);case round =>
       obtain⟨k,hk,rfl,HM,HLr⟩:=hrel;by_cases hlt:k<N
       · have hltI:(k:Int)<(N:Int):=(by omega);have hkl:k<lf.length:=(by rw[<-HNN.o];exact hlt);obtain⟨Av',cv',e,_,_,hs,hsp⟩:=zr_ (HM.o.left _ (List.mem_append_right _ (List.mem_singleton_self _)));simp only at e;injection e with e1 _ e3;subst e1 e3;obtain⟨⟨bA,oA,sA⟩,rfl,_,hx⟩:=hs (by rw[znJ];simp only;omega);obtain rfl:sA=none:=(hsp _ rfl).1;have hx1:=hx k (.int .i64 ((lf[k]'hkl:Nat):Int)) (by simp[nts,hkl]);rw[zl_]at hx1;have hj:=HLF.o.2 lf[k] (List.getElem_mem hkl);have HTK:=hQ_ (show lf.take (k+1)=lf.take k++[lf[k]] by rw[List.take_succ_eq_append_getElem hkl]);generalize lf[k]=j at hx1 hj HTK;have hj0:(0:Int)<=(j:Int):=(by omega);have hj1:(j:Int)<(n:Int):=(by omega);have c0:=HM.o.rec_.cell 0;obtain⟨T2,hT2⟩:∃T9,T9=y9_ ((i:Int)+1) (lf.take k) T:=⟨_,rfl⟩;have HM':=HM;rw[<-hT2]at HM';have t0:wr.cell? ⟨gt,j,none⟩=some (.int .i64 (T2[j]'(by rw[HM'.out.len];exact hj))):=(HM'.out.to_.cell j).trans (j0_ _ _ (by rw[HM'.out.len];exact hj));have f0:=HM'.out.to_.frozen j;have HMz:=hQ_ (show Mt (wr.setCell ⟨gt,j,none⟩ (.int .i64 ((i:Int)+1))) gm gt B n ⟨y9_ ((i:Int)+1) (lf.take (k+1)) T,m.deep,m.op⟩ vo (ys++[⟨⟨true,at_,wt,lf⟩,.slice (some ⟨bA,oA,none⟩) lf.length cv⟩]) from by
          have h:=HM'.out.poke j ((i:Int)+1);rw[HTK.o,jN_,<-hT2];exact h);have HLz:=hQ_ (show Lo B [gm,gt] W (wr.setCell ⟨gt,j,none⟩ (.int .i64 ((i:Int)+1))) from HLr.o.trans (Lo.of_chg ((Chg.refl [gt] wr).setCell (p:=⟨gt,j,none⟩) (by simp) _) (by simp)));clear hx hs hsp hT2;go_wp2_with fail;go_roundw;(case rel=>exact⟨k+1,by omega,by go_num,HMz,HLz⟩);case measure=>simp[intOf];omega
       · have hltI:¬(k:Int)<(N:Int):=(by omega);have H3':=HM;rw[List.take_of_length_le (by rw[<-HNN.o];omega)]at H3';obtain⟨T2,hT2⟩:∃T2,T2=y9_ ((i:Int)+1) lf T:=⟨_,rfl⟩;rw[<-hT2]at H3';have HT2:=hQ_ hT2;clear hT2;obtain⟨A,c,rfl,hc1,hc2,_⟩:=zh_ H3'.out.own;have hll:(ys++[(⟨⟨true,at_,wt,lf⟩,.slice Av lf.length cv⟩:PV)]).length=ys.length+1:=(by simp);have c2:=H3'.out.rec_.cell 2;have f2:=H3'.out.rec_.frozen 2;rw[hll]at c2 hc1;obtain⟨g,rfl,_⟩:=zv_ H3'.out.own rfl ((y4_ _ ys.length _ 2 (by simp) (by omega)).trans (show(pvC ⟨⟨true,at_,wt,lf⟩,.slice Av lf.length cv⟩)[2]?=some (.int .i64 (wt:Int)) from rfl));have H4:=hQ_ (H3'.out.drop rfl);have hfew:=H3'.out.few;rw[hll]at hfew;obtain⟨q,hq⟩:∃q,q=ys.length:=⟨_,rfl⟩;rw[<-hq]at c2 hfew H4 hc1;have hsub:IntKind.i64.wrap (((q+1:Nat):Int)-1)=(q:Int):=(by rw[IntWalk.i64_in _ (by omega)];omega);have hq0:(0:Int)<=(q:Int):=(by omega);have hq1:(q:Int)<((q+1:Nat):Int):=(by omega);have hq2:(q:Int)<=(c:Int):=(by omega);have hqt:(q:Int).toNat=q:=Int.toNat_natCast _;clear hq hll;go_wp2_with fail;go_region;have HL4:=hQ_ (show Lo B [gm,gt] W (wr.setCell ⟨gm,2,none⟩ (.slice (some ⟨g,0,none⟩) q c)).drew from HLr.o.trans (Lo.of_chg ((Chg.refl [gm] wr).setCell (p:=⟨gm,2,none⟩) (by simp) _).drew (by simp)));have H5:=hQ_ (H4.o.keep (Chg.refl [] _).drew);generalize (wr.setCell ⟨gm,2,none⟩ (.slice (some ⟨g,0,none⟩) q c)).drew=w4 at HL4 H5⊢;clear c2 f2 hsub;go_wp2_with fail;go_ret;have h:=H5.o;rw[HT2.o,HTT.o]at h;exact⟨rfl,⟨_,_,h⟩,HL4.o⟩
end
end Go.Proofs.YtcbcfcdmdedefaaGreatDoor
