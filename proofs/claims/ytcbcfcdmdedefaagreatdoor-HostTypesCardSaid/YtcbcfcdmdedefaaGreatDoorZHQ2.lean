import Derived.WalkSpells
import Derived.WalkLawsBesides
namespace Go.Proofs.YtcbcfcdmdedefaaGreatDoor
open Go.RowKit
abbrev yJ_:=Value->World->Prop
def isV (c:Value):yJ_:=fun v _=>v=c
def zQ_ (R:World->World->Prop)(φ:yJ_):Prop:=∀v W W',φ v W->R W W'->φ v W'
theorem zc_ {R:World->World->Prop}(c:Value):zQ_ R (isV c):=fun _ _ _ h _=>h
abbrev Said:=List (Option Tmp×yJ_)
def vw_:Said->Tmp->Option yJ_
  | (d,φ)::F,t=>if d=some t then some φ else vw_ F t
  | [],_=>none
def z5_ (a0:Act) (F:Said):Operand->yJ_
  | .tmp t=>match vw_ F t with
    | some φ=>φ
    | none=>isV (a0.eval (.tmp t))
  | x=>isV (a0.eval x)
def z6_ (a0:Act)(F:Said)(ev:Operand->Value)(W:World):List Operand->Prop
  | []=>True
  | x::xs=>z5_ a0 F x (ev x) W/\z6_ a0 F ev W xs
structure EvOk (ev:Operand->Value):Prop where
  const:∀v,ev (.const v)=v
  func:∀f,ev (.func f)=.func (.func f) #[] #[]
  global:∀g,ev (.global g)=.pointer (some ⟨g,0,none⟩)
def yB_ (P:Program)(R:World->World->Prop)(φ:yJ_)(W:World):Result Next->Prop
  | .ok (.value v) w'=>R W w'/\φ v w'
  | .ok .skip w'=>R W w'/\φ undef w'
  | .ok (.enter f args) w'=>Calls P f args w' (fun e w''=>∃v,e=.returned v/\R W w''/\φ v w'')
  | _=>False
def zy_ (ops:List Oper)(F:Said)(b:Bool)(o:Oper):Prop :=
 match o.guard with
 | none=>b=true
 | some (g,want)=>match (ops[g]?).bind (·.dst) with
   | some d=>vw_ F d=some (isV (.bool (want==b)))
   | none=>False
def u6_ (ops:List Oper)(F:Said)(φ:yJ_)(b:Bool)(o:Oper):Prop :=
 match o.guard with
 | none=>False
 | some (g,want)=>match (ops[g]?).bind (·.dst) with
   | some d=>vw_ F d=some φ/\∀v W,φ v W->v=.bool (want==b)
   | none=>False
def zcA (ops:List Oper)(F:Said)(o:Oper):Prop :=
 match o.guard with
 | none=>False
 | some (g,_)=>match (ops[g]?).bind (·.dst) with
   | some d=>vw_ F d=some (isV undef)
   | none=>False
structure Turns where
  R:World->World->Prop
  H:World->World->Prop
  hard:List Nat
  soft:List Nat
structure Turns.Ok (T:Turns):Prop where
  refl:∀a,T.R a a
  sub:∀a b,T.R a b->T.H a b
  trans:∀a b c,T.H a b->T.H b c->T.H a c
def Turns.by_ (T:Turns)(k:Nat):World->World->Prop:=if T.hard.contains k then T.H else T.R
inductive Star (R:World->World->Prop):World->World->Prop
  | refl (a:World):Star R a a
  | step {a b c:World} (h:Star R a b) (k:R b c):Star R a c
theorem Star.fold {R S:World->World->Prop}(hr:∀a,S a a)(ht:∀a b c,S a b->R b c->S a c){a b:World}(h:Star R a b):S a b:=by
 induction h with
 | refl=>exact hr _
 | step _ k ih=>exact ht _ _ _ ih k
def zgb (done:List Nat):List Edge->Nat
  | []=>0
  | e::es=>if Region.binds .any e then (2^e.on ||| done.getD e.on 0) ||| zgb done es else zgb done es
def zeo:List Oper->List Nat->List Nat
  | [],done=>done
  | o::os,done=>zeo os (done++[zgb done o.after.toList])
def zep (ops:List Oper):List Nat:=zeo ops []
def ziW (T:Turns)(ops:List Oper)(k:Nat):Bool:=T.hard.all fun i=>Nat.beq i k||((zep ops).getD i 0).testBit k
structure OpOk (P:Program) (T:Turns) (w0:World) (a0:Act) (ops:List Oper) (F:Said) (k:Nat) (o:Oper) (φ:yJ_):Prop where
  keeps:zQ_ T.R φ
  firm:T.soft.contains k=true\/zQ_ T.H φ
  does:(zy_ ops F true o/\∀ev W,EvOk ev->T.H w0 W->z6_ a0 F ev W o.op.operands.toList->yB_ P (T.by_ k) φ W ((execOp ev o).run P W))\/((zy_ ops F false o\/zcA ops F o)/\φ=isV undef)\/(∃φg,u6_ ops F φg true o/\∀ev W gv,EvOk ev->T.H w0 W->φg gv W->z6_ a0 F ev W o.op.operands.toList->yB_ P (T.by_ k) φ W ((execOp ev o).run P W))\/(∃φg,u6_ ops F φg false o/\φ=isV undef)\/(zy_ ops F true o/\ziW T ops k=true/\∀ev W,EvOk ev->Star T.R w0 W->z6_ a0 F ev W o.op.operands.toList->yB_ P (T.by_ k) φ W ((execOp ev o).run P W))
def zW_ (a:Act):List Oper->(Tmp->Value)->Act
  | [],_=>a
  | o::os,vs=>zW_ (match o.dst with|some d=>a.put (some d) (vs d)|none=>a) os vs
/-! ### What is asked of the region itself -/
def zhY (T:Turns)(ops:List Oper)(j:Nat):Bool:=T.hard.all fun i=>Nat.beq i j||((zep ops).getD j 0).testBit i
def zdh (T:Turns)(ops:List Oper)(t:Tmp):Bool:=T.soft.any fun k=>((ops[k]?).bind (·.dst))==some t&&!zhY T ops k
def Flow (P:Program)(T:Turns)(w0:World)(a0:Act)(ops:List Oper)(Q:Exit->Act->World->Prop):Said->Nat->List Oper->Prop
  | F,_,[]=>∀(vs:Tmp->Value) W,T.H w0 W->(∀t φ,vw_ F t=some φ->zdh T ops t=false->φ (vs t) W)->Q .normal (zW_ a0 ops vs) W
  | F,k,o::rest=>∃φ,OpOk P T w0 a0 ops F k o φ/\Flow P T w0 a0 ops Q ((o.dst,φ)::F) (k+1) rest
def lowB (ops:List Oper):Bool:=(List.range ops.length).all fun i=>match ops[i]? with
  | some o=>o.after.toList.all fun e=>!Region.binds .any e||Nat.blt e.on i
  | none=>true
def zkk (ops:List Oper)(n:Nat):Bool:=ops.all fun o=>match o.dst with|some d=>Nat.blt d n|none=>true
def zfQ:List Oper->Bool
  | []=>true
  | o::os=>(match o.dst with|some d=>(os.all fun o'=>match o'.dst with|some d'=>!(Nat.beq d d')|none=>true)|none=>true)&&zfQ os
def zlI (ops:List Oper) (an:List Nat):Bool:=(List.range ops.length).all fun i=>match ops[i]? with
  | some o=>(o.looksAt ops.toArray).all fun t=>(List.range ops.length).all fun j=>match ops[j]? with
    | some o'=>(match o'.dst with|some d=>!(Nat.beq d t)|none=>true)||Nat.beq i j||(if Nat.blt j i then (an.getD i 0).testBit j else (an.getD j 0).testBit i)
    | none=>true
  | none=>true
def zfS (ops:List Oper) (an:List Nat) (i j:Nat):Bool:=Nat.beq i j||(an.getD j 0).testBit i||match (ops[j]?).bind (·.dst) with
  | some d=>(List.range ops.length).all fun k=>match ops[k]? with
    | some o=>!((o.looksAt ops.toArray).contains d)||Nat.beq k i||(an.getD i 0).testBit k
    | none=>true
  | none=>true
def zfC (T:Turns)(ops:List Oper)(n:Nat):Bool:=Region.noSelect ops.toArray&&(lowB ops&&(zkk ops n&&(zfQ ops&&(zlI ops (zep ops)&&T.hard.all fun i=>T.soft.all fun j=>zfS ops (zep ops) i j))))
section sound
variable {P:Program} {T:Turns} {w0:World} {a0:Act} {ops:List Oper} {Q:Exit->Act->World->Prop}
theorem zhS (h:lowB ops=true){i:Nat}{o:Oper}(hi:ops[i]?=some o){e:Edge}(he:e∈o.after)(hb:Region.binds .any e=true):e.on<i:=by
 have hl:i<ops.length:=(List.getElem?_eq_some_iff.1 hi).1;have h1:=List.all_eq_true.1 h i (List.mem_range.2 hl);simp only[hi]at h1;have h2:=List.all_eq_true.1 h1 e (by simpa using he);simpa[hb,Nat.blt_eq] using h2
theorem zeT {n:Nat}(h:zkk ops n=true){i:Nat}{o:Oper}(hi:ops[i]?=some o){d:Tmp}(hd:o.dst=some d):d<n:=by
 have h1:=List.all_eq_true.1 h o (List.mem_of_getElem? hi);simpa[hd,Nat.blt_eq] using h1
theorem gb_:∀{ops:List Oper},zfQ ops=true->∀{i j:Nat}{o o':Oper},i<j->ops[i]?=some o->ops[j]?=some o'->∀{d:Tmp},o.dst=some d->o'.dst≠some d:=by
 intro ops
 induction ops with
 | nil=>intro _ i j o o' _ hi;cases hi
 | cons x xs ih =>
   intro h i j o o' hij hi hj d hd hd';simp only[zfQ,Bool.and_eq_true]at h;obtain⟨j,rfl⟩:∃k,j=k+1:=⟨j-1,by omega⟩;cases i with
   | zero =>
     simp only[List.getElem?_cons_zero,Option.some.injEq]at hi;subst hi;have h1:=h.1;simp only[hd]at h1;have h2:=List.all_eq_true.1 h1 o' (List.mem_of_getElem? (by simpa using hj));simp[hd']at h2
   | succ i =>
     rw[List.getElem?_cons_succ]at hi hj;exact ih h.2 (by omega) hi hj hd hd'
theorem kP_ {an:List Nat}(h:zlI ops an=true){i:Nat}{o:Oper}(hi:ops[i]?=some o){t:Tmp}(ht:t∈o.looksAt ops.toArray){j:Nat}{o':Oper}(hj:ops[j]?=some o')(hd:o'.dst=some t)(hne:i≠j) :
    (if j<i then (an.getD i 0).testBit j else (an.getD j 0).testBit i)=true:=by
      have hl:i<ops.length:=(List.getElem?_eq_some_iff.1 hi).1;have hl2:j<ops.length:=(List.getElem?_eq_some_iff.1 hj).1;have h1:=List.all_eq_true.1 h i (List.mem_range.2 hl);simp only[hi]at h1;have h2:=List.all_eq_true.1 (List.all_eq_true.1 h1 t ht) j (List.mem_range.2 hl2);simp only[hj,hd]at h2;by_cases hlt:j<i
      · have hb:Nat.blt j i=true:=(by simpa[Nat.blt_eq] using hlt);rw[if_pos hlt];simpa[hne,hb] using h2
      · have hb:Nat.blt j i=false:=(by
         cases hc:Nat.blt j i
         · rfl
         · rw[Nat.blt_eq]at hc;exact absurd hc hlt);rw[if_neg hlt];simpa[hne,hb] using h2
theorem qr_ {done:List Nat}{i:Nat}:∀{es:List Edge},(zgb done es).testBit i=true->∃e,e∈es/\Region.binds .any e=true/\(i=e.on\/(done.getD e.on 0).testBit i=true)
  | [],h=>by simp[zgb]at h
  | e :: es,h=>by
    unfold zgb at h;split at h
    · rename_i hb;rw[Nat.testBit_or,Nat.testBit_or,Bool.or_eq_true,Bool.or_eq_true,Nat.testBit_two_pow]at h;rcases h with(h|h)|h
      · exact⟨e,List.mem_cons_self,hb,.inl (by simpa using(of_decide_eq_true h).symm)⟩
      · exact⟨e,List.mem_cons_self,hb,.inr h⟩
      · obtain⟨e',h1,h2⟩:=qr_ h;exact⟨e',List.mem_cons_of_mem _ h1,h2⟩
    · obtain⟨e',h1,h2⟩:=qr_ h;exact⟨e',List.mem_cons_of_mem _ h1,h2⟩
theorem zbI {L:Nat->Prop} (hL:∀(j:Nat) (o:Oper),ops[j]?=some o->L j->∀e∈o.after,Region.binds .any e=true->L e.on) {i:Nat}:∀(rest:List Oper) (done:List Nat),(∀j:Nat,rest[j]?=ops[done.length+j]?) ->
    (∀j,L j->(done.getD j 0).testBit i=true->L i)->∀j,L j->((zeo rest done).getD j 0).testBit i=true->L i
  | [],_,_,h=>h
  | o :: rest,done,hr,h=>by
    unfold zeo;refine zbI hL rest _ (fun j=>?_) (fun j hj hb=>?_)
    · have:=hr (j+1);rw[List.getElem?_cons_succ]at this;rw[this];congr 1;simp only[List.length_append,List.length_cons,List.length_nil];omega
    · have h0:ops[done.length]?=some o:=(by simpa using(hr 0).symm);rcases Nat.lt_trichotomy j done.length with hlt|heq|hgt
      · rw[List.getD_eq_getElem?_getD,List.getElem?_append_left hlt,<-List.getD_eq_getElem?_getD]at hb;exact h j hj hb
      · subst heq;rw[List.getD_eq_getElem?_getD,List.getElem?_append_right (Nat.le_refl _)]at hb;simp only[Nat.sub_self,List.getElem?_cons_zero,Option.getD_some]at hb;obtain⟨e,he,hbd,hcase⟩:=qr_ hb;have hLe:=hL _ o h0 hj e (by simpa using he) hbd;rcases hcase with rfl|hc
        · exact hLe
        · exact h e.on hLe hc
      · rw[List.getD_eq_getElem?_getD,List.getElem?_eq_none (by simp only[List.length_append,List.length_cons,List.length_nil];omega)]at hb;simp at hb
theorem zcS {L:Nat->Prop}(hL:∀(j:Nat)(o:Oper),ops[j]?=some o->L j->∀e∈o.after,Region.binds .any e=true->L e.on){i j:Nat}(hj:L j)(hb:((zep ops).getD j 0).testBit i=true):L i :=
 zbI hL ops [] (fun j=>by simp) (fun j _ hb=>by simp at hb) j hj hb
def tab:List Oper->List yJ_->Said
  | o::os,φ::Φ=>tab os Φ++[(o.dst,φ)]
  | _,_=>[]
theorem go_:∀(ops:List Oper)(Φ:List yJ_)(o:Oper)(φ:yJ_),ops[Φ.length]?=some o->tab ops (Φ++[φ])=(o.dst,φ)::tab ops Φ
  | [],Φ,o,φ,h=>by simp at h
  | x::os,[],o,φ,h=>by
    simp only[List.length_nil,List.getElem?_cons_zero,Option.some.injEq]at h;subst h;cases os<;>rfl
  | x::os,ψ::Φ,o,φ,h=>by
    have:=go_ os Φ o φ (by simpa using h);simp only[List.cons_append,tab,this]
theorem zdG (F G:Said)(t:Tmp):vw_ (F++G) t=(vw_ F t).or (vw_ G t):=by
 induction F with
 | nil=>rfl
 | cons x F ih =>
   obtain⟨d,φ⟩:=x;simp only[List.cons_append,vw_];split
   · rfl
   · exact ih
theorem jM_:∀{ops:List Oper}{Φ:List yJ_}{t:Tmp}{φ:yJ_},vw_ (tab ops Φ) t=some φ->∃(j:Nat)(o:Oper),ops[j]?=some o/\o.dst=some t/\Φ[j]?=some φ:=by
 intro ops
 induction ops with
 | nil=>intro Φ t φ h;simp[tab,vw_]at h
 | cons o os ih =>
   intro Φ t φ h;cases Φ with
   | nil=>simp[tab,vw_]at h
   | cons ψ Φ =>
     simp only[tab,zdG]at h;cases h1:vw_ (tab os Φ) t with
     | some χ =>
       rw[h1]at h;simp only[Option.some_or,Option.some.injEq]at h;subst h;obtain⟨j,o',k1,k2,k3⟩:=ih h1;exact⟨j+1,o',by simpa using k1,k2,by simpa using k3⟩
     | none =>
       rw[h1]at h;simp only[Option.none_or,vw_]at h;split at h
       · rename_i hd;injection h with h;subst h;exact⟨0,o,rfl,hd,rfl⟩
       · cases h
theorem zgS:∀{ops:List Oper}{Φ:List yJ_}{t:Tmp},vw_ (tab ops Φ) t=none->∀{j:Nat}{o:Oper},j<Φ.length->ops[j]?=some o->o.dst≠some t:=by
 intro ops
 induction ops with
 | nil=>intro Φ t _ j o _ h;simp at h
 | cons x os ih =>
   intro Φ t h j o hj ho;cases Φ with
   | nil=>simp at hj
   | cons ψ Φ =>
     simp only[tab,zdG,Option.or_eq_none_iff]at h;cases j with
     | zero =>
       simp only[List.getElem?_cons_zero,Option.some.injEq]at ho;subst ho;intro hd;have h2:=h.2;simp[vw_,hd]at h2
     | succ j=>exact ih h.1 (by simpa using hj) (by simpa using ho)
theorem flow_all {Φ:List yJ_}{rest:List Oper}(hrest:∀j:Nat,rest[j]?=ops[Φ.length+j]?)(h:Flow P T w0 a0 ops Q (tab ops Φ) Φ.length rest) :
    ∃Ψ:List yJ_,Ψ.length=rest.length/\(∀k o φ,rest[k]?=some o->Ψ[k]?=some φ->OpOk P T w0 a0 ops (tab ops (Φ++Ψ.take k)) (Φ.length+k) o φ)/\∀n,Flow P T w0 a0 ops Q (tab ops (Φ++Ψ)) n []:=by
 induction rest generalizing Φ with
 | nil=>exact⟨[],rfl,fun k o φ hk=>by simp at hk,fun n=>by simpa only[List.append_nil] using(show Flow P T w0 a0 ops Q (tab ops Φ) n [] from h)⟩
 | cons o rest ih =>
   obtain⟨φ,hφ,h⟩:=h;have h0:ops[Φ.length]?=some o:=(by simpa using(hrest 0).symm);rw[<-go_ ops Φ o φ h0]at h;obtain⟨Ψ,hl,hk,he⟩:=ih (Φ:=Φ++[φ]) (fun j=>by have:=hrest (j+1);simp only[List.getElem?_cons_succ]at this;rw[this];congr 1;simp only[List.length_append,List.length_cons,List.length_nil];omega) (by simpa using h);refine⟨φ::Ψ,by simp[hl],fun k o' φ' ho hφ'=>?_,fun n=>by simpa using he n⟩;cases k with
   | zero =>
     simp only[List.getElem?_cons_zero,Option.some.injEq]at ho hφ';subst ho hφ';simpa using hφ
   | succ k =>
     have:=hk k o' φ' (by simpa using ho) (by simpa using hφ');simp only[List.length_append,List.length_cons,List.length_nil]at this;rw[show Φ.length+(k+1)=Φ.length+1+k by omega];simpa using this
theorem jT_:∀(l:List Oper) (a0 a:Act),a.defers=a0.defers->a.tmps.size=a0.tmps.size ->
    (∀t,(∀(j:Nat)(o:Oper),l[j]?=some o->o.dst≠some t)->a.tmps[t]?=a0.tmps[t]?)->zW_ a0 l (fun t=>a.eval (.tmp t))=a
  | [],a0,a,hd,hs,ho=>by
    obtain⟨ta,da⟩:=a;obtain⟨tb,db⟩:=a0;simp only at hd hs ho;subst hd;simp only[zW_,Act.mk.injEq,and_true];exact(Array.ext_getElem? fun i=>(ho i (by simp))).symm
  | o :: l,a0,a,hd,hs,ho=>by
    unfold zW_;refine jT_ l _ a ?_ ?_ (fun t ht=>?_)
    · cases o.dst<;>exact hd
    · cases o.dst<;>simpa[Act.put] using hs
    · cases hdst:o.dst with
      | none =>
        refine ho t fun j o' hj=>?_;cases j with
        | zero=>simp only[List.getElem?_cons_zero,Option.some.injEq]at hj;subst hj;rw[hdst];simp
        | succ j=>exact ht j o' (by simpa using hj)
      | some d =>
        by_cases htd:d=t
        · subst htd;simp only[Act.put];rcases Nat.lt_or_ge d a0.tmps.size with hlt|hge
          · rw[Array.getElem?_setIfInBounds_self_of_lt hlt];have:d<a.tmps.size:=(by rw[hs];exact hlt);simp[Act.eval,this]
          · rw[Array.getElem?_eq_none (by rw[hs];exact hge),Array.getElem?_eq_none (by rw[Array.size_setIfInBounds];exact hge)]
        · simp only[Act.put];rw[Array.getElem?_setIfInBounds_ne htd];refine ho t fun j o' hj=>?_;cases j with
          | zero=>simp only[List.getElem?_cons_zero,Option.some.injEq]at hj;subst hj;rw[hdst];intro hc;injection hc with hc;exact htd hc
          | succ j=>exact ht j o' (by simpa using hj)
def zjC (ops:List Oper)(listed:Array Bool)(d:Tmp):Prop:=∃(k:Nat)(o:Oper),ops[k]?=some o/\d∈o.looksAt ops.toArray/\listed.getD k false=false
structure Midst (T:Turns) (w0:World) (a0:Act) (ops:List Oper) (Φ:List yJ_) (listed:Array Bool) (a:Act) (W:World):Prop where
  len:listed.size=ops.length
  rel:T.H w0 W
  early:(∀i,T.hard.contains i=true->listed.getD i false=false)->Star T.R w0 W
  defers:a.defers=a0.defers
  size:a.tmps.size=a0.tmps.size
  out:∀t,(∀(j:Nat)(o:Oper),ops[j]?=some o->listed.getD j false=true->o.dst≠some t)->a.tmps[t]?=a0.tmps[t]?
  fact:∀(j:Nat) o φ,ops[j]?=some o->Φ[j]?=some φ->listed.getD j false=true->∀d,o.dst=some d->(T.soft.contains j=false\/zjC ops listed d\/zhY T ops j=true)->φ (a.eval (.tmp d)) W
  closed:∀(j:Nat)(o:Oper),ops[j]?=some o->listed.getD j false=true->∀e∈o.after,Region.binds .any e=true->listed.getD e.on false=true
theorem Midst.anc {Φ:List yJ_}{listed:Array Bool}{a:Act}{W:World}(h:Midst T w0 a0 ops Φ listed a W){i j:Nat}(hj:listed.getD j false=true)(hb:((zep ops).getD j 0).testBit i=true):listed.getD i false=true :=
 zcS (L:=fun j=>listed.getD j false=true) (fun j o ho hl e he hbd=>h.closed j o ho hl e he hbd) hj hb
theorem xT_ {listed:Array Bool}{i:Nat}(h:listed.getD i true=false):listed.getD i false=false:=by
 rcases Nat.lt_or_ge i listed.size with h'|h'
 · simpa[Array.getD,h'] using h
 · simp[Array.getElem?_eq_none h']
theorem gj_ (b:Bool):undef≠Value.bool b:=by intro h;cases h
theorem j0_ {Φ:List yJ_}{listed:Array Bool}{a:Act}{W:World}(hck:zlI ops (zep ops)=true)(hlen:Φ.length=ops.length)(h:Midst T w0 a0 ops Φ listed a W){i:Nat}{o:Oper}(hi:ops[i]?=some o)
    (hun:listed.getD i false=false) (hall:∀e∈o.after,Region.binds .any e=true->listed.getD e.on false=true) {t:Tmp} (ht:t∈o.looksAt ops.toArray) :
    z5_ a0 (tab ops (Φ.take i)) (.tmp t) (a.eval (.tmp t)) W:=by
 show(match vw_ (tab ops (Φ.take i)) t with|some φ=>φ|none=>isV (a0.eval (.tmp t))) (a.eval (.tmp t)) W;have hil:i<ops.length:=(List.getElem?_eq_some_iff.1 hi).1;cases hs:vw_ (tab ops (Φ.take i)) t with
 | some φ =>
   obtain⟨j,o',hj,hd,hφ⟩:=jM_ hs;have hji:j<i:=(by
    have:=(List.getElem?_eq_some_iff.1 hφ).1;rw[List.length_take]at this;omega);rw[List.getElem?_take_of_lt hji]at hφ;have hdir:=kP_ hck hi ht hj hd (by omega);rw[if_pos hji]at hdir;have hl:listed.getD j false=true:=by
    -- what comes ahead of i has come up
    have hL:∀(j:Nat)(o':Oper),ops[j]?=some o'->(listed.getD j false=true\/j=i)->∀e∈o'.after,Region.binds .any e=true->(listed.getD e.on false=true\/e.on=i):=by
     intro j o' ho' hj e he hbd;rcases hj with hj|rfl
     · exact .inl (h.closed j o' ho' hj e he hbd)
     · rw[hi]at ho';injection ho' with ho';subst ho';exact .inl (hall e he hbd)
    rcases zcS (L:=fun j=>listed.getD j false=true\/j=i) hL (.inr rfl) hdir with h1|h1
    · exact h1
    · omega
   exact h.fact j o' φ hj hφ hl t hd (.inr (.inl ⟨i,o,hi,ht,hun⟩))
 | none =>
   have hno:∀(j:Nat)(o':Oper),ops[j]?=some o'->listed.getD j false=true->o'.dst≠some t:=(by
    intro j o' hj hl hd;by_cases hji:j<i
    · exact zgS hs (by rw[List.length_take];omega) hj hd
    · by_cases e:i=j
      · subst e;rw[hun]at hl;cases hl
      · have hdir:=kP_ hck hi ht hj hd e;rw[if_neg hji]at hdir;have:=h.anc hl hdir;rw[hun]at this;cases this);have h2:=h.out t hno;show a.eval (.tmp t)=a0.eval (.tmp t);simp only[Act.eval,Array.getD_eq_getD_getElem?,h2]
theorem yS_ {Φ:List yJ_}{a:Act}{W:World}{i:Nat}{o:Oper}(h:∀t,t∈o.looksAt ops.toArray->z5_ a0 (tab ops (Φ.take i)) (.tmp t) (a.eval (.tmp t)) W) :
    ∀l:List Operand,(∀x∈l,x∈o.op.operands.toList)->z6_ a0 (tab ops (Φ.take i)) a.eval W l
  | [],_=>trivial
  | x::l,hx=>by
    refine⟨?_,yS_ h l fun y hy=>hx y (List.mem_cons_of_mem _ hy)⟩;cases x with
    | tmp t=>exact h t (List.mem_append_left _ (List.mem_filterMap.2 ⟨.tmp t,hx _ List.mem_cons_self,rfl⟩))
    | const v=>rfl
    | global g=>rfl
    | func f=>rfl
theorem qG_ {a:Act}{g d:Nat}{b:Bool}(hd:(ops[g]?).bind (·.dst)=some d)(hv:a.eval (.tmp d)=.bool b):yielded ops.toArray a.tmps g=some b:=by
 unfold yielded;rw[List.getElem?_toArray,hd];simp only[Option.bind_some];simp only[Act.eval,Array.getD_eq_getD_getElem?]at hv;cases h:a.tmps[d]? with
 | none=>rw[h]at hv;exact absurd hv (gj_ b)
 | some v=>rw[h]at hv;simp only[Option.getD_some]at hv;subst hv;rfl
theorem vz_ {Φ:List yJ_}{a:Act}{W:World}{i:Nat}{o:Oper}{b:Bool}(hg:zy_ ops (tab ops (Φ.take i)) b o)(h:∀t,t∈o.looksAt ops.toArray->z5_ a0 (tab ops (Φ.take i)) (.tmp t) (a.eval (.tmp t)) W) :
    Region.wanted o (yielded ops.toArray a.tmps)=b:=by
 unfold zy_ at hg;unfold Region.wanted;cases hgd:o.guard with
 | none=>simp only[hgd]at hg;rw[hg]
 | some gw =>
   obtain⟨g,want⟩:=gw;simp only[hgd]at hg;split at hg
   · rename_i d hd;have h1:=h d (by
      refine List.mem_append_right _ ?_;simp only[hgd,List.getElem?_toArray,hd];simp);simp only[z5_,hg]at h1;have h2:a.eval (.tmp d)=.bool (want==b):=h1;simp only[qG_ hd h2];cases want<;>cases b<;>rfl
   · exact hg.elim
theorem ue_ {Φ:List yJ_}{a:Act}{W:World}{i:Nat}{o:Oper}{b:Bool}{φ:yJ_}(hg:u6_ ops (tab ops (Φ.take i)) φ b o)(h:∀t,t∈o.looksAt ops.toArray->z5_ a0 (tab ops (Φ.take i)) (.tmp t) (a.eval (.tmp t)) W) :
    Region.wanted o (yielded ops.toArray a.tmps)=b/\∃gv,φ gv W:=by
 unfold u6_ at hg;unfold Region.wanted;cases hgd:o.guard with
 | none=>simp only[hgd]at hg
 | some gw =>
   obtain⟨g,want⟩:=gw;simp only[hgd]at hg;split at hg
   · rename_i d hd;have h1:=h d (by
      refine List.mem_append_right _ ?_;simp only[hgd,List.getElem?_toArray,hd];simp);obtain⟨hl,hv⟩:=hg;simp only[z5_,hl]at h1;have h2:a.eval (.tmp d)=.bool (want==b):=hv _ _ h1;refine⟨?_,_,h1⟩;simp only[qG_ hd h2];cases want<;>cases b<;>rfl
   · exact hg.elim
theorem zez {a:Act}{g d:Nat}(hd:(ops[g]?).bind (·.dst)=some d)(hv:a.eval (.tmp d)=undef):yielded ops.toArray a.tmps g=none:=by
 unfold yielded;rw[List.getElem?_toArray,hd];simp only[Option.bind_some];simp only[Act.eval,Array.getD_eq_getD_getElem?]at hv;cases h:a.tmps[d]? with
 | none=>rfl
 | some v=>rw[h]at hv;simp only[Option.getD_some]at hv;subst hv;rfl
theorem zdO {Φ:List yJ_}{a:Act}{W:World}{i:Nat}{o:Oper}(hg:zcA ops (tab ops (Φ.take i)) o)(h:∀t,t∈o.looksAt ops.toArray->z5_ a0 (tab ops (Φ.take i)) (.tmp t) (a.eval (.tmp t)) W) :
    Region.wanted o (yielded ops.toArray a.tmps)=false:=by
 unfold zcA at hg;unfold Region.wanted;cases hgd:o.guard with
 | none=>simp only[hgd]at hg
 | some gw =>
   obtain⟨g,want⟩:=gw;simp only[hgd]at hg;split at hg
   · rename_i d hd;have h1:=h d (by
      refine List.mem_append_right _ ?_;simp only[hgd,List.getElem?_toArray,hd];simp);simp only[z5_,hg]at h1;have h2:a.eval (.tmp d)=undef:=h1;simp only[zez hd h2];rfl
   · exact hg.elim
theorem q0_ {Φ:List yJ_} {listed:Array Bool} {a:Act} {W W':World} (hT:T.Ok) (hk:∀(j:Nat) φ,Φ[j]?=some φ->zQ_ T.R φ/\(T.soft.contains j=true\/zQ_ T.H φ)) (hdead:∀i j,T.hard.contains i=true->T.soft.contains j=true->zfS ops (zep ops) i j=true) (hsz:zkk ops a0.tmps.size=true) (hdi:zfQ ops=true)
    (h:Midst T w0 a0 ops Φ listed a W) {i:Nat} {o:Oper} {φ:yJ_} (hi:ops[i]?=some o) (hun:listed.getD i false=false) (hφ:Φ[i]?=some φ) (hall:∀e∈o.after,Region.binds .any e=true->listed.getD e.on false=true)
    {v:Value} (hW:T.by_ i W W') (hv:φ v W'):Midst T w0 a0 ops Φ (listed.setIfInBounds i true) (a.put o.dst v) W':=by
 have hil:i<ops.length:=(List.getElem?_eq_some_iff.1 hi).1;have hsz2:(a.put o.dst v).tmps.size=a.tmps.size:=by cases o.dst<;>simp[Act.put]
 have hlist:∀j,(listed.setIfInBounds i true).getD j false=true->j=i\/listed.getD j false=true:=by
  intro j hj;by_cases e:i=j
  · exact .inl e.symm
  · rw[getD_set_ne false e]at hj;exact .inr hj
 have hWH:T.H W W':=by
  unfold Turns.by_ at hW;split at hW
  · exact hW
  · exact hT.sub _ _ hW
 refine⟨by rw[Array.size_setIfInBounds];exact h.len,hT.trans _ _ _ h.rel hWH,fun hno=>?_,by cases o.dst<;>exact h.defers,hsz2.trans h.size,fun t ht=>?_,fun j o' ψ hj hψ hl d hd hwant=>?_,fun j o' hj hl e he hb=>?_⟩
 · have hnh:T.hard.contains i=false:=by
    cases hc:T.hard.contains i with
    | false=>rfl
    | true =>
      have:=hno i hc;rw[Array.getD_eq_getD_getElem?,Array.getElem?_setIfInBounds_self_of_lt (by rw[h.len];exact hil)]at this;cases this
   have h1:=h.early fun j hj=>by
    cases hc:listed.getD j false with
    | false=>rfl
    | true=>have:=hno j hj;rw[getD_set_true hc]at this;cases this
   unfold Turns.by_ at hW;rw[hnh]at hW;exact .step h1 hW
 · have hti:o.dst≠some t:=ht i o hi (by simp[h.len,hil]);have h1:(a.put o.dst v).tmps[t]?=a.tmps[t]?:=by
    cases hd:o.dst with
    | none=>rfl
    | some d =>
      simp only[Act.put];exact Array.getElem?_setIfInBounds_ne fun e=>hti (by rw[hd,e])
   rw[h1];exact h.out t fun j o' hj hl=>ht j o' hj (getD_set_true hl)
 · by_cases e:j=i
   · subst e;rw[hi]at hj;injection hj with hj;subst hj;rw[hφ]at hψ;injection hψ with hψ;subst hψ;have hds:d<a.tmps.size:=(by rw[h.size];exact zeT hsz hi hd);have:(a.put o.dst v).eval (.tmp d)=v:=(by simp[hd,Act.put,Act.eval,hds]);rw[this];exact hv
   · have hl':=(hlist j hl).resolve_left e;have hwant0:T.soft.contains j=false\/zjC ops listed d\/zhY T ops j=true:=hwant.imp id fun hx=>hx.imp (fun ⟨k,ok,h1,h2,h3⟩=>⟨k,ok,h1,h2,by
      cases hc:listed.getD k false with
      | false=>rfl
      | true=>rw[getD_set_true hc]at h3;cases h3⟩) id;have h1:ψ (a.eval (.tmp d)) W':=by
      have hpre:=h.fact j o' ψ hj hψ hl' d hd hwant0;unfold Turns.by_ at hW;split at hW
      · rename_i hhard;rcases(hk j ψ hψ).2 with hsoft|hfirm
        · exfalso;have hdd:=hdead i j hhard hsoft;rcases hwant with hw|⟨k,ok,k1,k2,k3⟩|hw
          · rw[hsoft]at hw;cases hw
          rotate_left
          · have h2:=List.all_eq_true.1 hw i (by simpa using hhard);rcases(Bool.or_eq_true _ _).mp h2 with h3|h3
            · exact e (Nat.eq_of_beq_eq_true h3).symm
            · have:=h.anc hl' h3;rw[hun]at this;cases this
          · unfold zfS at hdd;have hb1:Nat.beq i j=false:=by
             cases hc:Nat.beq i j with
             | false=>rfl
             | true=>exact absurd (Nat.eq_of_beq_eq_true hc).symm e
            have hb2:((zep ops).getD j 0).testBit i=false:=by
             cases hc:((zep ops).getD j 0).testBit i with
             | false=>rfl
             | true =>
               have:=h.anc hl' hc;rw[hun]at this;cases this
            simp only[hb1,hb2,Bool.false_or,hj,Option.bind_some,hd]at hdd;have h2:=List.all_eq_true.1 hdd k (List.mem_range.2 (List.getElem?_eq_some_iff.1 k1).1);simp only[k1]at h2;have hc1:(ok.looksAt ops.toArray).contains d=true:=(by simpa using k2);have hki:k≠i:=(by
             rintro rfl;rw[Array.getD_eq_getD_getElem?,Array.getElem?_setIfInBounds_self_of_lt (by rw[h.len];exact hil)]at k3;cases k3);have hb3:Nat.beq k i=false:=by
             cases hc:Nat.beq k i with
             | false=>rfl
             | true=>exact absurd (Nat.eq_of_beq_eq_true hc) hki
            simp only[hc1,hb3,Bool.not_true,Bool.false_or]at h2
            -- k comes ahead of i,so it has come up
            have hL:∀(j:Nat)(o':Oper),ops[j]?=some o'->(listed.getD j false=true\/j=i)->∀e∈o'.after,Region.binds .any e=true->(listed.getD e.on false=true\/e.on=i):=by
             intro j' o' ho' hj' ed he hbd;rcases hj' with hj'|hj'
             · exact .inl (h.closed j' o' ho' hj' ed he hbd)
             · rw[hj',hi]at ho';injection ho' with ho';rw[<-ho']at he;exact .inl (hall ed he hbd)
            rcases zcS (L:=fun j=>listed.getD j false=true\/j=i) hL (.inr rfl) h2 with h5|h5
            · rw[getD_set_true h5]at k3;cases k3
            · exact hki h5
        · exact hfirm _ _ _ hpre hW
      · exact(hk j ψ hψ).1 _ _ _ hpre hW
     have hne:∀d',o.dst=some d'->(Operand.tmp d)≠.tmp d':=by
      intro d' hd' hc;injection hc with hc;subst hc;rcases Nat.lt_or_gt_of_ne e with hlt|hgt
      · exact gb_ hdi hlt hj hi hd hd'
      · exact gb_ hdi hgt hi hj hd' hd
     rw[Act.eval_put hne];exact h1
 · rcases hlist j hl with rfl|hl'
   · rw[hi]at hj;injection hj with hj;subst hj;exact getD_set_true (hall e he hb)
   · exact getD_set_true (h.closed j o' hj hl' e he hb)
theorem zaT {Φ:List yJ_}{listed:Array Bool}{a:Act}{W:World}(hlow:lowB ops=true)(h:Midst T w0 a0 ops Φ listed a W)(hr:Region.ready .any ops.toArray listed=[]) :
    ∀j,j<ops.length->listed.getD j false=true:=by
 intro j
 induction j using Nat.strongRecOn with
 | _ j ih =>
   intro hj;cases hc:listed.getD j false with
   | true=>rfl
   | false =>
     exfalso;have ho:ops[j]?=some ops[j]:=List.getElem?_eq_getElem hj;have:j∈Region.ready .any ops.toArray listed:=(by
      rw[mem_ready];refine⟨?_,ops[j],by simp,fun e he hb=>?_⟩
      · have:j<listed.size:=(by rw[h.len];exact hj);rw[Array.getD_eq_getD_getElem?,Array.getElem?_eq_getElem this]at hc⊢;exact hc
      · have hlt:=zhS hlow ho he hb;exact ih e.on hlt (by omega));rw[hr]at this;cases this
theorem flow_wp {Φ:List yJ_} (hT:T.Ok) (hck:zfC T ops a0.tmps.size=true) (hlen:Φ.length=ops.length) (hok:∀(k:Nat) o φ,ops[k]?=some o->Φ[k]?=some φ->OpOk P T w0 a0 ops (tab ops (Φ.take k)) k o φ)
    (hend:Flow P T w0 a0 ops Q (tab ops Φ) 0 []):∀(fuel:Nat) (listed:Array Bool) (a:Act) (W:World),Midst T w0 a0 ops Φ listed a W->(∀j,listed.getD j true=false->j<ops.length)->(fuel=0->Region.ready .any ops.toArray listed=[]) ->
      ((listed.toList.filter (!·)).length<=fuel)->wpAny P .any ops.toArray Q fuel listed a W:=by
         simp only[zfC,Bool.and_eq_true]at hck;obtain⟨hns,hlow,hsz,hdi,hdp,hdd⟩:=hck;have hdead:∀i j,T.hard.contains i=true->T.soft.contains j=true->zfS ops (zep ops) i j=true:=fun i j hi hj=>List.all_eq_true.1 (List.all_eq_true.1 hdd i (by simpa using hi)) j (by simpa using hj);have hk:∀(j:Nat) φ,Φ[j]?=some φ->zQ_ T.R φ/\(T.soft.contains j=true\/zQ_ T.H φ):=fun j φ hφ=>(by
          have hjl:j<ops.length:=(by rw[<-hlen];exact(List.getElem?_eq_some_iff.1 hφ).1);have h1:=hok j ops[j] φ (List.getElem?_eq_getElem hjl) hφ;exact⟨h1.keeps,h1.firm⟩);have fin:∀listed a W,Midst T w0 a0 ops Φ listed a W->Region.ready .any ops.toArray listed=[]->Q .normal a W:=(by
          intro listed a W h hr;have hall:=zaT hlow h hr;have h1:=hend (fun t=>a.eval (.tmp t)) W h.rel (fun t φ ht hsoft=>by
           obtain⟨j,o,ho,hd,hφ⟩:=jM_ ht;refine h.fact j o φ ho hφ (hall j (List.getElem?_eq_some_iff.1 ho).1) t hd ?_;cases hc:T.soft.contains j with
           | false=>exact .inl rfl
           | true =>
             cases hl:zhY T ops j with
             | true=>exact .inr (.inr rfl)
             | false =>
               have:zdh T ops t=true:=List.any_eq_true.2 ⟨j,by simpa using hc,by simp[ho,hd,hl]⟩;rw[this]at hsoft;cases hsoft);rw[jT_ ops a0 a h.defers h.size (fun t ht=>h.out t fun j o ho _=>ht j o ho)]at h1;exact h1);intro fuel
         induction fuel with
         | zero=>intro listed a W h _ hf _;exact⟨hf rfl,fin listed a W h (hf rfl)⟩
         | succ fuel ih =>
           intro listed a W h hj _ hcount;refine⟨fin listed a W h,fun i hi=>?_⟩;obtain⟨hun,o,ho,hall⟩:=mem_ready.1 hi;have hi':ops[i]?=some o:=(by simpa using ho);have hil:i<ops.length:=(List.getElem?_eq_some_iff.1 hi').1;obtain⟨φ,hφ⟩:∃φ,Φ[i]?=some φ:=⟨Φ[i]'(by omega),List.getElem?_eq_getElem (by omega)⟩;have hop:=hok i o φ hi' hφ;have hfs:∀t,t∈o.looksAt ops.toArray->z5_ a0 (tab ops (Φ.take i)) (.tmp t) (a.eval (.tmp t)) W:=fun t ht=>j0_ hdp hlen h hi' (xT_ hun) hall ht;have hsize:i<listed.size:=(by rw[h.len];exact hil);have hfalse:listed[i]=false:=(by simpa[Array.getD,hsize] using hun);have next:∀v W',T.by_ i W W'->φ v W'->wpAny P .any ops.toArray Q fuel (listed.setIfInBounds i true) (a.put o.dst v) W':=by
            intro v W' hW hv;have hm:=q0_ hT hk hdead hsz hdi h hi' (xT_ hun) hφ hall hW hv;have hcnt:((listed.setIfInBounds i true).toList.filter (!·)).length+1=(listed.toList.filter (!·)).length:=by
             rw[Array.toList_setIfInBounds];have hli:listed.toList[i]?=some false:=(by simp[hsize,hfalse]);generalize listed.toList=l at hli;clear hcount hfalse hsize hi hil hun ho hall hi' hφ hop hfs hm hW hv
             induction l generalizing i with
             | nil=>simp at hli
             | cons x xs ih =>
               cases i with
               | zero=>simp only[List.getElem?_cons_zero,Option.some.injEq]at hli;subst hli;simp
               | succ i =>
                 have:=ih (i:=i) (by simpa using hli);cases x<;>simp<;>omega
            refine ih _ _ _ hm (fun j hj'=>?_) (fun h0=>?_) (by omega)
            · rcases Nat.lt_or_ge j ops.length with hlt|hge
              · exact hlt
              · have:(listed.setIfInBounds i true).size<=j:=(by rw[Array.size_setIfInBounds,h.len];exact hge);simp[Array.getElem?_eq_none this]at hj'
            · -- nothing is left
              have hz:((listed.setIfInBounds i true).toList.filter (!·)).length=0:=(by omega);rw[List.length_eq_zero_iff,List.filter_eq_nil_iff]at hz;rw[List.eq_nil_iff_forall_not_mem];intro j hjr;obtain⟨hjun,_⟩:=mem_ready.1 hjr;have hjs:j<(listed.setIfInBounds i true).size:=by
               rcases Nat.lt_or_ge j (listed.setIfInBounds i true).size with hlt|hge
               · exact hlt
               · simp[Array.getElem?_eq_none hge]at hjun
              have hb:(listed.setIfInBounds i true)[j]=false:=(by
               rw[Array.getD_eq_getD_getElem?,Array.getElem?_eq_getElem hjs]at hjun;exact hjun);have:=hz _ (Array.getElem_mem_toList hjs);rw[hb]at this;simp at this
           unfold wpOp;simp only[ho];rcases hop.does with⟨hg,hdo⟩|⟨hg,he⟩|⟨φg,hg,hdo⟩|⟨φg,hg,he⟩|⟨hg,hearly,hdo⟩
           · rw [vz_ hg hfs,if_pos rfl];refine .inl ?_;have hev:EvOk a.eval:=⟨fun _=>rfl,fun _=>rfl,fun _=>rfl⟩;have h1:=hdo a.eval W hev h.rel (yS_ hfs _ fun _ hx=>hx);unfold Oper.wp;generalize (execOp a.eval o).run P W=r at h1;cases r with
             | ok n w' =>
               cases n<;>simp only[yB_]at h1<;>simp only[Oper.upon];(case value v=>exact next v w' h1.1 h1.2);(case skip=>exact next undef w' h1.1 h1.2);case enter f args =>
                refine h1.mono fun e w'' he=>?_;obtain⟨v,rfl,h2,h3⟩:=he;exact next v w'' h2 h3
             | halt x w'=>exact h1.elim
           · rw[hg.elim (fun hg=>vz_ hg hfs) (fun hg=>zdO hg hfs)];simp only[Bool.false_eq_true,if_false];(refine next undef W ?_ (by rw[he];rfl));unfold Turns.by_;split
             · exact hT.sub _ _ (hT.refl W)
             · exact hT.refl W
           · obtain⟨hw,gv,hgv⟩:=ue_ hg hfs;rw[hw,if_pos rfl];refine .inl ?_;have hev:EvOk a.eval:=⟨fun _=>rfl,fun _=>rfl,fun _=>rfl⟩;have h1:=hdo a.eval W gv hev h.rel hgv (yS_ hfs _ fun _ hx=>hx);unfold Oper.wp;generalize (execOp a.eval o).run P W=r at h1;cases r with
             | ok n w' =>
               cases n<;>simp only[yB_]at h1<;>simp only[Oper.upon];(case value v=>exact next v w' h1.1 h1.2);(case skip=>exact next undef w' h1.1 h1.2);case enter f args =>
                refine h1.mono fun e w'' he=>?_;obtain⟨v,rfl,h2,h3⟩:=he;exact next v w'' h2 h3
             | halt x w'=>exact h1.elim
           · rw[(ue_ hg hfs).1];simp only[Bool.false_eq_true,if_false];(refine next undef W ?_ (by rw[he];rfl));unfold Turns.by_;split
             · exact hT.sub _ _ (hT.refl W)
             · exact hT.refl W
           · rw [vz_ hg hfs,if_pos rfl];refine .inl ?_;have hev:EvOk a.eval:=⟨fun _=>rfl,fun _=>rfl,fun _=>rfl⟩;have hst:Star T.R w0 W:=h.early fun j hj=>by
              have h2:=List.all_eq_true.1 hearly j (by simpa using hj);rcases(Bool.or_eq_true _ _).mp h2 with h3|h3
              · rw[Nat.eq_of_beq_eq_true h3];exact xT_ hun
              · cases hc:listed.getD j false with
                | false=>rfl
                | true =>
                  have:=h.anc hc h3;rw[xT_ hun]at this;cases this
             have h1:=hdo a.eval W hev hst (yS_ hfs _ fun _ hx=>hx);unfold Oper.wp;generalize (execOp a.eval o).run P W=r at h1;cases r with
             | ok n w' =>
               cases n<;>simp only[yB_]at h1<;>simp only[Oper.upon];(case value v=>exact next v w' h1.1 h1.2);(case skip=>exact next undef w' h1.1 h1.2);case enter f args =>
                refine h1.mono fun e w'' he=>?_;obtain⟨v,rfl,h2,h3⟩:=he;exact next v w'' h2 h3
             | halt x w'=>exact h1.elim
theorem wp_flow {id:Nat} {a:Act} {w:World} {l:List Oper} {Q:Exit->Act->World->Prop} (hm:P.follows .mixedOrders=true) (T:Turns) (hT:T.Ok) (hck:zfC T l a.tmps.size=true)
    (h:Flow P T w.drew a l Q [] 0 l):(Code.region id l.toArray true).wp P Q a w:=by
      obtain⟨Ψ,hlen,hok,hend⟩:=flow_all (ops:=l) (Φ:=[]) (rest:=l) (fun j=>by simp) (by
       have:tab l []=[]:=(by cases l<;>rfl);rw[this];exact h);simp only[List.nil_append,List.length_nil,Nat.zero_add]at hok hend;refine wp_region_any hm ?_;have hz:∀(n j:Nat),(Array.replicate n false).getD j false=false:=fun n j=>by
       rw[Array.getD_eq_getD_getElem?];rcases Nat.lt_or_ge j n with hlt|hge
       · rw[Array.getElem?_replicate,if_pos hlt];rfl
       · rw[Array.getElem?_eq_none (by simpa using hge)];rfl
      have hno:∀(n j:Nat){C:Prop},(Array.replicate n false).getD j false=true->C:=fun n j C hc=>(by rw[hz]at hc;cases hc);refine flow_wp (ops:=l) hT hck hlen hok (hend 0) _ _ a _ ⟨by simp,hT.sub _ _ (hT.refl _),fun _=>.refl _,rfl,rfl,fun t _=>rfl,fun j o φ _ _ hl=>hno _ _ hl,fun j o _ hl=>hno _ _ hl⟩ (fun j hj=>?_) (fun h0=>?_) (by simp)
      · rcases Nat.lt_or_ge j l.length with hlt|hge
        · exact hlt
        · rw[Array.getD_eq_getD_getElem?,Array.getElem?_eq_none (by simpa using hge)]at hj;cases hj
      · have hl0:l=[]:=List.eq_nil_of_length_eq_zero (by simpa using h0);subst hl0;rfl
end sound
section steps
variable {P:Program} {T:Turns} {w0:World} {a0:Act} {ops:List Oper} {Q:Exit->Act->World->Prop} {F:Said} {k:Nat} {o:Oper} {rest:List Oper}
theorem flow_op (φ:yJ_)(hk:zQ_ T.R φ)(hf:T.soft.contains k=true\/zQ_ T.H φ)(hg:zy_ ops F true o)(hd:∀ev W,EvOk ev->T.H w0 W->z6_ a0 F ev W o.op.operands.toList->yB_ P (T.by_ k) φ W ((execOp ev o).run P W))
    (h:Flow P T w0 a0 ops Q ((o.dst,φ)::F) (k+1) rest):Flow P T w0 a0 ops Q F k (o::rest):=⟨φ,⟨hk,hf,.inl ⟨hg,hd⟩⟩,h⟩
theorem zA_ (hg:zy_ ops F false o)(h:Flow P T w0 a0 ops Q ((o.dst,isV undef)::F) (k+1) rest):Flow P T w0 a0 ops Q F k (o::rest):=⟨isV undef,⟨zc_ _,.inr (zc_ _),.inr (.inl ⟨.inl hg,rfl⟩)⟩,h⟩
theorem vd_ (φ:yJ_)(hk:zQ_ T.R φ)(hf:T.soft.contains k=true\/zQ_ T.H φ)(hg:zy_ ops F true o)(he:ziW T ops k=true)(hd:∀ev W,EvOk ev->Star T.R w0 W->z6_ a0 F ev W o.op.operands.toList->yB_ P (T.by_ k) φ W ((execOp ev o).run P W))
    (h:Flow P T w0 a0 ops Q ((o.dst,φ)::F) (k+1) rest):Flow P T w0 a0 ops Q F k (o::rest):=⟨φ,⟨hk,hf,.inr (.inr (.inr (.inr ⟨hg,he,hd⟩)))⟩,h⟩
def nth:List Value->Nat->Option Value
  | x::_,0=>some x
  | _::xs,n+1=>nth xs n
  | [],_=>none
theorem zmv:∀(l:List Value)(n:Nat),nth l n=l[n]?
  | [],_=>by simp[nth]
  | x::xs,0=>rfl
  | x::xs,n+1=>by simp only[nth,zmv xs n,List.getElem?_cons_succ]
inductive Det (a0:Act) (F:Said):Operand->Value->Prop
  | inn {t:Tmp} {v:Value} (h:vw_ F t=some (isV v)):Det a0 F (.tmp t) v
  | out {t:Tmp} {v:Value} (h:vw_ F t=none) (ht:nth a0.tmps.toList t=some v):Det a0 F (.tmp t) v
  | const (v:Value):Det a0 F (.const v) v
theorem Det.at {a0:Act}{F:Said}{x:Operand}{v:Value}(h:Det a0 F x v){u:Value}{W:World}(hf:z5_ a0 F x u W):u=v:=by
 cases h with
 | inn h=>simp only[z5_,h]at hf;exact hf
 | out h ht =>
   simp only[z5_,h]at hf;have:u=a0.eval (.tmp _):=hf;rw[this];rw[zmv,Array.getElem?_toList]at ht;simp[Act.eval,ht]
 | const v=>exact hf
theorem Turns.Ok.by_refl (hT:T.Ok)(k:Nat)(W:World):T.by_ k W W:=by
 unfold Turns.by_;split
 · exact hT.sub _ _ (hT.refl W)
 · exact hT.refl W
theorem zP_ {d:Option Tmp}{ty:TypeId}{pos:String}{af:Array Go.Edge}{g:Option (Nat×Bool)}{t:Tmp}{φ:yJ_}(hT:T.Ok)(hs:vw_ F t=some φ)(hk:zQ_ T.R φ)(hf:T.soft.contains k=true\/zQ_ T.H φ)
    (hg:zy_ ops F true ⟨d,.move (.tmp t),ty,pos,af,g⟩) (h:Flow P T w0 a0 ops Q ((d,φ)::F) (k+1) rest):Flow P T w0 a0 ops Q F k (⟨d,.move (.tmp t),ty,pos,af,g⟩::rest):=by
      refine⟨φ,⟨hk,hf,.inl ⟨hg,fun ev W _ _ hf=>?_⟩⟩,h⟩;have h1:φ (ev (.tmp t)) W:=(by
       have:z5_ a0 F (.tmp t) (ev (.tmp t)) W:=hf.1;simpa only[z5_,hs] using this);exact⟨hT.by_refl k W,h1⟩
theorem flow_assign {d:Option Tmp}{ty:TypeId}{pos:String}{af:Array Go.Edge}{g:Option (Nat×Bool)}{t:Tmp}{φ:yJ_}(hT:T.Ok)(hs:vw_ F t=some φ)(hk:zQ_ T.R φ)(hf:T.soft.contains k=true\/zQ_ T.H φ)
    (hg:zy_ ops F true ⟨d,.assign (.tmp t),ty,pos,af,g⟩) (h:Flow P T w0 a0 ops Q ((d,φ)::F) (k+1) rest):Flow P T w0 a0 ops Q F k (⟨d,.assign (.tmp t),ty,pos,af,g⟩::rest):=by
      refine⟨φ,⟨hk,hf,.inl ⟨hg,fun ev W _ _ hf=>?_⟩⟩,h⟩;have h1:φ (ev (.tmp t)) W:=(by
       have:z5_ a0 F (.tmp t) (ev (.tmp t)) W:=hf.1;simpa only[z5_,hs] using this);exact⟨hT.by_refl k W,h1⟩
theorem flow1 {x:Operand}{v r:Value}(hT:T.Ok)(hop:o.op.operands=#[x])(hx:Det a0 F x v)(hg:zy_ ops F true o)(hrun:∀ev W,EvOk ev->ev x=v->(execOp ev o).run P W=.ok (.value r) W)
    (h:Flow P T w0 a0 ops Q ((o.dst,isV r)::F) (k+1) rest):Flow P T w0 a0 ops Q F k (o::rest) :=
      flow_op (isV r) (zc_ r) (.inr (zc_ r)) hg (fun ev W he _ hf=>by
       rw[hop]at hf;rw[hrun ev W he (hx.at hf.1)];exact⟨hT.by_refl k W,rfl⟩) h
theorem flow2 {x y:Operand}{v u r:Value}(hT:T.Ok)(hop:o.op.operands=#[x,y])(hx:Det a0 F x v)(hy:Det a0 F y u)(hg:zy_ ops F true o)(hrun:∀ev W,EvOk ev->ev x=v->ev y=u->(execOp ev o).run P W=.ok (.value r) W)
    (h:Flow P T w0 a0 ops Q ((o.dst,isV r)::F) (k+1) rest):Flow P T w0 a0 ops Q F k (o::rest) :=
      flow_op (isV r) (zc_ r) (.inr (zc_ r)) hg (fun ev W he _ hf=>by
       rw[hop]at hf;rw[hrun ev W he (hx.at hf.1) (hy.at hf.2.1)];exact⟨hT.by_refl k W,rfl⟩) h
theorem flow3 {x y z:Operand}{v u s r:Value}(hT:T.Ok)(hop:o.op.operands=#[x,y,z])(hx:Det a0 F x v)(hy:Det a0 F y u)(hz:Det a0 F z s)(hg:zy_ ops F true o)(hrun:∀ev W,EvOk ev->ev x=v->ev y=u->ev z=s->(execOp ev o).run P W=.ok (.value r) W)
    (h:Flow P T w0 a0 ops Q ((o.dst,isV r)::F) (k+1) rest):Flow P T w0 a0 ops Q F k (o::rest) :=
      flow_op (isV r) (zc_ r) (.inr (zc_ r)) hg (fun ev W he _ hf=>by
       rw[hop]at hf;rw[hrun ev W he (hx.at hf.1) (hy.at hf.2.1) (hz.at hf.2.2.1)];exact⟨hT.by_refl k W,rfl⟩) h
theorem flow1h {x:Operand}{v r:Value}(hT:T.Ok)(hop:o.op.operands=#[x])(hx:Det a0 F x v)(hg:zy_ ops F true o)(hrun:∀ev W,EvOk ev->T.H w0 W->ev x=v->(execOp ev o).run P W=.ok (.value r) W)
    (h:Flow P T w0 a0 ops Q ((o.dst,isV r)::F) (k+1) rest):Flow P T w0 a0 ops Q F k (o::rest) :=
      flow_op (isV r) (zc_ r) (.inr (zc_ r)) hg (fun ev W he hW hf=>by
       rw[hop]at hf;rw[hrun ev W he hW (hx.at hf.1)];exact⟨hT.by_refl k W,rfl⟩) h
def qh_ (P:Program)(f:FuncId):Bool:=match P.funcs[f]? with
  | some fn => !(fn.name == "runtime.NumGoroutine") && fn.body.isSome
  | none=>false
theorem vq_ {ev:Operand->Value} (he:EvOk ev) {d:Option Tmp} {f:FuncId} (hf:qh_ P f=true) {args:Array Operand} {ats:Array TypeId} {ty:TypeId} {pos:String} {af:Array Go.Edge} {g:Option (Nat×Bool)} {W:World} :
    (execOp ev ⟨d,.call { callee:=.value (.func f),args:=args,argTypes:=ats },ty,pos,af,g⟩).run P W=.ok (.enter f (args.map ev)) W:=by
      unfold qh_ at hf;cases hfn:P.funcs[f]? with
      | none=>rw[hfn]at hf;cases hf
      | some fn =>
        rw[hfn]at hf;simp only[Bool.and_eq_true,Bool.not_eq_true',beq_eq_false_iff_ne,ne_eq]at hf;obtain⟨h1,h2⟩:=hf;obtain⟨b,hb⟩:=Option.isSome_iff_exists.1 h2;simp[execOp,resolve,he.func,Deferred.ofValue,invoke,callFunc,go_sem,hfn,h1,hb]
theorem flow_call {d:Option Tmp} {f:FuncId} {args:Array Operand} {ats:Array TypeId} {ty:TypeId} {pos:String} {af:Array Go.Edge} {g:Option (Nat×Bool)} (φ:yJ_) (hk:zQ_ T.R φ) (hfm:T.soft.contains k=true\/zQ_ T.H φ) (hf:qh_ P f=true)
    (hg:zy_ ops F true ⟨d,.call { callee:=.value (.func f),args:=args,argTypes:=ats },ty,pos,af,g⟩)
    (hd:∀ev W,EvOk ev->T.H w0 W->z6_ a0 F ev W args.toList->Calls P f (args.toList.map ev).toArray W (fun e w''=>∃v,e=.returned v/\T.by_ k W w''/\φ v w''))
    (h:Flow P T w0 a0 ops Q ((d,φ)::F) (k+1) rest):Flow P T w0 a0 ops Q F k (⟨d,.call { callee:=.value (.func f),args:=args,argTypes:=ats },ty,pos,af,g⟩::rest):=by
      refine flow_op φ hk hfm hg (fun ev W he hW hfs=>?_) h;rw[vq_ he hf];have e0:args.map ev=(args.toList.map ev).toArray:=(by cases args;rw[List.map_toArray]);rw[e0];refine hd ev W he hW ?_;have:z6_ a0 F ev W ((.func f:Operand)::args.toList):=(by
       have e:(Op.call { callee:=.value (.func f),args:=args,argTypes:=ats }).operands.toList=(.func f:Operand)::args.toList:=(by
        simp[Op.operands,Call.operands]);rw[<-e];exact hfs);exact this.2
inductive Dets (a0:Act) (F:Said):List Operand->List Value->Prop
  | nil:Dets a0 F [] []
  | cons {x:Operand} {v:Value} {xs:List Operand} {vs:List Value} (h:Det a0 F x v) (t:Dets a0 F xs vs):Dets a0 F (x::xs) (v::vs)
theorem Dets.at {a0:Act}{F:Said}{ev:Operand->Value}{W:World}:∀{xs:List Operand}{vs:List Value},Dets a0 F xs vs->z6_ a0 F ev W xs->xs.map ev=vs
  | _,_,.nil,_=>rfl
  | _,_,.cons h t,hf=>by rw[List.map_cons,h.at hf.1,t.at hf.2]
theorem flow_calld {d:Option Tmp}{f:FuncId}{args:Array Operand}{ats:Array TypeId}{ty:TypeId}{pos:String}{af:Array Go.Edge}{g:Option (Nat×Bool)}{vals:List Value}(φ:yJ_)(hk:zQ_ T.R φ)(hfm:T.soft.contains k=true\/zQ_ T.H φ)(hf:qh_ P f=true)
    (hg:zy_ ops F true ⟨d,.call { callee:=.value (.func f),args:=args,argTypes:=ats },ty,pos,af,g⟩) (hargs:Dets a0 F args.toList vals)
    (hd:∀W,T.H w0 W->Calls P f vals.toArray W (fun e w''=>∃v,e=.returned v/\T.by_ k W w''/\φ v w''))
    (h:Flow P T w0 a0 ops Q ((d,φ)::F) (k+1) rest):Flow P T w0 a0 ops Q F k (⟨d,.call { callee:=.value (.func f),args:=args,argTypes:=ats },ty,pos,af,g⟩::rest) :=
      flow_call φ hk hfm hf hg (fun ev W _ hW hfs=>by rw[hargs.at hfs];exact hd W hW) h
theorem zw_ {d:Option Tmp}{f:FuncId}{args:Array Operand}{ats:Array TypeId}{ty:TypeId}{pos:String}{af:Array Go.Edge}{g:Option (Nat×Bool)}{vals:List Value}(r:Value)(hf:qh_ P f=true)
    (hg:zy_ ops F true ⟨d,.call { callee:=.value (.func f),args:=args,argTypes:=ats },ty,pos,af,g⟩) (hargs:Dets a0 F args.toList vals)
    (hd:∀W,T.H w0 W->Calls P f vals.toArray W (fun e w''=>e=.returned r/\T.by_ k W w''))
    (h:Flow P T w0 a0 ops Q ((d,isV r)::F) (k+1) rest):Flow P T w0 a0 ops Q F k (⟨d,.call { callee:=.value (.func f),args:=args,argTypes:=ats },ty,pos,af,g⟩::rest) :=
      flow_calld (isV r) (zc_ r) (.inr (zc_ r)) hf hg hargs (fun W hW=>(hd W hW).mono fun _ _ ⟨h1,h2⟩=>⟨r,h1,h2,rfl⟩) h
theorem flow_move_out {d:Option Tmp}{ty:TypeId}{pos:String}{af:Array Go.Edge}{g:Option (Nat×Bool)}{t:Tmp}{v:Value}(hT:T.Ok)(hs:vw_ F t=none)(ht:nth a0.tmps.toList t=some v)
    (hg:zy_ ops F true ⟨d,.move (.tmp t),ty,pos,af,g⟩) (h:Flow P T w0 a0 ops Q ((d,isV v)::F) (k+1) rest):Flow P T w0 a0 ops Q F k (⟨d,.move (.tmp t),ty,pos,af,g⟩::rest) :=
      flow1 (v:=v) (r:=v) hT rfl (.out hs ht) hg (fun ev W _ e=>by simp[execOp,e,go_sem]) h
theorem xt_ {d:Option Tmp}{c t:Tmp}{z:Value}{ty:TypeId}{pos:String}{af:Array Go.Edge}{g:Option (Nat×Bool)}{v:Value}(hT:T.Ok)(hc:vw_ F c=some (isV (.bool true)))(ht:vw_ F t=some (isV v))
    (hg:zy_ ops F true ⟨d,.pick (.tmp c) (.tmp t) (.const z),ty,pos,af,g⟩) (h:Flow P T w0 a0 ops Q ((d,isV v)::F) (k+1) rest):Flow P T w0 a0 ops Q F k (⟨d,.pick (.tmp c) (.tmp t) (.const z),ty,pos,af,g⟩::rest) :=
      flow3 (v:=.bool true) (u:=v) (s:=z) (r:=v) hT rfl (.inn hc) (.inn ht) (.const z) hg (fun ev W _ e1 e2 e3=>by simp[execOp,e1,e2,e3,asBool,go_sem]) h
theorem y7_ {d:Option Tmp}{c t:Tmp}{z:Value}{ty:TypeId}{pos:String}{af:Array Go.Edge}{g:Option (Nat×Bool)}{v:Value}(hT:T.Ok)(hc:vw_ F c=some (isV (.bool false)))(ht:vw_ F t=some (isV v))
    (hg:zy_ ops F true ⟨d,.pick (.tmp c) (.tmp t) (.const z),ty,pos,af,g⟩) (h:Flow P T w0 a0 ops Q ((d,isV z)::F) (k+1) rest):Flow P T w0 a0 ops Q F k (⟨d,.pick (.tmp c) (.tmp t) (.const z),ty,pos,af,g⟩::rest) :=
      flow3 (v:=.bool false) (u:=v) (s:=z) (r:=z) hT rfl (.inn hc) (.inn ht) (.const z) hg (fun ev W _ e1 e2 e3=>by simp[execOp,e1,e2,e3,asBool,go_sem]) h
theorem zbs {d:Option Tmp}{c t:Tmp}{z:Value}{ty:TypeId}{pos:String}{af:Array Go.Edge}{g:Option (Nat×Bool)}{v:Value}(hT:T.Ok)(hc:vw_ F c=some (isV (.bool true)))(ht:vw_ F t=some (isV v))
    (hg:zy_ ops F true ⟨d,.pick (.tmp c) (.const z) (.tmp t),ty,pos,af,g⟩) (h:Flow P T w0 a0 ops Q ((d,isV z)::F) (k+1) rest):Flow P T w0 a0 ops Q F k (⟨d,.pick (.tmp c) (.const z) (.tmp t),ty,pos,af,g⟩::rest) :=
      flow3 (v:=.bool true) (u:=z) (s:=v) (r:=z) hT rfl (.inn hc) (.const z) (.inn ht) hg (fun ev W _ e1 e2 e3=>by simp[execOp,e1,e2,e3,asBool,go_sem]) h
theorem kc_ {d:Option Tmp}{c t:Tmp}{z:Value}{ty:TypeId}{pos:String}{af:Array Go.Edge}{g:Option (Nat×Bool)}{v:Value}(hT:T.Ok)(hc:vw_ F c=some (isV (.bool false)))(ht:vw_ F t=some (isV v))
    (hg:zy_ ops F true ⟨d,.pick (.tmp c) (.const z) (.tmp t),ty,pos,af,g⟩) (h:Flow P T w0 a0 ops Q ((d,isV v)::F) (k+1) rest):Flow P T w0 a0 ops Q F k (⟨d,.pick (.tmp c) (.const z) (.tmp t),ty,pos,af,g⟩::rest) :=
      flow3 (v:=.bool false) (u:=z) (s:=v) (r:=v) hT rfl (.inn hc) (.const z) (.inn ht) hg (fun ev W _ e1 e2 e3=>by simp[execOp,e1,e2,e3,asBool,go_sem]) h
theorem gR_ {d:Option Tmp}{t:TypeId}{x y:Operand}{ty:TypeId}{pos:String}{af:Array Go.Edge}{g:Option (Nat×Bool)}{v u r:Value}(hT:T.Ok)(hx:Det a0 F x v)(hy:Det a0 F y u)
    (hrun:∀ev W,EvOk ev->ev x=v->ev y=u->(execOp ev ⟨d,.slice t x none (some y) none,ty,pos,af,g⟩).run P W=.ok (.value r) W)
    (hg:zy_ ops F true ⟨d,.slice t x none (some y) none,ty,pos,af,g⟩) (h:Flow P T w0 a0 ops Q ((d,isV r)::F) (k+1) rest):Flow P T w0 a0 ops Q F k (⟨d,.slice t x none (some y) none,ty,pos,af,g⟩::rest) :=
      flow2 (x:=x) (y:=y) hT (by simp[Op.operands]) hx hy hg hrun h
theorem kb_ {d:Option Tmp}{t:TypeId}{x y:Operand}{ty:TypeId}{pos:String}{af:Array Go.Edge}{g:Option (Nat×Bool)}{v u r:Value}(hT:T.Ok)(hx:Det a0 F x v)(hy:Det a0 F y u)
    (hrun:∀ev W,EvOk ev->ev x=v->ev y=u->(execOp ev ⟨d,.slice t x (some y) none none,ty,pos,af,g⟩).run P W=.ok (.value r) W)
    (hg:zy_ ops F true ⟨d,.slice t x (some y) none none,ty,pos,af,g⟩) (h:Flow P T w0 a0 ops Q ((d,isV r)::F) (k+1) rest):Flow P T w0 a0 ops Q F k (⟨d,.slice t x (some y) none none,ty,pos,af,g⟩::rest) :=
      flow2 (x:=x) (y:=y) hT (by simp[Op.operands]) hx hy hg hrun h
end steps
end Go.Proofs.YtcbcfcdmdedefaaGreatDoor
