import Derived.Test.YtcbcfcdmdedefaaGreatDoorZTA18
set_option maxRecDepth 100000
set_option maxHeartbeats 16000000
namespace Go.Proofs.YtcbcfcdmdedefaaGreatDoor.F2
open Go.RowKit
def gu_ (o:Oper):Option Tmp:=match o.op.operands.toList with
  | .tmp t::_=>some t
  | _=>none
def Op2 (P:Program) (T:Turns) (w0:World) (a0:Act) (ops:List Oper) (F:Said) (k:Nat) (o:Oper) (φ:yI_):Prop :=
 (o.dst≠none/\OpOk P T w0 a0 ops F k o φ)\/(o.dst=none/\∃t,gu_ o=some t/\zQ_ T.R φ/\(T.soft.contains k=true\/zQ_ T.H φ)/\zy_ ops F true o /\
   ((∀ev W,EvOk ev->T.H w0 W->z6_ a0 F ev W o.op.operands.toList->yA_ P (T.by_ k) (fun _ W'=>φ (ev (.tmp t)) W') W ((execOp ev o).run P W)) \/
    (ziW T ops k=true/\∀ev W,EvOk ev->Star T.R w0 W->z6_ a0 F ev W o.op.operands.toList->yA_ P (T.by_ k) (fun _ W'=>φ (ev (.tmp t)) W') W ((execOp ev o).run P W))))
def Flow (P:Program)(T:Turns)(w0:World)(a0:Act)(ops:List Oper)(Q:Exit->Act->World->Prop):Said->Nat->List Oper->Prop
  | F,_,[]=>∀(vs:Tmp->Value) W,T.H w0 W->(∀t φ,vt_ F t=some φ->zcZ T ops t=false->φ (vs t) W)->(∀(j:Nat)(o:Oper)(φ:yI_)(t:Tmp),ops[j]?=some o->o.dst=none->gu_ o=some t->F.reverse[j]?=some (none,φ)->φ (vs t) W)->Q .normal (zV_ a0 ops vs) W
  | F,k,o::rest=>∃φ,Op2 P T w0 a0 ops F k o φ/\Flow P T w0 a0 ops Q ((o.dst,φ)::F) (k+1) rest
def znL (T:Turns) (ops:List Oper):Bool:=(T.soft.all fun k=>((ops[k]?).bind (·.dst)).isSome)&&((List.range ops.length).all fun k=>match ops[k]? with
  | some o=>(match o.dst,gu_ o with
    | none,some t=>(List.range ops.length).all fun j=>match (ops[j]?).bind (·.dst) with
      | some d=>!(Nat.beq d t)||Nat.blt j k
      | none=>true
    | _,_=>true)
  | none=>true)
section sound
variable {P:Program} {T:Turns} {w0:World} {a0:Act} {ops:List Oper} {Q:Exit->Act->World->Prop}
theorem flow_all {Φ:List yI_}{rest:List Oper}(hrest:∀j:Nat,rest[j]?=ops[Φ.length+j]?)(h:Flow P T w0 a0 ops Q (tab ops Φ) Φ.length rest) :
    ∃Ψ:List yI_,Ψ.length=rest.length/\(∀k o φ,rest[k]?=some o->Ψ[k]?=some φ->Op2 P T w0 a0 ops (tab ops (Φ++Ψ.take k)) (Φ.length+k) o φ)/\∀n,Flow P T w0 a0 ops Q (tab ops (Φ++Ψ)) n []:=by
 induction rest generalizing Φ with
 | nil=>exact⟨[],rfl,fun k o φ hk=>by simp at hk,fun n=>by simpa only[List.append_nil] using(show Flow P T w0 a0 ops Q (tab ops Φ) n [] from h)⟩
 | cons o rest ih =>
   obtain⟨φ,hφ,h⟩:=h;have h0:ops[Φ.length]?=some o:=(by simpa using(hrest 0).symm);rw[<-gj_ ops Φ o φ h0]at h;obtain⟨Ψ,hl,hk,he⟩:=ih (Φ:=Φ++[φ]) (fun j=>by have:=hrest (j+1);simp only[List.getElem?_cons_succ]at this;rw[this];congr 1;simp only[List.length_append,List.length_cons,List.length_nil];omega) (by simpa using h);refine⟨φ::Ψ,by simp[hl],fun k o' φ' ho hφ'=>?_,fun n=>by simpa using he n⟩;cases k with
   | zero =>
     simp only[List.getElem?_cons_zero,Option.some.injEq]at ho hφ';subst ho hφ';simpa using hφ
   | succ k =>
     have:=hk k o' φ' (by simpa using ho) (by simpa using hφ');simp only[List.length_append,List.length_cons,List.length_nil]at this;rw[show Φ.length+(k+1)=Φ.length+1+k by omega];simpa using this
theorem znb:∀{ops:List Oper}{Φ:List yI_}{j:Nat}{o:Oper}{d:Option Tmp}{φ:yI_},Φ.length=ops.length->ops[j]?=some o->(tab ops Φ).reverse[j]?=some (d,φ)->Φ[j]?=some φ:=by
 intro ops
 induction ops with
 | nil=>intro Φ j o d φ _ h;simp at h
 | cons x os ih =>
   intro Φ j o d φ hl hj h;cases Φ with
   | nil=>simp at hl
   | cons ψ Φ =>
     simp only[tab,List.reverse_append,List.reverse_cons,List.reverse_nil,List.nil_append,List.cons_append]at h;cases j with
     | zero=>simp only[List.getElem?_cons_zero,Option.some.injEq,Prod.mk.injEq]at h⊢;exact h.2
     | succ j =>
       rw[List.getElem?_cons_succ]at h hj⊢;exact ih (by simpa using hl) hj h
structure Mid2 (T:Turns) (w0:World) (a0:Act) (ops:List Oper) (Φ:List yI_) (listed:Array Bool) (a:Act) (W:World):Prop where
  m:Midst T w0 a0 ops Φ listed a W
  none_:∀(j:Nat) o φ t,ops[j]?=some o->Φ[j]?=some φ->listed.getD j false=true->o.dst=none->gu_ o=some t->φ (a.eval (.tmp t)) W
theorem zhI {Φ:List yI_}{listed:Array Bool}{a:Act}{W W':World}(hT:T.Ok)(hnb:znL T ops=true)(hdp:zlM ops (zef ops)=true)(hk:∀(j:Nat) φ,Φ[j]?=some φ->zQ_ T.R φ/\(T.soft.contains j=true\/zQ_ T.H φ))(hdead:∀i j,T.hard.contains i=true->T.soft.contains j=true->zfM ops (zef ops) i j=true)(hsz:zkr ops a0.tmps.size=true)(hdi:zfK ops=true)
    (h:Mid2 T w0 a0 ops Φ listed a W) {i:Nat} {o:Oper} {φ:yI_} (hi:ops[i]?=some o) (hun:listed.getD i false=false) (hφ:Φ[i]?=some φ) (hall:∀e∈o.after,Region.binds .any e=true->listed.getD e.on false=true)
    {v:Value} (hW:T.by_ i W W') (hv:φ v W') (hvp:∀t,o.dst=none->gu_ o=some t->v=a.eval (.tmp t)):Mid2 T w0 a0 ops Φ (listed.setIfInBounds i true) (a.put o.dst v) W':=by
 have hnb1:=(Bool.and_eq_true _ _).mp hnb;refine⟨qX_ hT hk hdead hsz hdi h.m hi hun hφ hall hW hv,fun j o' ψ t hj hψ hl hd hp=>?_⟩;by_cases e:j=i
 · subst e;rw[hi]at hj;injection hj with hj;subst hj;rw[hφ]at hψ;injection hψ with hψ;subst hψ;rw[hd];show φ (a.eval (.tmp t)) W';rw[<-hvp t hd hp];exact hv
 · rw[getD_set_ne false (fun h=>e h.symm)]at hl;have hu:=h.none_ j o' ψ t hj hψ hl hd hp;have hne:∀d',o.dst=some d'->(Operand.tmp t)≠.tmp d':=(by
    intro d' hd' hc;injection hc with hc;subst hc;have h1:=List.all_eq_true.1 hnb1.2 j (List.mem_range.2 (List.getElem?_eq_some_iff.1 hj).1);simp only[hj,hd,hp]at h1;have h2:=List.all_eq_true.1 h1 i (List.mem_range.2 (List.getElem?_eq_some_iff.1 hi).1);simp only[hi,Option.bind_some,hd']at h2;have hb:Nat.beq t t=true:=Nat.beq_refl t;rw[hb]at h2;simp only[Bool.not_true,Bool.false_or,Nat.blt_eq]at h2;have hlook:t∈o'.looksAt ops.toArray:=(by
     refine List.mem_append_left _ (List.mem_filterMap.2 ⟨.tmp t,?_,rfl⟩);unfold gu_ at hp;split at hp
     · rename_i t2 l2 he;injection hp with hp;subst hp;rw[he];exact List.mem_cons_self
     · cases hp);have h3:=kK_ hdp hj hlook hi hd' e;rw[if_pos h2]at h3;have:=h.m.anc hl h3;rw[hun]at this;cases this);rw[Act.eval_put hne];unfold Turns.by_ at hW;split at hW
   · rcases(hk j ψ hψ).2 with hs|hs
     · have:=List.all_eq_true.1 hnb1.1 j (by simpa using hs);rw[hj]at this;simp[hd]at this
     · exact hs _ _ _ hu hW
   · exact(hk j ψ hψ).1 _ _ _ hu hW
theorem flow_wp {Φ:List yI_} (hT:T.Ok) (hck:zfx T ops a0.tmps.size=true) (hnb:znL T ops=true) (hlen:Φ.length=ops.length) (hok:∀(k:Nat) o φ,ops[k]?=some o->Φ[k]?=some φ->Op2 P T w0 a0 ops (tab ops (Φ.take k)) k o φ)
    (hend:Flow P T w0 a0 ops Q (tab ops Φ) 0 []):∀(fuel:Nat) (listed:Array Bool) (a:Act) (W:World),Mid2 T w0 a0 ops Φ listed a W->(∀j,listed.getD j true=false->j<ops.length)->(fuel=0->Region.ready .any ops.toArray listed=[]) ->
      ((listed.toList.filter (!·)).length<=fuel)->wpAny P .any ops.toArray Q fuel listed a W:=by
         simp only[zfx,Bool.and_eq_true]at hck;obtain⟨hns,hlow,hsz,hdi,hdp,hdd⟩:=hck;have hdead:∀i j,T.hard.contains i=true->T.soft.contains j=true->zfM ops (zef ops) i j=true:=fun i j hi hj=>List.all_eq_true.1 (List.all_eq_true.1 hdd i (by simpa using hi)) j (by simpa using hj);have hk:∀(j:Nat) φ,Φ[j]?=some φ->zQ_ T.R φ/\(T.soft.contains j=true\/zQ_ T.H φ):=fun j φ hφ=>by
          have hjl:j<ops.length:=(by rw[<-hlen];exact(List.getElem?_eq_some_iff.1 hφ).1);rcases hok j ops[j] φ (List.getElem?_eq_getElem hjl) hφ with⟨_,h1⟩|⟨_,_,_,h1,h2,_⟩
          · exact⟨h1.keeps,h1.firm⟩
          · exact⟨h1,h2⟩
         have fin:∀listed a W,Mid2 T w0 a0 ops Φ listed a W->Region.ready .any ops.toArray listed=[]->Q .normal a W:=(by
          intro listed a W h hr;have hall:=zaO hlow h.m hr;have h1:=hend (fun t=>a.eval (.tmp t)) W h.m.rel (fun t φ ht hsoft=>by
           obtain⟨j,o,ho,hd,hφ⟩:=jO_ ht;refine h.m.fact j o φ ho hφ (hall j (List.getElem?_eq_some_iff.1 ho).1) t hd ?_;cases hc:T.soft.contains j with
           | false=>exact .inl rfl
           | true =>
             cases hl:zhW T ops j with
             | true=>exact .inr (.inr rfl)
             | false =>
               have:zcZ T ops t=true:=List.any_eq_true.2 ⟨j,by simpa using hc,by simp[ho,hd,hl]⟩;rw[this]at hsoft;cases hsoft) (fun j o φ t ho hd hp hF=>by
           refine h.none_ j o φ t ho ?_ (hall j (List.getElem?_eq_some_iff.1 ho).1) hd hp;exact znb hlen ho hF);rw[jV_ ops a0 a h.m.defers h.m.size (fun t ht=>h.m.out t fun j o ho _=>ht j o ho)]at h1;exact h1);intro fuel
         induction fuel with
         | zero=>intro listed a W h _ hf _;exact⟨hf rfl,fin listed a W h (hf rfl)⟩
         | succ fuel ih =>
           intro listed a W h hj _ hcount;refine⟨fin listed a W h,fun i hi=>?_⟩;obtain⟨hun,o,ho,hall⟩:=mem_ready.1 hi;have hi':ops[i]?=some o:=(by simpa using ho);have hil:i<ops.length:=(List.getElem?_eq_some_iff.1 hi').1;obtain⟨φ,hφ⟩:∃φ,Φ[i]?=some φ:=⟨Φ[i]'(by omega),List.getElem?_eq_getElem (by omega)⟩;have hop:=hok i o φ hi' hφ;have hfs:∀t,t∈o.looksAt ops.toArray->z5_ a0 (tab ops (Φ.take i)) (.tmp t) (a.eval (.tmp t)) W:=fun t ht=>j2_ hdp hlen h.m hi' (xS_ hun) hall ht;have hsize:i<listed.size:=(by rw[h.m.len];exact hil);have hfalse:listed[i]=false:=(by simpa[Array.getD,hsize] using hun);have next:∀v W',T.by_ i W W'->φ v W'->(∀t,o.dst=none->gu_ o=some t->v=a.eval (.tmp t))->wpAny P .any ops.toArray Q fuel (listed.setIfInBounds i true) (a.put o.dst v) W':=by
            intro v W' hW hv hvp;have hm:=zhI hT hnb hdp hk hdead hsz hdi h hi' (xS_ hun) hφ hall hW hv hvp;have hcnt:((listed.setIfInBounds i true).toList.filter (!·)).length+1=(listed.toList.filter (!·)).length:=by
             rw[Array.toList_setIfInBounds];have hli:listed.toList[i]?=some false:=(by simp[hsize,hfalse]);generalize listed.toList=l at hli;clear hcount hfalse hsize hi hil hun ho hall hi' hφ hop hfs hm hW hv hvp
             induction l generalizing i with
             | nil=>simp at hli
             | cons x xs ih =>
               cases i with
               | zero=>simp only[List.getElem?_cons_zero,Option.some.injEq]at hli;subst hli;simp
               | succ i =>
                 have:=ih (i:=i) (by simpa using hli);cases x<;>simp<;>omega
            refine ih _ _ _ hm (fun j hj'=>?_) (fun h0=>?_) (by omega)
            · rcases Nat.lt_or_ge j ops.length with hlt|hge
              · exact hlt
              · have:(listed.setIfInBounds i true).size<=j:=(by rw[Array.size_setIfInBounds,h.m.len];exact hge);simp[Array.getElem?_eq_none this]at hj'
            · -- nothing is left
              have hz:((listed.setIfInBounds i true).toList.filter (!·)).length=0:=(by omega);rw[List.length_eq_zero_iff,List.filter_eq_nil_iff]at hz;rw[List.eq_nil_iff_forall_not_mem];intro j hjr;obtain⟨hjun,_⟩:=mem_ready.1 hjr;have hjs:j<(listed.setIfInBounds i true).size:=by
               rcases Nat.lt_or_ge j (listed.setIfInBounds i true).size with hlt|hge
               · exact hlt
               · simp[Array.getElem?_eq_none hge]at hjun
              have hb:(listed.setIfInBounds i true)[j]=false:=(by
               rw[Array.getD_eq_getD_getElem?,Array.getElem?_eq_getElem hjs]at hjun;exact hjun);have:=hz _ (Array.getElem_mem_toList hjs);rw[hb]at this;simp at this
           unfold wpOp;simp only[ho];rcases hop with⟨hdst,hop⟩|⟨hdst,tp,hp,hkp,hfm,hg,hdo⟩;rotate_left
           · rw [vw_ hg hfs,if_pos rfl];refine .inl ?_;have hev:EvOk a.eval:=⟨fun _=>rfl,fun _=>rfl,fun _=>rfl⟩;have h1:yA_ P (T.by_ i) (fun _ W'=>φ (a.eval (.tmp tp)) W') W ((execOp a.eval o).run P W):=by
              rcases hdo with hdo|⟨hearly,hdo⟩
              · exact hdo a.eval W hev h.m.rel (yQ_ hfs _ fun _ hx=>hx)
              · refine hdo a.eval W hev (h.m.early fun j hj=>?_) (yQ_ hfs _ fun _ hx=>hx);have h2:=List.all_eq_true.1 hearly j (by simpa using hj);rcases(Bool.or_eq_true _ _).mp h2 with h3|h3
                · rw[Nat.eq_of_beq_eq_true h3];exact xS_ hun
                · cases hc:listed.getD j false with
                  | false=>rfl
                  | true =>
                    have:=h.m.anc hc h3;rw[xS_ hun]at this;cases this
             have nx:∀v W',T.by_ i W W'->φ (a.eval (.tmp tp)) W'->wpAny P .any ops.toArray Q fuel (listed.setIfInBounds i true) (a.put o.dst v) W':=fun v W' hW hv=>(by
              (have:=next (a.eval (.tmp tp)) W' hW hv (fun t _ ht=>by rw[hp]at ht;injection ht with ht;rw[ht]));rw[hdst]at this⊢;exact this);unfold Oper.wp;generalize (execOp a.eval o).run P W=r at h1;cases r with
             | ok n w' =>
               cases n<;>simp only[yA_]at h1<;>simp only[Oper.upon];(case value v=>exact nx v w' h1.1 h1.2);(case skip=>exact nx undef w' h1.1 h1.2);case enter f args =>
                refine h1.mono fun e w'' he=>?_;obtain⟨v,rfl,h2,h3⟩:=he;exact nx v w'' h2 h3
             | halt x w'=>exact h1.elim
           have hN:∀(v:Value) t,o.dst=none->gu_ o=some t->v=a.eval (.tmp t):=fun v t h=>absurd h hdst;rcases hop.does with⟨hg,hdo⟩|⟨hg,he⟩|⟨φg,hg,hdo⟩|⟨φg,hg,he⟩|⟨hg,hearly,hdo⟩
           · rw [vw_ hg hfs,if_pos rfl];refine .inl ?_;have hev:EvOk a.eval:=⟨fun _=>rfl,fun _=>rfl,fun _=>rfl⟩;have h1:=hdo a.eval W hev h.m.rel (yQ_ hfs _ fun _ hx=>hx);unfold Oper.wp;generalize (execOp a.eval o).run P W=r at h1;cases r with
             | ok n w' =>
               cases n<;>simp only[yA_]at h1<;>simp only[Oper.upon];(case value v=>exact next v w' h1.1 h1.2 (hN v));(case skip=>exact next undef w' h1.1 h1.2 (hN undef));case enter f args =>
                refine h1.mono fun e w'' he=>?_;obtain⟨v,rfl,h2,h3⟩:=he;exact next v w'' h2 h3 (hN v)
             | halt x w'=>exact h1.elim
           · rw[hg.elim (fun hg=>vw_ hg hfs) (fun hg=>zdG hg hfs)];simp only[Bool.false_eq_true,if_false];(refine next undef W ?_ (by rw[he];rfl) (hN undef));unfold Turns.by_;split
             · exact hT.sub _ _ (hT.refl W)
             · exact hT.refl W
           · obtain⟨hw,gv,hgv⟩:=ue_ hg hfs;rw[hw,if_pos rfl];refine .inl ?_;have hev:EvOk a.eval:=⟨fun _=>rfl,fun _=>rfl,fun _=>rfl⟩;have h1:=hdo a.eval W gv hev h.m.rel hgv (yQ_ hfs _ fun _ hx=>hx);unfold Oper.wp;generalize (execOp a.eval o).run P W=r at h1;cases r with
             | ok n w' =>
               cases n<;>simp only[yA_]at h1<;>simp only[Oper.upon];(case value v=>exact next v w' h1.1 h1.2 (hN v));(case skip=>exact next undef w' h1.1 h1.2 (hN undef));case enter f args =>
                refine h1.mono fun e w'' he=>?_;obtain⟨v,rfl,h2,h3⟩:=he;exact next v w'' h2 h3 (hN v)
             | halt x w'=>exact h1.elim
           · rw[(ue_ hg hfs).1];simp only[Bool.false_eq_true,if_false];(refine next undef W ?_ (by rw[he];rfl) (hN undef));unfold Turns.by_;split
             · exact hT.sub _ _ (hT.refl W)
             · exact hT.refl W
           · rw [vw_ hg hfs,if_pos rfl];refine .inl ?_;have hev:EvOk a.eval:=⟨fun _=>rfl,fun _=>rfl,fun _=>rfl⟩;have hst:Star T.R w0 W:=h.m.early fun j hj=>by
              have h2:=List.all_eq_true.1 hearly j (by simpa using hj);rcases(Bool.or_eq_true _ _).mp h2 with h3|h3
              · rw[Nat.eq_of_beq_eq_true h3];exact xS_ hun
              · cases hc:listed.getD j false with
                | false=>rfl
                | true =>
                  have:=h.m.anc hc h3;rw[xS_ hun]at this;cases this
             have h1:=hdo a.eval W hev hst (yQ_ hfs _ fun _ hx=>hx);unfold Oper.wp;generalize (execOp a.eval o).run P W=r at h1;cases r with
             | ok n w' =>
               cases n<;>simp only[yA_]at h1<;>simp only[Oper.upon];(case value v=>exact next v w' h1.1 h1.2 (hN v));(case skip=>exact next undef w' h1.1 h1.2 (hN undef));case enter f args =>
                refine h1.mono fun e w'' he=>?_;obtain⟨v,rfl,h2,h3⟩:=he;exact next v w'' h2 h3 (hN v)
             | halt x w'=>exact h1.elim
theorem wp_flow {id:Nat} {a:Act} {w:World} {l:List Oper} {Q:Exit->Act->World->Prop} (hm:P.follows .mixedOrders=true) (T:Turns) (hT:T.Ok) (hck:zfx T l a.tmps.size=true) (hnb:znL T l=true)
    (h:Flow P T w.drew a l Q [] 0 l):(Code.region id l.toArray true).wp P Q a w:=by
      obtain⟨Ψ,hlen,hok,hend⟩:=flow_all (ops:=l) (Φ:=[]) (rest:=l) (fun j=>by simp) (by
       have:tab l []=[]:=(by cases l<;>rfl);rw[this];exact h);simp only[List.nil_append,List.length_nil,Nat.zero_add]at hok hend;refine wp_region_any hm ?_;have hz:∀(n j:Nat),(Array.replicate n false).getD j false=false:=fun n j=>by
       rw[Array.getD_eq_getD_getElem?];rcases Nat.lt_or_ge j n with hlt|hge
       · rw[Array.getElem?_replicate,if_pos hlt];rfl
       · rw[Array.getElem?_eq_none (by simpa using hge)];rfl
      have hno:∀(n j:Nat){C:Prop},(Array.replicate n false).getD j false=true->C:=fun n j C hc=>(by rw[hz]at hc;cases hc);refine flow_wp (ops:=l) hT hck hnb hlen hok (hend 0) _ _ a _ ⟨⟨by simp,hT.sub _ _ (hT.refl _),fun _=>.refl _,rfl,rfl,fun t _=>rfl,fun j o φ _ _ hl=>hno _ _ hl,fun j o _ hl=>hno _ _ hl⟩,fun j o φ t _ _ hl=>hno _ _ hl⟩ (fun j hj=>?_) (fun h0=>?_) (by simp)
      · rcases Nat.lt_or_ge j l.length with hlt|hge
        · exact hlt
        · rw[Array.getD_eq_getD_getElem?,Array.getElem?_eq_none (by simpa using hge)]at hj;cases hj
      · have hl0:l=[]:=List.eq_nil_of_length_eq_zero (by simpa using h0);subst hl0;rfl
end sound
section steps
variable {P:Program} {T:Turns} {w0:World} {a0:Act} {ops:List Oper} {Q:Exit->Act->World->Prop} {F:Said} {k:Nat} {o:Oper} {rest:List Oper}
theorem flow_op (φ:yI_)(hk:zQ_ T.R φ)(hf:T.soft.contains k=true\/zQ_ T.H φ)(hg:zy_ ops F true o)(hd:∀ev W,EvOk ev->T.H w0 W->z6_ a0 F ev W o.op.operands.toList->yA_ P (T.by_ k) φ W ((execOp ev o).run P W))
    (h:Flow P T w0 a0 ops Q ((o.dst,φ)::F) (k+1) rest) (hd0:o.dst≠none:=by intro h;cases h):Flow P T w0 a0 ops Q F k (o::rest):=⟨φ,.inl ⟨hd0,⟨hk,hf,.inl ⟨hg,hd⟩⟩⟩,h⟩
theorem flow_assign {d:Option Tmp}{ty:TypeId}{pos:String}{af:Array Go.Edge}{g:Option (Nat×Bool)}{t:Tmp}{φ:yI_}(hT:T.Ok)(hs:vt_ F t=some φ)(hk:zQ_ T.R φ)(hf:T.soft.contains k=true\/zQ_ T.H φ)
    (hg:zy_ ops F true ⟨d,.assign (.tmp t),ty,pos,af,g⟩) (h:Flow P T w0 a0 ops Q ((d,φ)::F) (k+1) rest) (hd0:d≠none:=by intro h;cases h):Flow P T w0 a0 ops Q F k (⟨d,.assign (.tmp t),ty,pos,af,g⟩::rest):=by
      refine⟨φ,.inl ⟨hd0,⟨hk,hf,.inl ⟨hg,fun ev W _ _ hf=>?_⟩⟩⟩,h⟩;have h1:φ (ev (.tmp t)) W:=(by
       have:z5_ a0 F (.tmp t) (ev (.tmp t)) W:=hf.1;simpa only[z5_,hs] using this);exact⟨hT.by_refl k W,h1⟩
theorem flow1 {x:Operand}{v r:Value}(hT:T.Ok)(hop:o.op.operands=#[x])(hx:Det a0 F x v)(hg:zy_ ops F true o)(hrun:∀ev W,EvOk ev->ev x=v->(execOp ev o).run P W=.ok (.value r) W)
    (h:Flow P T w0 a0 ops Q ((o.dst,isV r)::F) (k+1) rest) (hd0:o.dst≠none:=by intro h;cases h):Flow P T w0 a0 ops Q F k (o::rest) :=
      flow_op (isV r) (zc_ r) (.inr (zc_ r)) hg (fun ev W he _ hf=>by
       rw[hop]at hf;rw[hrun ev W he (hx.at hf.1)];exact⟨hT.by_refl k W,rfl⟩) h hd0
theorem flow2 {x y:Operand}{v u r:Value}(hT:T.Ok)(hop:o.op.operands=#[x,y])(hx:Det a0 F x v)(hy:Det a0 F y u)(hg:zy_ ops F true o)(hrun:∀ev W,EvOk ev->ev x=v->ev y=u->(execOp ev o).run P W=.ok (.value r) W)
    (h:Flow P T w0 a0 ops Q ((o.dst,isV r)::F) (k+1) rest) (hd0:o.dst≠none:=by intro h;cases h):Flow P T w0 a0 ops Q F k (o::rest) :=
      flow_op (isV r) (zc_ r) (.inr (zc_ r)) hg (fun ev W he _ hf=>by
       rw[hop]at hf;rw[hrun ev W he (hx.at hf.1) (hy.at hf.2.1)];exact⟨hT.by_refl k W,rfl⟩) h hd0
theorem flow3 {x y z:Operand}{v u s r:Value}(hT:T.Ok)(hop:o.op.operands=#[x,y,z])(hx:Det a0 F x v)(hy:Det a0 F y u)(hz:Det a0 F z s)(hg:zy_ ops F true o)(hrun:∀ev W,EvOk ev->ev x=v->ev y=u->ev z=s->(execOp ev o).run P W=.ok (.value r) W)
    (h:Flow P T w0 a0 ops Q ((o.dst,isV r)::F) (k+1) rest) (hd0:o.dst≠none:=by intro h;cases h):Flow P T w0 a0 ops Q F k (o::rest) :=
      flow_op (isV r) (zc_ r) (.inr (zc_ r)) hg (fun ev W he _ hf=>by
       rw[hop]at hf;rw[hrun ev W he (hx.at hf.1) (hy.at hf.2.1) (hz.at hf.2.2.1)];exact⟨hT.by_refl k W,rfl⟩) h hd0
theorem flow1h {x:Operand}{v r:Value}(hT:T.Ok)(hop:o.op.operands=#[x])(hx:Det a0 F x v)(hg:zy_ ops F true o)(hrun:∀ev W,EvOk ev->T.H w0 W->ev x=v->(execOp ev o).run P W=.ok (.value r) W)
    (h:Flow P T w0 a0 ops Q ((o.dst,isV r)::F) (k+1) rest) (hd0:o.dst≠none:=by intro h;cases h):Flow P T w0 a0 ops Q F k (o::rest) :=
      flow_op (isV r) (zc_ r) (.inr (zc_ r)) hg (fun ev W he hW hf=>by
       rw[hop]at hf;rw[hrun ev W he hW (hx.at hf.1)];exact⟨hT.by_refl k W,rfl⟩) h hd0
theorem flow_call {d:Option Tmp} {f:FuncId} {args:Array Operand} {ats:Array TypeId} {ty:TypeId} {pos:String} {af:Array Go.Edge} {g:Option (Nat×Bool)} (φ:yI_) (hk:zQ_ T.R φ) (hfm:T.soft.contains k=true\/zQ_ T.H φ) (hf:qh_ P f=true)
    (hg:zy_ ops F true ⟨d,.call { callee:=.value (.func f),args:=args,argTypes:=ats },ty,pos,af,g⟩)
    (hd:∀ev W,EvOk ev->T.H w0 W->z6_ a0 F ev W args.toList->Calls P f (args.toList.map ev).toArray W (fun e w''=>∃v,e=.returned v/\T.by_ k W w''/\φ v w''))
    (h:Flow P T w0 a0 ops Q ((d,φ)::F) (k+1) rest) (hd0:d≠none:=by intro h;cases h):Flow P T w0 a0 ops Q F k (⟨d,.call { callee:=.value (.func f),args:=args,argTypes:=ats },ty,pos,af,g⟩::rest):=by
      refine flow_op φ hk hfm hg (fun ev W he hW hfs=>?_) h hd0;rw[vo_ he hf];have e0:args.map ev=(args.toList.map ev).toArray:=(by cases args;rw[List.map_toArray]);rw[e0];refine hd ev W he hW ?_;have:z6_ a0 F ev W ((.func f:Operand)::args.toList):=(by
       have e:(Op.call { callee:=.value (.func f),args:=args,argTypes:=ats }).operands.toList=(.func f:Operand)::args.toList:=(by
        simp[Op.operands,Call.operands]);rw[<-e];exact hfs);exact this.2
theorem flow_calld {d:Option Tmp}{f:FuncId}{args:Array Operand}{ats:Array TypeId}{ty:TypeId}{pos:String}{af:Array Go.Edge}{g:Option (Nat×Bool)}{vals:List Value}(φ:yI_)(hk:zQ_ T.R φ)(hfm:T.soft.contains k=true\/zQ_ T.H φ)(hf:qh_ P f=true)
    (hg:zy_ ops F true ⟨d,.call { callee:=.value (.func f),args:=args,argTypes:=ats },ty,pos,af,g⟩) (hargs:Dets a0 F args.toList vals)
    (hd:∀W,T.H w0 W->Calls P f vals.toArray W (fun e w''=>∃v,e=.returned v/\T.by_ k W w''/\φ v w''))
    (h:Flow P T w0 a0 ops Q ((d,φ)::F) (k+1) rest) (hd0:d≠none:=by intro h;cases h):Flow P T w0 a0 ops Q F k (⟨d,.call { callee:=.value (.func f),args:=args,argTypes:=ats },ty,pos,af,g⟩::rest) :=
      flow_call φ hk hfm hf hg (fun ev W _ hW hfs=>by rw[hargs.at hfs];exact hd W hW) h hd0
theorem flow_move_out {d:Option Tmp}{ty:TypeId}{pos:String}{af:Array Go.Edge}{g:Option (Nat×Bool)}{t:Tmp}{v:Value}(hT:T.Ok)(hs:vt_ F t=none)(ht:nth a0.tmps.toList t=some v)
    (hg:zy_ ops F true ⟨d,.move (.tmp t),ty,pos,af,g⟩) (h:Flow P T w0 a0 ops Q ((d,isV v)::F) (k+1) rest) (hd0:d≠none:=by intro h;cases h):Flow P T w0 a0 ops Q F k (⟨d,.move (.tmp t),ty,pos,af,g⟩::rest) :=
      flow1 (v:=v) (r:=v) hT rfl (.out hs ht) hg (fun ev W _ e=>by simp[execOp,e,go_sem]) h hd0
theorem flow_slice_both {d:Option Tmp}{t:TypeId}{x y z:Operand}{ty:TypeId}{pos:String}{af:Array Go.Edge}{g:Option (Nat×Bool)}{v u s r:Value}(hT:T.Ok)(hx:Det a0 F x v)(hy:Det a0 F y u)(hz:Det a0 F z s)
    (hrun:∀ev W,EvOk ev->ev x=v->ev y=u->ev z=s->(execOp ev ⟨d,.slice t x (some y) (some z) none,ty,pos,af,g⟩).run P W=.ok (.value r) W)
    (hg:zy_ ops F true ⟨d,.slice t x (some y) (some z) none,ty,pos,af,g⟩) (h:Flow P T w0 a0 ops Q ((d,isV r)::F) (k+1) rest) (hd0:d≠none:=by intro h;cases h):Flow P T w0 a0 ops Q F k (⟨d,.slice t x (some y) (some z) none,ty,pos,af,g⟩::rest) :=
      flow3 (x:=x) (y:=y) (z:=z) hT (by simp[Op.operands]) hx hy hz hg hrun h hd0
theorem flow_store (φ:yI_){t:Tmp}(hd0:o.dst=none)(hp:gu_ o=some t)(hk:zQ_ T.R φ)(hf:T.soft.contains k=true\/zQ_ T.H φ)(hg:zy_ ops F true o)(hd:∀ev W,EvOk ev->T.H w0 W->z6_ a0 F ev W o.op.operands.toList->yA_ P (T.by_ k) (fun _ W'=>φ (ev (.tmp t)) W') W ((execOp ev o).run P W))
    (h:Flow P T w0 a0 ops Q ((none,φ)::F) (k+1) rest):Flow P T w0 a0 ops Q F k (o::rest):=⟨φ,.inr ⟨hd0,t,hp,hk,hf,hg,.inl hd⟩,by rw[hd0];exact h⟩
end steps
end Go.Proofs.YtcbcfcdmdedefaaGreatDoor.F2
namespace Go.Proofs.YtcbcfcdmdedefaaGreatDoor
open Go.RowKit
theorem zkW {T:List UInt8}{p m:Int}{fs:List FnV}(h:ye_ T=(0,p,m,fs)):zH_ p m fs=(T,0)/\RightF p m fs/\T.length<=2048:=by
 unfold ye_ at h;by_cases h2:2048<T.length
 · rw[if_pos h2]at h;injection h with h;omega
 · rw[if_neg h2]at h;cases hp:xK_ T with
   | none=>rw[hp]at h;injection h with h;omega
   | some x =>
     obtain⟨a,b,l⟩:=x;rw[hp]at h;simp only at h;by_cases hr:z9_ (a:Int) (b:Int) l=0
     · rw[if_pos hr]at h;by_cases ht:(zH_ (a:Int) (b:Int) l).1=T
       · rw[if_pos ht]at h;injection h with _ h;injection h with h1 h;injection h with h3 h4;subst h1;subst h3;subst h4;refine⟨?_,x5_.1 hr,by omega⟩;have hu:zH_ (a:Int) (b:Int) l=if 2048<(utx (a:Int) (b:Int) l).length then ([],3) else (utx (a:Int) (b:Int) l,0):=(by unfold zH_;rw[if_pos hr]);by_cases hb:2048<(utx (a:Int) (b:Int) l).length
         · rw[hu,if_pos hb]at ht;simp only at ht;subst ht;cases hp
         · rw[hu,if_neg hb]at ht⊢;simp only at ht;rw[ht]
       · rw[if_neg ht]at h;injection h with h;omega
     · rw[if_neg hr]at h;injection h with h;exact absurd h hr
theorem xC_.small {zs:List (List UInt8)}{T:List UInt8}{p:Nat}(h:xC_ zs T p):T.length<=2048/\p<=64/\1<=zs.length:=by
 obtain⟨_,z,r,hz,hm,hp,hl,hT,_⟩:=h;refine⟨?_,by rw[<-hp];exact hm.2.1,by omega⟩;rw[hT,List.length_take];have:=hm.1;omega
theorem xC_.one {zs:List (List UInt8)}{T T':List UInt8}{p p':Nat}(h:xC_ zs T p)(h':xC_ zs T' p'):T=T'/\p=p':=by
 obtain⟨_,z,r,hz,_,hp,_,hT,_⟩:=h;obtain⟨_,z',r',hz',_,hp',_,hT',_⟩:=h';rw[hz]at hz';injection hz' with e1 e2;subst e1;subst e2;exact⟨hT.trans hT'.symm,hp.symm.trans hp'⟩
def g6_ (zs:List (List UInt8))(r:Int):Prop :=
 (r=12/\((¬∃T p,xC_ zs T p)\/∃T p,xC_ zs T p/\(ye_ T).1≠0)) \/
 (r=25/\∃(T:List UInt8)(p:Nat)(pg ms:Int)(fs:List FnV),xC_ zs T p/\ye_ T=(0,pg,ms,fs)/\((zs.length:Int)<1+(zs_ T.length:Int)+ms\/(p:Int)<pg\/ms<(p:Int)))
def uv_ (zs:List (List UInt8))(T:List UInt8)(p:Nat)(pg ms:Int)(fs:List FnV):Prop :=
 xC_ zs T p/\ye_ T=(0,pg,ms,fs)/\1+(zs_ T.length:Int)+ms<=(zs.length:Int)/\pg<=(p:Int)/\(p:Int)<=ms
def zep (zs:List (List UInt8))(w:World)(e:Ending)(w':World):Prop :=
 (∃r,g6_ zs r/\e=.returned (.tuple #[.agg #[.int .i64 0,.int .i64 0,.slice none 0 0],.pointer none,.int .i64 0,.int .i64 r])/\Chg [] w w') \/
 (∃(T:List UInt8)(p:Nat)(pg ms:Int)(fs:List FnV)(v:Value)(pm gC gD:Nat),uv_ zs T p pg ms fs/\e=.returned (.tuple #[.agg #[.int .i64 pg,.int .i64 ms,v],.pointer (some ⟨pm,0,none⟩),.int .i64 ((1+zs_ T.length:Nat):Int),.int .i64 0]) /\
   w'.ownsRow w.heap.size 44 3 v fs.length (xM_ fs)/\fs.length<=1000/\(∀f∈fs,okF f)/\Mm w' pm gC gD ((zs.drop (1+zs_ T.length)).take p).flatten [] (zK_ p) [] ms.toNat/\w.heap.size<=pm/\w.heap.size<=gC/\w.heap.size<=gD/\Chg [] w w')
section
variable (g:Nat) (cs:List Value)
structure GtH (a b:World):Prop where
  os:b.os=a.os
  tape:b.tape=a.tape
  output:b.output=a.output
  size:a.heap.size<=b.heap.size
  old:∀k,k<a.heap.size->k≠g->b.heap[k]?=a.heap[k]?
  st:(∃xs:List Value,xs.length=3/\zb_ a g 25 xs)->(∃xs:List Value,xs.length=3/\zb_ b g 25 xs)
  fin:zb_ a g 25 cs->zb_ b g 25 cs
end
section
variable {g:Nat} {cs:List Value} {a b:World}
theorem GtH.of_chg (hc:Chg [] a b):GtH g cs a b:=⟨hc.os,hc.tape,hc.output,hc.size,fun k hk _=>hc.block k hk (by simp),fun ⟨xs,h1,h⟩=>⟨xs,h1,h.keep hc⟩,fun h=>h.keep hc⟩
theorem GtH.chg (h:GtH g cs a b):Chg [g] a b:=⟨h.os,h.tape,h.output,h.size,fun k hk hne=>h.old k hk (by simpa using hne)⟩
def gtT (g:Nat)(cs:List Value):Turns:=⟨Chg [],GtH g cs,[12],[]⟩
theorem zpn:(gtT g cs).Ok:=⟨Chg.refl [],fun _ _ h=>GtH.of_chg h,fun _ _ _ h k=>⟨k.os.trans h.os,k.tape.trans h.tape,k.output.trans h.output,Nat.le_trans h.size k.size,fun i hi hne=>(k.old i (Nat.lt_of_lt_of_le hi h.size) hne).trans (h.old i hi hne),fun e=>k.st (h.st e),fun e=>k.fin (h.fin e)⟩⟩
def jnF (g:Nat)(l:List UInt8):yI_:=fun v W=>∃A c,v=.slice A l.length c/\Bs W A l.length c l/\(∀ad,A=some ad->ad.block≠g)
theorem zko {W W':World}{A:Option Addr}{xs:List Value}(h:Src W A xs)(hc:Chg [g] W W')(hA:∀ad,A=some ad->ad.block≠g):Src W' A xs:=by
 intro hp;obtain⟨ad,e,hb,hx⟩:=h hp;refine⟨ad,e,Nat.lt_of_lt_of_le hb hc.size,fun j v hj=>?_⟩;rw[<-hx j v hj];refine World.cell?_of_block (w:=W) (hc.block _ ?_ ?_)
 · have e2:(ad.add j).block=ad.block:=(by unfold Addr.add;split<;>rfl);rw[e2];exact hb
 · have e2:(ad.add j).block=ad.block:=(by unfold Addr.add;split<;>rfl);rw[e2];simpa using hA ad e
theorem zlk (g:Nat)(l:List UInt8):zQ_ (Chg []) (jnF g l):=fun _ _ _ ⟨A,c,e,h,ha⟩ hc=>⟨A,c,e,h.keep hc,ha⟩
theorem zhZ (g:Nat)(cs:List Value)(l:List UInt8):zQ_ (GtH g cs) (jnF g l):=fun _ _ _ ⟨A,c,e,h,ha⟩ hc=>⟨A,c,e,⟨h.len,zko h.src hc.chg ha,h.cap,h.max,h.spot⟩,ha⟩
def mmF (B g:Nat)(l:List UInt8)(k most:Nat):yI_:=fun v W=>∃p gC gD,v=.pointer (some ⟨p,0,none⟩)/\Mm W p gC gD l [] (zK_ k) [] most/\B<=p/\B<=gC/\B<=gD/\p≠g/\gC≠g/\gD≠g
theorem zdC (B g:Nat)(l:List UInt8)(k most:Nat):zQ_ (Chg []) (mmF B g l k most):=fun _ _ _ ⟨p,gC,gD,e,h,r⟩ hc=>⟨p,gC,gD,e,h.keep hc,r⟩
theorem zaU (B g:Nat)(cs:List Value)(l:List UInt8)(k most:Nat):zQ_ (GtH g cs) (mmF B g l k most):=fun _ _ _ ⟨p,gC,gD,e,h,h1,h2,h3,n1,n2,n3⟩ hc=>⟨p,gC,gD,e,h.away hc.chg (by simpa using n1) (by simpa using n2) (by simpa using n3),h1,h2,h3,n1,n2,n3⟩
end
section
variable {w:World} {A:Option Addr} {n c:Nat} {ys:List Value} {zs:List (List UInt8)}
theorem zhn (h:Pgs w A n c ys zs) (hn:n<=100000) (hP:vF_ w.heap.size w):Calls Tryz.prog 46 #[.slice A n c] w (zep zs w):=by
 have HPG:=hQ_ h;have HP:=hQ_ hP;have HZL:=hQ_ h.zlen;have hcap:=h.cap;have hmx:=h.max;have HNO:=hQ_ (show ∀(r:Int) w',g6_ zs r->Chg [] w w'->zep zs w (.returned (.tuple #[.agg #[.int .i64 0,.int .i64 0,.slice none 0 0],.pointer none,.int .i64 0,.int .i64 r])) w' from fun r w' h1 hc=>.inl ⟨r,h1,rfl,hc⟩);have HYES:=hQ_ (show ∀(w':World)(T:List UInt8)(p:Nat)(pg ms:Int)(fs:List FnV)(v:Value)(pm gC gD:Nat),uv_ zs T p pg ms fs->w'.ownsRow w.heap.size 44 3 v fs.length (xM_ fs)->fs.length<=1000->(∀f∈fs,okF f)->Mm w' pm gC gD ((zs.drop (1+zs_ T.length)).take p).flatten [] (zK_ p) [] ms.toNat->w.heap.size<=pm->w.heap.size<=gC->w.heap.size<=gD->Chg [] w w'->zep zs w (.returned (.tuple #[.agg #[.int .i64 pg,.int .i64 ms,v],.pointer (some ⟨pm,0,none⟩),.int .i64 ((1+zs_ T.length:Nat):Int),.int .i64 0])) w' from fun w' T p pg ms fs v pm gC gD h1 h2 h3 h4 h5 h6 h7 h8 h9=>.inr ⟨T,p,pg,ms,fs,v,pm,gC,gD,h1,rfl,h2,h3,h4,h5,h6,h7,h8,h9⟩);generalize zep zs w=PO at HNO HYES⊢;have HRD:=hQ_ (fun (W:World)(hc:Chg [] w W)=>zfa (h.keep hc) hn);clear h hP;unfold zbD at HRD;go_enter Tryz.func46,Tryz.ntmps46;go_upto_region 1 with fail;have hN:=zb_.new w 25 [.int .i64 0,.int .i64 0,.slice none 0 0];have hal:=(Chg.refl [] w).alloc (.cells #[.int .i64 0,.int .i64 0,.slice none 0 0] 25);obtain⟨g,hg⟩:∃g,g=w.heap.size:=⟨_,rfl⟩;have hnl:¬g<w.heap.size:=by omega
 have hw1s:(w.alloc (.cells #[.int .i64 0,.int .i64 0,.slice none 0 0] 25)).heap.size=g+1:=by rw[hg];simp
 rw[<-hg]at hN⊢;have HG:=hQ_ hN;have HW1:=hQ_ hal;have HGZ:=hQ_ hw1s;have HGS:=hQ_ hg;generalize w.alloc (.cells #[.int .i64 0,.int .i64 0,.slice none 0 0] 25)=w1 at HG HW1 HGZ⊢;clear hN hal hg hw1s;go_upto_region 2 with(
  go_at_call 85;refine(HRD.o _ HW1.o).mono ?_;intro e w2 hq;rcases hq with⟨T,p,hy,rfl,hc2⟩|⟨hm,rfl,hc2⟩)
 · have HY:=hQ_ hy;obtain⟨hTl,hp64,hz1⟩:=hy.small;rw[HZL.o]at hz1;have HG2:=hQ_ (HG.o.keep hc2);have HW2:=hQ_ (HW1.o.trans hc2);have HX2:=hQ_ hc2;clear hc2 hy HRD;have HPA:=hQ_ (fun (W:World) (hp:vF_ W.heap.size W)=>zeA (w:=W) T (by omega) hp);unfold vE_ at HPA;have HPE:=hQ_ (show ∀E pg ms fs,ye_ T=(E,pg,ms,fs)->ye_ T=(E,pg,ms,fs) from fun _ _ _ _ h=>h);obtain⟨E,pg,ms,fs,hpe⟩:∃E pg ms fs,ye_ T=(E,pg,ms,fs):=⟨_,_,_,_,rfl⟩;have HPR:=hQ_ hpe;rw[hpe]at HPA;simp only at HPA;clear hpe HPE;have HPGS:=hQ_ (fun (W:World)=>uB_ T (by omega) W);obtain⟨S,hS⟩:∃S,S=zi_ T:=⟨_,rfl⟩;rw[<-hS]at HPA HPGS⊢;clear hS;go_upto_region 5 with(
    go_at_call 86;refine(HPA.o _ (HP.o.here HW2.o)).mono ?_;rintro e w3 ⟨v3,rfl,ho3,hlen3,hok3,hc3⟩;obtain⟨A3,c3,rfl,hF3⟩:=Fnr.of_own (l:=fs) ho3 hlen3 (fun f hf=>by have:=hok3 f hf;unfold okF at this;omega);have HF3:=hQ_ hF3;have HO3:=hQ_ ho3;have HL3:=hQ_ hlen3;have HK3:=hQ_ hok3;have HG3:=hQ_ (HG2.o.keep hc3);have HW3:=hQ_ (HW2.o.trans hc3);clear hc3 ho3 hlen3 hok3 hF3);obtain⟨q,hq⟩:∃q,q=fs.length:=⟨_,rfl⟩;rw[<-hq]at HF3 HL3 HO3⊢;have HQ:=hQ_ hq;clear hq;have hN:=zb_.new w3 25 [.int .i64 pg,.int .i64 ms,.slice A3 q c3];have hal:=(Chg.refl [] w3).alloc (.cells #[.int .i64 pg,.int .i64 ms,.slice A3 q c3] 25);have HU4:=hQ_ hN;have HG4:=hQ_ (HG3.o.keep hal);have HF4:=hQ_ (HF3.o.keep hal);have HO4:=hQ_ (ze_ HO3.o hal);have HW4:=hQ_ (HW3.o.trans hal);have hgu:g<w3.heap.size:=HG3.o.lt;clear hN hal;generalize w3.heap.size=gu at HU4 hgu⊢;generalize w3.alloc (.cells #[.int .i64 pg,.int .i64 ms,.slice A3 q c3] 25)=w4 at HU4 HG4 HF4 HO4 HW4⊢;by_cases hE:E=0
   · subst hE;obtain⟨htx,hR,_⟩:=zkW HPR.o;obtain⟨a,rfl⟩:∃a:Nat,pg=(a:Int):=⟨pg.toNat,by have:=hR.p0;omega⟩;obtain⟨m,rfl⟩:∃m:Nat,ms=(m:Int):=⟨ms.toNat,by have:=hR.p0;have:=hR.pm;omega⟩;have ham:a<=m:=(by have:=hR.pm;omega);have hm64:m<=64:=(by have:=hR.m64;omega);have HTX:=hQ_ (zfX.of_fnr (pg:=(a:Int)) (ms:=(m:Int)) HF4.o (fun f hf=>by have:=HK3.o f hf;unfold okF at this;omega));rw[htx]at HTX;simp only at HTX;have HND:=hQ_ (qT_ HTX.o hTl (fun _=>by omega) (HP.o.here HW4.o));obtain⟨hh,hhe⟩:∃hh,hh=zs_ T.length:=⟨_,rfl⟩;have hh33:hh<=32:=(by rw[hhe];unfold zs_;omega);rw[show xf_ T 0 (m:Int)=1+(hh:Int)+(m:Int) from by unfold xf_;rw[if_pos rfl,hhe]]at HND;rw[<-hhe]at HPGS;have HHE:=hQ_ hhe;clear htx hR hhe HTX;have u0:=HU4.o.cell 0;have u1:=HU4.o.cell 1;have u2:=HU4.o.cell 2;by_cases hbad:(n:Int)<1+(hh:Int)+(m:Int)\/(p:Int)<(a:Int)\/(m:Int)<(p:Int)
     · have HN:=hQ_ (show g6_ zs 25 from .inr ⟨rfl,T,p,_,_,fs,HY.o,HPR.o,by rw[<-HHE.o,HZL.o];exact hbad⟩);have hb3:(n:Int)<1+(hh:Int)+(m:Int)\/(¬(n:Int)<1+(hh:Int)+(m:Int)/\(p:Int)<(a:Int))\/(¬(n:Int)<1+(hh:Int)+(m:Int)/\¬(p:Int)<(a:Int)/\(m:Int)<(p:Int)):=(by omega);clear hbad;rcases hb3 with hb|⟨hb1,hb⟩|⟨hb1,hb2,hb⟩;all_goals
         go_upto_region 8 with(
          go_at_call 77;refine HND.o.mono ?_;rintro e w5 ⟨rfl,hc5⟩;have HG5:=hQ_ (HG4.o.keep hc5);have HW5:=hQ_ (HW4.o.trans hc5);have v0:=(HU4.o.keep hc5).cell 0;have v1:=(HU4.o.keep hc5).cell 1;have v2:=(HU4.o.keep hc5).cell 2;clear hc5);have z0:=HG5.o.cell 0;have z1:=HG5.o.cell 1;have z2:=HG5.o.cell 2;have f0:=HG5.o.frozen 0;have f1:=HG5.o.frozen 1;have f2:=HG5.o.frozen 2;go_wp2_with fail;have HCF:=((HW5.o.setCell (p:=⟨g,0,none⟩) (fun h=>absurd h hnl) (.int .i64 0)).setCell (p:=⟨g,1,none⟩) (fun h=>absurd h hnl) (.int .i64 0)).setCell (p:=⟨g,2,none⟩) (fun h=>absurd h hnl) (.slice none 0 0);have HSS:=((HG5.o.set_ 0 (.int .i64 0)).set_ 1 (.int .i64 0)).set_ 2 (.slice none 0 0);exact bodyPost_ret_by (yF_ (p:=2) (a:=3) (b:=4) (c:=5) (ty:=25) rfl _ _ g 25 [.int .i64 0,.int .i64 0,.slice none 0 0] _ rfl HSS Tryz.underlying25 (by kernel_rfl)) rfl (HNO.o 25 _ HN.o HCF)
     · obtain⟨hg1,hg2,hg3⟩:¬(n:Int)<1+(hh:Int)+(m:Int)/\¬(p:Int)<(a:Int)/\¬(m:Int)<(p:Int):=(by omega);have HGY:=hQ_ (show uv_ zs T p (a:Int) (m:Int) fs from⟨HY.o,HPR.o,by rw[<-HHE.o,HZL.o];omega,by omega,by omega⟩);clear hbad;go_upto_region 10 with(first
        | (go_at_call 77;refine HND.o.mono ?_;rintro e w5 ⟨rfl,hc5⟩;have HK5:=hQ_ hc5;have v0:=(HU4.o.keep hc5).cell 0;have v1:=(HU4.o.keep hc5).cell 1;have v2:=(HU4.o.keep hc5).cell 2;clear hc5)
        | (go_at_call 78;refine(HPGS.o _).mono ?_;rintro e wq ⟨rfl,rfl⟩));clear u0 u1 u2 v0 v1 v2;have HG6:=hQ_ (HG4.o.keep HK5.o);have HU6:=hQ_ (HU4.o.keep HK5.o);have HO6:=hQ_ (ze_ HO4.o HK5.o);have HW6:=hQ_ (HW4.o.trans HK5.o);have hgw:g<wq.heap.size:=HG6.o.lt;have HWG:=hQ_ (show w.heap.size<=g from by omega);obtain⟨q1,hq1⟩:∃q1,q1=1+hh:=⟨_,rfl⟩;have hq1I:1+(hh:Int)=(q1:Int):=(by omega);have HQ1:=hQ_ hq1;have HQ1I:=hQ_ hq1I;rw[hq1I];obtain⟨cs,hcs⟩:∃cs:List Value,cs=[.int .i64 (a:Int),.int .i64 (m:Int),.slice A3 q c3]:=⟨_,rfl⟩;have HCSE:=hQ_ hcs;clear hcs;have TOK:=zpn (g:=g) (cs:=cs);have HIN:=hQ_ (fun (W:World)(hW:GtH g cs wq.drew W)=>(show Chg [] w W from(HW6.o.trans ((Chg.refl [] wq).drew)).then_ hW.chg (fun i hi hlt=>by rw[List.mem_singleton]at hi;subst hi;exact absurd hlt hnl)));have HUIN:=hQ_ (fun (W:World)(hW:GtH g cs wq.drew W)=>(show zb_ W gu 25 [.int .i64 (a:Int),.int .i64 (m:Int),.slice A3 q c3] from(show zb_ wq.drew gu 25 _ from HU6.o).chg hW.chg (by simp;omega)));have HPC:=hQ_ (fun (W:World)(hW:GtH g cs wq.drew W)=>(HPG.o.keep (HIN.o W hW)).cut (lo:=q1) (k:=p) (by omega));obtain⟨Ad,hAd⟩:∃Ad,(if c=q1 then A else Option.map (fun x=>x.add q1) A)=Ad:=⟨_,rfl⟩;rw[hAd]at HPC;obtain⟨FL,hFL⟩:∃FL,FL=((zs.drop q1).take p).flatten:=⟨_,rfl⟩;have H64:=hQ_ (show ∀z∈(zs.drop q1).take p,z.length=64 from fun z hz=>HY.o.1 z (List.mem_of_mem_drop (List.mem_of_mem_take hz)));have hFLl:FL.length=p*64:=(by
        have h1:=(zcl _ H64.o).2;rw[hFL,h1,List.length_take,List.length_drop,HZL.o];omega);have HFL:=hQ_ hFL;have HFLL:=hQ_ hFLl;obtain⟨q2,hq2⟩:∃q2,q2=q1+p:=⟨_,rfl⟩;have hwA:IntKind.i64.wrap ((q1:Int)+(p:Int))=(q2:Int):=(by rw[IntWalk.i64_in _ (by omega)];omega);have HWA:=hQ_ hwA;have hI1:q1<=c:=(by omega);have hI2:q1+p<=c:=(by omega);have hpw:p<=m:=(by omega);have hI1I:(q1:Int)<=(c:Int):=(by omega);have hI2I:(q2:Int)<=(c:Int):=(by omega);have hI3:q1<=q2:=(by omega);have hI4:q2<=c:=(by omega);have HPL:=hQ_ (show q2-q1=p from by omega);clear hq2 hI2;clear hFL hFLl hwA hg1 hg2 hg3 hq1 hq1I;refine F2.wp_flow (by kernel_rfl) (gtT g cs) TOK (by kernel_rfl) (by kernel_rfl) ?_;refine F2.flow1h (r:=.agg #[.int .i64 (a:Int),.int .i64 (m:Int),.slice A3 q c3]) TOK rfl (.out rfl rfl) rfl (fun ev W he hW e1=>by
        have hk:=HUIN.o W hW;have q0:=hk.cell 0;have q1:=hk.cell 1;have q2:=hk.cell 2;clear hW hk;go_simp) ?_;refine F2.flow_move_out TOK rfl rfl rfl ?_;refine F2.flow_move_out TOK rfl rfl rfl ?_;refine F2.flow_move_out TOK rfl rfl rfl ?_;refine F2.flow_move_out TOK rfl rfl rfl ?_;refine F2.flow2 (r:=.int .i64 (q2:Int)) TOK rfl (.inn rfl) (.inn rfl) rfl (fun ev W he e1 e2=>by have q:=HWA.o;go_simp) ?_;refine F2.flow_slice_both (r:=.slice Ad p (c-q1)) TOK (.inn rfl) (.inn rfl) (.inn rfl) (fun ev W he e1 e2 e3=>by
        have hpl:=HPL.o;rw[<-hAd];split
        · rename_i hcq;have hlt:¬q1<q2:=(by omega);go_simp
        · go_simp) rfl ?_;refine F2.flow_calld (jnF g FL) (zlk g FL) (.inr (zhZ g cs FL)) (by kernel_rfl) rfl (.cons (.inn rfl) (.cons (.const _) .nil)) (fun W hW=>(qU_ (HPC.o W hW) H64.o (by omega)).mono ?_) ?_
       · rintro e w' ⟨A',c',rfl,hb,hc,hfr⟩;rw[<-HFL.o]at hb⊢;exact⟨_,rfl,hc,A',c',rfl,hb,fun ad e=>by have h1:=hfr ad e;have h2:wq.heap.size<=W.heap.size:=hW.size;omega⟩
       refine F2.flow1 (r:=.pointer (some ⟨gu,1,none⟩)) TOK rfl (.out rfl rfl) rfl (fun ev W he e1=>by go_simp) ?_;refine F2.flow1h (r:=.int .i64 (m:Int)) TOK rfl (.inn rfl) rfl (fun ev W he hW e1=>by
        have hk:=HUIN.o W hW;have q1:=hk.cell 1;clear hW hk;go_simp) ?_;refine F2.flow_call (mmF w.heap.size g FL p m) (zdC _ _ _ _ _) (.inr (zaU _ _ _ _ _ _)) (by kernel_rfl) rfl (fun ev W he hW hf=>?_) ?_
       · obtain⟨A',c',e1,hb,_⟩:jnF g FL (ev (.tmp 57)) W:=hf.1;have e2:ev (.tmp 59)=.int .i64 (m:Int):=hf.2.1;rw[show(#[Operand.tmp 57,Operand.tmp 59].toList.map ev).toArray=#[ev (.tmp 57),ev (.tmp 59)] from rfl,e1,e2];have hl:=HFLL.o;refine(zjf rfl hb.src m (by omega) (by omega) hm64).mono ?_;rintro e w' ⟨pm,gC,gD,rfl,hM,h1,h2,h3,hc⟩;rw[show FL.length/64=p from by omega]at hM;have h4:wq.heap.size<=W.heap.size:=hW.size;have h5:w.heap.size<=W.heap.size:=(HIN.o W hW).size;exact⟨_,rfl,hc,pm,gC,gD,rfl,hM,by omega,by omega,by omega,by omega,by omega,by omega⟩
       refine F2.flow_move_out TOK rfl rfl rfl ?_;refine F2.flow_store (fun _ W=>zb_ W g 25 cs) (t:=2) rfl rfl (fun _ _ _ h hc=>h.keep hc) (.inr (fun _ _ _ h hc=>hc.fin h)) rfl (fun ev W he hW hf=>?_) ?_
       · have e1:ev (.tmp 2)=.pointer (some ⟨g,0,none⟩):=Det.at (.out rfl rfl) hf.1;have e2:ev (.tmp 50)=.agg #[.int .i64 (a:Int),.int .i64 (m:Int),.slice A3 q c3]:=hf.2.1;obtain⟨xs,hx3,hWg⟩:=hW.st ⟨_,rfl,HG6.o⟩;obtain⟨x0,x1,x2,rfl⟩:=zeF hx3;have c0:=hWg.cell 0;have c1:=hWg.cell 1;have c2:=hWg.cell 2;have q0:=hWg.frozen 0;have q1:=hWg.frozen 1;have q2:=hWg.frozen 2;have hph:zb_ (((W.setCell ⟨g,0,none⟩ (.int .i64 (a:Int))).setCell ⟨g,1,none⟩ (.int .i64 (m:Int))).setCell ⟨g,2,none⟩ (.slice A3 q c3)) g 25 cs:=(by
          have:=((hWg.set_ 0 (.int .i64 (a:Int))).set_ 1 (.int .i64 (m:Int))).set_ 2 (.slice A3 q c3);rw[HCSE.o];simpa using this);have hH:GtH g cs W (((W.setCell ⟨g,0,none⟩ (.int .i64 (a:Int))).setCell ⟨g,1,none⟩ (.int .i64 (m:Int))).setCell ⟨g,2,none⟩ (.slice A3 q c3)):=⟨rfl,rfl,rfl,by rw[yu_,yu_,yu_];exact Nat.le_refl _,fun k _ hne=>(Below.heap_setCell _ ⟨g,2,none⟩ _ k hne).trans ((Below.heap_setCell _ ⟨g,1,none⟩ _ k hne).trans (Below.heap_setCell W ⟨g,0,none⟩ _ k hne)),fun _=>⟨cs,by rw[HCSE.o];rfl,hph⟩,fun _=>hph⟩;clear hf hW hWg;go_simp;exact⟨hH,hph⟩
       refine F2.flow_assign TOK rfl (zdC _ _ _ _ _) (.inr (zaU _ _ _ _ _ _)) rfl ?_;refine F2.flow_assign TOK rfl (zc_ _) (.inr (zc_ _)) rfl ?_;refine F2.flow1 (r:=.int .i64 0) TOK rfl (.const _) rfl (fun ev W he e1=>by go_simp) ?_;intro vs W hW hF hN;have hst:=hN 12 _ _ 2 rfl rfl rfl rfl;obtain⟨pm,gC,gD,e3,hM,h1,h2,h3,_⟩:mmF w.heap.size g FL p m (vs 3) W:=hF 3 _ rfl rfl;have e4:vs 4=.int .i64 (q1:Int):=hF 4 _ rfl rfl;have e5:vs 5=.int .i64 0:=hF 5 _ rfl rfl;have HCW:=hQ_ (HIN.o W hW);have HST:=hQ_ hst;have HOW:=hQ_ (zR_ (show wq.drew.ownsRow _ _ _ _ _ _ from HO6.o) hW.chg (fun i hi=>by rw[List.mem_singleton]at hi;subst hi;exact .inl (by have:=HG2.o.lt;exact this)));simp only[zV_,Act.put,List.setIfInBounds_toArray,List.set_cons_zero,List.set_cons_succ];rw[e3,e4,e5];have HM:=hQ_ hM;have HB:=hQ_ (And.intro h1 (And.intro h2 h3));clear hF hW e3 e4 e5 hst hM h1 h2 h3 hN TOK;obtain⟨wz,hwz⟩:∃wz:World,wz=W:=⟨_,rfl⟩;rw[<-hwz]at HCW HST HOW HM⊢;clear hwz;have hfin:=HYES.o wz T p (a:Int) (m:Int) fs (.slice A3 q c3) pm gC gD HGY.o (by rw[<-HQ.o];exact yk_ HOW.o HW2.o.size) (by rw[<-HQ.o];exact HL3.o) HK3.o (by rw[<-HHE.o,<-HQ1.o,<-HFL.o];exact HM.o) HB.o.1 HB.o.2.1 HB.o.2.2 HCW.o;rw[<-HHE.o,<-HQ1.o]at hfin;have HFIN:=hQ_ hfin;clear hfin;have hcs:=HCSE.o;subst hcs;go_wp2_with fail;exact bodyPost_ret_by (yF_ (p:=2) (a:=3) (b:=4) (c:=5) (ty:=25) rfl _ _ g 25 [.int .i64 (a:Int),.int .i64 (m:Int),.slice A3 q c3] _ rfl HST.o Tryz.underlying25 (by kernel_rfl)) rfl HFIN.o
   · have hd:(E==0)=false:=(by simpa using hE);have HN:=hQ_ (show g6_ zs 12 from .inl ⟨rfl,.inr ⟨T,p,HY.o,by rw[HPR.o];exact hE⟩⟩);have z0:=HG4.o.cell 0;have z1:=HG4.o.cell 1;have z2:=HG4.o.cell 2;have f0:=HG4.o.frozen 0;have f1:=HG4.o.frozen 1;have f2:=HG4.o.frozen 2;clear hE;go_wp2_with fail;have HCF:=((HW4.o.setCell (p:=⟨g,0,none⟩) (fun h=>absurd h hnl) (.int .i64 0)).setCell (p:=⟨g,1,none⟩) (fun h=>absurd h hnl) (.int .i64 0)).setCell (p:=⟨g,2,none⟩) (fun h=>absurd h hnl) (.slice none 0 0);have HSS:=((HG4.o.set_ 0 (.int .i64 0)).set_ 1 (.int .i64 0)).set_ 2 (.slice none 0 0);exact bodyPost_ret_by (yF_ (p:=2) (a:=3) (b:=4) (c:=5) (ty:=25) rfl _ _ g 25 [.int .i64 0,.int .i64 0,.slice none 0 0] _ rfl HSS Tryz.underlying25 (by kernel_rfl)) rfl (HNO.o 12 _ HN.o HCF)
 · have HN:=hQ_ (show g6_ zs 12 from .inl ⟨rfl,.inl hm⟩);have HG2:=hQ_ (HG.o.keep hc2);have HW2:=hQ_ (HW1.o.trans hc2);have z0:=HG2.o.cell 0;have z1:=HG2.o.cell 1;have z2:=HG2.o.cell 2;have f0:=HG2.o.frozen 0;have f1:=HG2.o.frozen 1;have f2:=HG2.o.frozen 2;clear hc2 hm HRD;go_wp2_with fail;have HCF:=((HW2.o.setCell (p:=⟨g,0,none⟩) (fun h=>absurd h hnl) (.int .i64 0)).setCell (p:=⟨g,1,none⟩) (fun h=>absurd h hnl) (.int .i64 0)).setCell (p:=⟨g,2,none⟩) (fun h=>absurd h hnl) (.slice none 0 0);have HSS:=((HG2.o.set_ 0 (.int .i64 0)).set_ 1 (.int .i64 0)).set_ 2 (.slice none 0 0);exact bodyPost_ret_by (yF_ (p:=2) (a:=3) (b:=4) (c:=5) (ty:=25) rfl _ _ g 25 [.int .i64 0,.int .i64 0,.slice none 0 0] _ rfl HSS Tryz.underlying25 (by kernel_rfl)) rfl (HNO.o 12 _ HN.o HCF)
end
end Go.Proofs.YtcbcfcdmdedefaaGreatDoor
