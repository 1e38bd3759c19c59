import Derived.Test.YtcbcfcdmdedefaaGreatDoorZHQ19
set_option maxRecDepth 100000
set_option maxHeartbeats 16000000
namespace Go.Proofs.YtcbcfcdmdedefaaGreatDoor.F2
open Go.RowKit
def gy_ (o:Oper):Option Tmp:=match o.op.operands.toList with
  | .tmp t::_=>some t
  | _=>none
def Op2 (P:Program) (T:Turns) (w0:World) (a0:Act) (ops:List Oper) (F:Said) (k:Nat) (o:Oper) (φ:yJ_):Prop :=
 (o.dst≠none/\OpOk P T w0 a0 ops F k o φ)\/(o.dst=none/\∃t,gy_ o=some t/\zQ_ T.R φ/\(T.soft.contains k=true\/zQ_ T.H φ)/\zy_ ops F true o /\
   ((∀ev W,EvOk ev->T.H w0 W->z6_ a0 F ev W o.op.operands.toList->yB_ P (T.by_ k) (fun _ W'=>φ (ev (.tmp t)) W') W ((execOp ev o).run P W)) \/
    (ziW T ops k=true/\∀ev W,EvOk ev->Star T.R w0 W->z6_ a0 F ev W o.op.operands.toList->yB_ P (T.by_ k) (fun _ W'=>φ (ev (.tmp t)) W') W ((execOp ev o).run P W))))
def Flow (P:Program)(T:Turns)(w0:World)(a0:Act)(ops:List Oper)(Q:Exit->Act->World->Prop):Said->Nat->List Oper->Prop
  | F,_,[]=>∀(vs:Tmp->Value) W,T.H w0 W->(∀t φ,vw_ F t=some φ->zdh T ops t=false->φ (vs t) W)->(∀(j:Nat)(o:Oper)(φ:yJ_)(t:Tmp),ops[j]?=some o->o.dst=none->gy_ o=some t->F.reverse[j]?=some (none,φ)->φ (vs t) W)->Q .normal (zW_ a0 ops vs) W
  | F,k,o::rest=>∃φ,Op2 P T w0 a0 ops F k o φ/\Flow P T w0 a0 ops Q ((o.dst,φ)::F) (k+1) rest
def znR (T:Turns) (ops:List Oper):Bool:=(T.soft.all fun k=>((ops[k]?).bind (·.dst)).isSome)&&((List.range ops.length).all fun k=>match ops[k]? with
  | some o=>(match o.dst,gy_ o with
    | none,some t=>(List.range ops.length).all fun j=>match (ops[j]?).bind (·.dst) with
      | some d=>!(Nat.beq d t)||Nat.blt j k
      | none=>true
    | _,_=>true)
  | none=>true)
section sound
variable {P:Program} {T:Turns} {w0:World} {a0:Act} {ops:List Oper} {Q:Exit->Act->World->Prop}
theorem flow_all {Φ:List yJ_}{rest:List Oper}(hrest:∀j:Nat,rest[j]?=ops[Φ.length+j]?)(h:Flow P T w0 a0 ops Q (tab ops Φ) Φ.length rest) :
    ∃Ψ:List yJ_,Ψ.length=rest.length/\(∀k o φ,rest[k]?=some o->Ψ[k]?=some φ->Op2 P T w0 a0 ops (tab ops (Φ++Ψ.take k)) (Φ.length+k) o φ)/\∀n,Flow P T w0 a0 ops Q (tab ops (Φ++Ψ)) n []:=by
 induction rest generalizing Φ with
 | nil=>exact⟨[],rfl,fun k o φ hk=>by simp at hk,fun n=>by simpa only[List.append_nil] using(show Flow P T w0 a0 ops Q (tab ops Φ) n [] from h)⟩
 | cons o rest ih =>
   obtain⟨φ,hφ,h⟩:=h;have h0:ops[Φ.length]?=some o:=(by simpa using(hrest 0).symm);rw[<-go_ ops Φ o φ h0]at h;obtain⟨Ψ,hl,hk,he⟩:=ih (Φ:=Φ++[φ]) (fun j=>by have:=hrest (j+1);simp only[List.getElem?_cons_succ]at this;rw[this];congr 1;simp only[List.length_append,List.length_cons,List.length_nil];omega) (by simpa using h);refine⟨φ::Ψ,by simp[hl],fun k o' φ' ho hφ'=>?_,fun n=>by simpa using he n⟩;cases k with
   | zero =>
     simp only[List.getElem?_cons_zero,Option.some.injEq]at ho hφ';subst ho hφ';simpa using hφ
   | succ k =>
     have:=hk k o' φ' (by simpa using ho) (by simpa using hφ');simp only[List.length_append,List.length_cons,List.length_nil]at this;rw[show Φ.length+(k+1)=Φ.length+1+k by omega];simpa using this
theorem zmZ:∀{ops:List Oper}{Φ:List yJ_}{j:Nat}{o:Oper}{d:Option Tmp}{φ:yJ_},Φ.length=ops.length->ops[j]?=some o->(tab ops Φ).reverse[j]?=some (d,φ)->Φ[j]?=some φ:=by
 intro ops
 induction ops with
 | nil=>intro Φ j o d φ _ h;simp at h
 | cons x os ih =>
   intro Φ j o d φ hl hj h;cases Φ with
   | nil=>simp at hl
   | cons ψ Φ =>
     simp only[tab,List.reverse_append,List.reverse_cons,List.reverse_nil,List.nil_append,List.cons_append]at h;cases j with
     | zero=>simp only[List.getElem?_cons_zero,Option.some.injEq,Prod.mk.injEq]at h⊢;exact h.2
     | succ j =>
       rw[List.getElem?_cons_succ]at h hj⊢;exact ih (by simpa using hl) hj h
structure Mid2 (T:Turns) (w0:World) (a0:Act) (ops:List Oper) (Φ:List yJ_) (listed:Array Bool) (a:Act) (W:World):Prop where
  m:Midst T w0 a0 ops Φ listed a W
  none_:∀(j:Nat) o φ t,ops[j]?=some o->Φ[j]?=some φ->listed.getD j false=true->o.dst=none->gy_ o=some t->φ (a.eval (.tmp t)) W
theorem zhL {Φ:List yJ_}{listed:Array Bool}{a:Act}{W W':World}(hT:T.Ok)(hnb:znR T ops=true)(hdp:zlI ops (zep ops)=true)(hk:∀(j:Nat) φ,Φ[j]?=some φ->zQ_ T.R φ/\(T.soft.contains j=true\/zQ_ T.H φ))(hdead:∀i j,T.hard.contains i=true->T.soft.contains j=true->zfS ops (zep ops) i j=true)(hsz:zkk ops a0.tmps.size=true)(hdi:zfQ ops=true)
    (h:Mid2 T w0 a0 ops Φ listed a W) {i:Nat} {o:Oper} {φ:yJ_} (hi:ops[i]?=some o) (hun:listed.getD i false=false) (hφ:Φ[i]?=some φ) (hall:∀e∈o.after,Region.binds .any e=true->listed.getD e.on false=true)
    {v:Value} (hW:T.by_ i W W') (hv:φ v W') (hvp:∀t,o.dst=none->gy_ o=some t->v=a.eval (.tmp t)):Mid2 T w0 a0 ops Φ (listed.setIfInBounds i true) (a.put o.dst v) W':=by
 have hnb1:=(Bool.and_eq_true _ _).mp hnb;refine⟨q0_ hT hk hdead hsz hdi h.m hi hun hφ hall hW hv,fun j o' ψ t hj hψ hl hd hp=>?_⟩;by_cases e:j=i
 · subst e;rw[hi]at hj;injection hj with hj;subst hj;rw[hφ]at hψ;injection hψ with hψ;subst hψ;rw[hd];show φ (a.eval (.tmp t)) W';rw[<-hvp t hd hp];exact hv
 · rw[Go.getD_set_ne false (fun h=>e h.symm)]at hl;have hu:=h.none_ j o' ψ t hj hψ hl hd hp;have hne:∀d',o.dst=some d'->(Operand.tmp t)≠.tmp d':=(by
    intro d' hd' hc;injection hc with hc;subst hc;have h1:=List.all_eq_true.1 hnb1.2 j (List.mem_range.2 (List.getElem?_eq_some_iff.1 hj).1);simp only[hj,hd,hp]at h1;have h2:=List.all_eq_true.1 h1 i (List.mem_range.2 (List.getElem?_eq_some_iff.1 hi).1);simp only[hi,Option.bind_some,hd']at h2;have hb:Nat.beq t t=true:=Nat.beq_refl t;rw[hb]at h2;simp only[Bool.not_true,Bool.false_or,Nat.blt_eq]at h2;have hlook:t∈o'.looksAt ops.toArray:=(by
     refine List.mem_append_left _ (List.mem_filterMap.2 ⟨.tmp t,?_,rfl⟩);unfold gy_ at hp;split at hp
     · rename_i t2 l2 he;injection hp with hp;subst hp;rw[he];exact List.mem_cons_self
     · cases hp);have h3:=kP_ hdp hj hlook hi hd' e;rw[if_pos h2]at h3;have:=h.m.anc hl h3;rw[hun]at this;cases this);rw[Act.eval_put hne];unfold Turns.by_ at hW;split at hW
   · rcases(hk j ψ hψ).2 with hs|hs
     · have:=List.all_eq_true.1 hnb1.1 j (by simpa using hs);rw[hj]at this;simp[hd]at this
     · exact hs _ _ _ hu hW
   · exact(hk j ψ hψ).1 _ _ _ hu hW
theorem flow_wp {Φ:List yJ_} (hT:T.Ok) (hck:zfC T ops a0.tmps.size=true) (hnb:znR T ops=true) (hlen:Φ.length=ops.length) (hok:∀(k:Nat) o φ,ops[k]?=some o->Φ[k]?=some φ->Op2 P T w0 a0 ops (tab ops (Φ.take k)) k o φ)
    (hend:Flow P T w0 a0 ops Q (tab ops Φ) 0 []):∀(fuel:Nat) (listed:Array Bool) (a:Act) (W:World),Mid2 T w0 a0 ops Φ listed a W->(∀j,listed.getD j true=false->j<ops.length)->(fuel=0->Region.ready .any ops.toArray listed=[]) ->
      ((listed.toList.filter (!·)).length<=fuel)->wpAny P .any ops.toArray Q fuel listed a W:=by
         simp only[zfC,Bool.and_eq_true]at hck;obtain⟨hns,hlow,hsz,hdi,hdp,hdd⟩:=hck;have hdead:∀i j,T.hard.contains i=true->T.soft.contains j=true->zfS ops (zep ops) i j=true:=fun i j hi hj=>List.all_eq_true.1 (List.all_eq_true.1 hdd i (by simpa using hi)) j (by simpa using hj);have hk:∀(j:Nat) φ,Φ[j]?=some φ->zQ_ T.R φ/\(T.soft.contains j=true\/zQ_ T.H φ):=fun j φ hφ=>by
          have hjl:j<ops.length:=(by rw[<-hlen];exact(List.getElem?_eq_some_iff.1 hφ).1);rcases hok j ops[j] φ (List.getElem?_eq_getElem hjl) hφ with⟨_,h1⟩|⟨_,_,_,h1,h2,_⟩
          · exact⟨h1.keeps,h1.firm⟩
          · exact⟨h1,h2⟩
         have fin:∀listed a W,Mid2 T w0 a0 ops Φ listed a W->Region.ready .any ops.toArray listed=[]->Q .normal a W:=(by
          intro listed a W h hr;have hall:=zaT hlow h.m hr;have h1:=hend (fun t=>a.eval (.tmp t)) W h.m.rel (fun t φ ht hsoft=>by
           obtain⟨j,o,ho,hd,hφ⟩:=jM_ ht;refine h.m.fact j o φ ho hφ (hall j (List.getElem?_eq_some_iff.1 ho).1) t hd ?_;cases hc:T.soft.contains j with
           | false=>exact .inl rfl
           | true =>
             cases hl:zhY T ops j with
             | true=>exact .inr (.inr rfl)
             | false =>
               have:zdh T ops t=true:=List.any_eq_true.2 ⟨j,by simpa using hc,by simp[ho,hd,hl]⟩;rw[this]at hsoft;cases hsoft) (fun j o φ t ho hd hp hF=>by
           refine h.none_ j o φ t ho ?_ (hall j (List.getElem?_eq_some_iff.1 ho).1) hd hp;exact zmZ hlen ho hF);rw[jT_ ops a0 a h.m.defers h.m.size (fun t ht=>h.m.out t fun j o ho _=>ht j o ho)]at h1;exact h1);intro fuel
         induction fuel with
         | zero=>intro listed a W h _ hf _;exact⟨hf rfl,fin listed a W h (hf rfl)⟩
         | succ fuel ih =>
           intro listed a W h hj _ hcount;refine⟨fin listed a W h,fun i hi=>?_⟩;obtain⟨hun,o,ho,hall⟩:=mem_ready.1 hi;have hi':ops[i]?=some o:=(by simpa using ho);have hil:i<ops.length:=(List.getElem?_eq_some_iff.1 hi').1;obtain⟨φ,hφ⟩:∃φ,Φ[i]?=some φ:=⟨Φ[i]'(by omega),List.getElem?_eq_getElem (by omega)⟩;have hop:=hok i o φ hi' hφ;have hfs:∀t,t∈o.looksAt ops.toArray->z5_ a0 (tab ops (Φ.take i)) (.tmp t) (a.eval (.tmp t)) W:=fun t ht=>j0_ hdp hlen h.m hi' (xT_ hun) hall ht;have hsize:i<listed.size:=(by rw[h.m.len];exact hil);have hfalse:listed[i]=false:=(by simpa[Array.getD,hsize] using hun);have next:∀v W',T.by_ i W W'->φ v W'->(∀t,o.dst=none->gy_ o=some t->v=a.eval (.tmp t))->wpAny P .any ops.toArray Q fuel (listed.setIfInBounds i true) (a.put o.dst v) W':=by
            intro v W' hW hv hvp;have hm:=zhL hT hnb hdp hk hdead hsz hdi h hi' (xT_ hun) hφ hall hW hv hvp;have hcnt:((listed.setIfInBounds i true).toList.filter (!·)).length+1=(listed.toList.filter (!·)).length:=by
             rw[Array.toList_setIfInBounds];have hli:listed.toList[i]?=some false:=(by simp[hsize,hfalse]);generalize listed.toList=l at hli;clear hcount hfalse hsize hi hil hun ho hall hi' hφ hop hfs hm hW hv hvp
             induction l generalizing i with
             | nil=>simp at hli
             | cons x xs ih =>
               cases i with
               | zero=>simp only[List.getElem?_cons_zero,Option.some.injEq]at hli;subst hli;simp
               | succ i =>
                 have:=ih (i:=i) (by simpa using hli);cases x<;>simp<;>omega
            refine ih _ _ _ hm (fun j hj'=>?_) (fun h0=>?_) (by omega)
            · rcases Nat.lt_or_ge j ops.length with hlt|hge
              · exact hlt
              · have:(listed.setIfInBounds i true).size<=j:=(by rw[Array.size_setIfInBounds,h.m.len];exact hge);simp[Array.getElem?_eq_none this]at hj'
            · -- nothing is left
              have hz:((listed.setIfInBounds i true).toList.filter (!·)).length=0:=(by omega);rw[List.length_eq_zero_iff,List.filter_eq_nil_iff]at hz;rw[List.eq_nil_iff_forall_not_mem];intro j hjr;obtain⟨hjun,_⟩:=mem_ready.1 hjr;have hjs:j<(listed.setIfInBounds i true).size:=by
               rcases Nat.lt_or_ge j (listed.setIfInBounds i true).size with hlt|hge
               · exact hlt
               · simp[Array.getElem?_eq_none hge]at hjun
              have hb:(listed.setIfInBounds i true)[j]=false:=(by
               rw[Array.getD_eq_getD_getElem?,Array.getElem?_eq_getElem hjs]at hjun;exact hjun);have:=hz _ (Array.getElem_mem_toList hjs);rw[hb]at this;simp at this
           unfold wpOp;simp only[ho];rcases hop with⟨hdst,hop⟩|⟨hdst,tp,hp,hkp,hfm,hg,hdo⟩;rotate_left
           · rw [vz_ hg hfs,if_pos rfl];refine .inl ?_;have hev:EvOk a.eval:=⟨fun _=>rfl,fun _=>rfl,fun _=>rfl⟩;have h1:yB_ P (T.by_ i) (fun _ W'=>φ (a.eval (.tmp tp)) W') W ((execOp a.eval o).run P W):=by
              rcases hdo with hdo|⟨hearly,hdo⟩
              · exact hdo a.eval W hev h.m.rel (yS_ hfs _ fun _ hx=>hx)
              · refine hdo a.eval W hev (h.m.early fun j hj=>?_) (yS_ hfs _ fun _ hx=>hx);have h2:=List.all_eq_true.1 hearly j (by simpa using hj);rcases(Bool.or_eq_true _ _).mp h2 with h3|h3
                · rw[Nat.eq_of_beq_eq_true h3];exact xT_ hun
                · cases hc:listed.getD j false with
                  | false=>rfl
                  | true =>
                    have:=h.m.anc hc h3;rw[xT_ hun]at this;cases this
             have nx:∀v W',T.by_ i W W'->φ (a.eval (.tmp tp)) W'->wpAny P .any ops.toArray Q fuel (listed.setIfInBounds i true) (a.put o.dst v) W':=fun v W' hW hv=>(by
              (have:=next (a.eval (.tmp tp)) W' hW hv (fun t _ ht=>by rw[hp]at ht;injection ht with ht;rw[ht]));rw[hdst]at this⊢;exact this);unfold Oper.wp;generalize (execOp a.eval o).run P W=r at h1;cases r with
             | ok n w' =>
               cases n<;>simp only[yB_]at h1<;>simp only[Oper.upon];(case value v=>exact nx v w' h1.1 h1.2);(case skip=>exact nx undef w' h1.1 h1.2);case enter f args =>
                refine h1.mono fun e w'' he=>?_;obtain⟨v,rfl,h2,h3⟩:=he;exact nx v w'' h2 h3
             | halt x w'=>exact h1.elim
           have hN:∀(v:Value) t,o.dst=none->gy_ o=some t->v=a.eval (.tmp t):=fun v t h=>absurd h hdst;rcases hop.does with⟨hg,hdo⟩|⟨hg,he⟩|⟨φg,hg,hdo⟩|⟨φg,hg,he⟩|⟨hg,hearly,hdo⟩
           · rw [vz_ hg hfs,if_pos rfl];refine .inl ?_;have hev:EvOk a.eval:=⟨fun _=>rfl,fun _=>rfl,fun _=>rfl⟩;have h1:=hdo a.eval W hev h.m.rel (yS_ hfs _ fun _ hx=>hx);unfold Oper.wp;generalize (execOp a.eval o).run P W=r at h1;cases r with
             | ok n w' =>
               cases n<;>simp only[yB_]at h1<;>simp only[Oper.upon];(case value v=>exact next v w' h1.1 h1.2 (hN v));(case skip=>exact next undef w' h1.1 h1.2 (hN undef));case enter f args =>
                refine h1.mono fun e w'' he=>?_;obtain⟨v,rfl,h2,h3⟩:=he;exact next v w'' h2 h3 (hN v)
             | halt x w'=>exact h1.elim
           · rw[hg.elim (fun hg=>vz_ hg hfs) (fun hg=>zdO hg hfs)];simp only[Bool.false_eq_true,if_false];(refine next undef W ?_ (by rw[he];rfl) (hN undef));unfold Turns.by_;split
             · exact hT.sub _ _ (hT.refl W)
             · exact hT.refl W
           · obtain⟨hw,gv,hgv⟩:=ue_ hg hfs;rw[hw,if_pos rfl];refine .inl ?_;have hev:EvOk a.eval:=⟨fun _=>rfl,fun _=>rfl,fun _=>rfl⟩;have h1:=hdo a.eval W gv hev h.m.rel hgv (yS_ hfs _ fun _ hx=>hx);unfold Oper.wp;generalize (execOp a.eval o).run P W=r at h1;cases r with
             | ok n w' =>
               cases n<;>simp only[yB_]at h1<;>simp only[Oper.upon];(case value v=>exact next v w' h1.1 h1.2 (hN v));(case skip=>exact next undef w' h1.1 h1.2 (hN undef));case enter f args =>
                refine h1.mono fun e w'' he=>?_;obtain⟨v,rfl,h2,h3⟩:=he;exact next v w'' h2 h3 (hN v)
             | halt x w'=>exact h1.elim
           · rw[(ue_ hg hfs).1];simp only[Bool.false_eq_true,if_false];(refine next undef W ?_ (by rw[he];rfl) (hN undef));unfold Turns.by_;split
             · exact hT.sub _ _ (hT.refl W)
             · exact hT.refl W
           · rw [vz_ hg hfs,if_pos rfl];refine .inl ?_;have hev:EvOk a.eval:=⟨fun _=>rfl,fun _=>rfl,fun _=>rfl⟩;have hst:Star T.R w0 W:=h.m.early fun j hj=>by
              have h2:=List.all_eq_true.1 hearly j (by simpa using hj);rcases(Bool.or_eq_true _ _).mp h2 with h3|h3
              · rw[Nat.eq_of_beq_eq_true h3];exact xT_ hun
              · cases hc:listed.getD j false with
                | false=>rfl
                | true =>
                  have:=h.m.anc hc h3;rw[xT_ hun]at this;cases this
             have h1:=hdo a.eval W hev hst (yS_ hfs _ fun _ hx=>hx);unfold Oper.wp;generalize (execOp a.eval o).run P W=r at h1;cases r with
             | ok n w' =>
               cases n<;>simp only[yB_]at h1<;>simp only[Oper.upon];(case value v=>exact next v w' h1.1 h1.2 (hN v));(case skip=>exact next undef w' h1.1 h1.2 (hN undef));case enter f args =>
                refine h1.mono fun e w'' he=>?_;obtain⟨v,rfl,h2,h3⟩:=he;exact next v w'' h2 h3 (hN v)
             | halt x w'=>exact h1.elim
theorem wp_flow {id:Nat} {a:Act} {w:World} {l:List Oper} {Q:Exit->Act->World->Prop} (hm:P.follows .mixedOrders=true) (T:Turns) (hT:T.Ok) (hck:zfC T l a.tmps.size=true) (hnb:znR T l=true)
    (h:Flow P T w.drew a l Q [] 0 l):(Code.region id l.toArray true).wp P Q a w:=by
      obtain⟨Ψ,hlen,hok,hend⟩:=flow_all (ops:=l) (Φ:=[]) (rest:=l) (fun j=>by simp) (by
       have:tab l []=[]:=(by cases l<;>rfl);rw[this];exact h);simp only[List.nil_append,List.length_nil,Nat.zero_add]at hok hend;refine wp_region_any hm ?_;have hz:∀(n j:Nat),(Array.replicate n false).getD j false=false:=fun n j=>by
       rw[Array.getD_eq_getD_getElem?];rcases Nat.lt_or_ge j n with hlt|hge
       · rw[Array.getElem?_replicate,if_pos hlt];rfl
       · rw[Array.getElem?_eq_none (by simpa using hge)];rfl
      have hno:∀(n j:Nat){C:Prop},(Array.replicate n false).getD j false=true->C:=fun n j C hc=>(by rw[hz]at hc;cases hc);refine flow_wp (ops:=l) hT hck hnb hlen hok (hend 0) _ _ a _ ⟨⟨by simp,hT.sub _ _ (hT.refl _),fun _=>.refl _,rfl,rfl,fun t _=>rfl,fun j o φ _ _ hl=>hno _ _ hl,fun j o _ hl=>hno _ _ hl⟩,fun j o φ t _ _ hl=>hno _ _ hl⟩ (fun j hj=>?_) (fun h0=>?_) (by simp)
      · rcases Nat.lt_or_ge j l.length with hlt|hge
        · exact hlt
        · rw[Array.getD_eq_getD_getElem?,Array.getElem?_eq_none (by simpa using hge)]at hj;cases hj
      · have hl0:l=[]:=List.eq_nil_of_length_eq_zero (by simpa using h0);subst hl0;rfl
end sound
section steps
variable {P:Program} {T:Turns} {w0:World} {a0:Act} {ops:List Oper} {Q:Exit->Act->World->Prop} {F:Said} {k:Nat} {o:Oper} {rest:List Oper}
theorem flow_op (φ:yJ_)(hk:zQ_ T.R φ)(hf:T.soft.contains k=true\/zQ_ T.H φ)(hg:zy_ ops F true o)(hd:∀ev W,EvOk ev->T.H w0 W->z6_ a0 F ev W o.op.operands.toList->yB_ P (T.by_ k) φ W ((execOp ev o).run P W))
    (h:Flow P T w0 a0 ops Q ((o.dst,φ)::F) (k+1) rest) (hd0:o.dst≠none:=by intro h;cases h):Flow P T w0 a0 ops Q F k (o::rest):=⟨φ,.inl ⟨hd0,⟨hk,hf,.inl ⟨hg,hd⟩⟩⟩,h⟩
theorem flow_assign {d:Option Tmp}{ty:TypeId}{pos:String}{af:Array Go.Edge}{g:Option (Nat×Bool)}{t:Tmp}{φ:yJ_}(hT:T.Ok)(hs:vw_ F t=some φ)(hk:zQ_ T.R φ)(hf:T.soft.contains k=true\/zQ_ T.H φ)
    (hg:zy_ ops F true ⟨d,.assign (.tmp t),ty,pos,af,g⟩) (h:Flow P T w0 a0 ops Q ((d,φ)::F) (k+1) rest) (hd0:d≠none:=by intro h;cases h):Flow P T w0 a0 ops Q F k (⟨d,.assign (.tmp t),ty,pos,af,g⟩::rest):=by
      refine⟨φ,.inl ⟨hd0,⟨hk,hf,.inl ⟨hg,fun ev W _ _ hf=>?_⟩⟩⟩,h⟩;have h1:φ (ev (.tmp t)) W:=(by
       have:z5_ a0 F (.tmp t) (ev (.tmp t)) W:=hf.1;simpa only[z5_,hs] using this);exact⟨hT.by_refl k W,h1⟩
theorem flow1 {x:Operand}{v r:Value}(hT:T.Ok)(hop:o.op.operands=#[x])(hx:Det a0 F x v)(hg:zy_ ops F true o)(hrun:∀ev W,EvOk ev->ev x=v->(execOp ev o).run P W=.ok (.value r) W)
    (h:Flow P T w0 a0 ops Q ((o.dst,isV r)::F) (k+1) rest) (hd0:o.dst≠none:=by intro h;cases h):Flow P T w0 a0 ops Q F k (o::rest) :=
      flow_op (isV r) (zc_ r) (.inr (zc_ r)) hg (fun ev W he _ hf=>by
       rw[hop]at hf;rw[hrun ev W he (hx.at hf.1)];exact⟨hT.by_refl k W,rfl⟩) h hd0
theorem flow2 {x y:Operand}{v u r:Value}(hT:T.Ok)(hop:o.op.operands=#[x,y])(hx:Det a0 F x v)(hy:Det a0 F y u)(hg:zy_ ops F true o)(hrun:∀ev W,EvOk ev->ev x=v->ev y=u->(execOp ev o).run P W=.ok (.value r) W)
    (h:Flow P T w0 a0 ops Q ((o.dst,isV r)::F) (k+1) rest) (hd0:o.dst≠none:=by intro h;cases h):Flow P T w0 a0 ops Q F k (o::rest) :=
      flow_op (isV r) (zc_ r) (.inr (zc_ r)) hg (fun ev W he _ hf=>by
       rw[hop]at hf;rw[hrun ev W he (hx.at hf.1) (hy.at hf.2.1)];exact⟨hT.by_refl k W,rfl⟩) h hd0
theorem flow3 {x y z:Operand}{v u s r:Value}(hT:T.Ok)(hop:o.op.operands=#[x,y,z])(hx:Det a0 F x v)(hy:Det a0 F y u)(hz:Det a0 F z s)(hg:zy_ ops F true o)(hrun:∀ev W,EvOk ev->ev x=v->ev y=u->ev z=s->(execOp ev o).run P W=.ok (.value r) W)
    (h:Flow P T w0 a0 ops Q ((o.dst,isV r)::F) (k+1) rest) (hd0:o.dst≠none:=by intro h;cases h):Flow P T w0 a0 ops Q F k (o::rest) :=
      flow_op (isV r) (zc_ r) (.inr (zc_ r)) hg (fun ev W he _ hf=>by
       rw[hop]at hf;rw[hrun ev W he (hx.at hf.1) (hy.at hf.2.1) (hz.at hf.2.2.1)];exact⟨hT.by_refl k W,rfl⟩) h hd0
theorem flow1h {x:Operand}{v r:Value}(hT:T.Ok)(hop:o.op.operands=#[x])(hx:Det a0 F x v)(hg:zy_ ops F true o)(hrun:∀ev W,EvOk ev->T.H w0 W->ev x=v->(execOp ev o).run P W=.ok (.value r) W)
    (h:Flow P T w0 a0 ops Q ((o.dst,isV r)::F) (k+1) rest) (hd0:o.dst≠none:=by intro h;cases h):Flow P T w0 a0 ops Q F k (o::rest) :=
      flow_op (isV r) (zc_ r) (.inr (zc_ r)) hg (fun ev W he hW hf=>by
       rw[hop]at hf;rw[hrun ev W he hW (hx.at hf.1)];exact⟨hT.by_refl k W,rfl⟩) h hd0
theorem flow_call {d:Option Tmp} {f:FuncId} {args:Array Operand} {ats:Array TypeId} {ty:TypeId} {pos:String} {af:Array Go.Edge} {g:Option (Nat×Bool)} (φ:yJ_) (hk:zQ_ T.R φ) (hfm:T.soft.contains k=true\/zQ_ T.H φ) (hf:qh_ P f=true)
    (hg:zy_ ops F true ⟨d,.call { callee:=.value (.func f),args:=args,argTypes:=ats },ty,pos,af,g⟩)
    (hd:∀ev W,EvOk ev->T.H w0 W->z6_ a0 F ev W args.toList->Calls P f (args.toList.map ev).toArray W (fun e w''=>∃v,e=.returned v/\T.by_ k W w''/\φ v w''))
    (h:Flow P T w0 a0 ops Q ((d,φ)::F) (k+1) rest) (hd0:d≠none:=by intro h;cases h):Flow P T w0 a0 ops Q F k (⟨d,.call { callee:=.value (.func f),args:=args,argTypes:=ats },ty,pos,af,g⟩::rest):=by
      refine flow_op φ hk hfm hg (fun ev W he hW hfs=>?_) h hd0;rw[vq_ he hf];have e0:args.map ev=(args.toList.map ev).toArray:=(by cases args;rw[List.map_toArray]);rw[e0];refine hd ev W he hW ?_;have:z6_ a0 F ev W ((.func f:Operand)::args.toList):=(by
       have e:(Op.call { callee:=.value (.func f),args:=args,argTypes:=ats }).operands.toList=(.func f:Operand)::args.toList:=(by
        simp[Op.operands,Call.operands]);rw[<-e];exact hfs);exact this.2
theorem flow_calld {d:Option Tmp}{f:FuncId}{args:Array Operand}{ats:Array TypeId}{ty:TypeId}{pos:String}{af:Array Go.Edge}{g:Option (Nat×Bool)}{vals:List Value}(φ:yJ_)(hk:zQ_ T.R φ)(hfm:T.soft.contains k=true\/zQ_ T.H φ)(hf:qh_ P f=true)
    (hg:zy_ ops F true ⟨d,.call { callee:=.value (.func f),args:=args,argTypes:=ats },ty,pos,af,g⟩) (hargs:Dets a0 F args.toList vals)
    (hd:∀W,T.H w0 W->Calls P f vals.toArray W (fun e w''=>∃v,e=.returned v/\T.by_ k W w''/\φ v w''))
    (h:Flow P T w0 a0 ops Q ((d,φ)::F) (k+1) rest) (hd0:d≠none:=by intro h;cases h):Flow P T w0 a0 ops Q F k (⟨d,.call { callee:=.value (.func f),args:=args,argTypes:=ats },ty,pos,af,g⟩::rest) :=
      flow_call φ hk hfm hf hg (fun ev W _ hW hfs=>by rw[hargs.at hfs];exact hd W hW) h hd0
theorem flow_move_out {d:Option Tmp}{ty:TypeId}{pos:String}{af:Array Go.Edge}{g:Option (Nat×Bool)}{t:Tmp}{v:Value}(hT:T.Ok)(hs:vw_ F t=none)(ht:nth a0.tmps.toList t=some v)
    (hg:zy_ ops F true ⟨d,.move (.tmp t),ty,pos,af,g⟩) (h:Flow P T w0 a0 ops Q ((d,isV v)::F) (k+1) rest) (hd0:d≠none:=by intro h;cases h):Flow P T w0 a0 ops Q F k (⟨d,.move (.tmp t),ty,pos,af,g⟩::rest) :=
      flow1 (v:=v) (r:=v) hT rfl (.out hs ht) hg (fun ev W _ e=>by simp[execOp,e,go_sem]) h hd0
theorem flow_slice_both {d:Option Tmp}{t:TypeId}{x y z:Operand}{ty:TypeId}{pos:String}{af:Array Go.Edge}{g:Option (Nat×Bool)}{v u s r:Value}(hT:T.Ok)(hx:Det a0 F x v)(hy:Det a0 F y u)(hz:Det a0 F z s)
    (hrun:∀ev W,EvOk ev->ev x=v->ev y=u->ev z=s->(execOp ev ⟨d,.slice t x (some y) (some z) none,ty,pos,af,g⟩).run P W=.ok (.value r) W)
    (hg:zy_ ops F true ⟨d,.slice t x (some y) (some z) none,ty,pos,af,g⟩) (h:Flow P T w0 a0 ops Q ((d,isV r)::F) (k+1) rest) (hd0:d≠none:=by intro h;cases h):Flow P T w0 a0 ops Q F k (⟨d,.slice t x (some y) (some z) none,ty,pos,af,g⟩::rest) :=
      flow3 (x:=x) (y:=y) (z:=z) hT (by simp[Op.operands]) hx hy hz hg hrun h hd0
theorem flow_store (φ:yJ_){t:Tmp}(hd0:o.dst=none)(hp:gy_ o=some t)(hk:zQ_ T.R φ)(hf:T.soft.contains k=true\/zQ_ T.H φ)(hg:zy_ ops F true o)(hd:∀ev W,EvOk ev->T.H w0 W->z6_ a0 F ev W o.op.operands.toList->yB_ P (T.by_ k) (fun _ W'=>φ (ev (.tmp t)) W') W ((execOp ev o).run P W))
    (h:Flow P T w0 a0 ops Q ((none,φ)::F) (k+1) rest):Flow P T w0 a0 ops Q F k (o::rest):=⟨φ,.inr ⟨hd0,t,hp,hk,hf,hg,.inl hd⟩,by rw[hd0];exact h⟩
end steps
end Go.Proofs.YtcbcfcdmdedefaaGreatDoor.F2
namespace Go.Proofs.YtcbcfcdmdedefaaGreatDoor
open Go.RowKit
theorem zkS {T:List UInt8}{p m:Int}{fs:List FnV}(h:yg_ T=(0,p,m,fs)):zI_ p m fs=(T,0)/\RightF p m fs/\T.length<=2048:=by
 unfold yg_ at h;by_cases h2:2048<T.length
 · rw[if_pos h2]at h;injection h with h;omega
 · rw[if_neg h2]at h;cases hp:xN_ T with
   | none=>rw[hp]at h;injection h with h;omega
   | some x =>
     obtain⟨a,b,l⟩:=x;rw[hp]at h;simp only at h;by_cases hr:yf_ (a:Int) (b:Int) l=0
     · rw[if_pos hr]at h;by_cases ht:(zI_ (a:Int) (b:Int) l).1=T
       · rw[if_pos ht]at h;injection h with _ h;injection h with h1 h;injection h with h3 h4;subst h1;subst h3;subst h4;refine⟨?_,vO_.1 hr,by omega⟩;have hu:zI_ (a:Int) (b:Int) l=if 2048<(utx (a:Int) (b:Int) l).length then ([],3) else (utx (a:Int) (b:Int) l,0):=(by unfold zI_;rw[if_pos hr]);by_cases hb:2048<(utx (a:Int) (b:Int) l).length
         · rw[hu,if_pos hb]at ht;simp only at ht;subst ht;cases hp
         · rw[hu,if_neg hb]at ht⊢;simp only at ht;rw[ht]
       · rw[if_neg ht]at h;injection h with h;omega
     · rw[if_neg hr]at h;injection h with h;exact absurd h hr
theorem xv_.small {zs:List (List UInt8)}{T:List UInt8}{p:Nat}(h:xv_ zs T p):T.length<=2048/\p<=64/\1<=zs.length:=by
 obtain⟨_,z,r,hz,hm,hp,hl,hT,_⟩:=h;refine⟨?_,by rw[<-hp];exact hm.2.1,by omega⟩;rw[hT,List.length_take];have:=hm.1;omega
theorem xv_.one {zs:List (List UInt8)}{T T':List UInt8}{p p':Nat}(h:xv_ zs T p)(h':xv_ zs T' p'):T=T'/\p=p':=by
 obtain⟨_,z,r,hz,_,hp,_,hT,_⟩:=h;obtain⟨_,z',r',hz',_,hp',_,hT',_⟩:=h';rw[hz]at hz';injection hz' with e1 e2;subst e1;subst e2;exact⟨hT.trans hT'.symm,hp.symm.trans hp'⟩
def qF_ (zs:List (List UInt8))(r:Int):Prop :=
 (r=12/\((¬∃T p,xv_ zs T p)\/∃T p,xv_ zs T p/\(yg_ T).1≠0)) \/
 (r=25/\∃(T:List UInt8)(p:Nat)(pg ms:Int)(fs:List FnV),xv_ zs T p/\yg_ T=(0,pg,ms,fs)/\((zs.length:Int)<1+(zs_ T.length:Int)+ms\/(p:Int)<pg\/ms<(p:Int)))
def ux_ (zs:List (List UInt8))(T:List UInt8)(p:Nat)(pg ms:Int)(fs:List FnV):Prop :=
 xv_ zs T p/\yg_ T=(0,pg,ms,fs)/\1+(zs_ T.length:Int)+ms<=(zs.length:Int)/\pg<=(p:Int)/\(p:Int)<=ms
def zew (zs:List (List UInt8))(w:World)(e:Ending)(w':World):Prop :=
 (∃r,qF_ zs r/\e=.returned (.tuple #[.agg #[.int .i64 0,.int .i64 0,.slice none 0 0],.pointer none,.int .i64 0,.int .i64 r])/\Chg [] w w') \/
 (∃(T:List UInt8)(p:Nat)(pg ms:Int)(fs:List FnV)(v:Value)(pm gC gD:Nat),ux_ zs T p pg ms fs/\e=.returned (.tuple #[.agg #[.int .i64 pg,.int .i64 ms,v],.pointer (some ⟨pm,0,none⟩),.int .i64 ((1+zs_ T.length:Nat):Int),.int .i64 0]) /\
   w'.ownsRow w.heap.size 44 3 v fs.length (kL_ fs)/\fs.length<=1000/\(∀f∈fs,okF f)/\Mm w' pm gC gD ((zs.drop (1+zs_ T.length)).take p).flatten [] (zH_ p) [] ms.toNat/\w.heap.size<=pm/\w.heap.size<=gC/\w.heap.size<=gD/\Chg [] w w')
section
variable (g:Nat) (cs:List Value)
structure GtH (a b:World):Prop where
  os:b.os=a.os
  tape:b.tape=a.tape
  output:b.output=a.output
  size:a.heap.size<=b.heap.size
  old:∀k,k<a.heap.size->k≠g->b.heap[k]?=a.heap[k]?
  st:(∃xs:List Value,xs.length=3/\zb_ a g 25 xs)->(∃xs:List Value,xs.length=3/\zb_ b g 25 xs)
  fin:zb_ a g 25 cs->zb_ b g 25 cs
end
section
variable {g:Nat} {cs:List Value} {a b:World}
theorem GtH.of_chg (hc:Chg [] a b):GtH g cs a b:=⟨hc.os,hc.tape,hc.output,hc.size,fun k hk _=>hc.block k hk (by simp),fun ⟨xs,h1,h⟩=>⟨xs,h1,h.keep hc⟩,fun h=>h.keep hc⟩
theorem GtH.chg (h:GtH g cs a b):Chg [g] a b:=⟨h.os,h.tape,h.output,h.size,fun k hk hne=>h.old k hk (by simpa using hne)⟩
def gtT (g:Nat)(cs:List Value):Turns:=⟨Chg [],GtH g cs,[12],[]⟩
theorem zpx:(gtT g cs).Ok:=⟨Chg.refl [],fun _ _ h=>GtH.of_chg h,fun _ _ _ h k=>⟨k.os.trans h.os,k.tape.trans h.tape,k.output.trans h.output,Nat.le_trans h.size k.size,fun i hi hne=>(k.old i (Nat.lt_of_lt_of_le hi h.size) hne).trans (h.old i hi hne),fun e=>k.st (h.st e),fun e=>k.fin (h.fin e)⟩⟩
def jnF (g:Nat)(l:List UInt8):yJ_:=fun v W=>∃A c,v=.slice A l.length c/\Bs W A l.length c l/\(∀ad,A=some ad->ad.block≠g)
theorem zkh {W W':World}{A:Option Addr}{xs:List Value}(h:Src W A xs)(hc:Chg [g] W W')(hA:∀ad,A=some ad->ad.block≠g):Src W' A xs:=by
 intro hp;obtain⟨ad,e,hb,hx⟩:=h hp;refine⟨ad,e,Nat.lt_of_lt_of_le hb hc.size,fun j v hj=>?_⟩;rw[<-hx j v hj];refine World.cell?_of_block (w:=W) (hc.block _ ?_ ?_)
 · have e2:(ad.add j).block=ad.block:=(by unfold Addr.add;split<;>rfl);rw[e2];exact hb
 · have e2:(ad.add j).block=ad.block:=(by unfold Addr.add;split<;>rfl);rw[e2];simpa using hA ad e
theorem zlh (g:Nat)(l:List UInt8):zQ_ (Chg []) (jnF g l):=fun _ _ _ ⟨A,c,e,h,ha⟩ hc=>⟨A,c,e,h.keep hc,ha⟩
theorem zid (g:Nat)(cs:List Value)(l:List UInt8):zQ_ (GtH g cs) (jnF g l):=fun _ _ _ ⟨A,c,e,h,ha⟩ hc=>⟨A,c,e,⟨h.len,zkh h.src hc.chg ha,h.cap,h.max,h.spot⟩,ha⟩
def mmF (B g:Nat)(l:List UInt8)(k most:Nat):yJ_:=fun v W=>∃p gC gD,v=.pointer (some ⟨p,0,none⟩)/\Mm W p gC gD l [] (zH_ k) [] most/\B<=p/\B<=gC/\B<=gD/\p≠g/\gC≠g/\gD≠g
theorem zdK (B g:Nat)(l:List UInt8)(k most:Nat):zQ_ (Chg []) (mmF B g l k most):=fun _ _ _ ⟨p,gC,gD,e,h,r⟩ hc=>⟨p,gC,gD,e,h.keep hc,r⟩
theorem zba (B g:Nat)(cs:List Value)(l:List UInt8)(k most:Nat):zQ_ (GtH g cs) (mmF B g l k most):=fun _ _ _ ⟨p,gC,gD,e,h,h1,h2,h3,n1,n2,n3⟩ hc=>⟨p,gC,gD,e,h.away hc.chg (by simpa using n1) (by simpa using n2) (by simpa using n3),h1,h2,h3,n1,n2,n3⟩
end
section
variable {w:World} {A:Option Addr} {n c:Nat} {ys:List Value} {zs:List (List UInt8)}
theorem zhq (h:Pgs w A n c ys zs) (hn:n<=100000) (hP:vG_ w.heap.size w):Calls Tryz.prog 46 #[.slice A n c] w (zew zs w):=by
 have HPG:=hQ_ h;have HP:=hQ_ hP;have HZL:=hQ_ h.zlen;have hcap:=h.cap;have hmx:=h.max;have HNO:=hQ_ (show ∀(r:Int) w',qF_ zs r->Chg [] w w'->zew zs w (.returned (.tuple #[.agg #[.int .i64 0,.int .i64 0,.slice none 0 0],.pointer none,.int .i64 0,.int .i64 r])) w' from fun r w' h1 hc=>.inl ⟨r,h1,rfl,hc⟩);have HYES:=hQ_ (show ∀(w':World)(T:List UInt8)(p:Nat)(pg ms:Int)(fs:List FnV)(v:Value)(pm gC gD:Nat),ux_ zs T p pg ms fs->w'.ownsRow w.heap.size 44 3 v fs.length (kL_ fs)->fs.length<=1000->(∀f∈fs,okF f)->Mm w' pm gC gD ((zs.drop (1+zs_ T.length)).take p).flatten [] (zH_ p) [] ms.toNat->w.heap.size<=pm->w.heap.size<=gC->w.heap.size<=gD->Chg [] w w'->zew zs w (.returned (.tuple #[.agg #[.int .i64 pg,.int .i64 ms,v],.pointer (some ⟨pm,0,none⟩),.int .i64 ((1+zs_ T.length:Nat):Int),.int .i64 0])) w' from fun w' T p pg ms fs v pm gC gD h1 h2 h3 h4 h5 h6 h7 h8 h9=>.inr ⟨T,p,pg,ms,fs,v,pm,gC,gD,h1,rfl,h2,h3,h4,h5,h6,h7,h8,h9⟩);generalize zew zs w=PO at HNO HYES⊢;have HRD:=hQ_ (fun (W:World)(hc:Chg [] w W)=>zfd (h.keep hc) hn);clear h hP;unfold zbK at HRD;go_enter Tryz.func46,Tryz.ntmps46;go_upto_region 1 with fail;have hN:=zb_.new w 25 [.int .i64 0,.int .i64 0,.slice none 0 0];have hal:=(Chg.refl [] w).alloc (.cells #[.int .i64 0,.int .i64 0,.slice none 0 0] 25);obtain⟨g,hg⟩:∃g,g=w.heap.size:=⟨_,rfl⟩;have hnl:¬g<w.heap.size:=by omega
 have hw1s:(w.alloc (.cells #[.int .i64 0,.int .i64 0,.slice none 0 0] 25)).heap.size=g+1:=by rw[hg];simp
 rw[<-hg]at hN⊢;have HG:=hQ_ hN;have HW1:=hQ_ hal;have HGZ:=hQ_ hw1s;have HGS:=hQ_ hg;generalize w.alloc (.cells #[.int .i64 0,.int .i64 0,.slice none 0 0] 25)=w1 at HG HW1 HGZ⊢;clear hN hal hg hw1s;go_upto_region 2 with(
  go_at_call 85;refine(HRD.o _ HW1.o).mono ?_;intro e w2 hq;rcases hq with⟨T,p,hy,rfl,hc2⟩|⟨hm,rfl,hc2⟩)
 · have HY:=hQ_ hy;obtain⟨hTl,hp64,hz1⟩:=hy.small;rw[HZL.o]at hz1;have HG2:=hQ_ (HG.o.keep hc2);have HW2:=hQ_ (HW1.o.trans hc2);have HX2:=hQ_ hc2;clear hc2 hy HRD;have HPA:=hQ_ (fun (W:World) (hp:vG_ W.heap.size W)=>zeE (w:=W) T (by omega) hp);unfold vF_ at HPA;have HPE:=hQ_ (show ∀E pg ms fs,yg_ T=(E,pg,ms,fs)->yg_ T=(E,pg,ms,fs) from fun _ _ _ _ h=>h);obtain⟨E,pg,ms,fs,hpe⟩:∃E pg ms fs,yg_ T=(E,pg,ms,fs):=⟨_,_,_,_,rfl⟩;have HPR:=hQ_ hpe;rw[hpe]at HPA;simp only at HPA;clear hpe HPE;have HPGS:=hQ_ (fun (W:World)=>uD_ T (by omega) W);obtain⟨S,hS⟩:∃S,S=zj_ T:=⟨_,rfl⟩;rw[<-hS]at HPA HPGS⊢;clear hS;go_upto_region 5 with(
    go_at_call 86;refine(HPA.o _ (HP.o.here HW2.o)).mono ?_;rintro e w3 ⟨v3,rfl,ho3,hlen3,hok3,hc3⟩;obtain⟨A3,c3,rfl,hF3⟩:=Fnr.of_own (l:=fs) ho3 hlen3 (fun f hf=>by have:=hok3 f hf;unfold okF at this;omega);have HF3:=hQ_ hF3;have HO3:=hQ_ ho3;have HL3:=hQ_ hlen3;have HK3:=hQ_ hok3;have HG3:=hQ_ (HG2.o.keep hc3);have HW3:=hQ_ (HW2.o.trans hc3);clear hc3 ho3 hlen3 hok3 hF3);obtain⟨q,hq⟩:∃q,q=fs.length:=⟨_,rfl⟩;rw[<-hq]at HF3 HL3 HO3⊢;have HQ:=hQ_ hq;clear hq;have hN:=zb_.new w3 25 [.int .i64 pg,.int .i64 ms,.slice A3 q c3];have hal:=(Chg.refl [] w3).alloc (.cells #[.int .i64 pg,.int .i64 ms,.slice A3 q c3] 25);have HU4:=hQ_ hN;have HG4:=hQ_ (HG3.o.keep hal);have HF4:=hQ_ (HF3.o.keep hal);have HO4:=hQ_ (zf_ HO3.o hal);have HW4:=hQ_ (HW3.o.trans hal);have hgu:g<w3.heap.size:=HG3.o.lt;clear hN hal;generalize w3.heap.size=gu at HU4 hgu⊢;generalize w3.alloc (.cells #[.int .i64 pg,.int .i64 ms,.slice A3 q c3] 25)=w4 at HU4 HG4 HF4 HO4 HW4⊢;by_cases hE:E=0
   · subst hE;obtain⟨htx,hR,_⟩:=zkS HPR.o;obtain⟨a,rfl⟩:∃a:Nat,pg=(a:Int):=⟨pg.toNat,by have:=hR.p0;omega⟩;obtain⟨m,rfl⟩:∃m:Nat,ms=(m:Int):=⟨ms.toNat,by have:=hR.p0;have:=hR.pm;omega⟩;have ham:a<=m:=(by have:=hR.pm;omega);have hm64:m<=64:=(by have:=hR.m64;omega);have HTX:=hQ_ (zgf.of_fnr (pg:=(a:Int)) (ms:=(m:Int)) HF4.o (fun f hf=>by have:=HK3.o f hf;unfold okF at this;omega));rw[htx]at HTX;simp only at HTX;have HND:=hQ_ (qW_ HTX.o hTl (fun _=>by omega) (HP.o.here HW4.o));obtain⟨hh,hhe⟩:∃hh,hh=zs_ T.length:=⟨_,rfl⟩;have hh33:hh<=32:=(by rw[hhe];unfold zs_;omega);rw[show xj_ T 0 (m:Int)=1+(hh:Int)+(m:Int) from by unfold xj_;rw[if_pos rfl,hhe]]at HND;rw[<-hhe]at HPGS;have HHE:=hQ_ hhe;clear htx hR hhe HTX;have u0:=HU4.o.cell 0;have u1:=HU4.o.cell 1;have u2:=HU4.o.cell 2;by_cases hbad:(n:Int)<1+(hh:Int)+(m:Int)\/(p:Int)<(a:Int)\/(m:Int)<(p:Int)
     · have HN:=hQ_ (show qF_ zs 25 from .inr ⟨rfl,T,p,_,_,fs,HY.o,HPR.o,by rw[<-HHE.o,HZL.o];exact hbad⟩);have hb3:(n:Int)<1+(hh:Int)+(m:Int)\/(¬(n:Int)<1+(hh:Int)+(m:Int)/\(p:Int)<(a:Int))\/(¬(n:Int)<1+(hh:Int)+(m:Int)/\¬(p:Int)<(a:Int)/\(m:Int)<(p:Int)):=(by omega);clear hbad;rcases hb3 with hb|⟨hb1,hb⟩|⟨hb1,hb2,hb⟩;all_goals
         go_upto_region 8 with(
          go_at_call 77;refine HND.o.mono ?_;rintro e w5 ⟨rfl,hc5⟩;have HG5:=hQ_ (HG4.o.keep hc5);have HW5:=hQ_ (HW4.o.trans hc5);have v0:=(HU4.o.keep hc5).cell 0;have v1:=(HU4.o.keep hc5).cell 1;have v2:=(HU4.o.keep hc5).cell 2;clear hc5);have z0:=HG5.o.cell 0;have z1:=HG5.o.cell 1;have z2:=HG5.o.cell 2;have f0:=HG5.o.frozen 0;have f1:=HG5.o.frozen 1;have f2:=HG5.o.frozen 2;go_wp2_with fail;have HCF:=((HW5.o.setCell (p:=⟨g,0,none⟩) (fun h=>absurd h hnl) (.int .i64 0)).setCell (p:=⟨g,1,none⟩) (fun h=>absurd h hnl) (.int .i64 0)).setCell (p:=⟨g,2,none⟩) (fun h=>absurd h hnl) (.slice none 0 0);have HSS:=((HG5.o.set_ 0 (.int .i64 0)).set_ 1 (.int .i64 0)).set_ 2 (.slice none 0 0);exact bodyPost_ret_by (yH_ (p:=2) (a:=3) (b:=4) (c:=5) (ty:=25) rfl _ _ g 25 [.int .i64 0,.int .i64 0,.slice none 0 0] _ rfl HSS Tryz.underlying25 (by kernel_rfl)) rfl (HNO.o 25 _ HN.o HCF)
     · obtain⟨hg1,hg2,hg3⟩:¬(n:Int)<1+(hh:Int)+(m:Int)/\¬(p:Int)<(a:Int)/\¬(m:Int)<(p:Int):=(by omega);have HGY:=hQ_ (show ux_ zs T p (a:Int) (m:Int) fs from⟨HY.o,HPR.o,by rw[<-HHE.o,HZL.o];omega,by omega,by omega⟩);clear hbad;go_upto_region 10 with(first
        | (go_at_call 77;refine HND.o.mono ?_;rintro e w5 ⟨rfl,hc5⟩;have HK5:=hQ_ hc5;have v0:=(HU4.o.keep hc5).cell 0;have v1:=(HU4.o.keep hc5).cell 1;have v2:=(HU4.o.keep hc5).cell 2;clear hc5)
        | (go_at_call 78;refine(HPGS.o _).mono ?_;rintro e wq ⟨rfl,rfl⟩));clear u0 u1 u2 v0 v1 v2;have HG6:=hQ_ (HG4.o.keep HK5.o);have HU6:=hQ_ (HU4.o.keep HK5.o);have HO6:=hQ_ (zf_ HO4.o HK5.o);have HW6:=hQ_ (HW4.o.trans HK5.o);have hgw:g<wq.heap.size:=HG6.o.lt;have HWG:=hQ_ (show w.heap.size<=g from by omega);obtain⟨q1,hq1⟩:∃q1,q1=1+hh:=⟨_,rfl⟩;have hq1I:1+(hh:Int)=(q1:Int):=(by omega);have HQ1:=hQ_ hq1;have HQ1I:=hQ_ hq1I;rw[hq1I];obtain⟨cs,hcs⟩:∃cs:List Value,cs=[.int .i64 (a:Int),.int .i64 (m:Int),.slice A3 q c3]:=⟨_,rfl⟩;have HCSE:=hQ_ hcs;clear hcs;have TOK:=zpx (g:=g) (cs:=cs);have HIN:=hQ_ (fun (W:World)(hW:GtH g cs wq.drew W)=>(show Chg [] w W from(HW6.o.trans ((Chg.refl [] wq).drew)).then_ hW.chg (fun i hi hlt=>by rw[List.mem_singleton]at hi;subst hi;exact absurd hlt hnl)));have HUIN:=hQ_ (fun (W:World)(hW:GtH g cs wq.drew W)=>(show zb_ W gu 25 [.int .i64 (a:Int),.int .i64 (m:Int),.slice A3 q c3] from(show zb_ wq.drew gu 25 _ from HU6.o).chg hW.chg (by simp;omega)));have HPC:=hQ_ (fun (W:World)(hW:GtH g cs wq.drew W)=>(HPG.o.keep (HIN.o W hW)).cut (lo:=q1) (k:=p) (by omega));obtain⟨Ad,hAd⟩:∃Ad,(if c=q1 then A else Option.map (fun x=>x.add q1) A)=Ad:=⟨_,rfl⟩;rw[hAd]at HPC;obtain⟨FL,hFL⟩:∃FL,FL=((zs.drop q1).take p).flatten:=⟨_,rfl⟩;have H64:=hQ_ (show ∀z∈(zs.drop q1).take p,z.length=64 from fun z hz=>HY.o.1 z (List.mem_of_mem_drop (List.mem_of_mem_take hz)));have hFLl:FL.length=p*64:=(by
        have h1:=(zcr _ H64.o).2;rw[hFL,h1,List.length_take,List.length_drop,HZL.o];omega);have HFL:=hQ_ hFL;have HFLL:=hQ_ hFLl;obtain⟨q2,hq2⟩:∃q2,q2=q1+p:=⟨_,rfl⟩;have hwA:IntKind.i64.wrap ((q1:Int)+(p:Int))=(q2:Int):=(by rw[IntWalk.i64_in _ (by omega)];omega);have HWA:=hQ_ hwA;have hI1:q1<=c:=(by omega);have hI2:q1+p<=c:=(by omega);have hpw:p<=m:=(by omega);have hI1I:(q1:Int)<=(c:Int):=(by omega);have hI2I:(q2:Int)<=(c:Int):=(by omega);have hI3:q1<=q2:=(by omega);have hI4:q2<=c:=(by omega);have HPL:=hQ_ (show q2-q1=p from by omega);clear hq2 hI2;clear hFL hFLl hwA hg1 hg2 hg3 hq1 hq1I;refine F2.wp_flow (by kernel_rfl) (gtT g cs) TOK (by kernel_rfl) (by kernel_rfl) ?_;refine F2.flow1h (r:=.agg #[.int .i64 (a:Int),.int .i64 (m:Int),.slice A3 q c3]) TOK rfl (.out rfl rfl) rfl (fun ev W he hW e1=>by
        have hk:=HUIN.o W hW;have q0:=hk.cell 0;have q1:=hk.cell 1;have q2:=hk.cell 2;clear hW hk;go_simp) ?_;refine F2.flow_move_out TOK rfl rfl rfl ?_;refine F2.flow_move_out TOK rfl rfl rfl ?_;refine F2.flow_move_out TOK rfl rfl rfl ?_;refine F2.flow_move_out TOK rfl rfl rfl ?_;refine F2.flow2 (r:=.int .i64 (q2:Int)) TOK rfl (.inn rfl) (.inn rfl) rfl (fun ev W he e1 e2=>by have q:=HWA.o;go_simp) ?_;refine F2.flow_slice_both (r:=.slice Ad p (c-q1)) TOK (.inn rfl) (.inn rfl) (.inn rfl) (fun ev W he e1 e2 e3=>by
        have hpl:=HPL.o;rw[<-hAd];split
        · rename_i hcq;have hlt:¬q1<q2:=(by omega);go_simp
        · go_simp) rfl ?_;refine F2.flow_calld (jnF g FL) (zlh g FL) (.inr (zid g cs FL)) (by kernel_rfl) rfl (.cons (.inn rfl) (.cons (.const _) .nil)) (fun W hW=>(qX_ (HPC.o W hW) H64.o (by omega)).mono ?_) ?_
       · rintro e w' ⟨A',c',rfl,hb,hc,hfr⟩;rw[<-HFL.o]at hb⊢;exact⟨_,rfl,hc,A',c',rfl,hb,fun ad e=>by have h1:=hfr ad e;have h2:wq.heap.size<=W.heap.size:=hW.size;omega⟩
       refine F2.flow1 (r:=.pointer (some ⟨gu,1,none⟩)) TOK rfl (.out rfl rfl) rfl (fun ev W he e1=>by go_simp) ?_;refine F2.flow1h (r:=.int .i64 (m:Int)) TOK rfl (.inn rfl) rfl (fun ev W he hW e1=>by
        have hk:=HUIN.o W hW;have q1:=hk.cell 1;clear hW hk;go_simp) ?_;refine F2.flow_call (mmF w.heap.size g FL p m) (zdK _ _ _ _ _) (.inr (zba _ _ _ _ _ _)) (by kernel_rfl) rfl (fun ev W he hW hf=>?_) ?_
       · obtain⟨A',c',e1,hb,_⟩:jnF g FL (ev (.tmp 57)) W:=hf.1;have e2:ev (.tmp 59)=.int .i64 (m:Int):=hf.2.1;rw[show(#[Operand.tmp 57,Operand.tmp 59].toList.map ev).toArray=#[ev (.tmp 57),ev (.tmp 59)] from rfl,e1,e2];have hl:=HFLL.o;refine(zjf rfl hb.src m (by omega) (by omega) hm64).mono ?_;rintro e w' ⟨pm,gC,gD,rfl,hM,h1,h2,h3,hc⟩;rw[show FL.length/64=p from by omega]at hM;have h4:wq.heap.size<=W.heap.size:=hW.size;have h5:w.heap.size<=W.heap.size:=(HIN.o W hW).size;exact⟨_,rfl,hc,pm,gC,gD,rfl,hM,by omega,by omega,by omega,by omega,by omega,by omega⟩
       refine F2.flow_move_out TOK rfl rfl rfl ?_;refine F2.flow_store (fun _ W=>zb_ W g 25 cs) (t:=2) rfl rfl (fun _ _ _ h hc=>h.keep hc) (.inr (fun _ _ _ h hc=>hc.fin h)) rfl (fun ev W he hW hf=>?_) ?_
       · have e1:ev (.tmp 2)=.pointer (some ⟨g,0,none⟩):=Det.at (.out rfl rfl) hf.1;have e2:ev (.tmp 50)=.agg #[.int .i64 (a:Int),.int .i64 (m:Int),.slice A3 q c3]:=hf.2.1;obtain⟨xs,hx3,hWg⟩:=hW.st ⟨_,rfl,HG6.o⟩;obtain⟨x0,x1,x2,rfl⟩:=zeJ hx3;have c0:=hWg.cell 0;have c1:=hWg.cell 1;have c2:=hWg.cell 2;have q0:=hWg.frozen 0;have q1:=hWg.frozen 1;have q2:=hWg.frozen 2;have hph:zb_ (((W.setCell ⟨g,0,none⟩ (.int .i64 (a:Int))).setCell ⟨g,1,none⟩ (.int .i64 (m:Int))).setCell ⟨g,2,none⟩ (.slice A3 q c3)) g 25 cs:=(by
          have:=((hWg.set_ 0 (.int .i64 (a:Int))).set_ 1 (.int .i64 (m:Int))).set_ 2 (.slice A3 q c3);rw[HCSE.o];simpa using this);have hH:GtH g cs W (((W.setCell ⟨g,0,none⟩ (.int .i64 (a:Int))).setCell ⟨g,1,none⟩ (.int .i64 (m:Int))).setCell ⟨g,2,none⟩ (.slice A3 q c3)):=⟨rfl,rfl,rfl,by rw[yw_,yw_,yw_];exact Nat.le_refl _,fun k _ hne=>(Below.heap_setCell _ ⟨g,2,none⟩ _ k hne).trans ((Below.heap_setCell _ ⟨g,1,none⟩ _ k hne).trans (Below.heap_setCell W ⟨g,0,none⟩ _ k hne)),fun _=>⟨cs,by rw[HCSE.o];rfl,hph⟩,fun _=>hph⟩;clear hf hW hWg;go_simp;exact⟨hH,hph⟩
       refine F2.flow_assign TOK rfl (zdK _ _ _ _ _) (.inr (zba _ _ _ _ _ _)) rfl ?_;refine F2.flow_assign TOK rfl (zc_ _) (.inr (zc_ _)) rfl ?_;refine F2.flow1 (r:=.int .i64 0) TOK rfl (.const _) rfl (fun ev W he e1=>by go_simp) ?_;intro vs W hW hF hN;have hst:=hN 12 _ _ 2 rfl rfl rfl rfl;obtain⟨pm,gC,gD,e3,hM,h1,h2,h3,_⟩:mmF w.heap.size g FL p m (vs 3) W:=hF 3 _ rfl rfl;have e4:vs 4=.int .i64 (q1:Int):=hF 4 _ rfl rfl;have e5:vs 5=.int .i64 0:=hF 5 _ rfl rfl;have HCW:=hQ_ (HIN.o W hW);have HST:=hQ_ hst;have HOW:=hQ_ (zS_ (show wq.drew.ownsRow _ _ _ _ _ _ from HO6.o) hW.chg (fun i hi=>by rw[List.mem_singleton]at hi;subst hi;exact .inl (by have:=HG2.o.lt;exact this)));simp only[zW_,Act.put,List.setIfInBounds_toArray,List.set_cons_zero,List.set_cons_succ];rw[e3,e4,e5];have HM:=hQ_ hM;have HB:=hQ_ (And.intro h1 (And.intro h2 h3));clear hF hW e3 e4 e5 hst hM h1 h2 h3 hN TOK;obtain⟨wz,hwz⟩:∃wz:World,wz=W:=⟨_,rfl⟩;rw[<-hwz]at HCW HST HOW HM⊢;clear hwz;have hfin:=HYES.o wz T p (a:Int) (m:Int) fs (.slice A3 q c3) pm gC gD HGY.o (by rw[<-HQ.o];exact ym_ HOW.o HW2.o.size) (by rw[<-HQ.o];exact HL3.o) HK3.o (by rw[<-HHE.o,<-HQ1.o,<-HFL.o];exact HM.o) HB.o.1 HB.o.2.1 HB.o.2.2 HCW.o;rw[<-HHE.o,<-HQ1.o]at hfin;have HFIN:=hQ_ hfin;clear hfin;have hcs:=HCSE.o;subst hcs;go_wp2_with fail;exact bodyPost_ret_by (yH_ (p:=2) (a:=3) (b:=4) (c:=5) (ty:=25) rfl _ _ g 25 [.int .i64 (a:Int),.int .i64 (m:Int),.slice A3 q c3] _ rfl HST.o Tryz.underlying25 (by kernel_rfl)) rfl HFIN.o
   · have hd:(E==0)=false:=(by simpa using hE);have HN:=hQ_ (show qF_ zs 12 from .inl ⟨rfl,.inr ⟨T,p,HY.o,by rw[HPR.o];exact hE⟩⟩);have z0:=HG4.o.cell 0;have z1:=HG4.o.cell 1;have z2:=HG4.o.cell 2;have f0:=HG4.o.frozen 0;have f1:=HG4.o.frozen 1;have f2:=HG4.o.frozen 2;clear hE;go_wp2_with fail;have HCF:=((HW4.o.setCell (p:=⟨g,0,none⟩) (fun h=>absurd h hnl) (.int .i64 0)).setCell (p:=⟨g,1,none⟩) (fun h=>absurd h hnl) (.int .i64 0)).setCell (p:=⟨g,2,none⟩) (fun h=>absurd h hnl) (.slice none 0 0);have HSS:=((HG4.o.set_ 0 (.int .i64 0)).set_ 1 (.int .i64 0)).set_ 2 (.slice none 0 0);exact bodyPost_ret_by (yH_ (p:=2) (a:=3) (b:=4) (c:=5) (ty:=25) rfl _ _ g 25 [.int .i64 0,.int .i64 0,.slice none 0 0] _ rfl HSS Tryz.underlying25 (by kernel_rfl)) rfl (HNO.o 12 _ HN.o HCF)
 · have HN:=hQ_ (show qF_ zs 12 from .inl ⟨rfl,.inl hm⟩);have HG2:=hQ_ (HG.o.keep hc2);have HW2:=hQ_ (HW1.o.trans hc2);have z0:=HG2.o.cell 0;have z1:=HG2.o.cell 1;have z2:=HG2.o.cell 2;have f0:=HG2.o.frozen 0;have f1:=HG2.o.frozen 1;have f2:=HG2.o.frozen 2;clear hc2 hm HRD;go_wp2_with fail;have HCF:=((HW2.o.setCell (p:=⟨g,0,none⟩) (fun h=>absurd h hnl) (.int .i64 0)).setCell (p:=⟨g,1,none⟩) (fun h=>absurd h hnl) (.int .i64 0)).setCell (p:=⟨g,2,none⟩) (fun h=>absurd h hnl) (.slice none 0 0);have HSS:=((HG2.o.set_ 0 (.int .i64 0)).set_ 1 (.int .i64 0)).set_ 2 (.slice none 0 0);exact bodyPost_ret_by (yH_ (p:=2) (a:=3) (b:=4) (c:=5) (ty:=25) rfl _ _ g 25 [.int .i64 0,.int .i64 0,.slice none 0 0] _ rfl HSS Tryz.underlying25 (by kernel_rfl)) rfl (HNO.o 12 _ HN.o HCF)
end
def jd_ (T:List UInt8)(p P k:Nat):List (List UInt8):=((qD_ T p).map Prod.snd).take k++List.replicate (P-k) (zm_ 64)
theorem v1_ (T:List UInt8)(p P k:Nat)(h:k<=1+zs_ T.length+p)(hP:k<=P):(jd_ T p P k).length=P:=by
 unfold jd_;rw[List.length_append,List.length_take,List.length_map,xp_,List.length_replicate];omega
theorem zjP (T:List UInt8)(p P k:Nat)(h:k<1+zs_ T.length+p)(hP:k<P){b:List UInt8}(hb:(qD_ T p)[k]?=some (k,b))(j:Nat){z:List UInt8}(hz:(jd_ T p P (k+1))[j]?=some z):(j=k/\z=b)\/(j≠k/\(jd_ T p P k)[j]?=some z):=by
 have hl:∀q,q<=1+zs_ T.length+p->(((qD_ T p).map Prod.snd).take q).length=q:=fun q hq=>by
  rw[List.length_take,List.length_map,xp_];omega
 unfold jd_ at hz⊢;rcases Nat.lt_trichotomy j k with hj|hj|hj
 · right
   refine⟨by omega,?_⟩;rw[List.getElem?_append_left (by rw[hl _ (by omega)];omega),List.getElem?_take,if_pos (by omega)]at hz;rw[List.getElem?_append_left (by rw[hl _ (by omega)];omega),List.getElem?_take,if_pos hj];exact hz
 · left
   subst hj;rw[List.getElem?_append_left (by rw[hl _ (by omega)];omega),List.getElem?_take,if_pos (by omega),List.getElem?_map,hb]at hz;simp only[Option.map_some]at hz;injection hz with hz;exact⟨rfl,hz.symm⟩
 · right
   refine⟨by omega,?_⟩;rw[List.getElem?_append_right (by rw[hl _ (by omega)];omega),hl _ (by omega),List.getElem?_replicate]at hz;rw[List.getElem?_append_right (by rw[hl _ (by omega)];omega),hl _ (by omega),List.getElem?_replicate];split at hz
   · rw[if_pos (by omega)];exact hz
   · cases hz
theorem zdt (T:List UInt8):∀k,(∀i,i<k->i*64<=T.length)->((plT T k).map Prod.snd).flatten=T.take (k*64)++zm_ (k*64-(T.take (k*64)).length)
  | 0,_=>by simp[plT,zm_]
  | k+1,h=>by
    have ih:=zdt T k (fun i hi=>h i (by omega));have hk:=h k (by omega);have e0:(T.take (k*64)).length=k*64:=(by rw[List.length_take];omega);rw[e0,Nat.sub_self,show zm_ 0=[] from rfl,List.append_nil]at ih;rw[plT,List.map_append,List.flatten_append,ih];show T.take (k*64)++[pgT T k].flatten=_;rw[show[pgT T k].flatten=pgT T k from by simp];unfold pgT;have e1:T.take ((k+1)*64)=T.take (k*64)++(T.drop (k*64)).take 64:=(by
     rw[show(k+1)*64=k*64+64 from by omega,List.take_add]);rw[e1,<-List.append_assoc,List.length_append,e0];congr 2;omega
theorem zdu (f:Nat):∀k,((plM f k).map Prod.snd).flatten=zm_ (k*64)
  | 0=>by simp[plM,zm_]
  | k+1=>by
    rw[plM,List.map_append,List.flatten_append,zdu f k];show zm_ (k*64)++[zm_ 64].flatten=_;rw[show[zm_ 64].flatten=zm_ 64 from by simp];unfold zm_;rw[List.replicate_append_replicate];congr 1;omega
theorem zcY (T:List UInt8)(p P:Nat):jd_ T p P (1+zs_ T.length+p)=yE_ T.length p::((plT T (zs_ T.length)).map Prod.snd++((plM (1+zs_ T.length) p).map Prod.snd++List.replicate (P-(1+zs_ T.length+p)) (zm_ 64))):=by
 unfold jd_;rw[List.take_of_length_le (by rw[List.length_map,xp_];exact Nat.le_refl _)];unfold qD_;simp
theorem zgg (T:List UInt8)(p P:Nat)(hT:T.length<=2048)(hp:p<=64)(hP:1+zs_ T.length+p<=P):xv_ (jd_ T p P (1+zs_ T.length+p)) T p/\(((jd_ T p P (1+zs_ T.length+p)).drop (1+zs_ T.length)).take p).flatten=zm_ (p*64):=by
 obtain⟨m1,m2,m3⟩:=znU T.length p hT hp;have hlt:((plT T (zs_ T.length)).map Prod.snd).length=zs_ T.length:=by rw[List.length_map,vu_]
 have hlm:((plM (1+zs_ T.length) p).map Prod.snd).length=p:=by rw[List.length_map,kx_]
 have hfl:=zdt T (zs_ T.length) (fun i hi=>by unfold zs_ at hi;omega);have hle:T.length<=zs_ T.length*64:=by unfold zs_;omega
 rw[List.take_of_length_le hle]at hfl;refine⟨⟨fun z hz=>?_,yE_ T.length p,_,zcY T p P,m3,m2,?_,?_,?_⟩,?_⟩
 · obtain⟨i,hi,rfl⟩:=List.getElem_of_mem hz;rw[v1_ T p P _ (Nat.le_refl _) hP]at hi;unfold jd_ at hz⊢;have hl:(((qD_ T p).map Prod.snd).take (1+zs_ T.length+p)).length=1+zs_ T.length+p:=(by rw[List.length_take,List.length_map,xp_];omega);rcases List.mem_append.1 hz with h|h
   · have h2:=List.mem_of_mem_take h;rw[List.mem_map]at h2;obtain⟨x,hx,e⟩:=h2;obtain⟨k,hk,rfl⟩:=List.getElem_of_mem hx;obtain⟨b,hb,hb64⟩:=zci T p k (by rw[xp_]at hk;exact hk);rw[List.getElem?_eq_getElem hk]at hb;injection hb with hb;rw[<-e,hb];exact hb64
   · rw[List.mem_replicate]at h;rw[h.2,zE_]
 · rw[m1,v1_ T p P _ (Nat.le_refl _) hP];omega
 · rw[m1,List.take_left' hlt,hfl,List.take_left]
 · rw[m1,List.take_left' hlt,hfl,List.drop_left];intro b hb;unfold zm_ at hb;exact(List.mem_replicate.1 hb).2
 · rw[zcY,show 1+zs_ T.length=zs_ T.length+1 from by omega,List.drop_succ_cons,List.drop_left' hlt,List.take_left' (by rw[show zs_ T.length+1=1+zs_ T.length from by omega];exact hlm)];exact zdu _ p
theorem qT_:∀(l:List ChV)(last P:Int),(∀(i:Nat)(a:ChV),l[i]?=some a->a.page=last+1+(i:Int)/\a.page<P/\a.bn=64)->yK_ last P l=true
  | [],_,_,_=>rfl
  | a::l,last,P,h=>by
    obtain⟨h1,h2,h3⟩:=h 0 a rfl;have h4:=qT_ l a.page P (fun i b hb=>by
     obtain⟨g1,g2,g3⟩:=h (i+1) b hb;exact⟨by omega,g2,g3⟩);unfold yK_;rw[h4,decide_eq_false (by omega),decide_eq_false (by omega),decide_eq_false (by omega)];rfl
section
variable {w:World} {B P p:Nat} {T:List UInt8} {ls:List ChV} {v:Value}
theorem zik (h:qx_ ls (qD_ T p))(hok:∀a∈ls,RMade w B a)(hP:1+zs_ T.length+p<=P)(hP64:P<=64):InL P ls:=by
 have hl:=h.len;rw[xp_]at hl;refine⟨fun a ha=>?_,?_,by omega⟩
 · have h1:=hok a ha;exact⟨⟨h1.p.1,h1.p.2,h1.bn⟩,h1.bl⟩
 · unfold zF_;rw[decide_eq_true (show(P:Int)<=64 by omega),Bool.true_and];refine qT_ ls (-1) P fun i a ha=>?_;have hi:i<ls.length:=(List.getElem?_eq_some_iff.1 ha).1;obtain⟨b,hb,_⟩:=zci T p i (by omega);obtain⟨e1,_⟩:=h.at ha hb;have e2:a.page=(i:Int):=e1;exact⟨by omega,by omega,(hok a (List.mem_of_getElem? ha)).bn⟩
theorem zgh (T:List UInt8)(p P:Nat):jd_ T p P 0=List.replicate P (zm_ 64):=by simp[jd_]
theorem zgi (T:List UInt8)(p P k:Nat)(h:k<1+zs_ T.length+p)(hP:k<P){b:List UInt8}(hb:(qD_ T p)[k]?=some (k,b)):jd_ T p P (k+1)=(jd_ T p P k).set k b:=by
 have hl1:=v1_ T p P (k+1) (by omega) (by omega);have hl0:=v1_ T p P k (by omega) (by omega);refine List.ext_getElem? fun j=>?_;rcases Nat.lt_or_ge j P with hj|hj
 · have hz:(jd_ T p P (k+1))[j]?=some ((jd_ T p P (k+1))[j]'(by omega)):=List.getElem?_eq_getElem (by omega);rcases zjP T p P k h hP hb j hz with⟨rfl,e⟩|⟨hne,e⟩
   · rw[hz,e,List.getElem?_set_self (by omega)]
   · rw[hz,List.getElem?_set_ne (Ne.symm hne),e]
 · rw[List.getElem?_eq_none (by omega),List.getElem?_eq_none (by rw[List.length_set];omega)]
theorem k7_ (h:qx_ ls (qD_ T p))(hP:1+zs_ T.length+p<=P):∀k,k<=1+zs_ T.length+p->zY_ (List.replicate P (zm_ 64)) (ls.take k)=jd_ T p P k
  | 0,_=>by rw[List.take_zero,zgh];rfl
  | k+1,hk=>by
    have hl:=h.len;rw[xp_]at hl;obtain⟨b,hb,_⟩:=zci T p k (by omega);have ha:ls[k]?=some (ls[k]'(by omega)):=List.getElem?_eq_getElem (by omega);obtain⟨e1,e2⟩:=h.at ha hb;have e1':(ls[k]'(by omega)).page=(k:Int):=e1;have e2':(ls[k]'(by omega)).B=b:=e2;rw[qp_ _ ls k _ ha,k7_ h hP k (by omega),zgi T p P k (by omega) (by omega) hb];unfold yX_;rw[if_pos (by rw[e1',v1_ T p P k (by omega) (by omega)];omega),e1',e2',Int.toNat_natCast]
theorem jc_ (h:qx_ ls (qD_ T p))(hP:1+zs_ T.length+p<=P):zY_ (List.replicate P (zm_ 64)) ls=jd_ T p P (1+zs_ T.length+p):=by
 have:=k7_ h hP (1+zs_ T.length+p) (Nat.le_refl _);rwa[List.take_of_length_le (by rw[h.len,xp_];exact Nat.le_refl _)]at this
theorem zgX (h:w.ownsRow B 123 2 v ls.length (xY_ ls))(hok:∀a∈ls,RMade w B a){D:List Nat}(hD:∀i∈D,i<B):∃C d,v=.slice C ls.length d/\ChsD D w C ls:=by
 obtain⟨A,c,rfl,hl2,hch,_,_,_⟩:=js_ h (fun a ha=>(hok a ha).ok);have hb:=gC_ h rfl;refine⟨A,c,rfl,⟨hch,fun _ ad e hd=>?_,fun a ha _ ad e hd=>?_⟩⟩
 · have h1:=hD _ hd;have h2:=hb ad e;omega
 · obtain⟨g,r,hg,hB,_⟩:=(hok a ha).b;rw[hg]at e;injection e with e;subst e;have h1:g<B:=hD _ hd;omega
end
theorem ziH {s:St}(hg:Gd s)(L P:Nat)(h2:2+L+P<=s.V.length):z4_ (fmt s L P) (L:Int) P=List.replicate P (zm_ 64):=by
 refine List.ext_getElem? fun j=>?_;unfold z4_;rw[Int.toNat_natCast];rcases Nat.lt_or_ge j P with hj|hj
 · rw[List.getElem?_replicate,if_pos hj,List.getElem?_map,List.getElem?_range hj];have:=uQ_ hg L P h2 (2+L+j) (by omega);rw[if_neg (by omega)]at this;simp only[Option.map_some];exact congrArg some this
 · rw[List.getElem?_eq_none (by simp;exact hj),List.getElem?_eq_none (by simp;exact hj)]
section
variable {w:World} {p bL bS bW:Nat} {s:St}
def uo_ (E0:Nat)(w:World)(p bL bS bW L P nV:Nat)(e:Ending)(w':World):Prop :=
 ∃ g gN v s' x',e=.returned (.tuple #[.pointer (some ⟨g,0,none⟩),.int .i64 0])/\w.heap.size<=g/\w.heap.size<=gN/\Sto w' ⟨p,bL,bS,bW,g,gN,[]⟩ s' x' v/\KeptZ s' x' []/\x'.L=L/\x'.P=P/\x'.E=E0 /\
   x'.pages=List.replicate P (zm_ 64)/\x'.used=0/\x'.seq=0/\s'.V.length=nV/\Chg [bL,bS,bW] w w'
theorem jV_ (hg:Gd s)(L P:Nat)(hr:zp_ L P 1 s.V.length=true)(hd:z9_ w p bL bS bW (fmt s L P)) :
    Calls Tryz.prog 41 #[.pointer (some ⟨p,0,none⟩)] w (uo_ 2 w p bL bS bW L P s.V.length):=by
 refine(zdB hd).mono ?_;rintro e w' hO;rw[un_,zem hg L P hr]at hO;have h2:=zi_.1 hr;have hk:=(zdJ hg L P hr).1;have ho:=hk.open_;rcases hO with⟨h0,_⟩|⟨h0,_⟩|⟨_,_,g,gN,v,rfl,hg1,hgN,hs,hc⟩
 · exact absurd h0 (by show ¬(1:Nat)=0;omega)
 · exact absurd h0 (by show ¬(1:Nat)=4294967295;omega)
 · have o1:(openV (fmt s L P) ⟨L,P,1⟩).pages=z4_ (fmt s L P) (L:Int) P:=ho.1;have o3:(openV (fmt s L P) ⟨L,P,1⟩).L=L:=ho.2.2.1;have o4:(openV (fmt s L P) ⟨L,P,1⟩).P=P:=ho.2.2.2.1;have o5:(openV (fmt s L P) ⟨L,P,1⟩).E=1:=ho.2.2.2.2;exact⟨g,gN,v,_,_,rfl,hg1,hgN,hs,zlg hg L P hr,o3,o4,by show(openV (fmt s L P) ⟨L,P,1⟩).E+1=2;rw[o5],by show(openV (fmt s L P) ⟨L,P,1⟩).pages=_;rw[o1,ziH hg L P (by omega)],rfl,rfl,by rw[vU_,kM_],hc⟩
theorem zck {x:SV}{E0 L P:Nat}(hd:z9_ w p bL bS bW s)(hk:KeptZ s x [])(hL:x.L=L)(hP:x.P=P)(hE:x.E=E0)(hE0:E0<=1000)(hpg:x.pages=List.replicate P (zm_ 64)) :
    Calls Tryz.prog 41 #[.pointer (some ⟨p,0,none⟩)] w (uo_ (E0+1) w p bL bS bW L P s.V.length):=by
 have hno:¬zR_ (xI_ s x.L) (x.E+1) 0:=hk.z.other (by omega) (by omega) (by omega);refine(zbJ hd hk.k hno (by omega)).mono ?_;rintro e w' ⟨g,gN,v,s',x',rfl,hg,hgN,hs,hk',e1,e2,e3,e4,e5,e6,e7,hc⟩;have hu:x.used=0:=by rw[<-hk.z.len];rfl
 have hr:p∉[bL,bS,bW]:=by
  simp only[List.mem_cons,List.not_mem_nil,or_false];rintro(h|h|h)
  · exact(Dsk.rec_ hd).ne_ (Dsk.last hd) (by decide) h
  · exact(Dsk.rec_ hd).ne_ (Dsk.seen hd) (by decide) h
  · exact(Dsk.rec_ hd).ne_ (Dsk.wait hd) (by decide) h
 have hV:(flA s').V.length=s.V.length:=by
  have h1:=((Dsk.rec_ hd).chg hc hr).cell 2;have h2:=(Dsk.rec_ hs.dsk).cell 2;rw[h1]at h2;simp only[List.getElem?_cons_succ,List.getElem?_cons_zero,Option.some.injEq,Value.slice.injEq]at h2;exact h2.2.1.symm
 refine⟨g,gN,v,_,x',rfl,hg,hgN,hs,⟨hk',⟨?_,by rw[e5];rfl,by rw[e5];exact Nat.zero_le _,fun m hm=>by cases hm⟩,by rw[e6];rfl⟩,by rw[e2,hL],by rw[e3,hP],by rw[e4,hE],by rw[e1,hpg],e5,e6,hV,hc⟩;rw[e2,e5,e7,hk.z.log,hu];rfl
end
theorem xc_ (pg ms:Int)(l:List FnV):(zI_ pg ms l).1.length<=2048/\((zI_ pg ms l).2=0->0<=pg/\pg<=ms/\ms<=64):=by
 by_cases hr:yf_ pg ms l=0
 · have hu:zI_ pg ms l=if 2048<(utx pg ms l).length then ([],3) else (utx pg ms l,0):=(by unfold zI_;rw[if_pos hr]);have hR:=vO_.1 hr;refine⟨?_,fun _=>⟨hR.p0,hR.pm,hR.m64⟩⟩;rw[hu];split
   · simp
   · simp only;omega
 · have hu:zI_ pg ms l=([],yf_ pg ms l):=(by unfold zI_;rw[if_neg hr]);rw[hu];exact⟨by simp,fun h=>absurd h hr⟩
section
variable {P0:Program} {T:Turns} {w0:World} {a0:Act} {ops:List Oper} {Q:Exit->Act->World->Prop} {F:Said} {k:Nat} {rest:List Oper}
  {d:Option Tmp} {ty:TypeId} {pos:String} {af:Array Go.Edge} {g:Option (Nat×Bool)}
def ut_ (B:Nat)(cs:List (Nat×List UInt8))(v:Value)(W:World):Prop:=∃ls,W.ownsRow B 123 2 v ls.length (xY_ ls)/\(∀a∈ls,RMade W B a)/\qx_ ls cs
def zkO (B:Nat)(cs:List (Nat×List UInt8)):yJ_:=fun v W=>ut_ B cs v W
def zql (B:Nat)(x:List (Nat×List UInt8)×Int):yJ_:=fun v W=>∃u,v=.tuple #[u,.int .i64 x.2]/\ut_ B x.1 u W
theorem ut_.keep {B:Nat}{cs:List (Nat×List UInt8)}{v:Value}{W W':World}(h:ut_ B cs v W)(hc:Chg [] W W'):ut_ B cs v W':=by
 obtain⟨ls,h1,h2,h3⟩:=h;exact⟨ls,zf_ h1 hc,fun a ha=>(h2 a ha).chg hc (fun i hi=>by cases hi),h3⟩
theorem ut_.less {B B':Nat}{cs:List (Nat×List UInt8)}{v:Value}{W:World}(h:ut_ B cs v W)(hB:B'<=B):ut_ B' cs v W:=by
 obtain⟨ls,h1,h2,h3⟩:=h;exact⟨ls,uT_ h1 hB,fun a ha=>(h2 a ha).moreP hB,h3⟩
theorem ub_ (B:Nat)(cs:List (Nat×List UInt8)):zQ_ (Chg []) (zkO B cs):=fun _ _ _ h hc=>ut_.keep h hc
theorem u3_ (B:Nat)(x:List (Nat×List UInt8)×Int):zQ_ (Chg []) (zql B x):=fun _ _ _ ⟨u,e,h⟩ hc=>⟨u,e,h.keep hc⟩
theorem ziK {t:Tmp}{B:Nat}{x:List (Nat×List UInt8)×Int}(hT:T.Ok)(hk:zQ_ T.R (zkO B x.1))(hf:T.soft.contains k=true\/zQ_ T.H (zkO B x.1))(hs:vw_ F t=some (zql B x))
    (hg:zy_ ops F true ⟨d,.extract (.tmp t) 0,ty,pos,af,g⟩) (h:Flow P0 T w0 a0 ops Q ((d,zkO B x.1)::F) (k+1) rest) :
    Flow P0 T w0 a0 ops Q F k (⟨d,.extract (.tmp t) 0,ty,pos,af,g⟩::rest):=by
 refine flow_op _ hk hf hg (fun ev W he hW hf=>?_) h;have hf1:z5_ a0 F (.tmp t) (ev (.tmp t)) W:=hf.1;simp only[z5_,hs]at hf1;obtain⟨v1,e1,h1⟩:=hf1;have:(execOp ev ⟨d,.extract (.tmp t) 0,ty,pos,af,g⟩).run P0 W=.ok (.value v1) W:=by go_simp
 rw[this];exact⟨hT.by_refl k W,h1⟩
theorem ziJ {t:Tmp}{B:Nat}{x:List (Nat×List UInt8)×Int}(hT:T.Ok)(hs:vw_ F t=some (zql B x))
    (hg:zy_ ops F true ⟨d,.extract (.tmp t) 1,ty,pos,af,g⟩) (h:Flow P0 T w0 a0 ops Q ((d,isV (.int .i64 x.2))::F) (k+1) rest) :
    Flow P0 T w0 a0 ops Q F k (⟨d,.extract (.tmp t) 1,ty,pos,af,g⟩::rest):=by
 refine flow_op _ (zc_ _) (.inr (zc_ _)) hg (fun ev W he hW hf=>?_) h;have hf1:z5_ a0 F (.tmp t) (ev (.tmp t)) W:=hf.1;simp only[z5_,hs]at hf1;obtain⟨v1,e1,h1⟩:=hf1;have:(execOp ev ⟨d,.extract (.tmp t) 1,ty,pos,af,g⟩).run P0 W=.ok (.value (.int .i64 x.2)) W:=by go_simp
 rw[this];exact⟨hT.by_refl k W,rfl⟩
end
theorem Fnr.chg' {T:List Nat}{W W':World}{A:Option Addr}{n c:Nat}{l:List FnV}(h:Fnr W A n c l)(hc:Chg T W W')(hA:0<n->∀ad,A=some ad->ad.block∉T):Fnr W' A n c l :=
 ⟨h.len,h.src.chg hc (fun h0=>hA (by have:=h.len;rw[y6_]at h0;omega)),h.cap,h.max,h.spot,h.args⟩
theorem zkA (W:World)(a b v:Value):(Instr.field 82 (.agg #[a,b,v]) 1).run Tryz.prog W=.ok b W:=by
 have h1:(part 3 #[a,b,v] 1).run Tryz.prog W=.ok b W:=by simp[part,isAgg,run_underlying Tryz.underlying3]
 simp[Instr.field,run_underlying Tryz.underlying82,asAgg,h1]
theorem zkB (W:World)(a b v:Value):(Instr.field 82 (.agg #[a,b,v]) 2).run Tryz.prog W=.ok v W:=by
 have h1:(part 56 #[a,b,v] 2).run Tryz.prog W=.ok v W:=by simp[part,isAgg,run_underlying Tryz.underlying56]
 simp[Instr.field,run_underlying Tryz.underlying82,asAgg,h1]
def jt_ (E0:Nat)(w:World)(p bL bS bW L P:Nat)(T:List UInt8)(E pg ms:Int)(nV:Nat)(e:Ending)(w':World):Prop :=
 (∃r,r≠0/\e=.returned (.int .i64 r)/\(E≠0\/(P:Int)<xj_ T E ms\/yI_ (L:Int) 0 ((1+zs_ T.length+pg.toNat:Nat):Int)=false)/\Chg [bL,bS,bW] w w') \/
 (E=0/\xj_ T E ms<=(P:Int)/\e=.returned (.int .i64 0)/\(∃s' x',z9_ w' p bL bS bW s'/\Kept s' x' []/\x'.L=L/\x'.P=P/\x'.E=E0+1/\x'.pages=jd_ T pg.toNat P (1+zs_ T.length+pg.toNat)/\¬zR_ (xI_ s' L) (E0+2) 0/\s'.V.length=nV)/\Chg [bL,bS,bW] w w')
section
variable {w:World} {p bL bS bW:Nat} {s0:St} {A:Option Addr} {n c L P nV E0:Nat} {l:List FnV} {pg ms:Int}
theorem zcv (hr:zp_ L P 1 nV=true)(hd:z9_ w p bL bS bW s0)(hE0:1<=E0/\E0<=1000)(hO:∀W,z9_ W p bL bS bW s0->Calls Tryz.prog 41 #[.pointer (some ⟨p,0,none⟩)] W (uo_ E0 W p bL bS bW L P nV))(hF:Fnr w A n c l)(hsm:∀f∈l,f.code.size<=9223372036854775807)(hA:0<n->∀ad,A=some ad->ad.block∉[bL,bS,bW])(hP:∀W,Chg [bL,bS,bW] w W->vG_ W.heap.size W) :
    Calls Tryz.prog 16 #[.pointer (some ⟨p,0,none⟩),.agg #[.int .i64 pg,.int .i64 ms,.slice A n c]] w (jt_ E0 w p bL bS bW L P (zI_ pg ms l).1 (zI_ pg ms l).2 pg ms nV):=by
 have hTl:=(xc_ pg ms l).1;have hms:=(xc_ pg ms l).2;have HTX:=hQ_ (fun (W:World)(hc:Chg [bL,bS,bW] w W)=>zgf.of_fnr (pg:=pg) (ms:=ms) (hF.chg' hc hA) hsm);generalize (zI_ pg ms l).1=T at hTl HTX⊢;generalize (zI_ pg ms l).2=E at hms HTX⊢;have HP:=hQ_ hP;have HB:=hQ_ (show bL<w.heap.size/\bS<w.heap.size/\bW<w.heap.size from⟨(Dsk.last hd).lt,(Dsk.seen hd).lt,(Dsk.wait hd).lt⟩);have HR:=hQ_ (zi_.1 hr);have hal:=(Chg.refl [] w).alloc (.cells #[.int .i64 pg,.int .i64 ms,.slice A n c] 25);have HD0:=hQ_ (Dsk.keep hd hal);have HOP:=hQ_ hO;unfold uo_ at HOP;have HNO:=hQ_ (show ∀(r:Int)(W:World),r≠0->(E≠0\/(P:Int)<xj_ T E ms\/yI_ (L:Int) 0 ((1+zs_ T.length+pg.toNat:Nat):Int)=false)->Chg [bL,bS,bW] w W->jt_ E0 w p bL bS bW L P T E pg ms nV (.returned (.int .i64 r)) W from fun r W h1 h2 h3=>.inl ⟨r,h1,rfl,h2,h3⟩);have HYES:=hQ_ (show ∀(W:World)(s':St)(x':SV),E=0->xj_ T E ms<=(P:Int)->z9_ W p bL bS bW s'->Kept s' x' []->x'.L=L->x'.P=P->x'.E=E0+1->x'.pages=jd_ T pg.toNat P (1+zs_ T.length+pg.toNat)->¬zR_ (xI_ s' L) (E0+2) 0->s'.V.length=nV->Chg [bL,bS,bW] w W->jt_ E0 w p bL bS bW L P T E pg ms nV (.returned (.int .i64 0)) W from fun W s' x' h1 h2 h3 h4 h5 h6 h7 h8 h9 h10 h11=>.inr ⟨h1,h2,rfl,⟨s',x',h3,h4,h5,h6,h7,h8,h9,h10⟩,h11⟩);generalize jt_ E0 w p bL bS bW L P T E pg ms nV=PO at HNO HYES⊢;clear hd hF hA hP hal hr hO;go_enter Tryz.func16,Tryz.ntmps16;go_upto_region 1 with fail;have HU1:=hQ_ (zb_.new w 25 [.int .i64 pg,.int .i64 ms,.slice A n c]);have HC1:=hQ_ ((Chg.refl [] w).alloc (.cells #[.int .i64 pg,.int .i64 ms,.slice A n c] 25));generalize w.alloc (.cells #[.int .i64 pg,.int .i64 ms,.slice A n c] 25)=w1 at HU1 HC1 HD0⊢;generalize w.heap.size=gu at HU1⊢;have hgu:gu∉[bL,bS,bW]:=by
  simp only[List.mem_cons,List.not_mem_nil,or_false];rintro(h|h|h)
  · exact HU1.o.ne_ (Dsk.last HD0.o) (by decide) h
  · exact HU1.o.ne_ (Dsk.seen HD0.o) (by decide) h
  · exact HU1.o.ne_ (Dsk.wait HD0.o) (by decide) h
 have HNU:=hQ_ hgu;have HOP1:=hQ_ (HOP.o w1 HD0.o);clear HOP HD0 hgu;go_upto_region 4 with(
  go_at_call 41;refine HOP1.o.mono ?_;rintro e w2 ⟨gs,gN,v,s2,x2,rfl,hg1,hgN,hs,hk,eL,eP,eE,epg,eu,eq,eV,hc⟩;have HS2:=hQ_ hs;have HK2:=hQ_ hk;have HX2:=hQ_ (And.intro eL (And.intro eP (And.intro eE (And.intro epg (And.intro eu (And.intro eq eV))))));have HG2:=hQ_ (And.intro hg1 hgN);have HW2:=hQ_ (show Chg [bL,bS,bW] w w2 from(HC1.o.sub (fun _ h=>by cases h)).trans hc);have HU2:=hQ_ (HU1.o.chg hc HNU.o);clear hs hk eL eP eE epg eu eq eV hg1 hgN hc);have HTX2:=hQ_ (HTX.o _ HW2.o);have hroot:zB_ (x2.L:Int) (x2.P:Int) (x2.E:Int)=.agg #[.int .i64 (L:Int),.int .i64 (P:Int),.int .u32 (E0:Int)]:=by
  obtain⟨e1,e2,e3,_⟩:=HX2.o;rw[e1,e2,e3];rfl
 have HRT:=hQ_ (fun (W:World)(hc:Chg [] w2 W)=>zgJ (HS2.o.keep hc));simp only[hroot]at HRT;have HPT:=hQ_ (fun (W:World)(hc:Chg [] w2 W)=>zhp (HTX2.o.keep hc) hTl hms (P:Int) (HP.o W (HW2.o.new hc)));unfold k8_ at HPT;have HHW:=hQ_ (fun (W:World)(h:Chg [] w2.drew W)=>(show Chg [] w2 W from(Chg.refl [] w2).drew.trans h));clear hroot;refine wp_flow (by kernel_rfl) yn_ za_ (by kernel_rfl) ?_;refine flow1h (r:=.agg #[.int .i64 pg,.int .i64 ms,.slice A n c]) za_ rfl (.out rfl rfl) rfl (fun ev W he hW e1=>by
  have hk:=HU2.o.keep (HHW.o W hW);have q0:=hk.cell 0;have q1:=hk.cell 1;have q2:=hk.cell 2;clear hW hk;go_simp) ?_;refine flow_move_out za_ rfl rfl rfl ?_;refine zw_ (.agg #[.int .i64 (L:Int),.int .i64 (P:Int),.int .u32 (E0:Int)]) (by kernel_rfl) rfl (.cons (.inn rfl) .nil) (fun W hW=>(HRT.o W (HHW.o W hW)).mono ?_) ?_
 · rintro e w' ⟨rfl,hc⟩;rw[xM_];exact⟨rfl,hc⟩
 refine flow1 (r:=.int .i64 (P:Int)) za_ rfl (.inn rfl) rfl (fun ev W he e1=>by have q:=zkA W (.int .i64 (L:Int)) (.int .i64 (P:Int)) (.int .u32 (E0:Int));go_simp) ?_;refine flow_calld (zql w2.heap.size (gv_ T E pg ms P)) (u3_ _ _) (.inr (u3_ _ _)) (by kernel_rfl) rfl (.cons (.inn rfl) (.cons (.inn rfl) .nil)) (fun W hW=>(HPT.o W (HHW.o W hW)).mono ?_) ?_
 · rintro e w' ⟨v,ls,rfl,ho,hm,hc2,hc⟩;have hsz:=(HHW.o W hW).size;exact⟨_,rfl,hc,v,rfl,⟨ls,uT_ ho hsz,fun a ha=>(hm a ha).moreP hsz,hc2⟩⟩
 refine zP_ za_ rfl (u3_ _ _) (.inr (u3_ _ _)) rfl ?_;refine ziK za_ (ub_ _ _) (.inr (ub_ _ _)) rfl rfl ?_;refine ziJ za_ rfl rfl ?_;refine flow_assign za_ rfl (ub_ _ _) (.inr (ub_ _ _)) rfl ?_;refine flow_assign za_ rfl (zc_ _) (.inr (zc_ _)) rfl ?_;intro vs W hW hF;have hL:ut_ w2.heap.size (gv_ T E pg ms P).1 (vs 7) W:=hF 7 _ rfl rfl;have e6:vs 6=.int .i64 (gv_ T E pg ms P).2:=hF 6 _ rfl rfl;generalize hFv:vs 7=v7 at hL;simp only[zW_,Act.put,List.setIfInBounds_toArray,List.set_cons_zero,List.set_cons_succ];rw[e6,hFv];have HC4:=hQ_ (HHW.o W hW);have HL:=hQ_ hL;clear hF hW e6 hFv hL HPT;obtain⟨w4,hw4⟩:∃w4:World,w4=W:=⟨_,rfl⟩;rw[<-hw4]at HC4 HL⊢;clear hw4;have HW4:=hQ_ (HW2.o.new HC4.o);by_cases hE:¬E=0
 · have hrp:gv_ T E pg ms (P:Int)=([],E):=(by unfold gv_;rw[if_pos hE]);rw[hrp];simp only;have HFIN:=hQ_ (HNO.o E w4 hE (.inl hE) HW4.o);go_wp2_with fail;exact HFIN.o
 have hE:E=0:=Decidable.not_not.1 hE;by_cases hn:(P:Int)<xj_ T E ms
 · have hrp:gv_ T E pg ms (P:Int)=([],25):=(by unfold gv_;rw[if_neg (by simp[hE]),if_pos (.inl hn)]);rw[hrp];simp only;have HFIN:=hQ_ (HNO.o 25 w4 (by omega) (.inr (.inl hn)) HW4.o);go_wp2_with fail;exact HFIN.o
 have hP64:(P:Int)<=64:=by have:=HR.o;omega
 have hrp:gv_ T E pg ms (P:Int)=(qD_ T pg.toNat,0):=by unfold gv_;rw[if_neg (by simp[hE]),if_neg (by omega)]
 rw[hrp]at HL⊢;simp only at HL⊢;obtain⟨ls,ho,hm,hc2⟩:=HL.o;obtain⟨g0,g1,g2⟩:=hms hE;have hll:ls.length=1+zs_ T.length+pg.toNat:=by rw[hc2.len,xp_]
 have hnz:xj_ T E ms=1+(zs_ T.length:Int)+ms:=by unfold xj_;rw[if_pos hE]
 have hin:InL P ls:=zik hc2 hm (by omega) (by omega);obtain⟨C,dc,rfl,hch⟩:=zgX ho hm (D:=SK.D ⟨p,bL,bS,bW,gs,gN,[]⟩) HS2.o.lts;obtain⟨m,hmq⟩:∃m,m=ls.length:=⟨_,rfl⟩;obtain⟨eL,eP,eE,epg,eu,eq,eV⟩:=HX2.o;have hin':InL x2.P ls:=by rw[eP];exact hin
 have HS4:=hQ_ (HS2.o.keep HC4.o);have HCO:=hQ_ (uf_ (d:=dc) HS4.o hch rfl (by omega));unfold kW_ at HCO;rw[<-hmq]at HCO⊢;have HRT4:=hQ_ (HRT.o w4 HC4.o);have hel:((E0:Int)==4294967295)=false:=by simp;omega
 have hep:=fun (W:World)=>zkB W (.int .i64 (L:Int)) (.int .i64 (P:Int)) (.int .u32 (E0:Int));have hfx:yI_ (x2.L:Int) (x2.used:Int) (m:Int)=yI_ (L:Int) 0 ((1+zs_ T.length+pg.toNat:Nat):Int):=by rw[eL,eu,hmq,hll];rfl
 rw[hfx]at HCO;have HGS:=hQ_ (show w.heap.size<=gs/\w.heap.size<=gN from⟨Nat.le_trans HC1.o.size HG2.o.1,Nat.le_trans HC1.o.size HG2.o.2⟩);by_cases hf':yI_ (L:Int) 0 ((1+zs_ T.length+pg.toNat:Nat):Int)=false
 · have hf:=hf';have HFIN:=hQ_ (fun (W:World)(hc:Chg [] w4 W)=>HNO.o 24 W (by omega) (.inr (.inr hf')) (HW4.o.new hc));have HCO':=hQ_ (fun (W:World)(hc:Chg [] w4 W)=>(show Calls Tryz.prog 44 #[.pointer (some ⟨gs,0,none⟩),.slice C m dc] W (fun e w'=>e=.returned (.int .i64 24)/\Chg [] W w') from by
    have h:=uf_ (d:=dc) (HS4.o.keep hc) (hch.chg (hc.sub (T':=[]) (fun _ h=>by cases h)) (fun _ h=>by cases h)) rfl (by omega);rw[<-hmq]at h;refine h.mono ?_;rintro e w' (⟨h0,_⟩|⟨_,_,rfl,hc'⟩|⟨_,h1,_⟩)
    · rw[hin'.2.1]at h0;cases h0
    · exact⟨rfl,hc'⟩
    · rw[<-hmq,hfx,hf']at h1;cases h1));clear HCO hf hf' hfx hrp hn hmq hll hnz hE g0 g1 g2 hin hin' hP64 eL eP eE epg eu eq eV hch ho hm hc2;go_wp2_with (first
    | (go_at_call 43;(with_reducible refine HRT4.o.mono ?_);rintro e w5 ⟨rfl,hc5⟩;have HC5:=hQ_ hc5;clear hc5)
    | (go_at_call 44;(with_reducible refine(HCO'.out _ HC5.o).mono ?_);rintro e w6 ⟨rfl,hc6⟩;have HC6:=hQ_ (HC5.o.trans hc6);clear hc6));exact HFIN.o _ HC6.o
 have hf:yI_ (L:Int) 0 ((1+zs_ T.length+pg.toNat:Nat):Int)=true:=by simpa using hf'
 have HCO':=hQ_ (fun (W:World)(hc:Chg [] w4 W)=>(show Calls Tryz.prog 44 #[.pointer (some ⟨gs,0,none⟩),.slice C m dc] W (fun e w'=>e=.returned (.int .i64 0)/\(∃v,Sto w' ⟨p,bL,bS,bW,gs,gN,[]⟩ (k6_ s2 x2 ls) (zbS x2 ls) v)/\Chg [bL,bS,bW,gs,gN] W w') from by
  have h:=uf_ (d:=dc) (HS4.o.keep hc) (hch.chg (hc.sub (T':=[]) (fun _ h=>by cases h)) (fun _ h=>by cases h)) rfl (by omega);rw[<-hmq]at h;refine h.mono ?_;rintro e w' (⟨h0,_⟩|⟨_,h1,_⟩|⟨_,_,rfl,hv,hc'⟩)
  · rw[hin'.2.1]at h0;cases h0
  · rw[<-hmq,hfx,hf]at h1;cases h1
  · exact⟨rfl,hv,hc'⟩));have hfl:x2.used+(18+66*ls.length)<=x2.L*64:=zon (by rw[<-hmq,hfx];exact hf) (by omega);have hkz:=HK2.o.com hin' hfl;have hEx:(zbS x2 ls).E=E0:=eE;have hLx:(zbS x2 ls).L=L:=eL;have hPx:(zbS x2 ls).P=P:=eP;have hpx:(zbS x2 ls).pages=jd_ T pg.toNat P (1+zs_ T.length+pg.toNat):=by
  show zY_ x2.pages ls=_;rw[epg];exact jc_ hc2 (by omega)
 have hVx:(ckS (k6_ s2 x2 ls) (zbS x2 ls)).V.length=nV:=by
  rw[vU_,<-eV];show(apS s2 _ _).V.length=_;simp[apS]
 generalize k6_ s2 x2 ls=s5 at HCO' hkz hVx;generalize zbS x2 ls=x5 at HCO' hkz hEx hLx hPx hpx hVx;have hk6:=hkz.k.ck x5 ⟨rfl,rfl,rfl,rfl,rfl⟩ (by omega) (hkz.z.other (by omega) (by omega) (by omega));have hl6:¬zR_ (xI_ (ckS s5 x5) L) (E0+2) 0:=by
  rw[<-hLx,zhT hkz.k x5 ⟨rfl,rfl,rfl,rfl,rfl⟩];exact hkz.z.other (by omega) (by omega) (by omega)
 have HCK:=hQ_ (fun (W:World)(h:∃v,Sto W ⟨p,bL,bS,bW,gs,gN,[]⟩ s5 x5 v)=>(show Calls Tryz.prog 45 #[.pointer (some ⟨gs,0,none⟩)] W (fun e w'=>e=.returned (.int .i64 0)/\z9_ w' p bL bS bW (ckS s5 x5)/\Chg [bL,bS,bW,gs,gN] W w') from by
  obtain⟨v,hs⟩:=h;refine(uw_ hs (by omega)).mono ?_;rintro e w' ⟨rfl,⟨v',hs'⟩,hc'⟩;exact⟨rfl,hs'.dsk,hc'⟩));have hnew:∀(W W':World),Chg [bL,bS,bW] w W->Chg [bL,bS,bW,gs,gN] W W'->Chg [bL,bS,bW] w W':=fun _ _ h k=>h.then_ k fun i hi hlt=>by
  have:=HGS.o;simp only[List.mem_cons,List.not_mem_nil,or_false]at hi⊢;omega
 have HFIN:=hQ_ (fun (W:World)(hd:z9_ W p bL bS bW (ckS s5 x5))(hc:Chg [bL,bS,bW] w W)=>HYES.o W _ _ hE (by omega) hd hk6 hLx hPx (by show x5.E+1=E0+1;omega) hpx hl6 hVx hc);have HNW:=hQ_ hnew;clear HCO hf hfx hrp hn hnew hk6 hl6 hkz hEx hLx hPx hpx hVx hmq hll hnz hE g0 g1 g2 hin hin' hP64 eL eP eE epg eu eq eV hch ho hm hc2 hfl hf';go_wp2_with (first
  | (go_at_call 43;(with_reducible refine HRT4.o.mono ?_);rintro e w5 ⟨rfl,hc5⟩;have HC5:=hQ_ hc5;clear hc5)
  | (go_at_call 44;(with_reducible refine(HCO'.out _ HC5.o).mono ?_);rintro e w6 ⟨rfl,hs6,hc6⟩;have HS6:=hQ_ hs6;have HW6:=hQ_ (HNW.o _ _ (HW4.o.new HC5.o) hc6);clear hs6 hc6)
  | (go_at_call 45;(with_reducible refine(HCK.o _ HS6.o).mono ?_);rintro e w7 ⟨rfl,hd7,hc7⟩;have HD7:=hQ_ hd7;have HW7:=hQ_ (HNW.o _ _ HW6.o hc7);clear hd7 hc7));exact HFIN.o _ HD7.o HW7.o
end
theorem zcp {w:World}{B:Nat}{v:Value}{ls:List ChV}(h:w.ownsRow B 123 2 v ls.length (xY_ ls))(hok:∀a∈ls,MadeCh w B a){D:List Nat}(hD:∀i∈D,i<B):∃C d,v=.slice C ls.length d/\ChsD D w C ls:=by
 obtain⟨A,c,rfl,hl2,hch,_,_,_⟩:=js_ h (fun a ha=>(hok a ha).ok);have hb:=gC_ h rfl;refine⟨A,c,rfl,⟨hch,fun _ ad e hd=>?_,fun a ha _ ad e hd=>?_⟩⟩
 · have h1:=hD _ hd;have h2:=hb ad e;omega
 · obtain⟨g,hg,hB,_⟩:=(hok a ha).b;rw[hg]at e;injection e with e;subst e;have h1:g<B:=hD _ hd;omega
theorem g2_ (L M:List UInt8)(f:Nat):∀k,(vl_ L M f k).length<=k
  | 0=>Nat.le_refl _
  | k+1=>by
    have:=g2_ L M f k;rw[vl_,List.length_append];split<;>simp<;>omega
def zqn (y:HV)(L2:List UInt8)(V2:List Bool):HV:=⟨y.pg,y.ms,y.fs,y.t,y.f,y.calls+1,L2,V2,y.most⟩
def comJ (j:HK)(p2 gC2 gD2:Nat):HK:=⟨j.h,p2,gC2,gD2,j.A,j.c⟩
def PgCh (a:ChV):Prop:=a.B.length=64/\a.bn=64/\0<=a.page/\a.page<65536
def zjO (ls:List ChV)(cs:List (Nat×List UInt8)):Prop:=qx_ ls cs/\∀a∈ls,PgCh a
def up_ (w:World) (k:SK) (s:St) (x:SV) (j:HK) (y:HV) (p2 gC2 gD2:Nat) (L2:List UInt8) (V2:List Bool) (e:Ending) (w':World):Prop :=
 ∃ ls:List ChV,zjO ls (vl_ y.L L2 y.f V2.length) /\
   ((ls=[]/\e=.returned (.int .i64 0)/\Chg [] w w') \/
    (ls≠[]/\(zF_ x.P ls=false\/yI_ x.L x.used ls.length=false)/\(e=.returned (.int .i64 1)\/e=.returned (.int .i64 24))/\Chg [] w w') \/
    (ls≠[]/\zF_ x.P ls=true/\yI_ x.L x.used ls.length=true/\e=.returned (.int .i64 0)/\Ho w' k (k6_ s x ls) (zbS x ls) (comJ j p2 gC2 gD2) (zqn y L2 V2)/\Chg (j.h::k.W) w w'))
section
variable {w:World} {k:SK} {s:St} {x:SV} {j:HK} {y:HV} {p2 gC2 gD2:Nat} {L2:List UInt8} {X2:List Value} {V2:List Bool} {Y2:List Value}
theorem zcy (h:Ho w k s x j y) (hM:Mm w p2 gC2 gD2 L2 X2 V2 Y2 y.most) (hV:V2.length=y.V.length) (hD:p2∉k.D/\gC2∉k.D/\gD2∉k.D) (hcs:y.calls<=1000000) :
    Calls Tryz.prog 27 #[.pointer (some ⟨j.h,0,none⟩),.pointer (some ⟨p2,0,none⟩)] w (up_ w k s x j y p2 gC2 gD2 L2 V2):=by
 obtain⟨X,Y,hM1⟩:=h.mm;obtain⟨vP,hs⟩:=h.sto;have HH:=hQ_ h;have HM:=hQ_ hM;have HM1:=hQ_ hM1;have HS:=hQ_ hs;have HCH:=hQ_ (fun (W:World)(hc:Chg [] w W)=>gs_ (hM1.keep hc) (hM.keep hc) y.f (by have:=h.fS;omega));unfold zmO at HCH;have HPG:=hQ_ (fun (W:World)(hc:Chg [] w W)=>xf_ (hM1.keep hc));have HPG2:=hQ_ (fun (W:World)(hc:Chg [] w W)=>xf_ (hM.keep hc));obtain⟨c0,c1,c2,c3,c4,c5,c6,c7⟩:=h.cells;have hcy:(((y.calls+1:Nat):Int))=(y.calls:Int)+1:=by omega
 rw [hV]at HPG2;have HF0:=hQ_ (show ∀(ls:List ChV) (W:World),zjO ls (vl_ y.L L2 y.f V2.length)->ls=[]->Chg [] w W->up_ w k s x j y p2 gC2 gD2 L2 V2 (.returned (.int .i64 0)) W from fun ls W h1 h2 h3=>⟨ls,h1,.inl ⟨h2,rfl,h3⟩⟩);have HF1:=hQ_ (show ∀(ls:List ChV) (W:World) (r:Int),zjO ls (vl_ y.L L2 y.f V2.length)->ls≠[]->(zF_ x.P ls=false\/yI_ x.L x.used ls.length=false)->r=1\/r=24->Chg [] w W->up_ w k s x j y p2 gC2 gD2 L2 V2 (.returned (.int .i64 r)) W from fun ls W r h1 h2 h3 h4 h5=>⟨ls,h1,.inr (.inl ⟨h2,h3,by rcases h4 with rfl|rfl;exact .inl rfl;exact .inr rfl,h5⟩)⟩);have HF2:=hQ_ (show ∀(ls:List ChV) (W:World),zjO ls (vl_ y.L L2 y.f V2.length)->ls≠[]->zF_ x.P ls=true->yI_ x.L x.used ls.length=true->Ho W k (k6_ s x ls) (zbS x ls) (comJ j p2 gC2 gD2) (zqn y L2 V2)->Chg (j.h::k.W) w W->up_ w k s x j y p2 gC2 gD2 L2 V2 (.returned (.int .i64 0)) W from fun ls W h1 h2 h3 h4 h5 h6=>⟨ls,h1,.inr (.inr ⟨h2,h3,h4,rfl,h5,h6⟩)⟩);generalize up_ w k s x j y p2 gC2 gD2 L2 V2=PO at HF0 HF1 HF2⊢;clear c1 c2 c3 c5 c7;go_enter Tryz.func27,Tryz.ntmps27;go_upto_region 1 with fail;go_cut [5] (fun v5 wx=>∃ls:List ChV,wx.ownsRow w.heap.size 123 2 v5 ls.length (xY_ ls)/\(∀a∈ls,MadeCh wx w.heap.size a)/\qx_ ls (vl_ y.L L2 y.f V2.length)/\Chg [] w wx);case first =>
  have d0:w.drew.cell? ⟨j.h,4,none⟩=_:=c4;have d1:w.drew.cell? ⟨j.h,6,none⟩=_:=c6;go_region_with (
   go_at_call 56;(with_reducible refine(HCH.o _ (Chg.refl [] w).drew).mono ?_);rintro e w1 ⟨v,ls,rfl,ho,hm,hc2,hc⟩);all_goals
    go_wp2_with fail;go_meet;exact⟨ls,ho,hm,hc2,(Chg.refl [] w).drew.trans hc⟩
 case rest =>
  obtain⟨ls,ho,hm,hc2,hc⟩:=hcut;obtain⟨w1,rfl⟩:∃w1:World,w1=wc:=⟨_,rfl⟩;obtain⟨C,dc,rfl,hch⟩:=zcp ho hm (D:=k.D) HS.o.lts;have HCD:=hQ_ hch;have HC1:=hQ_ hc;have HL2:=hQ_ (show zjO ls (vl_ y.L L2 y.f V2.length) from⟨hc2,fun a ha=>⟨(hm a ha).bl,(hm a ha).bn,(hm a ha).p⟩⟩);have HS1:=hQ_ (HS.o.keep hc);have HH1:=hQ_ (HH.o.keep hc);obtain⟨m,hmq⟩:∃m,m=ls.length:=⟨_,rfl⟩;have HMQ:=hQ_ hmq;rw[<-hmq];clear ho hm hc2 hc hch hmq c0 c4 c6;obtain⟨_,_,_,_,c4,_,c6,_⟩:=HH1.o.cells;go_upto_region 2 with fail;go_cut [25] (fun v25 wx=>v25=.bool false/\Hid (Chg [] w1 wx));case first =>
   have d4:w1.drew.cell? ⟨j.h,4,none⟩=_:=c4;go_region_with (first
    | (go_at_call 57;(with_reducible refine(HPG.o _ (HC1.o.trans (Chg.refl [] w1).drew)).mono ?_);rintro e w' ⟨rfl,rfl⟩)
    | (go_at_call 57;(with_reducible refine(HPG2.o _ (HC1.o.trans (Chg.refl [] w1).drew)).mono ?_);rintro e w' ⟨rfl,rfl⟩));all_goals
     go_wp2_with fail;go_meet;exact⟨rfl,hQ_ (Chg.refl [] w1).drew⟩
  case rest =>
   obtain⟨rfl,HCW⟩:=hcut;obtain⟨w2,rfl⟩:∃w2:World,w2=wc:=⟨_,rfl⟩;have HC2:=hQ_ (HC1.o.trans HCW.o);have HS2:=hQ_ (HS.o.keep HC2.o);have HH2:=hQ_ (HH.o.keep HC2.o);have HM2:=hQ_ (HM.o.keep HC2.o);have HCD2:=hQ_ (HCD.o.chg (HCW.o.sub (T':=[]) (fun _ h=>by cases h)) (fun _ h=>by cases h));clear c4 c6;by_cases h0:m=0
   · have hls:ls=[]:=List.eq_nil_of_length_eq_zero (by rw[<-HMQ.o];exact h0);have HE:=hQ_ (HF0.o ls w2 HL2.o hls HC2.o);have h0I:(m:Int)=0:=(by omega);clear hls h0;go_wp2_with fail;exact HE.o
   · have hls:ls≠[]:=fun e=>h0 (by rw[HMQ.o,e];rfl);have h0I:¬(m:Int)=0:=(by omega);have HNL:=hQ_ hls;clear hls h0;obtain⟨c0,_,_,_,_,_,_,c7⟩:=HH2.o.cells;have hlm:ls.length<=64:=(by
      have h1:=HL2.o.1.len;have h2:=g2_ y.L L2 y.f V2.length;have h3:=HM.o.smallV;omega);have HCO:=hQ_ (uf_ (d:=dc) HS2.o HCD2.o rfl (by omega));unfold kW_ at HCO;rw[<-HMQ.o]at HCO;by_cases hbad:zF_ x.P ls=false\/yI_ x.L x.used m=false
     · have HCO':=hQ_ (show Calls Tryz.prog 44 #[.pointer (some ⟨k.g,0,none⟩),.slice C m dc] w2 (fun e w'=>(e=.returned (.int .i64 1)\/e=.returned (.int .i64 24))/\Chg [] w2 w') from by
        refine HCO.o.mono ?_;rintro e w' (⟨_,rfl,hc⟩|⟨_,_,rfl,hc⟩|⟨h1,h2,_⟩)
        · exact⟨.inl rfl,hc⟩
        · exact⟨.inr rfl,hc⟩
        · exfalso;rcases hbad with h|h
          · rw[h1]at h;cases h
          · rw[h2]at h;cases h);have HE:=hQ_ (fun (W:World)(r:Int)(hr:r=1\/r=24)(hc:Chg [] w2 W)=>HF1.o ls W r HL2.o HNL.o (by rw[<-HMQ.o];exact hbad) hr (HC2.o.trans hc));clear HCO hbad hlm c7;go_upto_region 8 with(
        go_at_call 44;(with_reducible refine HCO'.out.mono ?_);rintro e w3 ⟨hr,hc⟩;have HC3:=hQ_ hc;clear hc;rcases hr with rfl|rfl)
       · go_wp2_with fail;exact HE.o _ _ (.inl rfl) HC3.o
       · go_wp2_with fail;exact HE.o _ _ (.inr rfl) HC3.o
     · have hgood:zF_ x.P ls=true/\yI_ x.L x.used m=true:=(by
        constructor
        · cases h:zF_ x.P ls
          · exact absurd (.inl h) hbad
          · rfl
        · cases h:yI_ (x.L:Int) (x.used:Int) (m:Int)
          · exact absurd (.inr h) hbad
          · rfl);have HCO':=hQ_ (show Calls Tryz.prog 44 #[.pointer (some ⟨k.g,0,none⟩),.slice C m dc] w2 (fun e w'=>e=.returned (.int .i64 0)/\(∃v,Sto w' k (k6_ s x ls) (zbS x ls) v)/\Chg k.W w2 w') from by
        refine HCO.o.mono ?_;rintro e w' (⟨h1,_⟩|⟨_,h2,_⟩|⟨_,_,rfl,hv,hc⟩)
        · rw[hgood.1]at h1;cases h1
        · rw[hgood.2]at h2;cases h2
        · exact⟨rfl,hv,hc⟩);have hWD:∀i∈k.W,i∈k.D:=fun i hi=>by
        simp only[SK.W,SK.D,List.mem_cons,List.not_mem_nil,or_false]at hi⊢;rcases hi with h|h|h|h|h<;>simp[h]
       have hjW:j.h∉k.W:=fun hm=>by
        simp only[SK.W,List.mem_cons,List.not_mem_nil,or_false]at hm;have hn:=HH2.o.hne;rcases hm with h|h|h|h|h<;>exact hn _ (by simp[<-h]) h.symm
       have HE:=hQ_ (show ∀(W:World),(∃v,Sto W k (k6_ s x ls) (zbS x ls) v)->Chg k.W w2 W->PO (.returned (.int .i64 0)) ((W.setCell ⟨j.h,4,none⟩ (.pointer (some ⟨p2,0,none⟩))).setCell ⟨j.h,7,none⟩ (.int .i64 ((y.calls:Int)+1))) from fun W hv hc=>by
        have hjD:j.h∈k.D:=(by simp only[SK.D,List.mem_cons];exact .inr (.inr (.inr (.inr (.inr (.inr HH2.o.hin))))));have hr3:=HH2.o.rec_.chg hc hjW;have hr5:=(hr3.set_ 4 (.pointer (some ⟨p2,0,none⟩))).set_ 7 (.int .i64 ((y.calls:Int)+1));unfold hoC at hr5;simp only[List.set_cons_succ,List.set_cons_zero]at hr5;have hc5:Chg [j.h] W ((W.setCell ⟨j.h,4,none⟩ (.pointer (some ⟨p2,0,none⟩))).setCell ⟨j.h,7,none⟩ (.int .i64 ((y.calls:Int)+1))):=((Chg.refl [j.h] W).setCell (p:=⟨j.h,4,none⟩) (fun _=>by simp) _).setCell (p:=⟨j.h,7,none⟩) (fun _=>by simp) _;have hall:Chg (j.h::k.W) w2 ((W.setCell ⟨j.h,4,none⟩ (.pointer (some ⟨p2,0,none⟩))).setCell ⟨j.h,7,none⟩ (.int .i64 ((y.calls:Int)+1))):=(hc.sub (fun i hi=>List.mem_cons_of_mem _ hi)).trans (hc5.sub (fun i hi=>by simp only[List.mem_cons,List.not_mem_nil,or_false]at hi;subst hi;simp));have hnot:∀{i:Nat},i∉k.D->i∉j.h::k.W:=fun hi hm=>by
         rcases List.mem_cons.1 hm with h|h
         · subst h;exact hi hjD
         · exact hi (hWD _ h)
        obtain⟨v,hs3⟩:=hv;generalize (W.setCell ⟨j.h,4,none⟩ (.pointer (some ⟨p2,0,none⟩))).setCell ⟨j.h,7,none⟩ (.int .i64 ((y.calls:Int)+1))=W5 at hr5 hc5 hall⊢;refine HF2.o ls W5 HL2.o HNL.o hgood.1 (by rw[<-HMQ.o];exact hgood.2) ?_ ((HC2.o.sub (fun _ h=>by cases h)).trans hall);have hf:=HH2.o.fn;exact { sto:=⟨v,Sto.past hs3 hc5 HH2.o.hin HH2.o.hne⟩,hin:=HH2.o.hin,hne:=HH2.o.hne,rec_:=by rw[<-hcy]at hr5;exact hr5,fn:=⟨hf.len,hf.src.chg hall (fun h0 ad e=>hnot (HH2.o.fA (by rw[y6_]at h0;show 0<y.fs.length;omega) ad e)),hf.cap,hf.max,hf.spot,hf.args⟩,fA:=HH2.o.fA,mm:=⟨X2,Y2,HM2.o.away hall (hnot hD.1) (hnot hD.2.1) (hnot hD.2.2)⟩,far:=hD,tS:=HH2.o.tS,fS:=HH2.o.fS });have HJW:=hQ_ hjW;have hwr:IntKind.i64.wrap ((y.calls:Int)+1)=(y.calls:Int)+1:=IntWalk.i64_in _ (by omega);clear HCO hbad hlm hgood hWD hjW c7 hcy hD hcs hV;go_upto_region 8 with(
        go_at_call 44;(with_reducible refine HCO'.out.mono ?_);rintro e w3 ⟨rfl,hv,hc⟩;have HV3:=hQ_ hv;have HC3:=hQ_ hc;have hr3:=HH2.o.rec_.chg hc HJW.o;unfold hoC at hr3;have HR3:=hQ_ hr3;clear hv hc hr3);have c4:=HR3.o.cell 4;have c7:=HR3.o.cell 7;have f4:=HR3.o.frozen 4;have f7:=HR3.o.frozen 7;go_wp2_with fail;exact HE.o w3 HV3.o HC3.o
end
end Go.Proofs.YtcbcfcdmdedefaaGreatDoor
