import Derived.Test.YtcbcfcdmdedefaaGreatDoorZHQ17
import Derived.Deep.Fields
set_option maxRecDepth 100000
set_option maxHeartbeats 16000000
namespace Go.Proofs.YtcbcfcdmdedefaaGreatDoor
section
open Go.RowKit
theorem arg_u32 {a:Int}(h:(Lit.int .u32 a).wf=true):∃k:Nat,a=k/\k<4294967296:=by
 have hb:0<=a/\a<=4294967295:=by simpa[Lit.wf,IntKind.min,IntKind.max,IntKind.signed,IntKind.bits] using h
 exact⟨a.toNat,by omega,by omega⟩
theorem arg_u8 {a:Int}(h:(Lit.int .u8 a).wf=true):∃x:UInt8,a=(x.toNat:Int):=by
 have hb:0<=a/\a<=255:=by simpa[Lit.wf,IntKind.min,IntKind.max,IntKind.signed,IntKind.bits] using h
 exact⟨UInt8.ofNat a.toNat,by rw[UInt8.toNat_ofNat'];omega⟩
theorem arg_i64 {a:Int}(h:(Lit.int .i64 a).wf=true):-9223372036854775808<=a/\a<=9223372036854775807:=by
 simpa[Lit.wf,IntKind.min,IntKind.max,IntKind.signed,IntKind.bits] using h
theorem zpv {w:World}{e:Ending}{w':World}(h:xX_ w e w'):e=.returned (.bool true)/\Below w.heap.size w w':=⟨h.1,h.2.below0⟩
end
section
open Go.RowKit Go.ChangeShapes Go.WideShapes Go.Deep
theorem zeJ {α:Type}{l:List α}(h:l.length=3):∃a b c,l=[a,b,c]:=by
 match l,h with
 | [a,b,c],_=>exact⟨a,b,c,rfl⟩
end
section
open Go.RowKit
theorem zeP (l:List UInt8)(k:Nat):(zj_ l).extract k (zj_ l).size=zj_ (l.drop k):=by
 apply ByteArray.ext;simp[zj_,ByteArray.extract,ByteArray.copySlice,ByteArray.size];exact List.take_of_length_le (by simp)
end
section
open Go.RowKit
section
variable {w:World} {A A2:Option Addr} {n c m2 c2 p rp:Nat} {l:List FnV} {pages most name:Int} {fuel:Nat}
def vj_ (w:World)(r:Int)(e:Ending)(w':World):Prop:=e=.returned (.tuple #[.agg #[.int .i64 0,.int .i64 0,.int .i64 0,.slice none 0 0],.int .i64 r])/\Chg [] w w'
theorem zky (hF:Fnr w A n c l)(hU:RightU pages most l)(hk:yQ_ l name=-1)(hfu:fuel<=1048576) :
    Calls Tryz.prog 25 #[yC_ pages most A n c,.pointer (some ⟨p,0,none⟩),.pointer (some ⟨rp,0,none⟩),.int .i32 name,.int .i64 (fuel:Int),.slice A2 m2 c2] w (vj_ w 22):=by
 have HRG:=hQ_ (fun (w1:World)(hc:Chg [] w w1)=>gu_ (hF.keep hc) hU);have HFI:=hQ_ (fun (w1:World)(hc:Chg [] w w1)=>xE_ (pages:=pages) (most:=most) (hF.keep hc) name);rw[hk]at HFI;have HFIN:=hQ_ (show ∀W,Chg [] w W->vj_ w 22 (.returned (.tuple #[.agg #[.int .i64 0,.int .i64 0,.int .i64 0,.slice none 0 0],.int .i64 22])) W from fun W h=>⟨rfl,h⟩);generalize vj_ w 22=PO at HFIN⊢;unfold um_ at HRG;unfold kj_ at HFI;unfold yC_ at HRG HFI⊢;have hb1:decide ((fuel:Int)<0)=false:=by simp
 have hb2:decide (1048576<(fuel:Int))=false:=by simp;omega
 clear hF hU hk hfu;go_enter Tryz.func25,Tryz.ntmps25;go_upto_region 1 with fail;have hN1:=zb_.new w 25 [.int .i64 pages,.int .i64 most,.slice A n c];have hal1:=(Chg.refl [] w).alloc (.cells #[.int .i64 pages,.int .i64 most,.slice A n c] 25);have hsz1:(w.alloc (.cells #[.int .i64 pages,.int .i64 most,.slice A n c] 25)).heap.size=w.heap.size+1:=Array.size_push _;generalize w.alloc (.cells #[.int .i64 pages,.int .i64 most,.slice A n c] 25)=wa at hN1 hal1 hsz1⊢;have hN2:=zb_.new wa 32 [.int .i64 0,.int .i64 0,.int .i64 0,.slice none 0 0];have hal2:=(Chg.refl [] wa).alloc (.cells #[.int .i64 0,.int .i64 0,.int .i64 0,.slice none 0 0] 32);obtain⟨g1,hg1⟩:∃g1,g1=w.heap.size:=⟨_,rfl⟩;have HG1:=hQ_ hg1;rw[hsz1]at hN2;rw[<-hg1]at hN1 hN2⊢;have HU1:=hQ_ (hN1.keep hal2);have HR1:=hQ_ hN2;have HC1:=hQ_ (hal1.new hal2);generalize wa.alloc (.cells #[.int .i64 0,.int .i64 0,.int .i64 0,.slice none 0 0] 32)=w1 at HU1 HR1 HC1⊢;clear hN1 hN2 hal1 hal2 hsz1 hg1;have u0:=HU1.o.cell 0;have u1:=HU1.o.cell 1;have u2:=HU1.o.cell 2;go_wp2_with fail;refine(HRG.o w1 HC1.o).mono ?_;rintro e w2 ⟨rfl,hc2⟩;have HC2:=hQ_ (HC1.o.new hc2);have HU2:=hQ_ (HU1.o.keep hc2);have HR2:=hQ_ (HR1.o.keep hc2);clear hc2 u0 u1 u2 HU1 HR1 HC1;have u0:=HU2.o.cell 0;have u1:=HU2.o.cell 1;have u2:=HU2.o.cell 2;go_wp2_with fail;refine(HFI.o w2 HC2.o).mono ?_;rintro e w3 ⟨rfl,hc3⟩;have HC3:=hQ_ (HC2.o.new hc3);have HR3:=hQ_ (HR2.o.keep hc3);clear hc3 u0 u1 u2 HU2 HR2 HC2;have r0:=HR3.o.cell 0;have r1:=HR3.o.cell 1;have r2:=HR3.o.cell 2;have r3:=HR3.o.cell 3;have f0:=HR3.o.frozen 0;have f1:=HR3.o.frozen 1;have f2:=HR3.o.frozen 2;have f3:=HR3.o.frozen 3;go_wp2_with fail;have hS:=(((HR3.o.set_ 0 (.int .i64 0)).set_ 1 (.int .i64 0)).set_ 2 (.int .i64 0)).set_ 3 (.slice none 0 0);simp only[List.set_cons_succ,List.set_cons_zero]at hS;have hc4:Chg [g1+1] w3 ((((w3.setCell ⟨g1+1,0,none⟩ (.int .i64 0)).setCell ⟨g1+1,1,none⟩ (.int .i64 0)).setCell ⟨g1+1,2,none⟩ (.int .i64 0)).setCell ⟨g1+1,3,none⟩ (.slice none 0 0)) :=
  ((((Chg.refl [g1+1] w3).setCell (p:=⟨g1+1,0,none⟩) (fun _=>by simp) _).setCell (p:=⟨g1+1,1,none⟩) (fun _=>by simp) _).setCell (p:=⟨g1+1,2,none⟩) (fun _=>by simp) _).setCell (p:=⟨g1+1,3,none⟩) (fun _=>by simp) _;have hC4:=HC3.o.then_ hc4 (fun i hi hlt=>by simp only[List.mem_cons,List.not_mem_nil,or_false]at hi;have:=HG1.o;omega);have hP:=HFIN.o _ hC4;refine bodyPost_ret (ze_ (p:=12) (u:=13) (ty:=32) rfl _ _ (g1+1) 32 [.int .i64 0,.int .i64 0,.int .i64 0,.slice none 0 0] _ rfl hS Tryz.underlying32 (by kernel_rfl)) rfl ?_;exact hP
theorem znn {kk:Nat}{f:FnV}(hF:Fnr w A n c l)(hU:RightU pages most l)(hk:yQ_ l name=(kk:Int))(hf:l[kk]?=some f)(hfa:f.args≠(m2:Int))(hfu:fuel<=1048576) :
    Calls Tryz.prog 25 #[yC_ pages most A n c,.pointer (some ⟨p,0,none⟩),.pointer (some ⟨rp,0,none⟩),.int .i32 name,.int .i64 (fuel:Int),.slice A2 m2 c2] w (vj_ w 1):=by
 have HRG:=hQ_ (fun (w1:World)(hc:Chg [] w w1)=>gu_ (hF.keep hc) hU);have HFI:=hQ_ (fun (w1:World)(hc:Chg [] w w1)=>xE_ (pages:=pages) (most:=most) (hF.keep hc) name);rw[hk]at HFI;have HFIN:=hQ_ (show ∀W,Chg [] w W->vj_ w 1 (.returned (.tuple #[.agg #[.int .i64 0,.int .i64 0,.int .i64 0,.slice none 0 0],.int .i64 1])) W from fun W h=>⟨rfl,h⟩);generalize vj_ w 1=PO at HFIN⊢;unfold um_ at HRG;unfold kj_ at HFI;unfold yC_ at HRG HFI⊢;have hb1:decide ((fuel:Int)<0)=false:=by simp
 have hb2:decide (1048576<(fuel:Int))=false:=by simp;omega
 have HFC:=hQ_ (fun (W:World)(hc:Chg [] w W)=>(hF.keep hc).cell hf);have hkn:kk<n:=by rw[<-hF.len];exact(List.getElem?_eq_some_iff.1 hf).1
 have hk0:decide ((kk:Int)<0)=false:=by simp
 have hne:((m2:Int) != f.args)=true:=by simp;omega
 clear hF hU hk hfu hf hfa;go_enter Tryz.func25,Tryz.ntmps25;go_upto_region 1 with fail;have hN1:=zb_.new w 25 [.int .i64 pages,.int .i64 most,.slice A n c];have hal1:=(Chg.refl [] w).alloc (.cells #[.int .i64 pages,.int .i64 most,.slice A n c] 25);have hsz1:(w.alloc (.cells #[.int .i64 pages,.int .i64 most,.slice A n c] 25)).heap.size=w.heap.size+1:=Array.size_push _;generalize w.alloc (.cells #[.int .i64 pages,.int .i64 most,.slice A n c] 25)=wa at hN1 hal1 hsz1⊢;have hN2:=zb_.new wa 32 [.int .i64 0,.int .i64 0,.int .i64 0,.slice none 0 0];have hal2:=(Chg.refl [] wa).alloc (.cells #[.int .i64 0,.int .i64 0,.int .i64 0,.slice none 0 0] 32);obtain⟨g1,hg1⟩:∃g1,g1=w.heap.size:=⟨_,rfl⟩;have HG1:=hQ_ hg1;rw[hsz1]at hN2;rw[<-hg1]at hN1 hN2⊢;have HU1:=hQ_ (hN1.keep hal2);have HR1:=hQ_ hN2;have HC1:=hQ_ (hal1.new hal2);generalize wa.alloc (.cells #[.int .i64 0,.int .i64 0,.int .i64 0,.slice none 0 0] 32)=w1 at HU1 HR1 HC1⊢;clear hN1 hN2 hal1 hal2 hsz1 hg1;have u0:=HU1.o.cell 0;have u1:=HU1.o.cell 1;have u2:=HU1.o.cell 2;go_wp2_with fail;refine(HRG.o w1 HC1.o).mono ?_;rintro e w2 ⟨rfl,hc2⟩;have HC2:=hQ_ (HC1.o.new hc2);have HU2:=hQ_ (HU1.o.keep hc2);have HR2:=hQ_ (HR1.o.keep hc2);clear hc2 u0 u1 u2 HU1 HR1 HC1;have u0:=HU2.o.cell 0;have u1:=HU2.o.cell 1;have u2:=HU2.o.cell 2;go_wp2_with fail;refine(HFI.o w2 HC2.o).mono ?_;rintro e w3 ⟨rfl,hc3⟩;have HC3:=hQ_ (HC2.o.new hc3);have HR3:=hQ_ (HR2.o.keep hc3);have HU3:=hQ_ (HU2.o.keep hc3);clear hc3 u0 u1 u2 HU2 HR2 HC2;have u0:=HU3.o.cell 0;have u1:=HU3.o.cell 1;have u2:=HU3.o.cell 2;obtain⟨b,o,rfl,hb,_,ca,_⟩:=HFC.o w3 HC3.o;have r0:=HR3.o.cell 0;have r1:=HR3.o.cell 1;have r2:=HR3.o.cell 2;have r3:=HR3.o.cell 3;have f0:=HR3.o.frozen 0;have f1:=HR3.o.frozen 1;have f2:=HR3.o.frozen 2;have f3:=HR3.o.frozen 3;go_wp2_with fail;have hS:=(((HR3.o.set_ 0 (.int .i64 0)).set_ 1 (.int .i64 0)).set_ 2 (.int .i64 0)).set_ 3 (.slice none 0 0);simp only[List.set_cons_succ,List.set_cons_zero]at hS;have hc4:Chg [g1+1] w3 ((((w3.setCell ⟨g1+1,0,none⟩ (.int .i64 0)).setCell ⟨g1+1,1,none⟩ (.int .i64 0)).setCell ⟨g1+1,2,none⟩ (.int .i64 0)).setCell ⟨g1+1,3,none⟩ (.slice none 0 0)) :=
  ((((Chg.refl [g1+1] w3).setCell (p:=⟨g1+1,0,none⟩) (fun _=>by simp) _).setCell (p:=⟨g1+1,1,none⟩) (fun _=>by simp) _).setCell (p:=⟨g1+1,2,none⟩) (fun _=>by simp) _).setCell (p:=⟨g1+1,3,none⟩) (fun _=>by simp) _;have hC4:=HC3.o.then_ hc4 (fun i hi hlt=>by simp only[List.mem_cons,List.not_mem_nil,or_false]at hi;have:=HG1.o;omega);have hP:=HFIN.o _ hC4;refine bodyPost_ret (ze_ (p:=12) (u:=13) (ty:=32) rfl _ _ (g1+1) 32 [.int .i64 0,.int .i64 0,.int .i64 0,.slice none 0 0] _ rfl hS Tryz.underlying32 (by kernel_rfl)) rfl ?_;exact hP
end
end
section
open Go.RowKit
theorem vh_ (w:World)(xs:List Value)(t:Nat):∀(j:Nat)(u:Value),xs[j]?=some u->(w.alloc (.cells xs.toArray t)).cell? ((⟨w.heap.size,0,none⟩:Addr).add j)=some u:=fun j u hj=>by
 rw[zl_,Nat.zero_add,(zb_.new w t xs).cell];exact hj
theorem vK_ {P:Program}{w:World}{ops:Array Oper}{rest:List Oper}{o:Oper}{a:Act}{Q:Exit->Act->World->Prop}(hgd:o.guard=none)(s x:Operand)(t:TypeId)
    (ho:o.op=.call { callee:=.builtin .append,args:=#[s,x],argTypes:=#[t,t] })
    (base:Nat) (e:TypeId) (i:TypeInfo) (z:Value) (size bytes:Nat) (ht:P.underlying t=some (.slice e)) (hi:P.info? e=some i) (hz:i.zero=some z)
    (hsize:i.size=size) (hby:i.bytes=bytes) (hzs:z.cells.size=size) (hsz:0<size)
    (v:Value) (n:Nat) (xs:List Value) (hse:a.eval s=v) (hown:w.ownsRow base e size v n xs)
    (ad:Addr) (m c:Nat) (news:List Value) (hxe:a.eval x=.slice (some ad) m c) (hl:news.length=m*size) (hnews:∀j u,news[j]?=some u->w.cell? (ad.add j)=some u) (h1:∀u∈news,u.oneCell'=true)
    (h63:n+m<=maxLen) (hbytes:(n+m)*bytes<=140737488355328) (hbase:base<=w.heap.size)
    (h:∀v' w',w'.ownsRow base e size v' (n+m) (xs++news)->w.grownBy w' v.ownBlock->(v'.ownBlock=v.ownBlock\/v'.ownBlock=some w.heap.size)->wpList P ops Q rest (a.put o.dst v') w'):wpList P ops Q (o::rest) a w:=by
      refine wpList_plain hgd fun K hK=>?_;obtain⟨v',w',hrun,h2,h3,_,h5⟩:=run_append_own_at (P:=P) w base t o.type e i z size bytes ht hi hz hsize hby hzs hsz v n xs hown ad m c news hl hnews h1 h63 hbytes hbase;unfold Oper.wp execOp;simp only[ho,resolve,invoke,builtin,Sem.run_bind,Sem.run_pure,Result.andThen_ok,List.map_toArray,List.map_cons,List.map_nil,hse,hxe,hrun];exact hK _ _ (h v' w' h2 h3 h5)
def zmH (rs:List (Option Int)):List Value:=rs.flatMap fun r=>[.int .i64 (r.getD 0),.bool r.isSome]
def qsC (qs:List (Int×Int)):List Value:=qs.flatMap fun q=>[.int .i32 q.1,.int .i64 q.2]
theorem gB_ {α:Type}(f g:α->Value):∀(l:List α)(k:Nat)(a:α),l[k]?=some a->(l.flatMap fun a=>[f a,g a])[k*2]?=some (f a)/\(l.flatMap fun a=>[f a,g a])[k*2+1]?=some (g a)
  | [],k,a,h=>by simp at h
  | b::l,0,a,h=>by simp at h;subst h;exact⟨rfl,rfl⟩
  | b::l,k+1,a,h=>by
    simp at h;have:=gB_ f g l k a h;rw[List.flatMap_cons,show(k+1)*2=k*2+2 by omega,show k*2+2+1=k*2+1+2 by omega];exact this
theorem zjA {rs:List (Option Int)}{k:Nat}{r:Option Int}(h:rs[k]?=some r):(zmH rs)[k*2]?=some (.int .i64 (r.getD 0))/\(zmH rs)[k*2+1]?=some (.bool r.isSome):=gB_ _ _ rs k r h
theorem zpm {qs:List (Int×Int)}{k:Nat}{q:Int×Int}(h:qs[k]?=some q):(qsC qs)[k*2]?=some (.int .i32 q.1)/\(qsC qs)[k*2+1]?=some (.int .i64 q.2):=gB_ _ _ qs k q h
theorem zln:(Tryz.prog.info? 119).map (fun i=>(i.zero,i.size,i.bytes))=some (some (.agg #[.int .i64 0,.bool false]),2,16):=by kernel_rfl
theorem j5_:(Tryz.prog.info? 267).map (fun i=>(i.zero,i.size,i.bytes))=some (some (.agg #[.int .i32 0,.int .i64 0]),2,16):=by kernel_rfl
def zfi (rs:List (Option Int))(k:Nat):Option Int:=if k<rs.length then rs.getD k none else some 0
structure Rq (w:World) (p:Nat) (rs:List (Option Int)) (qs:List (Int×Int)) (a q:Value):Prop where
  rec_:zb_ w p 117 [a,q]
  ans:w.ownsRow 0 119 2 a rs.length (zmH rs)
  asks:w.ownsRow 0 267 2 q qs.length (qsC qs)
abbrev rqT:List TypeId:=[117,267]
section
variable {w w':World} {p:Nat} {rs:List (Option Int)} {qs:List (Int×Int)} {a q:Value} {K:Nat->Prop}
theorem Rq.keep (h:Rq w p rs qs a q)(hc:Chg [] w w'):Rq w' p rs qs a q:=⟨h.rec_.keep hc,zf_ h.ans hc,zf_ h.asks hc⟩
theorem Rq.fe {TS:List TypeId}(h:Rq w p rs qs a q)(hf:Fe K TS w w')(h1:117∉TS)(h2:119∉TS)(h3:267∉TS):Rq w' p rs qs a q:=⟨hf.whole h.rec_ h1,hf.own h.ans h2,hf.own h.asks h3⟩
theorem z1_ {B n k:Nat}{e t:TypeId}{v u:Value}{xs cs:List Value}{j:Nat}(h:w.ownsRow B e k v n xs)(hp:zb_ w p t cs)(hne:e≠t):(w.setCell ⟨p,j,none⟩ u).ownsRow B e k v n xs:=by
 refine⟨h.1,h.2.imp id ?_⟩;rintro⟨g,cap,cur,rfl,hb,hh,r⟩;refine⟨g,cap,cur,rfl,hb,?_,r⟩;rw[Below.heap_setCell w ⟨p,j,none⟩ u g ?_]
 · exact hh
 · rintro rfl;unfold zb_ at hp;rw[hh]at hp;simp at hp;exact hne hp.2
theorem Rq.more (h:Rq w p rs qs a q)(hp:K p)(hq:∀i,q.ownBlock=some i->K i)(hnew:∀i,w.heap.size<=i->K i){W2 w3:World}(hc:Chg [] w W2){x y:Int}{q':Value}{n1:Nat}(hn1:n1=qs.length+1)
    (ho:w3.ownsRow 0 267 2 q' n1 (qsC qs++[.int .i32 x,.int .i64 y])) (hg:W2.grownBy w3 q.ownBlock) (hb:q'.ownBlock=q.ownBlock\/q'.ownBlock=some W2.heap.size) :
    Rq (w3.setCell ⟨p,1,none⟩ q') p rs (qs++[(x,y)]) a q'/\Fe K rqT w (w3.setCell ⟨p,1,none⟩ q')/\(∀i,q'.ownBlock=some i->K i)/\zb_ w3 p 117 [a,q]:=by
 subst hn1;have h2:=h.keep hc;have hr3:=zn_ h2.rec_ h2.asks (by decide) hg;have ha3:=yl_ h2.ans h2.asks (by decide) hg;refine⟨⟨hr3.set_ 1 _,z1_ ha3 hr3 (by decide),?_⟩,((Fe.of_chg hc).grown h2.asks hq (by simp[rqT]) hg).setw hr3 hp (by simp[rqT]) _,fun i hi=>?_,hr3⟩
 · have:=z1_ (j:=1) (u:=q') ho hr3 (by decide);rw[List.length_append,List.length_singleton,show qsC (qs++[(x,y)])=qsC qs++[.int .i32 x,.int .i64 y] by simp[qsC]];exact this
 · rcases hb with hb|hb
   · exact hq i (hb.symm.trans hi)
   · rw[hb]at hi;injection hi with hi;exact hnew i (by have:=hc.size;omega)
def zoQ (w:World)(rs:List (Option Int))(e:Ending)(w':World):Prop:=∃p a,e=.returned (.pointer (some ⟨p,0,none⟩))/\Rq w' p rs [] a (.slice none 0 0)/\w.heap.size<=p/\Chg [] w w'
theorem zhl (qs:List (Int×Int)):∀v∈qsC qs,v.oneCell'=true:=by
 intro v hv;simp only[qsC,List.mem_flatMap,List.mem_cons,List.not_mem_nil,or_false]at hv;obtain⟨q,_,rfl|rfl⟩:=hv<;>rfl
theorem uC_ (qs:List (Int×Int)):(qsC qs).length=qs.length*2:=by
 induction qs with
 | nil=>rfl
 | cons q qs ih=>simp only[qsC,List.flatMap_cons,List.length_append,List.length_cons,List.length_nil]at ih⊢;omega
theorem Low.of_rown {B n k:Nat}{e:TypeId}{v:Value}{xs:List Value}(ho:w.ownsRow B e k v n xs)(hg:w.grownBy w' v.ownBlock):Low B w w' :=
 ⟨hg.os,hg.tape,hg.output,hg.size,fun i hi hB=>hg.block i hB fun hc=>by
  rcases ho.2 with⟨rfl,_⟩|⟨g,cap,cur,rfl,hb,_⟩
  · simp[Value.ownBlock]at hc
  · simp[Value.ownBlock]at hc;omega⟩
structure RwB (w:World) (B p:Nat) (rs:List (Option Int)) (a:Value):Prop where
  rec_:zb_ w p 117 [a,.slice none 0 0]
  ans:w.ownsRow B 119 2 a rs.length (zmH rs)
  low:B<=p
theorem RwB.keep {w w':World}{B p:Nat}{rs:List (Option Int)}{a:Value}(h:RwB w B p rs a)(hc:Chg [] w w'):RwB w' B p rs a:=⟨h.rec_.keep hc,zf_ h.ans hc,h.low⟩
def zcW (w:World)(K:Nat->Prop)(p:Nat)(rs:List (Option Int))(qs:List (Int×Int))(x y:Int)(e:Ending)(w':World):Prop :=
 ∃a q,e=.returned (.tuple #[.int .i64 ((zfi rs qs.length).getD 0),.bool (zfi rs qs.length).isSome])/\Rq w' p rs (qs++[(x,y)]) a q/\Fe K rqT w w'/\(∀i,q.ownBlock=some i->K i)
theorem zoF (h:Rq w p rs qs a q)(hp:K p)(hqK:∀i,q.ownBlock=some i->K i)(hnew:∀i,w.heap.size<=i->K i)(hq:qs.length<=1000000000)(x y:Int) :
    Calls Tryz.prog 158 #[.pointer (some ⟨p,0,none⟩),.int .i32 x,.int .i64 y] w (zcW w K p rs qs x y):=by
 obtain⟨i0,hi,hz0,hz1,hz2⟩:=info_parts j5_;obtain⟨A1,c1,rfl,_,hcm1,hA1⟩:=zh_ h.ans;obtain⟨A2,c2,rfl,_,hcm2,_⟩:=zh_ h.asks;have e0:=h.rec_.cell 0;have e1:=h.rec_.cell 1;have f1:=h.rec_.frozen 1;have hal:Chg [] w (w.alloc (.cells #[.int .i32 x,.int .i64 y] 267)):=(Chg.refl [] w).alloc _;have hown:=zf_ h.asks hal;have fin:∀(v':Value)(w3:World),w3.ownsRow 0 267 2 v' (qs.length+1) (qsC qs++[.int .i32 x,.int .i64 y])->(w.alloc (.cells #[.int .i32 x,.int .i64 y] 267)).grownBy w3 (Value.slice A2 qs.length c2).ownBlock->(v'.ownBlock=(Value.slice A2 qs.length c2).ownBlock\/v'.ownBlock=some (w.alloc (.cells #[.int .i32 x,.int .i64 y] 267)).heap.size) ->
     Hid (Rq (w3.setCell ⟨p,1,none⟩ v') p rs (qs++[(x,y)]) (.slice A1 rs.length c1) v')/\Hid (Fe K rqT w (w3.setCell ⟨p,1,none⟩ v'))/\Hid (∀i,v'.ownBlock=some i->K i)/\Hid (zb_ w3 p 117 [.slice A1 rs.length c1,.slice A2 qs.length c2]):=by
  intro v' w3 h1 h2 h3;obtain⟨r1,r2,r3,r4⟩:=h.more (K:=K) hp hqK hnew hal rfl h1 h2 h3;exact⟨hQ_ r1,hQ_ r2,hQ_ r3,hQ_ r4⟩
 obtain⟨N,hN⟩:∃N,N=qs.length:=⟨_,rfl⟩;obtain⟨M,hM⟩:∃M,M=rs.length:=⟨_,rfl⟩;have HN:=hQ_ hN;have HM:=hQ_ hM;rw[<-hN]at e1 hq hown fin;rw[<-hM]at e0 fin;have FIN:=hQ_ fin;have HOW:=hQ_ hown;clear h hp hqK hnew hal hown fin hN hM;by_cases hlt:N<M
 · have hltI:(N:Int)<(M:Int):=(by omega);go_enter Tryz.func158,Tryz.ntmps158;go_wp2_with (
    at_builtin;refine vK_ rfl (.tmp 18) (.tmp 22) _ rfl 0 267 i0 _ 2 16 Tryz.underlying30 hi hz0 hz1 hz2 rfl (by decide) (.slice A2 N c2) N (qsC qs) rfl HOW.o ⟨w.heap.size,0,none⟩ 1 1 [.int .i32 x,.int .i64 y] rfl rfl (vh_ _ _ _) (by simp[Value.oneCell']) (by simp only[maxLen];omega) (by omega) (Nat.zero_le _) ?_;intro v' w3 hown' hg' hb';obtain⟨HR3,HF3,HK3,HW3⟩:=FIN.out v' w3 hown' hg' hb';obtain⟨A3,c3,rfl,_,_,_⟩:=zh_ hown';have d0:=HW3.o.cell 0;have d1:=HW3.o.cell 1;have g1:=HW3.o.frozen 1;clear hown' hg' hb');generalize w3.setCell ⟨p,1,none⟩ (.slice A3 (N+1) c3)=w4 at HR3 HF3⊢;clear d0 d1 g1;have d0:=HR3.o.rec_.cell 0;obtain⟨r,hr⟩:∃r,rs[N]?=some r:=⟨_,List.getElem?_eq_getElem (by have:=HM.o;omega)⟩;have ha3:=HR3.o.ans;rw[<-HM.o]at ha3;obtain⟨g,rfl,k1⟩:=zv_ ha3 rfl (zjA hr).1;obtain⟨g',hg',k2⟩:=zv_ ha3 rfl (zjA hr).2;injection hg' with hg';injection hg' with hg';subst hg';clear ha3;have HNX:=hQ_ (show zfi rs qs.length=r by unfold zfi;rw[<-HN.o,if_pos (by rw[<-HM.o];exact hlt)];simp[List.getD,hr]);clear hr;have HP:=hQ_ (show ∀k,zcW w K p rs qs x y (.returned (.tuple #[.int .i64 (r.getD 0),.bool r.isSome])) (w4.drewN k) from fun k =>
    ⟨_,_,by rw[HNX.o],HR3.o.keep ((Chg.refl [] w4).drewN k),HF3.o.new ((Chg.refl [] w4).drewN k),HK3.o⟩);go_quiet (fail);go_wp2_with fail;go_ret2;exact HP.o _
 · have hltI:(M:Int)<=(N:Int):=(by omega);go_enter Tryz.func158,Tryz.ntmps158;go_wp2_with (
    at_builtin;refine vK_ rfl (.tmp 18) (.tmp 22) _ rfl 0 267 i0 _ 2 16 Tryz.underlying30 hi hz0 hz1 hz2 rfl (by decide) (.slice A2 N c2) N (qsC qs) rfl HOW.o ⟨w.heap.size,0,none⟩ 1 1 [.int .i32 x,.int .i64 y] rfl rfl (vh_ _ _ _) (by simp[Value.oneCell']) (by simp only[maxLen];omega) (by omega) (Nat.zero_le _) ?_;intro v' w3 hown' hg' hb';obtain⟨HR3,HF3,HK3,HW3⟩:=FIN.out v' w3 hown' hg' hb';obtain⟨A3,c3,rfl,_,_,_⟩:=zh_ hown';have d0:=HW3.o.cell 0;have d1:=HW3.o.cell 1;have g1:=HW3.o.frozen 1;clear hown' hg' hb');go_ret2;have HNX:zfi rs qs.length=some 0:=(by unfold zfi;rw[<-HN.o,if_neg (by rw[<-HM.o];exact hlt)]);have HP:zcW w K p rs qs x y (.returned (.tuple #[.int .i64 0,.bool true])) (w3.setCell ⟨p,1,none⟩ (.slice A3 (N+1) c3)) :=
    ⟨_,_,by rw[HNX];rfl,HR3.o,HF3.o,HK3.o⟩;exact HP
theorem zdj {vs:List Value}{A:Option Addr}{n c:Nat}(hN:xo_ vs rs)(hs:Src w A vs)(hA:∀ad,A=some ad->ad.spot=none)(hn:vs.length=n)(hc:n<=c)(m:Nat)(hm:(m:Int)=min (n:Int) 64) :
    Calls Tryz.prog 26 #[.slice A n c] w (zoQ w (rs.take m)):=by
 have hmn:m<=n/\m<=64:=by omega
 obtain⟨i0,hi,hz0,hz1,hz2⟩:=info_parts zln;have HVS:=hQ_ hn;have HA:=hQ_ hA;have HN:=hQ_ hN;have HM:=hQ_ hm;clear hn hA hN hm;go_enter Tryz.func26,Tryz.ntmps26;go_wp2_with fail;rw[show min (n:Int) 64=(m:Int) from HM.o.symm,Int.toNat_natCast,show max (m:Int) 0=(m:Int) by omega];obtain⟨p,hp⟩:∃p,p=w.heap.size:=⟨_,rfl⟩;have hR0:RwB (w.alloc (.cells #[.slice none 0 0,.slice none 0 0] 117)) w.heap.size p (rs.take 0) (.slice none 0 0) :=
  ⟨by rw[hp];exact zb_.new w 117 [.slice none 0 0,.slice none 0 0],World.ownsRow_nil _ _ _ _,Nat.le_of_eq hp.symm⟩;have hc0:Chg [] w (w.alloc (.cells #[.slice none 0 0,.slice none 0 0] 117)):=(Chg.refl _ _).alloc _;rw[<-hp];go_loopw [14] (fun i wr=>∃k:Nat,k<=m/\i=.int .i64 (k:Int)/\(∃a,RwB wr w.heap.size p (rs.take k) a)/\Chg [] w wr) (fun i _=>m-(intOf i).toNat);case atStart=>exact⟨0,Nat.zero_le _,rfl,⟨_,hR0⟩,hc0⟩
 case round =>
  obtain⟨k,hk,rfl,⟨a,hR⟩,hcg⟩:=hrel;have hwr:=hcg.size;have hpl:w.heap.size<=p:=by omega
  have HC:=hQ_ hcg;clear hR0 hc0 hp hcg;by_cases hlt:k<m
  · have hlv:k<vs.length:=(by rw[HVS.o];omega);have hlr:k<rs.length:=(by have:=HN.o.1;omega);obtain⟨ad,rfl,_,hx⟩:=(hs.keep HC.o) (by omega);have hx1:=hx k _ (List.getElem?_eq_getElem hlv);obtain⟨b1,o1,s1⟩:=ad;obtain rfl:s1=none:=HA.o _ rfl;rw[zl_]at hx1;have hnum:Num vs[k] rs[k]:=HN.o.2 k _ _ (List.getElem?_eq_getElem hlv) (List.getElem?_eq_getElem hlr);have HT:=hQ_ (show zmH (rs.take (k+1))=zmH (rs.take k)++[.int .i64 (rs[k].getD 0),.bool rs[k].isSome] by rw[List.take_succ_eq_append_getElem hlr];unfold zmH;rw[List.flatMap_append];rfl);have HTL:=hQ_ (show(rs.take (k+1)).length=k+1 by rw[List.length_take];omega);have hTK:(rs.take k).length=k:=(by rw[List.length_take];omega);generalize vs[k]=u at hx1 hnum;generalize rs[k]=r at hnum HT;clear hx;have HR:=hQ_ hR;have hTK2:=hQ_ hTK;clear hR hTK;have hkm:(k:Int)<(m:Int):=(by omega);go_wp2_with fail;refine(gi_ hnum).mono ?_;rintro e w1 ⟨rfl,hc1⟩;have hR1:=HR.o.keep hc1;have hwn:w.heap.size<=w1.heap.size:=Nat.le_trans hwr hc1.size;obtain⟨A1,c1,rfl,_,_,_⟩:=zh_ hR1.ans;have hO1:=hR1.ans;have e0:=hR1.rec_.cell 0;rw[hTK2.out]at hO1 e0;obtain⟨X,hX⟩:∃X,X=zmH (rs.take k):=⟨_,rfl⟩;rw[<-hX]at hO1;have HX:=hQ_ hX;have HR1:=hQ_ hR1;have HC1:=hQ_ hc1;clear hX hR1 hc1;go_wp2_with (first
     | (at_builtin;refine wpList_append_own _ rfl (.tmp 24) (.tmp 28) _ rfl w.heap.size 119 i0 _ 2 16 Tryz.underlying115 hi hz0 hz1 hz2 rfl (by decide) _ k X rfl (zf_ hO1 ((Chg.refl _ _).alloc _)) ⟨w1.heap.size,0,none⟩ 1 1 [.int .i64 (r.getD 0),.bool r.isSome] rfl rfl ?c1 ?c2 ?c3 ?c4 ?c5 ?_;(case c1=>exact vh_ _ _ _);(case c2=>simp[Value.oneCell']);(case c3=>simp only[maxLen];omega);(case c4=>omega);(case c5=>simp;omega);intro v' w2 hown' hg' _;have hal:=zf_ hO1 ((Chg.refl [] w1).alloc (.cells #[.int .i64 (r.getD 0),.bool r.isSome] 119));have hR2:=zn_ (HR1.o.rec_.keep ((Chg.refl [] w1).alloc (.cells #[.int .i64 (r.getD 0),.bool r.isSome] 119))) hal (by decide) hg';have hL2:=(Low.of_chg (B:=w.heap.size) ((Chg.refl [] w1).alloc (.cells #[.int .i64 (r.getD 0),.bool r.isSome] 119))).trans (Low.of_rown hal hg');obtain⟨A3,c3,rfl,_,_,_⟩:=zh_ hown';have d0:=hR2.cell 0;have g0:=hR2.frozen 0;have hR3:=hR2.set_ 0 (.slice A3 (k+1) c3);have hO3:=z1_ (j:=0) (u:=.slice A3 (k+1) c3) hown' hR2 (by decide);have hL3:Low w.heap.size w1 (w2.setCell ⟨p,0,none⟩ (.slice A3 (k+1) c3)):=hL2.trans ⟨rfl,rfl,rfl,by simp[World.setCell],fun k hk hl=>Below.heap_setCell w2 _ _ k (by simp only;omega)⟩;clear hal hR2 hL2 hown' hg'));go_roundw;case rel =>
     refine⟨k+1,by omega,by go_num,⟨.slice A3 (k+1) c3,hR3,?_,hpl⟩,((Low.of_chg (HC.o.new HC1.o)).trans hL3).chg (Nat.le_refl _)⟩;rw[HTL.o,HT.o,<-HX.o];exact hO3
    case measure=>simp[intOf];omega
  · obtain rfl:k=m:=(by omega);go_wp2_with fail;go_ret;exact⟨p,_,rfl,⟨hR.rec_,ym_ hR.ans (Nat.zero_le _),World.ownsRow_nil _ _ _ _⟩,hR.low,HC.o⟩
def zag (w:World)(qs:List (Int×Int))(e:Ending)(w':World):Prop:=∃v,e=.returned v/\w'.ownsRow w.heap.size 267 2 v qs.length (qsC qs)/\Chg [] w w'
theorem zlY (h:Rq w p rs qs a q)(hq:qs.length<=1000000000)(h0:0<qs.length) :
    Calls Tryz.prog 51 #[.pointer (some ⟨p,0,none⟩)] w (zag w qs):=by
 obtain⟨i0,hi,hz0,hz1,hz2⟩:=info_parts j5_;obtain⟨A2,c2,rfl,_,hcm2,_⟩:=zh_ h.asks;have e1:=h.rec_.cell 1;obtain⟨g,rfl,_⟩:=zv_ h.asks rfl (zpm (List.getElem?_eq_getElem h0)).1;have hcells:∀(j:Nat)(u:Value),(qsC qs)[j]?=some u->w.cell? ((⟨g,0,none⟩:Addr).add j)=some u:=h.asks.cells rfl;have HL:=hQ_ (uC_ qs);have HO:=hQ_ hcells;clear hcells h;obtain⟨N,hN⟩:∃N,N=qs.length:=⟨_,rfl⟩;have HN:=hQ_ hN;rw[<-hN]at e1 hq h0 HL;clear hN;go_enter Tryz.func51,Tryz.ntmps51;go_wp2_with (first
  | (at_builtin;refine wpList_append_own _ rfl (.const (.slice none 0 0)) (.tmp 6) _ rfl w.heap.size 267 i0 _ 2 16 Tryz.underlying30 hi hz0 hz1 hz2 rfl (by decide) _ 0 [] rfl (World.ownsRow_nil w w.heap.size 267 2) ⟨g,0,none⟩ N c2 (qsC qs) rfl HL.o HO.o (zhl qs) ?c3 ?c4 ?c5 ?_;(case c3=>simp only[maxLen];omega);(case c4=>omega);(case c5=>exact Nat.le_refl _);intro v' w2 hown' hg' _));go_ret;rw[HN.o,Nat.zero_add,List.nil_append]at hown';have hg2:w.grownBy w2 none:=hg';exact⟨_,rfl,hown',Chg.of_grown hg2 fun g hr _=>by cases hr⟩
end
end
section
open Go.RowKit
def z4:List Value:=[.int .i64 0,.int .i64 0,.int .i64 0,.slice none 0 0]
theorem je_ {W:World}{g t:Nat}(h:zb_ W g t [.int .i64 0,.int .i64 0,.int .i64 0,.slice none 0 0]):zb_ ((((W.setCell ⟨g,0,none⟩ (.int .i64 0)).setCell ⟨g,1,none⟩ (.int .i64 0)).setCell ⟨g,2,none⟩ (.int .i64 0)).setCell ⟨g,3,none⟩ (.slice none 0 0)) g t [.int .i64 0,.int .i64 0,.int .i64 0,.slice none 0 0]:=by
 have hS:=(((h.set_ 0 (.int .i64 0)).set_ 1 (.int .i64 0)).set_ 2 (.int .i64 0)).set_ 3 (.slice none 0 0);simp only[List.set_cons_succ,List.set_cons_zero]at hS;exact hS
theorem zei {w W:World}{g:Nat}(h:Chg [] w W)(hg:w.heap.size<=g):Chg [] w ((((W.setCell ⟨g,0,none⟩ (.int .i64 0)).setCell ⟨g,1,none⟩ (.int .i64 0)).setCell ⟨g,2,none⟩ (.int .i64 0)).setCell ⟨g,3,none⟩ (.slice none 0 0)) :=
 (((h.setCell (p:=⟨g,0,none⟩) (fun hlt=>by simp only at hlt;omega) _).setCell (p:=⟨g,1,none⟩) (fun hlt=>by simp only at hlt;omega) _).setCell (p:=⟨g,2,none⟩) (fun hlt=>by simp only at hlt;omega) _).setCell (p:=⟨g,3,none⟩) (fun hlt=>by simp only at hlt;omega) _
section
variable {w:World} {k:SK} {s:St} {x:SV} {j:HK} {y:HV} {AR AA:Option Addr} {nR cR nA cA fuel:Nat} {vR vA:List Value} {rR:List (Option Int)} {ns:List Int} {name:Int}
theorem zbj {err:Int}(hr:(err != 0)=true)(h:Ho w k s x j y)(HRU0:∀(W:World),Chg [] w W->∀(p rp:Nat)(A2:Option Addr)(c2:Nat),Calls Tryz.prog 25 #[yC_ y.pg y.ms j.A y.fs.length j.c,.pointer (some ⟨p,0,none⟩),.pointer (some ⟨rp,0,none⟩),.int .i32 name,.int .i64 (fuel:Int),.slice A2 ns.length c2] W (vj_ W err))
    (hNR:xo_ vR rR) (hsR:Src w AR vR) (hAR:∀ad,AR=some ad->ad.spot=none) (hnR:vR.length=nR) (hcR:nR<=cR)
    (hNA:xo_ vA (ns.map some)) (hsA:Src w AA vA) (hAA:∀ad,AA=some ad->ad.spot=none) (hnA:vA.length=nA) (hmA:nA<=1000000) :
    Calls Tryz.prog 9 #[.pointer (some ⟨j.h,0,none⟩),.int .i32 name,.int .i64 (fuel:Int),.slice AR nR cR,.slice AA nA cA] w (vj_ w err):=by
 have HH:=hQ_ h;have HFIN:=hQ_ (show ∀W,Chg [] w W->vj_ w err (.returned (.tuple #[.agg #[.int .i64 0,.int .i64 0,.int .i64 0,.slice none 0 0],.int .i64 err])) W from fun W h=>⟨rfl,h⟩);have HRU:=hQ_ HRU0;unfold vj_ yC_ at HRU;generalize vj_ w err=PO at HFIN⊢;obtain⟨mR,hmq⟩:∃m:Nat,(m:Int)=min (nR:Int) 64:=⟨min nR 64,by omega⟩;have HAL:=hQ_ (fun (W:World) (hc:Chg [] w W)=>zjB (c:=cA) hNA (hsA.keep hc) hAA hnA hmA);unfold zjK at HAL;have HRN:=hQ_ (fun (W:World) (hc:Chg [] w W)=>zdj (c:=cR) hNR (hsR.keep hc) hAR hnR hcR mR hmq);unfold zoQ at HRN;have HCP:=hQ_ (fun (W:World) (hc:Chg [] w W)=>(show Calls Tryz.prog 24 #[.pointer (some ⟨j.pm,0,none⟩)] W (fun e w'=>∃p,e=.returned (.pointer (some ⟨p,0,none⟩))/\Chg [] W w') from by
  obtain⟨X,Y,hM⟩:=(h.keep hc).mm;refine(zaU hM).mono ?_;rintro e w' ⟨p,gC,gD,rfl,_,_,_,_,hc'⟩;exact⟨p,rfl,hc'⟩));clear h HRU0 hNR hsR hAR hnR hcR hNA hsA hAA hnA hmA hmq;go_enter Tryz.func9,Tryz.ntmps9;go_upto_region 1 with fail;have hal:=(Chg.refl [] w).alloc (.cells #[.int .i64 0,.int .i64 0,.int .i64 0,.slice none 0 0] 32);have HR1:=hQ_ (zb_.new w 32 [.int .i64 0,.int .i64 0,.int .i64 0,.slice none 0 0]);have HC1:=hQ_ hal;clear hal;obtain⟨gr,hgr⟩:∃gr,gr=w.heap.size:=⟨_,rfl⟩;have HGR:=hQ_ hgr;rw[<-hgr]at HR1⊢;clear hgr;generalize w.alloc (.cells #[.int .i64 0,.int .i64 0,.int .i64 0,.slice none 0 0] 32)=w1 at HR1 HC1⊢;go_upto_region 4 with(
  go_at_call 23;with_reducible refine(HAL.o w1 HC1.o).mono ?_
  rintro e w2 ⟨v,rfl,ho,hc⟩;obtain⟨A2,c2,rfl,_⟩:=zr_ ho;have HC2:=hQ_ (HC1.o.trans hc);have HR2:=hQ_ (HR1.o.keep hc);clear ho hc);obtain⟨_,_,_,_,c4,_⟩:=(HH.o.keep HC2.o).cells;go_upto_region 5 with(
  go_at_call 24;with_reducible refine(HCP.o w2 HC2.o).mono ?_
  rintro e w3 ⟨p2,rfl,hc⟩;have HC3:=hQ_ (HC2.o.trans hc);have HR3:=hQ_ (HR2.o.keep hc);clear hc);clear c4;go_cut [15,16] (fun v15 v16 wx=>∃g15,v15=.pointer (some ⟨g15,0,none⟩)/\v16=.int .i64 err/\Hid (zb_ wx g15 32 [.int .i64 0,.int .i64 0,.int .i64 0,.slice none 0 0])/\Hid (Chg [] w3 wx));case first =>
  have HLD:=hQ_ (fun (W:World) (hc:Chg [] w3 W)=>(HH.o.keep (HC3.o.trans hc)).cells);obtain⟨_,d1,d2,d3,_⟩:=HLD.o w3.drew (Chg.refl [] w3).drew;obtain⟨_,b1,b2,b3,_⟩:=HLD.o (w3.alloc (.cells #[.int .i64 0,.int .i64 0,.int .i64 0,.slice none 0 0] 32)).drew ((Chg.refl [] w3).alloc _).drew;have hl3:j.h<w3.drew.heap.size:=(HH.o.keep HC3.o).rec_.lt;go_region_with (first
   | (go_at_call 26;(with_reducible refine(HRN.o _ (HC3.o.trans (by repeat (first|exact Chg.refl _ _|refine Chg.drew ?_|refine Chg.alloc ?_ _)))).mono ?_);rintro e w4 ⟨rp,av,rfl,hR,hrp,hc4⟩;have hA4:Chg [] w3 w4:=Chg.trans (by repeat (first|exact Chg.refl _ _|refine Chg.drew ?_|refine Chg.alloc ?_ _)) hc4;obtain⟨_,e1,e2,e3,_⟩:=HLD.o w4 hA4;obtain⟨_,p1,p2,p3,_⟩:=HLD.o (w4.alloc (.cells #[.int .i64 0,.int .i64 0,.int .i64 0,.slice none 0 0] 32)) (hA4.alloc _);have hl4:j.h<w4.heap.size:=(HH.o.keep (HC3.o.trans hA4)).rec_.lt;try (have q4:=(zb_.new w3 32 [.int .i64 0,.int .i64 0,.int .i64 0,.slice none 0 0]).drew.keep hc4))
   | (go_at_call 25;(with_reducible refine(HRU.o _ (HC3.o.trans (by repeat (first|exact hA4|refine Chg.drew ?_|refine Chg.alloc ?_ _))) _ _ _ _).mono ?_);rintro e w5 ⟨rfl,hc5⟩;have hA5:Chg [] w3 w5:=Chg.trans (by repeat (first|exact hA4|refine Chg.drew ?_|refine Chg.alloc ?_ _)) hc5;try (
       have q5:=(zb_.new w4 32 [.int .i64 0,.int .i64 0,.int .i64 0,.slice none 0 0]).keep hc5;have z0:=q5.cell 0;have z1:=q5.cell 1;have z2:=q5.cell 2;have z3:=q5.cell 3;have y0:=q5.frozen 0;have y1:=q5.frozen 1;have y2:=q5.frozen 2;have y3:=q5.frozen 3)
      try (
       have q5:=q4.keep hc5;have z0:=q5.cell 0;have z1:=q5.cell 1;have z2:=q5.cell 2;have z3:=q5.cell 3;have y0:=q5.frozen 0;have y1:=q5.frozen 1;have y2:=q5.frozen 2;have y3:=q5.frozen 3)));all_goals
    have hs4:=hA4.size;go_wp2_with fail;go_meet;first
      | exact⟨_,rfl,rfl,hQ_ (zb_.new w5 _ _),hQ_ (hA5.alloc _)⟩
      | exact⟨_,rfl,rfl,hQ_ (je_ q5),hQ_ (zei hA5 hs4)⟩
      | exact⟨_,rfl,rfl,hQ_ (je_ q5),hQ_ (zei hA5 (Nat.le_refl _))⟩
 case rest =>
  obtain⟨g15,rfl,rfl,HX,HCX⟩:=hcut;obtain⟨w6,rfl⟩:∃w6:World,w6=wc:=⟨_,rfl⟩;have HR6:=hQ_ (HR3.o.keep HCX.o);have HC6:=hQ_ (HC3.o.trans HCX.o);have x0:=HX.o.cell 0;have x1:=HX.o.cell 1;have x2:=HX.o.cell 2;have x3:=HX.o.cell 3;have r0:=HR6.o.cell 0;have r1:=HR6.o.cell 1;have r2:=HR6.o.cell 2;have r3:=HR6.o.cell 3;have f0:=HR6.o.frozen 0;have f1:=HR6.o.frozen 1;have f2:=HR6.o.frozen 2;have f3:=HR6.o.frozen 3;go_wp2_with fail;have hP:=HFIN.o _ (zei (g:=gr) HC6.o (by have:=HGR.o;omega));refine bodyPost_ret (ze_ (p:=10) (u:=11) (ty:=32) rfl _ _ gr 32 [.int .i64 0,.int .i64 0,.int .i64 0,.slice none 0 0] _ rfl (je_ HR6.o) Tryz.underlying32 (by kernel_rfl)) rfl ?_;exact hP
theorem zfr (h:Ho w k s x j y)(hU:RightU y.pg y.ms y.fs)(hk:yQ_ y.fs name=-1)(hfu:fuel<=1048576)
    (hNR:xo_ vR rR) (hsR:Src w AR vR) (hAR:∀ad,AR=some ad->ad.spot=none) (hnR:vR.length=nR) (hcR:nR<=cR)
    (hNA:xo_ vA (ns.map some)) (hsA:Src w AA vA) (hAA:∀ad,AA=some ad->ad.spot=none) (hnA:vA.length=nA) (hmA:nA<=1000000) :
    Calls Tryz.prog 9 #[.pointer (some ⟨j.h,0,none⟩),.int .i32 name,.int .i64 (fuel:Int),.slice AR nR cR,.slice AA nA cA] w (vj_ w 22) :=
 zbj (by decide) h (fun W hc p rp A2 c2=>zky (h.keep hc).fn hU hk hfu) hNR hsR hAR hnR hcR hNA hsA hAA hnA hmA
theorem zim {kk:Nat}{f:FnV}(h:Ho w k s x j y)(hU:RightU y.pg y.ms y.fs)(hk:yQ_ y.fs name=(kk:Int))(hf:y.fs[kk]?=some f)(hfa:f.args≠(ns.length:Int))(hfu:fuel<=1048576)
    (hNR:xo_ vR rR) (hsR:Src w AR vR) (hAR:∀ad,AR=some ad->ad.spot=none) (hnR:vR.length=nR) (hcR:nR<=cR)
    (hNA:xo_ vA (ns.map some)) (hsA:Src w AA vA) (hAA:∀ad,AA=some ad->ad.spot=none) (hnA:vA.length=nA) (hmA:nA<=1000000) :
    Calls Tryz.prog 9 #[.pointer (some ⟨j.h,0,none⟩),.int .i32 name,.int .i64 (fuel:Int),.slice AR nR cR,.slice AA nA cA] w (vj_ w 1) :=
 zbj (by decide) h (fun W hc p rp A2 c2=>znn (h.keep hc).fn hU hk hf hfa hfu) hNR hsR hAR hnR hcR hNA hsA hAA hnA hmA
end
end
section
open Go.RowKit
def SK.more (k:SK)(q:Nat):SK:=⟨k.p,k.bL,k.bS,k.bW,k.g,k.gN,q::k.ex⟩
theorem SK.more_in {k:SK}{q i:Nat}:i∈(k.more q).D↔i=q\/i∈k.D:=by
 simp only[SK.more,SK.D,List.mem_cons];constructor
 · rintro(h|h|h|h|h|h|h|h)<;>simp[h]
 · rintro(h|h|h|h|h|h|h|h)<;>simp[h]
theorem uI_.less {T T':List Nat}{w:World}{v:Value}{ps:List (List UInt8)}(h:uI_ T w v ps)(hT:∀i∈T',i∈T):uI_ T' w v ps:=by
 obtain⟨A,c,us,e,h1,h2,h3,h4,h5⟩:=h;refine⟨A,c,us,e,h1,h2,h3,fun ad e=>⟨(h4 ad e).1,fun hm=>(h4 ad e).2 (hT _ hm)⟩,fun i u l hu hl=>?_⟩;obtain⟨A',n',c',e',hB,hD⟩:=h5 i u l hu hl;exact⟨A',n',c',e',hB,fun ad e hm=>hD ad e (hT _ hm)⟩
section
variable {w w':World} {k:SK} {s:St} {x:SV} {j:HK} {y:HV} {q:Nat}
theorem Ho.more (h:Ho w k s x j y)(hc:Chg [] w w')(hq:w.heap.size<=q)(hq2:q<w'.heap.size):Ho w' (k.more q) s x j y:=by
 obtain⟨vP,hs⟩:=h.sto;obtain⟨X,Y,hm⟩:=h.mm;have hk:=h.keep hc;have hn:∀{i:Nat},i<w.heap.size->i∉k.D->i∉(k.more q).D:=fun hi hd hm=>by
  rcases SK.more_in.1 hm with h|h
  · omega
  · exact hd h
 have hfa:0<y.fs.length->∀ad,j.A=some ad->ad.block∉(k.more q).D:=fun h0 ad e=>by
  obtain⟨ad',e',hb,_⟩:=h.fn.src (by rw[y6_];omega);rw[e]at e';injection e' with e';subst e';exact hn hb (h.fA h0 ad e)
 exact { hk with sto:=⟨vP,Sto.more hs hc hq hq2⟩,hin:=List.mem_cons_of_mem _ h.hin,hne:=h.hne,mm:=hk.mm,far:=⟨hn hm.rec_.lt h.far.1,hn hm.cel.lt h.far.2.1,hn hm.dir.lt h.far.2.2⟩,fA:=hfa }
theorem Ho.past (h:Ho w (k.more q) s x j y)(hc:Chg [q] w w')(hj:j.h≠q)(hn:∀i∈[k.p,k.bL,k.bS,k.bW,k.g,k.gN],i≠q):Ho w' k s x j y:=by
 obtain⟨vP,hs⟩:=h.sto;obtain⟨X,Y,hm⟩:=h.mm;have hq:q∈(k.more q).D:=SK.more_in.2 (.inl rfl);have hf:∀{i:Nat},i∉(k.more q).D->i∉[q]:=fun hi he=>hi (by rw[List.mem_singleton.1 he];exact hq);have hp:=Sto.past hs hc (by simp[SK.more]) hn;have hl:∀{i:Nat},i∉(k.more q).D->i∉k.D:=fun hi he=>hi (SK.more_in.2 (.inr he));refine { sto:=⟨vP,{ dsk:=hp.dsk,rec_:=hp.rec_,pgs:=hp.pgs.less fun i hi=>SK.more_in.2 (.inr hi),nm:=hp.nm,ng:=hp.ng,rt:=hp.rt,ep:=hp.ep,pl:=hp.pl,nl:=hp.nl,p64:=hp.p64,us:=hp.us,sq:=hp.sq,exl:=fun i hi=>hp.exl i (List.mem_cons_of_mem _ hi) }⟩,hin:=?_,hne:=h.hne,rec_:=h.rec_.chg hc (by simpa using hj),fn:=⟨h.fn.len,h.fn.src.chg hc (fun h0 ad e=>hf (h.fA (by rw[y6_]at h0;omega) ad e)),h.fn.cap,h.fn.max,h.fn.spot,h.fn.args⟩,fA:=fun h0 ad e=>hl (h.fA h0 ad e),mm:=⟨X,Y,hm.away hc (hf h.far.1) (hf h.far.2.1) (hf h.far.2.2)⟩,far:=⟨hl h.far.1,hl h.far.2.1,hl h.far.2.2⟩,tS:=h.tS,fS:=h.fS };have hi:=h.hin;simp only[SK.more,List.mem_cons]at hi;rcases hi with h|h
 · exact absurd h hj
 · exact h
end
end
section
open Go.RowKit
section
variable {w:World}
theorem zgL:Calls Tryz.prog 41 #[.pointer none] w (fun e w'=>e=.returned (.tuple #[.pointer none,.int .i64 1])/\Chg [] w w'):=by
 have HFIN:=hQ_ (show ∀W,Chg [] w W->(fun (e:Ending) w'=>e=.returned (.tuple #[.pointer none,.int .i64 1])/\Chg [] w w') (.returned (.tuple #[.pointer none,.int .i64 1])) W from fun W h=>⟨rfl,h⟩);generalize (fun (e:Ending)(w':World)=>e=.returned (.tuple #[.pointer none,.int .i64 1])/\Chg [] w w')=PO at HFIN⊢;go_enter Tryz.func41,Tryz.ntmps41;go_wp2_with fail;exact HFIN.o _ (by repeat (first|exact Chg.refl _ _|refine Chg.alloc ?_ _))
theorem zlj (u0 u1 u2:Value):Calls Tryz.prog 16 #[.pointer none,.agg #[u0,u1,u2]] w (fun e w'=>e=.returned (.int .i64 1)/\Chg [] w w'):=by
 have HFIN:=hQ_ (show ∀W,Chg [] w W->(fun (e:Ending) w'=>e=.returned (.int .i64 1)/\Chg [] w w') (.returned (.int .i64 1)) W from fun W h=>⟨rfl,h⟩);generalize (fun (e:Ending)(w':World)=>e=.returned (.int .i64 1)/\Chg [] w w')=PO at HFIN⊢;have HOP:=hQ_ (fun (W:World)=>zgL (w:=W));go_enter Tryz.func16,Tryz.ntmps16;go_wp2_with (
  go_at_call 41;with_reducible refine(HOP.o _).mono ?_
  rintro e w2 ⟨rfl,hc⟩);exact HFIN.o _ (((Chg.refl [] w).alloc _).trans hc)
end
section
variable {w:World} {k:SK} {s:St} {x:SV} {j:HK} {y:HV} {AR AA:Option Addr} {nR cR nA cA:Nat} {vA:List Value} {name fuel:Int}
theorem kI_ (h:Ho w k s x j y):Calls Tryz.prog 18 #[.pointer (some ⟨j.h,0,none⟩)] w (fun e w'=>e=.returned (.int .i64 (y.calls:Int))/\w=w'):=by
 obtain⟨_,_,_,_,_,_,_,c7⟩:=h.cells;go_enter Tryz.func18,Tryz.ntmps18;go_wp2_with fail;go_ret;exact⟨rfl,rfl⟩
theorem zfp (h:Ho w k s x j y):Calls Tryz.prog 20 #[.pointer (some ⟨j.h,0,none⟩)] w (fun e w'=>e=.returned (.pointer (some ⟨k.g,0,none⟩))/\w=w'):=by
 obtain⟨c0,_⟩:=h.cells;go_enter Tryz.func20,Tryz.ntmps20;go_wp2_with fail;go_ret;exact⟨rfl,rfl⟩
theorem q6_ {p:Nat}{rs:List (Option Int)}{z:Nat}(hNA:xo_ vA rs)(hz:rs[z]?=some none)(hzz:∀i,i<z->∃q,rs[i]?=some (some q))(hsA:Src w AA vA)(hAA:∀ad,AA=some ad->ad.spot=none)(hnA:vA.length=nA)(hmA:nA<=1000000) :
    Calls Tryz.prog 9 #[.pointer (some ⟨p,0,none⟩),.int .i32 name,.int .i64 fuel,.slice AR nR cR,.slice AA nA cA] w (vj_ w 27):=by
 have HFIN:=hQ_ (show ∀W,Chg [] w W->vj_ w 27 (.returned (.tuple #[.agg #[.int .i64 0,.int .i64 0,.int .i64 0,.slice none 0 0],.int .i64 27])) W from fun W h=>⟨rfl,h⟩);generalize vj_ w 27=PO at HFIN⊢;have HAL:=hQ_ (fun (W:World)(hc:Chg [] w W)=>zqd (c:=cA) hNA (hsA.keep hc) hAA hnA hmA z hz hzz);unfold zqk at HAL;clear hNA hz hzz hsA hAA hnA hmA;go_enter Tryz.func9,Tryz.ntmps9;go_upto_region 1 with fail;have hal:=(Chg.refl [] w).alloc (.cells #[.int .i64 0,.int .i64 0,.int .i64 0,.slice none 0 0] 32);have HR1:=hQ_ (zb_.new w 32 [.int .i64 0,.int .i64 0,.int .i64 0,.slice none 0 0]);have HC1:=hQ_ hal;clear hal;obtain⟨gr,hgr⟩:∃gr,gr=w.heap.size:=⟨_,rfl⟩;have HGR:=hQ_ hgr;rw[<-hgr]at HR1⊢;clear hgr;generalize w.alloc (.cells #[.int .i64 0,.int .i64 0,.int .i64 0,.slice none 0 0] 32)=w1 at HR1 HC1⊢;go_upto_region 3 with(
  go_at_call 23;with_reducible refine(HAL.o w1 HC1.o).mono ?_
  rintro e w2 ⟨rfl,hc⟩;have HC2:=hQ_ (HC1.o.trans hc);have HR2:=hQ_ (HR1.o.keep hc);clear hc);have r0:=HR2.o.cell 0;have r1:=HR2.o.cell 1;have r2:=HR2.o.cell 2;have r3:=HR2.o.cell 3;have f0:=HR2.o.frozen 0;have f1:=HR2.o.frozen 1;have f2:=HR2.o.frozen 2;have f3:=HR2.o.frozen 3;go_wp2_with fail;exact bodyPost_ret (ze_ (p:=10) (u:=11) (ty:=32) rfl _ _ gr 32 [.int .i64 0,.int .i64 0,.int .i64 0,.slice none 0 0] _ rfl (je_ HR2.o) Tryz.underlying32 (by kernel_rfl)) rfl (HFIN.o _ (zei HC2.o (by have:=HGR.o;omega)))
end
end
end Go.Proofs.YtcbcfcdmdedefaaGreatDoor
