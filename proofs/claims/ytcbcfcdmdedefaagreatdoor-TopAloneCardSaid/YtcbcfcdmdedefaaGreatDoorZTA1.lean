import Derived.WalkSpells
import Derived.WalkLawsBesides
import Derived.Laws.CopyOwn
import Derived.Lib.SlBytesRow
import Derived.Test.YtcbcfcdmdedefaaGreatDoorChecked
import Derived.Lib.SlBytesConst
import Derived.Shelf.Utf8.AppendRune
import Derived.Shelf.Utf8.AppendRunePlain
import Derived.Shelf.Strconv.Itoa3
import Derived.Shelf.Strings.Search2
import Derived.Shelf.Strconv.AppendIntPublic10
set_option maxRecDepth 100000
set_option maxHeartbeats 16000000
namespace Go.Proofs.YtcbcfcdmdedefaaGreatDoor
section
theorem hQ_ {p:Prop}(h:p):Go.RowKit.Hid p:=h
theorem _root_.Go.RowKit.Hid.o {p:Prop}(h:Go.RowKit.Hid p):p:=h
open Go.RowKit
structure Chg (T:List Nat) (w w':World):Prop where
  os:w'.os=w.os
  tape:w'.tape=w.tape
  output:w'.output=w.output
  size:w.heap.size<=w'.heap.size
  block:∀k,k<w.heap.size->k∉T->w'.heap[k]?=w.heap[k]?
theorem Chg.refl (T:List Nat)(w:World):Chg T w w:=⟨rfl,rfl,rfl,Nat.le_refl _,fun _ _ _=>rfl⟩
theorem Chg.then_ {T T':List Nat}{a b c:World}(h:Chg T a b)(k:Chg T' b c)(hs:∀i,i∈T'->i<a.heap.size->i∈T):Chg T a c :=
 ⟨k.os.trans h.os,k.tape.trans h.tape,k.output.trans h.output,Nat.le_trans h.size k.size,fun i hi hn =>
  (k.block i (Nat.lt_of_lt_of_le hi h.size) (fun hm=>hn (hs i hm hi))).trans (h.block i hi hn)⟩
theorem Chg.trans {T:List Nat}{a b c:World}(h:Chg T a b)(k:Chg T b c):Chg T a c:=h.then_ k fun _ h _=>h
theorem Chg.new {T:List Nat}{a b c:World}(h:Chg T a b)(k:Chg [] b c):Chg T a c:=h.then_ k fun _ h _=>by cases h
theorem Chg.sub {T T':List Nat}{a b:World}(h:Chg T a b)(hs:∀i,i∈T->i∈T'):Chg T' a b:=⟨h.os,h.tape,h.output,h.size,fun i hi hn=>h.block i hi fun hm=>hn (hs i hm)⟩
theorem Chg.alloc {T:List Nat}{a w:World}(h:Chg T a w)(o:Obj):Chg T a (w.alloc o) :=
 h.new ⟨rfl,rfl,rfl,by simp,fun k hk _=>Below.heap_alloc w o k hk⟩
theorem Chg.drew {T:List Nat}{a w:World}(h:Chg T a w):Chg T a w.drew:=⟨h.os,h.tape,h.output,h.size,h.block⟩
theorem Chg.drewN {T:List Nat}{a w:World}(h:Chg T a w)(n:Nat):Chg T a (w.drewN n):=⟨h.os,h.tape,h.output,h.size,h.block⟩
theorem Chg.setCell {T:List Nat}{a w:World}(h:Chg T a w){p:Addr}(hp:p.block<a.heap.size->p.block∈T)(u:Value):Chg T a (w.setCell p u) :=
 h.then_ (T':=[p.block]) ⟨rfl,rfl,rfl,by simp[World.setCell],fun k _ hn=>Below.heap_setCell w p u k (by simpa using hn)⟩ fun i hi hlt=>by
  simp only[List.mem_cons,List.not_mem_nil,or_false]at hi;subst hi;exact hp hlt
theorem Chg.setRow {T:List Nat}{a w:World}(h:Chg T a w){g:Nat}(hp:g<a.heap.size->g∈T)(cs:Array Value):Chg T a (w.setRow g cs) :=
 h.then_ (T':=[g]) ⟨rfl,rfl,rfl,by simp,fun k _ hn=>setRow_other w g k cs (by simpa using hn)⟩ fun i hi hlt=>by
  simp only[List.mem_cons,List.not_mem_nil,or_false]at hi;subst hi;exact hp hlt
theorem Chg.of_below {a w:World}(h:Below a.heap.size a w):Chg [] a w:=⟨h.os,h.tape,h.output,h.size,fun k hk _=>h.block k hk⟩
theorem Chg.of_grown {a w:World}{row:Option Nat}{T:List Nat}(h:a.grownBy w row)(hr:∀g,row=some g->g<a.heap.size->g∈T):Chg T a w :=
 ⟨h.os,h.tape,h.output,h.size,fun k hk hn=>h.block k hk fun e=>hn (hr k e.symm hk)⟩
theorem Chg.below {T:List Nat}{a w:World}(h:Chg T a w){B:Nat}(hB:B<=a.heap.size)(hT:∀i,i∈T->B<=i):Below B a w :=
 ⟨h.os,h.tape,h.output,h.size,fun k hk=>h.block k (by omega) fun hm=>by have:=hT k hm;omega⟩
theorem Chg.below0 {a w:World}(h:Chg [] a w):Below a.heap.size a w:=h.below (Nat.le_refl _) (by simp)
def zb_ (w:World)(g t:Nat)(cs:List Value):Prop:=w.heap[g]?=some (.cells cs.toArray t (0,0))
section
variable {w w':World} {g t:Nat} {cs:List Value}
theorem zb_.lt (h:zb_ w g t cs):g<w.heap.size:=by
 rcases Nat.lt_or_ge g w.heap.size with hlt|hge
 · exact hlt
 · unfold zb_ at h;rw[Array.getElem?_eq_none hge]at h;cases h
theorem zb_.cell (h:zb_ w g t cs)(i:Nat):w.cell? ⟨g,i,none⟩=cs[i]?:=by
 have:=cell_of_row w g i cs.toArray t (0,0) h;simpa using this
theorem zb_.frozen (h:zb_ w g t cs)(i:Nat):w.frozen? ⟨g,i,none⟩=false:=frozen_of_row w g i cs.toArray t h
theorem zb_.chg {T:List Nat}(h:zb_ w g t cs)(hc:Chg T w w')(hg:g∉T):zb_ w' g t cs:=(hc.block g h.lt hg).trans h
theorem zb_.keep (h:zb_ w g t cs)(hc:Chg [] w w'):zb_ w' g t cs:=h.chg hc (by simp)
theorem zb_.drew (h:zb_ w g t cs):zb_ w.drew g t cs:=h
theorem zb_.drewN (h:zb_ w g t cs)(n:Nat):zb_ (w.drewN n) g t cs:=h
theorem zb_.set_ (h:zb_ w g t cs)(i:Nat)(u:Value):zb_ (w.setCell ⟨g,i,none⟩ u) g t (cs.set i u):=by
 have:=heap_setCell_same w g i cs.toArray t u h;unfold zb_;rw[this];simp
theorem zb_.far (h:zb_ w g t cs){p:Addr}(hp:g≠p.block)(u:Value):zb_ (w.setCell p u) g t cs:=(Below.heap_setCell w p u g hp).trans h
theorem zb_.new (w:World)(t:Nat)(cs:List Value):zb_ (w.alloc (.cells cs.toArray t)) w.heap.size t cs:=heap_alloc_new w _
theorem zb_.ne_ {g' t':Nat}{cs':List Value}(h:zb_ w g t cs)(h':zb_ w g' t' cs')(hne:t≠t'):g≠g':=by
 rintro rfl;unfold zb_ at h h';rw[h]at h';injection h' with h';injection h' with _ ht;exact hne ht
end
theorem zl_ (g o j:Nat):(⟨g,o,none⟩:Addr).add j=⟨g,o+j,none⟩:=by unfold Addr.add;split<;>simp_all
def Src (w:World)(A:Option Addr)(xs:List Value):Prop:=0<xs.length->∃ad,A=some ad/\ad.block<w.heap.size/\∀j v,xs[j]?=some v->w.cell? (ad.add j)=some v
theorem Src.nil (w:World)(A:Option Addr):Src w A []:=fun h=>absurd h (by simp)
theorem Src.drew {w:World}{A:Option Addr}{xs:List Value}(h:Src w A xs):Src w.drew A xs:=h
theorem Src.drewN {w:World}{A:Option Addr}{xs:List Value}(h:Src w A xs)(n:Nat):Src (w.drewN n) A xs:=h
theorem Src.of_whole {w:World}{g t:Nat}{cs:List Value}(h:zb_ w g t cs)(o n:Nat):Src w (some ⟨g,o,none⟩) ((cs.drop o).take n):=fun _ =>
 ⟨_,rfl,h.lt,fun j v hj=>by
  rw[zl_,h.cell];rw[List.getElem?_take]at hj;split at hj
  · rwa[List.getElem?_drop]at hj
  · cases hj⟩
theorem Src.of_all {w:World}{g t:Nat}{cs:List Value}(h:zb_ w g t cs):Src w (some ⟨g,0,none⟩) cs:=by
 have:=Src.of_whole h 0 cs.length;simpa using this
theorem Src.keep {w w':World}{A:Option Addr}{xs:List Value}(h:Src w A xs)(hc:Chg [] w w'):Src w' A xs:=fun hp=>by
 obtain⟨ad,e,hb,hx⟩:=h hp;refine⟨ad,e,Nat.lt_of_lt_of_le hb hc.size,fun j v hj=>?_⟩;have:=hx j v hj;rw[<-this];refine World.cell?_of_block (w:=w) (hc.block _ ?_ (by simp));have e2:(ad.add j).block=ad.block:=by unfold Addr.add;split<;>rfl
 rw[e2];exact hb
def B8 (c:UInt8):Value:=.int .u8 (c.toNat:Int)
def bts (l:List UInt8):List Value:=l.map B8
def bls (l:List Bool):List Value:=l.map Value.bool
def nms (l:List Int):List Value:=l.map (Value.int .i64)
theorem yc_ (l:List UInt8):∀v∈bts l,v.oneCell'=true:=by
 intro v hv;simp only[bts,List.mem_map]at hv;obtain⟨c,_,rfl⟩:=hv;rfl
theorem zg_ (l:List UInt8):(bts l).length=l.length:=by simp[bts]
theorem gY_ (l:List UInt8)(i:Nat)(h:i<l.length):(bts l)[i]?=some (B8 l[i]):=by simp[bts,h]
theorem zoq (l:List UInt8)(i:Nat)(c:UInt8):(bts l).set i (B8 c)=bts (l.set i c):=by simp[bts]
theorem qj_ (l:List Bool):(bls l).length=l.length:=by simp[bls]
theorem vW_ (l:List Bool)(i:Nat)(h:i<l.length):(bls l)[i]?=some (.bool l[i]):=by simp[bls,h]
theorem gZ_ (l:List Bool)(i:Nat)(c:Bool):(bls l).set i (.bool c)=bls (l.set i c):=by simp[bls]
def zm_ (n:Nat):List UInt8:=List.replicate n 0
def zK_ (n:Nat):List Bool:=List.replicate n false
theorem zE_ (n:Nat):(zm_ n).length=n:=by simp[zm_]
theorem yv_ (n:Nat):(zK_ n).length=n:=by simp[zK_]
theorem yT_ (n:Nat):bts (zm_ n)=List.replicate n (.int .u8 0):=by simp[bts,zm_,B8]
theorem zfT (n:Nat):bls (zK_ n)=List.replicate n (.bool false):=by simp[bls,zK_]
theorem gB_ (z:Value)(n:Nat):madeCells #[z] n=(List.replicate n z).toArray:=by
 apply Array.ext
 · simp[madeCells]
 · intro i h1 h2;simp[madeCells,Nat.mod_one]
theorem xX_ {α:Type}(L cs:List α)(h:cs.length=L.length):splice L 0 cs=cs:=by
 simp[splice,h]
theorem x0_ {P:Program}(t e:TypeId)(i:TypeInfo)(z:Value)(hz1:z.cells=#[z])(ht:P.underlying t=some (.slice e))(hi:P.info? e=some i)(hz:i.zero=some z)(hs:i.size=1)
    (n:Nat) (hb:i.bytes*n<=281474976710656) (h63:n<=9223372036854775807) (w:World) :
    (Instr.makeSlice t (.int .i64 (n:Int)) (.int .i64 (n:Int))).run P w=.ok (.slice (some ⟨w.heap.size,0,none⟩) n n) (w.alloc (.cells (List.replicate n z).toArray e)):=by
      have hb':(i.bytes:Int)*(n:Int)<=281474976710656:=(by
       have h:((i.bytes*n:Nat):Int)<=281474976710656:=(by omega);rwa[Int.natCast_mul]at h);have h:=run_make (P:=P) w t e i z ht hi hz .i64 .i64 (n:Int) (n:Int) (by omega) (Int.le_refl _) hb' (by omega);rw[h,hs,hz1,gB_];simp
theorem kX_ {P:Program}{w:World}{g off t:Nat}{cur cs:List Value}(dT sT ty elem:TypeId)(hu:P.underlying dT=some (.slice elem))(hsz:(P.info? elem).map (·.size)=some 1)
    (dp sp:Option Addr) (dLen dCap sLen sCap:Nat) (hg:zb_ w g t cur) (hn:cs.length=Nat.min sLen dLen) (hd:0<cs.length->dp=some ⟨g,off,none⟩) (hs:Src w sp cs)
    (hfit:off+cs.length<=cur.length) (h1:∀v∈cs,v.oneCell'=true) :
    ∃w',(Builtin.copy_ #[dT,sT] ty #[.slice dp dLen dCap,.slice sp sLen sCap]).run P w=.ok (goInt cs.length) w'/\zb_ w' g t (splice cur off cs)/\Chg [g] w w':=by
 rcases Nat.eq_zero_or_pos cs.length with h0|h0
 · obtain rfl:cs=[]:=List.eq_nil_of_length_eq_zero h0;refine⟨w,run_copy_none (P:=P) w dT sT ty elem dp sp dLen dCap sLen sCap hu hsz (by simpa using hn.symm),?_,Chg.refl _ _⟩;simpa[splice] using hg
 · obtain⟨ad,rfl,_,hx⟩:=hs h0;obtain rfl:=hd h0;refine⟨_,run_copy_row (P:=P) w dT sT ty elem g off dLen dCap ad sLen sCap cur.toArray t cs hu hsz hg hn hx (by simpa using hfit) h1,?_,(Chg.refl [g] w).setRow (by simp) _⟩;have:=setRow_heap w g _ (splice cur off cs).toArray t _ hg;simpa[zb_,splice,List.append_assoc] using this
theorem z7_ {P:Program}{w:World}{ops:Array Oper}{rest:List Oper}{o:Oper}{a:Act}{Q:Exit->Act->World->Prop}(hgd:o.guard=none)(d s:Operand)(dT sT:TypeId)
    (ho:o.op=.call { callee:=.builtin .copy,args:=#[d,s],argTypes:=#[dT,sT] }) (elem:TypeId) (hu:P.underlying dT=some (.slice elem)) (hsz:(P.info? elem).map (·.size)=some 1)
    (dp sp:Option Addr) (dLen dCap sLen sCap:Nat) (hde:a.eval d=.slice dp dLen dCap) (hse:a.eval s=.slice sp sLen sCap)
    (g off t:Nat) (cur cs:List Value) (hg:zb_ w g t cur) (hn:cs.length=Nat.min sLen dLen) (hd:0<cs.length->dp=some ⟨g,off,none⟩) (hs:Src w sp cs)
    (hfit:off+cs.length<=cur.length) (h1:∀v∈cs,v.oneCell'=true)
    (h:∀w',zb_ w' g t (splice cur off cs)->Chg [g] w w'->wpList P ops Q rest (a.put o.dst (goInt cs.length)) w'):wpList P ops Q (o::rest) a w:=by
      refine wpList_plain hgd fun K hK=>?_;obtain⟨w',hrun,h2,h3⟩:=kX_ (P:=P) dT sT o.type elem hu hsz dp sp dLen dCap sLen sCap hg hn hd hs hfit h1;unfold Oper.wp;simp[execOp,ho,resolve,invoke,builtin,hde,hse,hrun,Result.andThen];exact hK _ _ (h w' h2 h3)
theorem vm_ {P:Program}{w:World}{ops:Array Oper}{o:Oper}{a:Act}{K:Act->World->Prop}{Q:Exit->Act->World->Prop}{E:Prop}(hgd:o.guard=none)(d s:Operand)(dT sT:TypeId)
    (ho:o.op=.call { callee:=.builtin .copy,args:=#[d,s],argTypes:=#[dT,sT] }) (elem:TypeId) (hu:P.underlying dT=some (.slice elem)) (hsz:(P.info? elem).map (·.size)=some 1)
    (dp sp:Option Addr) (dLen dCap sLen sCap:Nat) (hde:a.eval d=.slice dp dLen dCap) (hse:a.eval s=.slice sp sLen sCap)
    (g off t:Nat) (cur cs:List Value) (hg:zb_ w g t cur) (hn:cs.length=Nat.min sLen dLen) (hd:0<cs.length->dp=some ⟨g,off,none⟩) (hs:Src w sp cs)
    (hfit:off+cs.length<=cur.length) (h1:∀v∈cs,v.oneCell'=true)
    (h:∀w',zb_ w' g t (splice cur off cs)->Chg [g] w w'->K (a.put o.dst (goInt cs.length)) w') :
    if Region.wanted o (yielded ops a.tmps)=true then Oper.wp P o a w K Q else E:=by
 have hw:Region.wanted o (yielded ops a.tmps)=true:=by simp[Region.wanted,hgd]
 rw[if_pos hw];obtain⟨w',hrun,h2,h3⟩:=kX_ (P:=P) dT sT o.type elem hu hsz dp sp dLen dCap sLen sCap hg hn hd hs hfit h1;unfold Oper.wp;simp[execOp,ho,resolve,invoke,builtin,hde,hse,hrun,Result.andThen];exact h w' h2 h3
theorem up_ {P:Program}{w:World}{ops:Array Oper}{o:Oper}{a:Act}{K:Act->World->Prop}{Q:Exit->Act->World->Prop}{E:Prop}(hgd:o.guard=none)(d s:Operand)(dT sT:TypeId)
    (ho:o.op=.call { callee:=.builtin .copy,args:=#[d,s],argTypes:=#[dT,sT] }) (elem:TypeId) (hu:P.underlying dT=some (.slice elem)) (hsz:(P.info? elem).map (·.size)=some 1)
    (dp sp:Option Addr) (dLen dCap sLen sCap:Nat) (hde:a.eval d=.slice dp dLen dCap) (hse:a.eval s=.slice sp sLen sCap) (hn:Nat.min sLen dLen=0)
    (h:K (a.put o.dst (goInt 0)) w) :
    if Region.wanted o (yielded ops a.tmps)=true then Oper.wp P o a w K Q else E:=by
 have hw:Region.wanted o (yielded ops a.tmps)=true:=by simp[Region.wanted,hgd]
 rw[if_pos hw];have hrun:=run_copy_none (P:=P) w dT sT o.type elem dp sp dLen dCap sLen sCap hu hsz hn;unfold Oper.wp;simp[execOp,ho,resolve,invoke,builtin,hde,hse,hrun,Result.andThen];exact h
theorem vh_ (l m:List UInt8)(o:Nat):splice (bts l) o (bts m)=bts (splice l o m):=by simp[splice,bts]
theorem zjx (l:List UInt8)(o n:Nat):((bts l).drop o).take n=bts ((l.drop o).take n):=by simp[bts]
def zi_ (l:List UInt8):ByteArray:=⟨l.toArray⟩
theorem zno {P:Program} (src e dst:TypeId) (hs:P.underlying src=some (.slice e)) (he:P.underlying e=some (.int .u8)) (hd:P.underlying dst=some .string)
    (A:Option Addr) (l:List UInt8) (cap:Nat) (w:World) (h:Src w A (bts l)) (hp:∀ad,A=some ad->ad.spot=none) :
    (convert src dst (.slice A l.length cap)).run P w=.ok (.string (zi_ l)) w:=by
      rcases Nat.eq_zero_or_pos l.length with h0|h0
      · obtain rfl:l=[]:=List.eq_nil_of_length_eq_zero h0;rcases A with _|ad
        · exact run_convert_bytes_nil (P:=P) w src e hs he 0 cap dst hd
        · obtain⟨b,o,s⟩:=ad;obtain rfl:s=none:=hp _ rfl;exact Lib.run_convert_whole (P:=P) w src e dst hs he hd b o (zi_ []) (fun i hi=>absurd hi (by simp[zi_,ByteArray.size])) cap
      · obtain⟨ad,rfl,_,hx⟩:=h (by simpa[bts] using h0);obtain⟨b,o,s⟩:=ad;obtain rfl:s=none:=hp _ rfl;have:=Lib.run_convert_whole (P:=P) w src e dst hs he hd b o (zi_ l) (fun i hi=>by
         have hi':i<l.length:=(by simpa[zi_,ByteArray.size] using hi);have h1:=hx i _ (gY_ l i hi');rw[zl_]at h1;rw[h1];rfl) cap;simpa[zi_,ByteArray.size] using this
end
section
open Go.RowKit
def zjN (k:IntKind)(w:World)(a:Option Addr)(len cap:Nat)(zs:List Int):Prop :=
 (a=none/\len=0/\cap=0/\zs=[]) \/
 ∃x,a=some x/\len<=cap/\cap<=maxLen/\zs.length=cap/\(∀i,i<zs.length->w.cell? (x.add i)=some (.int k (zs.getD i 0)))/\∀n∈zs,(Lit.int k n).wf=true
theorem zgV {k:IntKind}{w:World}{a:Option Addr}{len cap:Nat}{zs:List Int}(h:zjN k w a len cap zs):(zs.take len).length=len/\Src w a ((zs.take len).map (Value.int k))/\∀n∈zs.take len,(Lit.int k n).wf=true:=by
 rcases h with⟨rfl,rfl,rfl,rfl⟩|⟨x,rfl,hlc,_,hz,hcell,hwf⟩
 · exact⟨rfl,fun hp=>absurd hp (by simp),by simp⟩
 · refine⟨by rw[List.length_take];omega,fun hp=>?_,fun n hn=>hwf n (List.mem_of_mem_take hn)⟩;have h0:0<zs.length:=(by
    simp only[List.length_map,List.length_take]at hp;omega);have hb:(x.add 0).block=x.block:=(by unfold Addr.add;split<;>rfl);refine⟨x,rfl,by rw[<-hb];exact block_lt_of_cell (hcell 0 h0),fun j v hj=>?_⟩;simp only[List.getElem?_map,List.getElem?_take]at hj;split at hj
   · have hjl:j<zs.length:=(by omega);rw[List.getElem?_eq_getElem hjl]at hj;simp only[Option.map_some,Option.some.injEq]at hj;rw[hcell j hjl,<-hj];simp[List.getD,hjl]
   · simp at hj
theorem row_len {k:IntKind}{w:World}{a:Option Addr}{len cap:Nat}{zs:List Int}(h:zjN k w a len cap zs):len<=maxLen:=by
 rcases h with⟨_,rfl,_,_⟩|⟨_,_,hlc,hm,_⟩
 · exact Nat.zero_le _
 · omega
theorem zpZ {k:IntKind}{w:World}{a:Option Addr}{len cap:Nat}{zs:List Int}(h:zjN k w a len cap zs)(h0:0<len):∀ad,a=some ad->ad.spot=none/\ad.block<w.heap.size:=by
 rcases h with⟨_,rfl,_,_⟩|⟨x,rfl,hlc,_,hz,hcell,_⟩
 · exact absurd h0 (by omega)
 · intro ad e;injection e with e;subst e;have hc:=hcell 0 (by omega);have hb:(x.add 0).block=x.block:=(by unfold Addr.add;split<;>rfl);refine⟨?_,by rw[<-hb];exact block_lt_of_cell hc⟩;have h1:x.add 0=x:=(by simp[Addr.add]);rw[h1]at hc;cases hs:x.spot with
   | none=>rfl
   | some v =>
     exfalso;unfold World.cell? at hc;rw[hs]at hc;split at hc
     · simp at hc
     · cases hc
theorem zpa {w:World}{a:Option Addr}{len cap:Nat}{zs:List Int}(h:zjN .u8 w a len cap zs):∃l:List UInt8,l.length=len/\Src w a (bts l):=by
 obtain⟨h1,h2,h3⟩:=zgV h;refine⟨(zs.take len).map fun z=>UInt8.ofNat z.toNat,by rw[List.length_map];exact h1,?_⟩;have e:bts ((zs.take len).map fun z=>UInt8.ofNat z.toNat)=(zs.take len).map (Value.int .u8):=by
  unfold bts;rw[List.map_map];refine List.map_congr_left fun z hz=>?_;have hw:=h3 z hz;have hb:0<=z/\z<=255:=by simpa[Lit.wf,IntKind.min,IntKind.max,IntKind.signed,IntKind.bits] using hw
  show Value.int .u8 ((UInt8.ofNat z.toNat).toNat:Int)=Value.int .u8 z;rw[UInt8.toNat_ofNat'];congr 1;omega
 rw[e];exact h2
theorem zqa {w:World}{a:Option Addr}{len cap:Nat}{zs:List Int}(h:zjN .i64 w a len cap zs) :
    ∃l:List Int,l.length=len/\Src w a (nms l)/\∀n∈l,-9223372036854775808<=n/\n<=9223372036854775807:=by
 obtain⟨h1,h2,h3⟩:=zgV h;refine⟨zs.take len,h1,h2,fun n hn=>?_⟩;simpa[Lit.wf,IntKind.min,IntKind.max,IntKind.signed,IntKind.bits] using h3 n hn
end
section
open Go.RowKit
section
variable {w w':World} {B n:Nat} {e:TypeId} {v:Value} {xs:List Value}
theorem zk_ (h:w.ownsRow B e 1 v n xs)(hc:Chg [] w w'):w'.ownsRow B e 1 v n xs:=by
 refine⟨h.1,h.2.imp id ?_⟩;rintro⟨g,cap,cur,rfl,hb,hg,r⟩;refine⟨g,cap,cur,rfl,hb,?_,r⟩;rw[hc.block g ?_ (by simp)]
 · exact hg
 · rcases Nat.lt_or_ge g w.heap.size with hlt|hge
   · exact hlt
   · rw[Array.getElem?_eq_none hge]at hg;cases hg
theorem zZ_ {B':Nat}(h:w.ownsRow B e 1 v n xs)(hB:B'<=B):w.ownsRow B' e 1 v n xs:=by
 refine⟨h.1,h.2.imp id ?_⟩;rintro⟨g,cap,cur,rfl,hb,r⟩;exact⟨g,cap,cur,rfl,Nat.le_trans hB hb,r⟩
theorem zr_ (h:w.ownsRow B e 1 v n xs):∃A c,v=.slice A n c/\xs.length=n/\n<=c/\Src w A xs/\(∀ad,A=some ad->ad.spot=none/\B<=ad.block/\ad.off=0/\ad.block<w.heap.size):=by
 have hl:xs.length=n:=by simpa using h.1
 rcases h.2 with⟨rfl,rfl⟩|⟨g,cap,cur,rfl,hb,hg,hn,hc,hs,ht⟩
 · exact⟨none,0,rfl,hl,Nat.le_refl _,fun hp=>absurd hp (by omega),fun ad h=>by cases h⟩
 · have hgl:g<w.heap.size:=by
    rcases Nat.lt_or_ge g w.heap.size with hlt|hge
    · exact hlt
    · rw[Array.getElem?_eq_none hge]at hg;cases hg
   refine⟨some ⟨g,0,none⟩,cap,rfl,hl,hn,fun _=>⟨_,rfl,hgl,fun j u hj=>?_⟩,fun ad h=>by injection h with h;subst h;exact⟨rfl,hb,rfl,hgl⟩⟩;rw[zl_,Nat.zero_add,cell_of_row w g j cur e (0,0) hg];have hjl:j<n:=(by rw[<-hl];exact(List.getElem?_eq_some_iff.1 hj).1);rw[<-ht,List.getElem?_take_of_lt (by omega)]at hj;simpa using hj
theorem z0_ {g c:Nat}{cs:List Value}(h:zb_ w g e cs)(hB:B<=g)(hc:cs.length=c)(hn:n<=c)(hm:c<=maxLen):w.ownsRow B e 1 (.slice (some ⟨g,0,none⟩) n c) n (cs.take n):=by
 refine⟨by rw[List.length_take];omega,.inr ⟨g,c,cs.toArray,rfl,hB,h,hn,hm,by simpa using hc,by simp⟩⟩
theorem vN_ (w:World)(B:Nat)(e:TypeId):w.ownsRow B e 1 (.slice none 0 0) 0 []:=⟨rfl,.inl ⟨rfl,rfl⟩⟩
theorem Chg.own {T:List Nat}{a:World}(h:Chg T a w)(ho:w.ownsRow B e 1 v n xs)(hB:a.heap.size<=B)(hg:w.grownBy w' v.ownBlock):Chg T a w':=by
 refine h.then_ (T':=match v.ownBlock with|some g=>[g]|none=>[]) ?_ ?_
 · refine Chg.of_grown hg fun g hr _=>?_;rw[hr];simp
 · intro i hi hlt;exfalso;rcases ho.2 with⟨rfl,_⟩|⟨g,cap,cur,rfl,hb,_⟩
   · simp[Value.ownBlock]at hi
   · simp[Value.ownBlock]at hi;omega
end
section
variable {P:Program} (w:World)
theorem xO_ (base:Nat) (t ty e:TypeId) (i:TypeInfo) (z:Value) (bytes:Nat) (ht:P.underlying t=some (.slice e)) (hi:P.info? e=some i) (hz:i.zero=some z)
    (hsize:i.size=1) (hby:i.bytes=bytes) (hzs:z.cells.size=1)
    (v:Value) (n:Nat) (xs:List Value) (hown:w.ownsRow base e 1 v n xs)
    (A:Option Addr) (m c:Nat) (news:List Value) (hl:news.length=m) (hs:Src w A news) (h1:∀u∈news,u.oneCell'=true)
    (h63:n+m<=maxLen) (hbytes:(n+m)*bytes<=140737488355328) (hbase:base<=w.heap.size) :
    ∃ v' w',(Builtin.append_ #[t,t] ty #[v,.slice A m c]).run P w=.ok v' w'/\w'.ownsRow base e 1 v' (n+m) (xs++news)/\w.grownBy w' v.ownBlock /\
      (v'.ownBlock=v.ownBlock\/v'.ownBlock=some w.heap.size):=by
        have hnil:m=0->news=[]:=fun h=>List.eq_nil_of_length_eq_zero (by omega);rcases A with _|ad
        · have hm:m=0:=by
           rcases Nat.eq_zero_or_pos m with h0|h0
           · exact h0
           · obtain⟨ad,h,_⟩:=hs (by omega);cases h
          subst hm;obtain rfl:=hnil rfl;refine⟨v,w,?_,by simpa using hown,World.grownBy.refl w _,.inl rfl⟩;rcases hown.2 with⟨rfl,rfl⟩|⟨g,cap,cur,rfl,_,_,hnc,_⟩
          · simp[Builtin.append_,run_underlying ht,sizeOf,typeInfo,hi,Builtin.lenOf,Builtin.firstCells]
          · simp[Builtin.append_,run_underlying ht,sizeOf,typeInfo,hi,Builtin.lenOf,Builtin.firstCells,hnc,storeCells]
        · have hcells:∀j u,news[j]?=some u->w.cell? (ad.add j)=some u:=(by
           intro j u hu;obtain⟨ad',h,_,hc⟩:=hs (by have:=(List.getElem?_eq_some_iff.1 hu).1;omega);injection h with h;subst h;exact hc j u hu);obtain⟨v',w',hrun,h2,h3,_,h5⟩:=run_append_own_at (P:=P) w base t ty e i z 1 bytes ht hi hz hsize hby hzs (by omega) v n xs hown ad m c news (by omega) hcells h1 h63 hbytes hbase;exact⟨v',w',hrun,h2,h3,h5⟩
theorem zC_ {w:World}{ops:Array Oper}{rest:List Oper}{o:Oper}{a:Act}{Q:Exit->Act->World->Prop}(hgd:o.guard=none)(s x:Operand)(t:TypeId)
    (ho:o.op=.call { callee:=.builtin .append,args:=#[s,x],argTypes:=#[t,t] })
    (base:Nat) (e:TypeId) (i:TypeInfo) (z:Value) (bytes:Nat) (ht:P.underlying t=some (.slice e)) (hi:P.info? e=some i) (hz:i.zero=some z)
    (hsize:i.size=1) (hby:i.bytes=bytes) (hzs:z.cells.size=1)
    (v:Value) (n:Nat) (xs:List Value) (hse:a.eval s=v) (hown:w.ownsRow base e 1 v n xs)
    (A:Option Addr) (m c:Nat) (news:List Value) (hxe:a.eval x=.slice A m c) (hl:news.length=m) (hs:Src w A news) (h1:∀u∈news,u.oneCell'=true)
    (h63:n+m<=maxLen) (hbytes:(n+m)*bytes<=140737488355328) (hbase:base<=w.heap.size)
    (h:∀v' w',w'.ownsRow base e 1 v' (n+m) (xs++news)->w.grownBy w' v.ownBlock->(v'.ownBlock=v.ownBlock\/v'.ownBlock=some w.heap.size)->wpList P ops Q rest (a.put o.dst v') w'):wpList P ops Q (o::rest) a w:=by
      refine wpList_plain hgd fun K hK=>?_;obtain⟨v',w',hrun,h2,h3,h4⟩:=xO_ (P:=P) w base t o.type e i z bytes ht hi hz hsize hby hzs v n xs hown A m c news hl hs h1 h63 hbytes hbase;unfold Oper.wp execOp;simp only[ho,resolve,invoke,builtin,Sem.run_bind,Sem.run_pure,Result.andThen_ok,List.map_toArray,List.map_cons,List.map_nil,hse,hxe,hrun];exact hK _ _ (h v' w' h2 h3 h4)
end
theorem x1_ {P:Program}(t e:TypeId)(i:TypeInfo)(z:Value)(hz1:z.cells=#[z])(ht:P.underlying t=some (.slice e))(hi:P.info? e=some i)(hz:i.zero=some z)(hs:i.size=1)
    (n:Nat) (hb:i.bytes*n<=281474976710656) (h63:n<=9223372036854775807) (w:World) :
    (Instr.makeSlice t (.int .i64 0) (.int .i64 (n:Int))).run P w=.ok (.slice (some ⟨w.heap.size,0,none⟩) 0 n) (w.alloc (.cells (List.replicate n z).toArray e)):=by
      have hb':(i.bytes:Int)*(n:Int)<=281474976710656:=(by
       have h:((i.bytes*n:Nat):Int)<=281474976710656:=(by omega);rwa[Int.natCast_mul]at h);have h:=run_make (P:=P) w t e i z ht hi hz .i64 .i64 0 (n:Int) (by omega) (by omega) hb' (by omega);rw[h,hs,hz1,gB_];simp
end
section
open Go.RowKit
structure Bs (w:World) (A:Option Addr) (n c:Nat) (l:List UInt8):Prop where
  len:l.length=n
  src:Src w A (bts l)
  cap:n<=c
  max:c<=9223372036854775807
  spot:0<n->∀ad,A=some ad->ad.spot=none
section
variable {w w':World} {A:Option Addr} {n c:Nat} {l:List UInt8}
theorem Bs.keep (h:Bs w A n c l)(hc:Chg [] w w'):Bs w' A n c l:=⟨h.len,h.src.keep hc,h.cap,h.max,h.spot⟩
theorem Bs.drew (h:Bs w A n c l):Bs w.drew A n c l:=⟨h.len,h.src,h.cap,h.max,h.spot⟩
theorem Bs.le (h:Bs w A n c l):n<=9223372036854775807:=Nat.le_trans h.cap h.max
theorem Bs.nil (w:World):Bs w none 0 0 []:=⟨rfl,Src.nil _ _,Nat.le_refl _,by omega,fun h=>absurd h (by omega)⟩
theorem Bs.of_whole {g t cap:Nat}{cs:List Value}(h:zb_ w g t cs)(hn:l.length=n)(hc:cs.take n=bts l)(hcap:n<=cap)(hm:cap<=9223372036854775807):Bs w (some ⟨g,0,none⟩) n cap l:=by
 refine⟨hn,?_,hcap,hm,fun _ ad e=>by injection e with e;subst e;rfl⟩;have:=Src.of_whole h 0 n;rwa[List.drop_zero,hc]at this
theorem Bs.of_all {g t:Nat}(h:zb_ w g t (bts l))(hm:l.length<=9223372036854775807):Bs w (some ⟨g,0,none⟩) l.length l.length l :=
 Bs.of_whole h rfl (by rw[List.take_of_length_le (by rw[zg_];exact Nat.le_refl _)]) (Nat.le_refl _) hm
theorem Bs.of_own {B:Nat}{e:TypeId}{v:Value}(h:w.ownsRow B e 1 v n (bts l)):∃A c,v=.slice A n c/\Bs w A n c l/\(∀ad,A=some ad->ad.spot=none/\B<=ad.block/\ad.off=0/\ad.block<w.heap.size):=by
 obtain⟨A,c,rfl,hl,hn,hs,hA⟩:=zr_ h;have hm:c<=9223372036854775807:=by
  rcases h.2 with⟨h,_⟩|⟨g,cap,cur,h,_,_,_,hc,_⟩
  · injection h with _ _ h;omega
  · injection h with _ _ h;subst h;simpa[maxLen] using hc
 exact⟨A,c,rfl,⟨by rw[zg_]at hl;exact hl,hs,hn,hm,fun _ ad e=>(hA ad e).1⟩,hA⟩
theorem Bs.cut (h:Bs w A n c l){lo hi:Nat}(h1:lo<=hi)(h2:hi<=n):Bs w (if c=lo then A else A.map (·.add lo)) (hi-lo) (c-lo) ((l.drop lo).take (hi-lo)):=by
 have hl:=h.len;refine⟨by rw[List.length_take,List.length_drop];omega,fun hp=>?_,by have:=h.cap;omega,by have:=h.max;omega,fun h0 ad e=>?_⟩
 · have hp':0<hi-lo:=(by rw[zg_,List.length_take,List.length_drop]at hp;omega);rw[if_neg (by have:=h.cap;omega)];obtain⟨ad,rfl,hb,hx⟩:=h.src (by rw[zg_];omega);obtain⟨b,o,s⟩:=ad;obtain rfl:s=none:=h.spot (by omega) _ rfl;refine⟨_,rfl,by simp only[zl_];exact hb,fun j v hj=>?_⟩;simp only[zl_];have h3:=hx (lo+j) v (by
    rw[<-hj];unfold bts;rw[List.getElem?_map,List.getElem?_map,List.getElem?_take];have:j<hi-lo:=(by have:=(List.getElem?_eq_some_iff.1 hj).1;rw[zg_,List.length_take]at this;omega);rw[if_pos this,List.getElem?_drop]);rw[zl_]at h3;rw[<-h3,Nat.add_assoc]
 · rw[if_neg (by have:=h.cap;omega)]at e;cases hA:A with
   | none=>rw[hA]at e;cases e
   | some ad0 =>
     obtain⟨b,o,s⟩:=ad0;obtain rfl:s=none:=h.spot (by omega) _ hA;rw[hA]at e;simp only[Option.map_some,Option.some.injEq]at e;subst e;rw[zl_]
theorem zdb {P:Program}(src e dst:TypeId)(hs:P.underlying src=some (.slice e))(he:P.underlying e=some (.int .u8))(hd:P.underlying dst=some .string)(A:Option Addr)(cap:Nat)(w:World) :
    (convert src dst (.slice A 0 cap)).run P w=.ok (.string (zi_ [])) w:=by
      rcases A with _|ad
      · exact run_convert_bytes_nil (P:=P) w src e hs he 0 cap dst hd
      · rw[run_convert_bytes_string w src dst e _ 0 cap hs he hd];simp[Conv.bytesToString,zi_,go_sem];rfl
theorem Bs.str {P:Program}(h:Bs w A n c l)(src e dst:TypeId)(hs:P.underlying src=some (.slice e))(he:P.underlying e=some (.int .u8))(hd:P.underlying dst=some .string) :
    (convert src dst (.slice A n c)).run P w=.ok (.string (zi_ l)) w:=by
      rcases Nat.eq_zero_or_pos n with h0|h0
      · subst h0;obtain rfl:l=[]:=List.eq_nil_of_length_eq_zero h.len;exact zdb src e dst hs he hd A c w
      · have hl:=h.len;subst hl;exact zno src e dst hs he hd A l c w h.src (h.spot h0)
end
end
section
open Go.RowKit
theorem zpm (W:World){s:Nat}(h:W.heap.size=s)(C:Array Value)(n c:Nat):(convert 39 39 (.slice (some ⟨s,0,none⟩) n c)).run Tryz.prog (W.alloc (.cells C 5))=.ok (.slice (some ⟨s,0,none⟩) n c) (W.alloc (.cells C 5 (C.size,C.size+1))):=by
 subst h;exact Lib.run_convert_bytes_const (P:=Tryz.prog) W 39 5 C n c Tryz.underlying39 Tryz.underlying5
theorem zeb (w:World)(t:TypeId)(l:List UInt8)(fz:Nat×Nat)(hm:l.length<=9223372036854775807):Bs (w.alloc (.cells (bts l).toArray t fz)) (some ⟨w.heap.size,0,none⟩) l.length l.length l:=by
 refine⟨rfl,fun _=>⟨_,rfl,by simp,fun j v hj=>?_⟩,Nat.le_refl _,hm,fun _ ad e=>by injection e with e;subst e;rfl⟩;rw[zl_,Nat.zero_add,cell_of_row _ _ _ _ _ _ (heap_alloc_new w _)];simpa using hj
end
section
open Go.RowKit
def zfZ (w:World)(vs:List Value)(ls:List (List UInt8)):Prop :=
 vs.length=ls.length/\∀(i:Nat)(v:Value)(X:List UInt8),vs[i]?=some v->ls[i]?=some X->∃A n c,v=.slice A n c/\Bs w A n c X
theorem zfZ.keep {w w':World}{vs:List Value}{ls:List (List UInt8)}(h:zfZ w vs ls)(hc:Chg [] w w'):zfZ w' vs ls :=
 ⟨h.1,fun i v X hv hX=>by obtain⟨A,n,c,e,hB⟩:=h.2 i v X hv hX;exact⟨A,n,c,e,hB.keep hc⟩⟩
end
end Go.Proofs.YtcbcfcdmdedefaaGreatDoor
namespace Go.Proofs
open Go.Shelf
def Tryz.lays242_ren:Go.Shelf.Ren:=⟨fun|242=>31|278=>64|n=>n,fun|37=>39|21=>21|51=>56|4=>4|5=>5|46=>185|n=>n,fun|n=>n⟩
theorem Tryz.lays242:Go.Proofs.Lays.n242 Tryz.prog Tryz.lays242_ren:={
  mixed:=by kernel_rfl
  f242:=Tryz.func31.trans (congrArg some (by kernel_rfl))
  f278:=Tryz.func64.trans (congrArg some (by kernel_rfl))
  t4:=Tryz.underlying4
  a4:=Tryz.isAgg4
  z4:=Tryz.sizeOf4
  v4:=Tryz.zeroValue4
  t5:=Tryz.underlying5
  a5:=Tryz.isAgg5
  z5:=Tryz.sizeOf5
  v5:=Tryz.zeroValue5
  t21:=Tryz.underlying21
  a21:=Tryz.isAgg21
  z21:=Tryz.sizeOf21
  v21:=Tryz.zeroValue21
  t37:=Tryz.underlying39
  a37:=Tryz.isAgg39
  z37:=Tryz.sizeOf39
  v37:=Tryz.zeroValue39
  t46:=Tryz.underlying185
  a46:=Tryz.isAgg185
  z46:=Tryz.sizeOf185
  v46:=Tryz.zeroValue185
  t51:=Tryz.underlying56
  a51:=Tryz.isAgg56
  z51:=Tryz.sizeOf56
  v51:=Tryz.zeroValue56 }
open Go.RowKit in
theorem Tryz.utf8_AppendRune_plain (B:Nat)(v:Value)(n:Nat)(xs:List Value)(r:Int)(hr0:-2147483648<=r)(hr1:r<=2147483647)(w:World)(hown:w.ownsRow B 5 1 v n xs)(hlen:n+4<=140737488355328)(hBw:B<=w.heap.size) :
    Calls Tryz.prog 31 #[v,.int .i32 r] w fun e w'=>∃v',e=.returned v'/\w'.ownsRow B 5 1 v' (n+(Lib.runeCells r).length) (xs++Lib.runeCells r)/\∃o,(w.alloc o).grownBy w' v.ownBlock:=Any.utf8_AppendRune_plain Tryz.lays242 (by kernel_rfl) B v n xs r hr0 hr1 w hown hlen hBw
def Tryz.lays171_ren:Go.Shelf.Ren:=⟨fun|171=>29|243=>62|246=>103|283=>142|284=>143|285=>144|286=>145|129=>167|317=>166|318=>168|319=>169|320=>170|337=>183|338=>184|n=>n,fun|3=>3|9=>9|2=>2|4=>4|171=>225|0=>0|53=>226|37=>39|5=>5|173=>229|212=>255|51=>56|20=>20|213=>256|46=>185|232=>272|233=>273|n=>n,fun|17=>1|18=>2|19=>3|n=>n⟩
theorem Tryz.lays171:Go.Proofs.Lays.n171 Tryz.prog Tryz.lays171_ren:={
  mixed:=by kernel_rfl
  f129:=Tryz.func167.trans (congrArg some (by kernel_rfl))
  f171:=Tryz.func29.trans (congrArg some (by kernel_rfl))
  f243:=Tryz.func62.trans (congrArg some (by kernel_rfl))
  f246:=Tryz.func103.trans (congrArg some (by kernel_rfl))
  f283:=Tryz.func142.trans (congrArg some (by kernel_rfl))
  f284:=Tryz.func143.trans (congrArg some (by kernel_rfl))
  f285:=Tryz.func144.trans (congrArg some (by kernel_rfl))
  f286:=Tryz.func145.trans (congrArg some (by kernel_rfl))
  f317:=Tryz.func166.trans (congrArg some (by kernel_rfl))
  f318:=Tryz.func168.trans (congrArg some (by kernel_rfl))
  f319:=Tryz.func169.trans (congrArg some (by kernel_rfl))
  f320:=Tryz.func170.trans (congrArg some (by kernel_rfl))
  f337:=Tryz.func183.trans (congrArg some (by kernel_rfl))
  f338:=Tryz.func184.trans (congrArg some (by kernel_rfl))
  t0:=Tryz.underlying0
  a0:=Tryz.isAgg0
  z0:=Tryz.sizeOf0
  v0:=Tryz.zeroValue0
  t2:=Tryz.underlying2
  a2:=Tryz.isAgg2
  z2:=Tryz.sizeOf2
  v2:=Tryz.zeroValue2
  t3:=Tryz.underlying3
  a3:=Tryz.isAgg3
  z3:=Tryz.sizeOf3
  v3:=Tryz.zeroValue3
  t4:=Tryz.underlying4
  a4:=Tryz.isAgg4
  z4:=Tryz.sizeOf4
  v4:=Tryz.zeroValue4
  t5:=Tryz.underlying5
  a5:=Tryz.isAgg5
  z5:=Tryz.sizeOf5
  v5:=Tryz.zeroValue5
  t9:=Tryz.underlying9
  a9:=Tryz.isAgg9
  z9:=Tryz.sizeOf9
  v9:=Tryz.zeroValue9
  t20:=Tryz.underlying20
  a20:=Tryz.isAgg20
  z20:=Tryz.sizeOf20
  v20:=Tryz.zeroValue20
  t37:=Tryz.underlying39
  a37:=Tryz.isAgg39
  z37:=Tryz.sizeOf39
  v37:=Tryz.zeroValue39
  t46:=Tryz.underlying185
  a46:=Tryz.isAgg185
  z46:=Tryz.sizeOf185
  v46:=Tryz.zeroValue185
  t51:=Tryz.underlying56
  a51:=Tryz.isAgg56
  z51:=Tryz.sizeOf56
  v51:=Tryz.zeroValue56
  t53:=Tryz.underlying226
  a53:=Tryz.isAgg226
  z53:=Tryz.sizeOf226
  v53:=Tryz.zeroValue226
  t171:=Tryz.underlying225
  a171:=Tryz.isAgg225
  z171:=Tryz.sizeOf225
  v171:=Tryz.zeroValue225
  t173:=Tryz.underlying229
  a173:=Tryz.isAgg229
  z173:=Tryz.sizeOf229
  v173:=Tryz.zeroValue229
  t212:=Tryz.underlying255
  a212:=Tryz.isAgg255
  z212:=Tryz.sizeOf255
  v212:=Tryz.zeroValue255
  t213:=Tryz.underlying256
  a213:=Tryz.isAgg256
  z213:=Tryz.sizeOf256
  t232:=Tryz.underlying272
  a232:=Tryz.isAgg272
  z232:=Tryz.sizeOf272
  v232:=Tryz.zeroValue272
  t233:=Tryz.underlying273
  a233:=Tryz.isAgg273
  z233:=Tryz.sizeOf273
  v233:=Tryz.zeroValue273
  g17:=by kernel_rfl
  g18:=by kernel_rfl
  g19:=by kernel_rfl }
open Go.RowKit Go.Sort Go.Lib in
theorem Tryz.strconv_Itoa_small (i:Nat)(hi:i<100)(w:World) :
    Calls Tryz.prog 29 #[.int .i64 i] w fun e w'=>e=.returned (.string ⟨(Lib.decDigits i).toArray⟩)/\w'=w:=Any.strconv_Itoa_small Tryz.lays171 i hi w
def Tryz.lays219_ren:Go.Shelf.Ren:=⟨fun|219=>187|217=>188|225=>189|224=>190|267=>191|266=>192|314=>193|n=>n,fun|9=>9|3=>3|4=>4|5=>5|46=>185|146=>276|51=>56|n=>n,fun|1=>0|n=>n⟩
theorem Tryz.lays219:Go.Proofs.Lays.n219 Tryz.prog Tryz.lays219_ren:={
  mixed:=by kernel_rfl
  f217:=Tryz.func188.trans (congrArg some (by kernel_rfl))
  f219:=Tryz.func187.trans (congrArg some (by kernel_rfl))
  f224:=Tryz.func190.trans (congrArg some (by kernel_rfl))
  f225:=Tryz.func189.trans (congrArg some (by kernel_rfl))
  f266:=Tryz.func192.trans (congrArg some (by kernel_rfl))
  f267:=Tryz.func191.trans (congrArg some (by kernel_rfl))
  f314:=Tryz.func193.trans (congrArg some (by kernel_rfl))
  t3:=Tryz.underlying3
  a3:=Tryz.isAgg3
  z3:=Tryz.sizeOf3
  v3:=Tryz.zeroValue3
  t4:=Tryz.underlying4
  a4:=Tryz.isAgg4
  z4:=Tryz.sizeOf4
  v4:=Tryz.zeroValue4
  t5:=Tryz.underlying5
  a5:=Tryz.isAgg5
  z5:=Tryz.sizeOf5
  v5:=Tryz.zeroValue5
  t9:=Tryz.underlying9
  a9:=Tryz.isAgg9
  z9:=Tryz.sizeOf9
  v9:=Tryz.zeroValue9
  t46:=Tryz.underlying185
  a46:=Tryz.isAgg185
  z46:=Tryz.sizeOf185
  v46:=Tryz.zeroValue185
  t51:=Tryz.underlying56
  a51:=Tryz.isAgg56
  z51:=Tryz.sizeOf56
  v51:=Tryz.zeroValue56
  t146:=Tryz.underlying276
  a146:=Tryz.isAgg276
  z146:=Tryz.sizeOf276
  v146:=Tryz.zeroValue276
  g1:=by kernel_rfl }
open Go.RowKit Go.Lib in
theorem Tryz.stringslite_Index_one (s:ByteArray)(c:UInt8)(w:World) :
    Calls Tryz.prog 187 #[.string s,.string ⟨#[c]⟩] w fun e w'=>e=.returned (.int .i64 (Lib.indexByte s.data.toList c))/\w'=w:=Any.stringslite_Index_one Tryz.lays219 s c w
open Go.RowKit Go.Lib in
def Tryz.laysM176_ren:Go.Shelf.Ren:=⟨fun|176=>65|249=>106|288=>146|283=>142|284=>143|285=>144|286=>145|129=>167|317=>166|318=>168|319=>169|320=>170|337=>183|338=>184|n=>n,fun|37=>39|2=>2|3=>3|53=>226|4=>4|9=>9|171=>225|0=>0|173=>229|212=>255|51=>56|5=>5|20=>20|213=>256|46=>185|232=>272|233=>273|n=>n,fun|17=>1|18=>2|19=>3|n=>n⟩
theorem Tryz.laysM176:Go.Proofs.LaysM.n176 Tryz.prog Tryz.laysM176_ren:={
  mixed:=by kernel_rfl
  f129:=Tryz.func167.trans (congrArg some (by kernel_rfl))
  f176:=Tryz.func65.trans (congrArg some (by kernel_rfl))
  f249:=Tryz.func106.trans (congrArg some (by kernel_rfl))
  f283:=Tryz.func142.trans (congrArg some (by kernel_rfl))
  f284:=Tryz.func143.trans (congrArg some (by kernel_rfl))
  f285:=Tryz.func144.trans (congrArg some (by kernel_rfl))
  f286:=Tryz.func145.trans (congrArg some (by kernel_rfl))
  f288:=Tryz.func146.trans (congrArg some (by kernel_rfl))
  f317:=Tryz.func166.trans (congrArg some (by kernel_rfl))
  f318:=Tryz.func168.trans (congrArg some (by kernel_rfl))
  f319:=Tryz.func169.trans (congrArg some (by kernel_rfl))
  f320:=Tryz.func170.trans (congrArg some (by kernel_rfl))
  f337:=Tryz.func183.trans (congrArg some (by kernel_rfl))
  f338:=Tryz.func184.trans (congrArg some (by kernel_rfl))
  t0:=Tryz.underlying0
  a0:=Tryz.isAgg0
  z0:=Tryz.sizeOf0
  v0:=Tryz.zeroValue0
  t2:=Tryz.underlying2
  a2:=Tryz.isAgg2
  z2:=Tryz.sizeOf2
  v2:=Tryz.zeroValue2
  t3:=Tryz.underlying3
  a3:=Tryz.isAgg3
  z3:=Tryz.sizeOf3
  v3:=Tryz.zeroValue3
  t4:=Tryz.underlying4
  a4:=Tryz.isAgg4
  z4:=Tryz.sizeOf4
  v4:=Tryz.zeroValue4
  t5:=Tryz.underlying5
  a5:=Tryz.isAgg5
  z5:=Tryz.sizeOf5
  v5:=Tryz.zeroValue5
  t9:=Tryz.underlying9
  a9:=Tryz.isAgg9
  z9:=Tryz.sizeOf9
  v9:=Tryz.zeroValue9
  t20:=Tryz.underlying20
  a20:=Tryz.isAgg20
  z20:=Tryz.sizeOf20
  v20:=Tryz.zeroValue20
  t37:=Tryz.underlying39
  a37:=Tryz.isAgg39
  z37:=Tryz.sizeOf39
  v37:=Tryz.zeroValue39
  t46:=Tryz.underlying185
  a46:=Tryz.isAgg185
  z46:=Tryz.sizeOf185
  v46:=Tryz.zeroValue185
  t51:=Tryz.underlying56
  a51:=Tryz.isAgg56
  z51:=Tryz.sizeOf56
  v51:=Tryz.zeroValue56
  t53:=Tryz.underlying226
  a53:=Tryz.isAgg226
  z53:=Tryz.sizeOf226
  v53:=Tryz.zeroValue226
  t171:=Tryz.underlying225
  a171:=Tryz.isAgg225
  z171:=Tryz.sizeOf225
  v171:=Tryz.zeroValue225
  t173:=Tryz.underlying229
  a173:=Tryz.isAgg229
  z173:=Tryz.sizeOf229
  v173:=Tryz.zeroValue229
  t212:=Tryz.underlying255
  a212:=Tryz.isAgg255
  z212:=Tryz.sizeOf255
  v212:=Tryz.zeroValue255
  t213:=Tryz.underlying256
  a213:=Tryz.isAgg256
  z213:=Tryz.sizeOf256
  t232:=Tryz.underlying272
  a232:=Tryz.isAgg272
  z232:=Tryz.sizeOf272
  v232:=Tryz.zeroValue272
  t233:=Tryz.underlying273
  a233:=Tryz.isAgg273
  z233:=Tryz.sizeOf273
  v233:=Tryz.zeroValue273
  g17:=by kernel_rfl
  g18:=by kernel_rfl
  g19:=by kernel_rfl
  i0:=by kernel_rfl
  i2:=by kernel_rfl
  i3:=by kernel_rfl
  i4:=by kernel_rfl
  i5:=by kernel_rfl
  i9:=by kernel_rfl
  i20:=by kernel_rfl
  i37:=by kernel_rfl
  i46:=by kernel_rfl
  i51:=by kernel_rfl
  i53:=by kernel_rfl
  i171:=by kernel_rfl
  i173:=by kernel_rfl
  i212:=by kernel_rfl
  i232:=by kernel_rfl
  i233:=by kernel_rfl
  m17:=by kernel_rfl
  m18:=by kernel_rfl
  m19:=by kernel_rfl }
open Go.RowKit Go.Sort Go.Lib in
theorem Tryz.strconv_AppendInt_10 (B n : Nat) (i : Int) (h0 : -9223372036854775808 ≤ i) (h1 : i ≤ 9223372036854775807) (sv : Value) (xs : List Value) (w : World) (hown : w.ownsRow B 5 1 sv n xs) (hBw : B ≤ w.heap.size) (hlim : n + 21 ≤ 140737488355328) (htab : Lib.TabBelow Tryz.prog B w "internal/strconv.uint64pow10" .u64 Lib.pow10Tab) :
    Calls Tryz.prog 65 #[sv,.int .i64 i,.int .i64 10] w fun e w'=>∃v',e=.returned v'/\w'.ownsRow B 5 1 v' (n+(Lib.itoa i).length) (xs++Lib.byteCells (Lib.itoa i))/\Below B w w'/\Lib.OthersKept 5 none w w':=Any.strconv_AppendInt_10 Tryz.laysM176 B n i h0 h1 sv xs w hown hBw hlim htab
end Go.Proofs
namespace Go.Proofs.YtcbcfcdmdedefaaGreatDoor
open Go.RowKit
theorem zeV (s:ByteArray)(pos:Nat)(h:pos<s.size):1<=(Utf8.decode s pos).2:=by
 by_cases ha:(s[pos]'h).toNat<128
 · rw[decode_ascii s pos h ha];exact Nat.le_refl _
 · exact(decode_high s pos h (by omega)).2
def zmL (s:ByteArray):Nat->Nat->Nat
  | 0,_=>0
  | b+1,pos=>if pos<s.size then zmL s b (pos+(Utf8.decode s pos).2)+1 else 0
def zda (s:ByteArray):Nat:=zmL s s.size 0
theorem zlN (s:ByteArray)(b pos:Nat)(h:¬pos<s.size):zmL s b pos=0:=by
 cases b with
 | zero=>rfl
 | succ b=>simp[zmL,h]
theorem zji (s:ByteArray)(b pos:Nat)(h:pos<s.size)(hb:s.size<=pos+b):∃c,b=c+1/\zmL s b pos=zmL s c (pos+(Utf8.decode s pos).2)+1:=by
 obtain⟨c,rfl⟩:∃c,b=c+1:=⟨b-1,by omega⟩;exact⟨c,rfl,by simp[zmL,h]⟩
theorem zlQ (w:World)(s:ByteArray)(pos:Nat):Chg [] w (w.iter s pos) :=
 (Chg.refl [] w).alloc _
section
variable {w:World}
theorem qO_ (b:Bool):Calls Tryz.prog 129 #[.bool b] w fun e w'=>e=.returned (.int .i64 (if b then 1 else 0))/\w=w':=by
 cases b <;>
 · go_enter Tryz.func129,Tryz.ntmps129;go_wp2_with fail;go_ret;exact⟨rfl,rfl⟩
def zoJ (n:Int)(w:World)(e:Ending)(w':World):Prop:=e=.returned (.int .i64 n)/\Chg [] w w'
set_option maxRecDepth 1000000 in
theorem zfe (s:ByteArray)(hs:s.size<=9223372036854775807):Calls Tryz.prog 130 #[.string s] w (zoJ (zda s) w):=by
 go_enter Tryz.func130,Tryz.ntmps130
 go_wp2
 go_loopw [3] (fun n wr=>∃(pos b acc:Nat),wr=w.iter s pos/\n=.int .i64 (acc:Int)/\acc<=pos/\acc+zmL s b pos=zda s/\s.size<=pos+b) (fun _ wr=>s.size-wr.iterPos w.heap.size);case atStart=>exact⟨0,s.size,0,rfl,rfl,Nat.le_refl _,by unfold zda;omega,by omega⟩
 case round =>
  obtain⟨pos,b,acc,rfl,rfl,hap,hcnt,hb⟩:=hrel;by_cases hlt:pos<s.size
  · obtain⟨c,rfl,hn⟩:=zji s b pos hlt hb;have hw:=zeV s pos hlt;have HN:=hQ_ hn;have HC:=hQ_ hcnt;clear hn hcnt;have hnx:=run_next_any (P:=Tryz.prog) w s pos
    go_wp2
    go_roundw;(case rel=>exact⟨_,c,acc+1,rfl,by go_num,by omega,by have:=HN.o;have:=HC.o;omega,by omega⟩);case measure=>simp;omega
  · have HC:=hQ_ hcnt;clear hcnt;have hne:=run_next_end (P:=Tryz.prog) w s pos
    go_wp2
    go_ret;have h1:=HC.o;rw[zlN s b pos hlt]at h1;exact⟨by rw[<-h1];rfl,zlQ w s pos⟩
end
theorem xv_ {P:Program}{a t xT:TypeId}{d:TypeDesc}{v z:Value}(hu:P.underlying a=some d)(hn:∀m,d≠.interface m)(hz:(P.info? a).map (·.zero)=some (some z))(w:World) :
    (Instr.typeAssert (.iface t v) xT a true).run P w=.ok (.tuple (if t=a then #[v,.bool true] else #[z,.bool false])) w:=by
      obtain⟨i,hi,hz'⟩:∃i,P.info? a=some i/\i.zero=some z:=(by
       cases h:P.info? a with
       | none=>rw[h]at hz;simp at hz
       | some i=>rw[h]at hz;exact⟨i,rfl,by simpa using hz⟩);by_cases ht:t=a
      · subst ht;cases d<;>simp_all [Instr.typeAssert,run_underlying hu]
      · cases d<;>simp_all [Instr.typeAssert,run_underlying hu,typeInfo,zeroValue]
theorem yi_ {P:Program}{a xT:TypeId}{d:TypeDesc}{z:Value}(hu:P.underlying a=some d)(hn:∀m,d≠.interface m)(hz:(P.info? a).map (·.zero)=some (some z))(w:World) :
    (Instr.typeAssert .nilIface xT a true).run P w=.ok (.tuple #[z,.bool false]) w:=by
      obtain⟨i,hi,hz'⟩:∃i,P.info? a=some i/\i.zero=some z:=(by
       cases h:P.info? a with
       | none=>rw[h]at hz;simp at hz
       | some i=>rw[h]at hz;exact⟨i,rfl,by simpa using hz⟩);cases d<;>simp_all [Instr.typeAssert,run_underlying hu,typeInfo,zeroValue]
theorem as0 (t:TypeId)(v:Value)(w:World):(Instr.typeAssert (.iface t v) 20 2 true).run Tryz.prog w=.ok (.tuple (if t=2 then #[v,.bool true] else #[.int .i64 0,.bool false])) w:=xv_ Tryz.underlying2 (by intro m h;cases h) (by kernel_rfl) w
theorem an0 (w:World):(Instr.typeAssert .nilIface 20 2 true).run Tryz.prog w=.ok (.tuple #[.int .i64 0,.bool false]) w:=yi_ Tryz.underlying2 (by intro m h;cases h) (by kernel_rfl) w
theorem as1 (t:TypeId)(v:Value)(w:World):(Instr.typeAssert (.iface t v) 20 3 true).run Tryz.prog w=.ok (.tuple (if t=3 then #[v,.bool true] else #[.int .i64 0,.bool false])) w:=xv_ Tryz.underlying3 (by intro m h;cases h) (by kernel_rfl) w
theorem an1 (w:World):(Instr.typeAssert .nilIface 20 3 true).run Tryz.prog w=.ok (.tuple #[.int .i64 0,.bool false]) w:=yi_ Tryz.underlying3 (by intro m h;cases h) (by kernel_rfl) w
theorem as2 (t:TypeId)(v:Value)(w:World):(Instr.typeAssert (.iface t v) 20 4 true).run Tryz.prog w=.ok (.tuple (if t=4 then #[v,.bool true] else #[.bool false,.bool false])) w:=xv_ Tryz.underlying4 (by intro m h;cases h) (by kernel_rfl) w
theorem an2 (w:World):(Instr.typeAssert .nilIface 20 4 true).run Tryz.prog w=.ok (.tuple #[.bool false,.bool false]) w:=yi_ Tryz.underlying4 (by intro m h;cases h) (by kernel_rfl) w
theorem as3 (t:TypeId)(v:Value)(w:World):(Instr.typeAssert (.iface t v) 20 21 true).run Tryz.prog w=.ok (.tuple (if t=21 then #[v,.bool true] else #[.int .i32 0,.bool false])) w:=xv_ Tryz.underlying21 (by intro m h;cases h) (by kernel_rfl) w
theorem an3 (w:World):(Instr.typeAssert .nilIface 20 21 true).run Tryz.prog w=.ok (.tuple #[.int .i32 0,.bool false]) w:=yi_ Tryz.underlying21 (by intro m h;cases h) (by kernel_rfl) w
theorem as4 (t:TypeId)(v:Value)(w:World):(Instr.typeAssert (.iface t v) 20 9 true).run Tryz.prog w=.ok (.tuple (if t=9 then #[v,.bool true] else #[.string ⟨#[]⟩,.bool false])) w:=xv_ Tryz.underlying9 (by intro m h;cases h) (by kernel_rfl) w
theorem an4 (w:World):(Instr.typeAssert .nilIface 20 9 true).run Tryz.prog w=.ok (.tuple #[.string ⟨#[]⟩,.bool false]) w:=yi_ Tryz.underlying9 (by intro m h;cases h) (by kernel_rfl) w
theorem as5 (t:TypeId)(v:Value)(w:World):(Instr.typeAssert (.iface t v) 20 59 true).run Tryz.prog w=.ok (.tuple (if t=59 then #[v,.bool true] else #[.slice none 0 0,.bool false])) w:=xv_ Tryz.underlying59 (by intro m h;cases h) (by kernel_rfl) w
theorem an5 (w:World):(Instr.typeAssert .nilIface 20 59 true).run Tryz.prog w=.ok (.tuple #[.slice none 0 0,.bool false]) w:=yi_ Tryz.underlying59 (by intro m h;cases h) (by kernel_rfl) w
inductive Num:Value->Option Int->Prop
  | i64 (n:Int):Num (.iface 2 (.int .i64 n)) (some n)
  | int (n:Int) (h0:-9223372036854775808<=n) (h1:n<=9223372036854775807):Num (.iface 3 (.int .i64 n)) (some n)
  | bool (b:Bool):Num (.iface 4 (.bool b)) (some (if b then 1 else 0))
  | rune (r:Int) (h0:-2147483648<=r) (h1:r<=2147483647):Num (.iface 21 (.int .i32 r)) (some r)
  | str (s:ByteArray) (h:s.size<=9223372036854775807):Num (.iface 9 (.string s)) (some (zda s:Nat))
  | list (A:Option Addr) (n c:Nat) (h:n<=9223372036854775807):Num (.iface 59 (.slice A n c)) (some n)
  | nil:Num .nilIface none
  | other (t:TypeId) (u:Value) (h1:t≠2) (h2:t≠3) (h3:t≠4) (h4:t≠21) (h5:t≠9) (h6:t≠59):Num (.iface t u) none
def znI:Option Int->Value
  | some n=>.iface 2 (.int .i64 n)
  | none=>.nilIface
def zfY (r:Option Int)(w:World)(e:Ending)(w':World):Prop:=e=.returned (znI r)/\Chg [] w w'
section
variable {w:World} {v:Value} {r:Option Int}
theorem qW_ (h:Num v r):Calls Tryz.prog 89 #[v] w (zfY r w):=by
 cases h with
 | i64 n =>
   have q0:=as0 2 (.int .i64 n);have q1:=as1 2 (.int .i64 n);have q2:=as2 2 (.int .i64 n);have q3:=as3 2 (.int .i64 n);have q4:=as4 2 (.int .i64 n);have q5:=as5 2 (.int .i64 n);simp only[reduceIte,Nat.reduceEqDiff]at q0 q1 q2 q3 q4 q5;go_enter Tryz.func89,Tryz.ntmps89;go_wp2_with fail;go_ret;exact⟨rfl,Chg.refl _ _⟩
 | int n h0 h1 =>
   have q0:=as0 3 (.int .i64 n);have q1:=as1 3 (.int .i64 n);have q2:=as2 3 (.int .i64 n);have q3:=as3 3 (.int .i64 n);have q4:=as4 3 (.int .i64 n);have q5:=as5 3 (.int .i64 n);simp only[reduceIte,Nat.reduceEqDiff]at q0 q1 q2 q3 q4 q5;go_enter Tryz.func89,Tryz.ntmps89;go_wp2_with fail;go_ret;exact⟨rfl,Chg.refl _ _⟩
 | bool b =>
   cases b with
   | true =>
     have q0:=as0 4 (.bool true);have q1:=as1 4 (.bool true);have q2:=as2 4 (.bool true);have q3:=as3 4 (.bool true);have q4:=as4 4 (.bool true);have q5:=as5 4 (.bool true);simp only[reduceIte,Nat.reduceEqDiff]at q0 q1 q2 q3 q4 q5;go_enter Tryz.func89,Tryz.ntmps89;go_wp2_with (go_at_call 129;refine(qO_ true).mono ?_;rintro e w' ⟨rfl,rfl⟩);go_ret;exact⟨rfl,Chg.refl _ _⟩
   | false =>
     have q0:=as0 4 (.bool false);have q1:=as1 4 (.bool false);have q2:=as2 4 (.bool false);have q3:=as3 4 (.bool false);have q4:=as4 4 (.bool false);have q5:=as5 4 (.bool false);simp only[reduceIte,Nat.reduceEqDiff]at q0 q1 q2 q3 q4 q5;go_enter Tryz.func89,Tryz.ntmps89;go_wp2_with (go_at_call 129;refine(qO_ false).mono ?_;rintro e w' ⟨rfl,rfl⟩);go_ret;exact⟨rfl,Chg.refl _ _⟩
 | rune r h0 h1 =>
   have q0:=as0 21 (.int .i32 r);have q1:=as1 21 (.int .i32 r);have q2:=as2 21 (.int .i32 r);have q3:=as3 21 (.int .i32 r);have q4:=as4 21 (.int .i32 r);have q5:=as5 21 (.int .i32 r);simp only[reduceIte,Nat.reduceEqDiff]at q0 q1 q2 q3 q4 q5;go_enter Tryz.func89,Tryz.ntmps89;go_wp2_with fail;go_ret;exact⟨rfl,Chg.refl _ _⟩
 | str s hs =>
   have q0:=as0 9 (.string s);have q1:=as1 9 (.string s);have q2:=as2 9 (.string s);have q3:=as3 9 (.string s);have q4:=as4 9 (.string s);have q5:=as5 9 (.string s);simp only[reduceIte,Nat.reduceEqDiff]at q0 q1 q2 q3 q4 q5;go_enter Tryz.func89,Tryz.ntmps89;go_wp2_with (go_at_call 130;refine(zfe s hs).mono ?_;rintro e w1 ⟨rfl,hc⟩);go_ret;exact⟨rfl,hc⟩
 | list A n c hn =>
   have q0:=as0 59 (.slice A n c);have q1:=as1 59 (.slice A n c);have q2:=as2 59 (.slice A n c);have q3:=as3 59 (.slice A n c);have q4:=as4 59 (.slice A n c);have q5:=as5 59 (.slice A n c);simp only[reduceIte,Nat.reduceEqDiff]at q0 q1 q2 q3 q4 q5;go_enter Tryz.func89,Tryz.ntmps89;go_wp2_with fail;go_ret;exact⟨rfl,Chg.refl _ _⟩
 | nil =>
   have q0:=an0;have q1:=an1;have q2:=an2;have q3:=an3;have q4:=an4;have q5:=an5;go_enter Tryz.func89,Tryz.ntmps89;go_wp2_with fail;go_ret;exact⟨rfl,Chg.refl _ _⟩
 | other t u h1 h2 h3 h4 h5 h6 =>
   have q0:=as0 t u;have q1:=as1 t u;have q2:=as2 t u;have q3:=as3 t u;have q4:=as4 t u;have q5:=as5 t u;simp only[if_neg h1]at q0;simp only[if_neg h2]at q1;simp only[if_neg h3]at q2;simp only[if_neg h4]at q3;simp only[if_neg h5]at q4;simp only[if_neg h6]at q5;go_enter Tryz.func89,Tryz.ntmps89;go_wp2_with fail;go_ret;exact⟨rfl,Chg.refl _ _⟩
def zpX (r:Option Int)(w:World)(e:Ending)(w':World):Prop:=e=.returned (.tuple #[.int .i64 (r.getD 0),.bool r.isSome])/\Chg [] w w'
theorem zgl (h:Num v r):Calls Tryz.prog 48 #[v] w (zpX r w):=by
 cases r with
 | some n =>
   have q0:=as0 2 (.int .i64 n);simp only[reduceIte]at q0;go_enter Tryz.func48,Tryz.ntmps48;go_wp2_with (go_at_call 89;refine(qW_ h).mono ?_;rintro e w1 ⟨rfl,hc⟩;simp only[znI]);go_ret2;exact⟨rfl,hc⟩
 | none =>
   have q0:=an0;go_enter Tryz.func48,Tryz.ntmps48;go_wp2_with (go_at_call 89;refine(qW_ h).mono ?_;rintro e w1 ⟨rfl,hc⟩;simp only[znI]);go_ret2;exact⟨rfl,hc⟩
end
end Go.Proofs.YtcbcfcdmdedefaaGreatDoor
