import Derived.WalkSpells
import Derived.WalkLawsBesides
import Derived.Laws.CopyOwn
import Derived.Lib.SlBytesRow
import Derived.Test.YtcbcfcdmdedefaaGreatDoorChecked
import Derived.BigQuiet
import Derived.Lib.SlBytesConst
import Derived.Shelf.Utf8.AppendRune
import Derived.Shelf.Utf8.AppendRunePlain
import Derived.Shelf.Strconv.Itoa3
import Derived.Shelf.Strings.Search2
import Derived.Shelf.Strconv.AppendIntPublic10
set_option maxRecDepth 100000
set_option maxHeartbeats 16000000
namespace Go.Proofs.YtcbcfcdmdedefaaGreatDoor
section
theorem hQ_ {p:Prop}(h:p):Go.RowKit.Hid p:=h
theorem _root_.Go.RowKit.Hid.o {p:Prop}(h:Go.RowKit.Hid p):p:=h
open Go.RowKit
structure Chg (T:List Nat) (w w':World):Prop where
  os:w'.os=w.os
  tape:w'.tape=w.tape
  output:w'.output=w.output
  size:w.heap.size<=w'.heap.size
  block:∀k,k<w.heap.size->k∉T->w'.heap[k]?=w.heap[k]?
theorem Chg.refl (T:List Nat)(w:World):Chg T w w:=⟨rfl,rfl,rfl,Nat.le_refl _,fun _ _ _=>rfl⟩
theorem Chg.then_ {T T':List Nat}{a b c:World}(h:Chg T a b)(k:Chg T' b c)(hs:∀i,i∈T'->i<a.heap.size->i∈T):Chg T a c :=
 ⟨k.os.trans h.os,k.tape.trans h.tape,k.output.trans h.output,Nat.le_trans h.size k.size,fun i hi hn =>
  (k.block i (Nat.lt_of_lt_of_le hi h.size) (fun hm=>hn (hs i hm hi))).trans (h.block i hi hn)⟩
theorem Chg.trans {T:List Nat}{a b c:World}(h:Chg T a b)(k:Chg T b c):Chg T a c:=h.then_ k fun _ h _=>h
theorem Chg.new {T:List Nat}{a b c:World}(h:Chg T a b)(k:Chg [] b c):Chg T a c:=h.then_ k fun _ h _=>by cases h
theorem Chg.sub {T T':List Nat}{a b:World}(h:Chg T a b)(hs:∀i,i∈T->i∈T'):Chg T' a b:=⟨h.os,h.tape,h.output,h.size,fun i hi hn=>h.block i hi fun hm=>hn (hs i hm)⟩
theorem Chg.alloc {T:List Nat}{a w:World}(h:Chg T a w)(o:Obj):Chg T a (w.alloc o) :=
 h.new ⟨rfl,rfl,rfl,by simp,fun k hk _=>Below.heap_alloc w o k hk⟩
theorem Chg.drew {T:List Nat}{a w:World}(h:Chg T a w):Chg T a w.drew:=⟨h.os,h.tape,h.output,h.size,h.block⟩
theorem Chg.drewN {T:List Nat}{a w:World}(h:Chg T a w)(n:Nat):Chg T a (w.drewN n):=⟨h.os,h.tape,h.output,h.size,h.block⟩
theorem Chg.setCell {T:List Nat}{a w:World}(h:Chg T a w){p:Addr}(hp:p.block<a.heap.size->p.block∈T)(u:Value):Chg T a (w.setCell p u) :=
 h.then_ (T':=[p.block]) ⟨rfl,rfl,rfl,by simp[World.setCell],fun k _ hn=>Below.heap_setCell w p u k (by simpa using hn)⟩ fun i hi hlt=>by
  simp only[List.mem_cons,List.not_mem_nil,or_false]at hi;subst hi;exact hp hlt
theorem Chg.setRow {T:List Nat}{a w:World}(h:Chg T a w){g:Nat}(hp:g<a.heap.size->g∈T)(cs:Array Value):Chg T a (w.setRow g cs) :=
 h.then_ (T':=[g]) ⟨rfl,rfl,rfl,by simp,fun k _ hn=>setRow_other w g k cs (by simpa using hn)⟩ fun i hi hlt=>by
  simp only[List.mem_cons,List.not_mem_nil,or_false]at hi;subst hi;exact hp hlt
theorem Chg.of_below {a w:World}(h:Below a.heap.size a w):Chg [] a w:=⟨h.os,h.tape,h.output,h.size,fun k hk _=>h.block k hk⟩
theorem Chg.of_grown {a w:World}{row:Option Nat}{T:List Nat}(h:a.grownBy w row)(hr:∀g,row=some g->g<a.heap.size->g∈T):Chg T a w :=
 ⟨h.os,h.tape,h.output,h.size,fun k hk hn=>h.block k hk fun e=>hn (hr k e.symm hk)⟩
theorem Chg.below {T:List Nat}{a w:World}(h:Chg T a w){B:Nat}(hB:B<=a.heap.size)(hT:∀i,i∈T->B<=i):Below B a w :=
 ⟨h.os,h.tape,h.output,h.size,fun k hk=>h.block k (by omega) fun hm=>by have:=hT k hm;omega⟩
theorem Chg.below0 {a w:World}(h:Chg [] a w):Below a.heap.size a w:=h.below (Nat.le_refl _) (by simp)
def zb_ (w:World)(g t:Nat)(cs:List Value):Prop:=w.heap[g]?=some (.cells cs.toArray t (0,0))
section
variable {w w':World} {g t:Nat} {cs:List Value}
theorem zb_.lt (h:zb_ w g t cs):g<w.heap.size:=by
 rcases Nat.lt_or_ge g w.heap.size with hlt|hge
 · exact hlt
 · unfold zb_ at h;rw[Array.getElem?_eq_none hge]at h;cases h
theorem zb_.cell (h:zb_ w g t cs)(i:Nat):w.cell? ⟨g,i,none⟩=cs[i]?:=by
 have:=cell_of_row w g i cs.toArray t (0,0) h;simpa using this
theorem zb_.frozen (h:zb_ w g t cs)(i:Nat):w.frozen? ⟨g,i,none⟩=false:=frozen_of_row w g i cs.toArray t h
theorem zb_.chg {T:List Nat}(h:zb_ w g t cs)(hc:Chg T w w')(hg:g∉T):zb_ w' g t cs:=(hc.block g h.lt hg).trans h
theorem zb_.keep (h:zb_ w g t cs)(hc:Chg [] w w'):zb_ w' g t cs:=h.chg hc (by simp)
theorem zb_.drew (h:zb_ w g t cs):zb_ w.drew g t cs:=h
theorem zb_.drewN (h:zb_ w g t cs)(n:Nat):zb_ (w.drewN n) g t cs:=h
theorem zb_.set_ (h:zb_ w g t cs)(i:Nat)(u:Value):zb_ (w.setCell ⟨g,i,none⟩ u) g t (cs.set i u):=by
 have:=heap_setCell_same w g i cs.toArray t u h;unfold zb_;rw[this];simp
theorem zb_.far (h:zb_ w g t cs){p:Addr}(hp:g≠p.block)(u:Value):zb_ (w.setCell p u) g t cs:=(Below.heap_setCell w p u g hp).trans h
theorem zb_.new (w:World)(t:Nat)(cs:List Value):zb_ (w.alloc (.cells cs.toArray t)) w.heap.size t cs:=heap_alloc_new w _
theorem zb_.ne_ {g' t':Nat}{cs':List Value}(h:zb_ w g t cs)(h':zb_ w g' t' cs')(hne:t≠t'):g≠g':=by
 rintro rfl;unfold zb_ at h h';rw[h]at h';injection h' with h';injection h' with _ ht;exact hne ht
end
theorem zl_ (g o j:Nat):(⟨g,o,none⟩:Addr).add j=⟨g,o+j,none⟩:=by unfold Addr.add;split<;>simp_all
def Src (w:World)(A:Option Addr)(xs:List Value):Prop:=0<xs.length->∃ad,A=some ad/\ad.block<w.heap.size/\∀j v,xs[j]?=some v->w.cell? (ad.add j)=some v
theorem Src.nil (w:World)(A:Option Addr):Src w A []:=fun h=>absurd h (by simp)
theorem Src.drew {w:World}{A:Option Addr}{xs:List Value}(h:Src w A xs):Src w.drew A xs:=h
theorem Src.drewN {w:World}{A:Option Addr}{xs:List Value}(h:Src w A xs)(n:Nat):Src (w.drewN n) A xs:=h
theorem Src.of_whole {w:World}{g t:Nat}{cs:List Value}(h:zb_ w g t cs)(o n:Nat):Src w (some ⟨g,o,none⟩) ((cs.drop o).take n):=fun _ =>
 ⟨_,rfl,h.lt,fun j v hj=>by
  rw[zl_,h.cell];rw[List.getElem?_take]at hj;split at hj
  · rwa[List.getElem?_drop]at hj
  · cases hj⟩
theorem Src.of_all {w:World}{g t:Nat}{cs:List Value}(h:zb_ w g t cs):Src w (some ⟨g,0,none⟩) cs:=by
 have:=Src.of_whole h 0 cs.length;simpa using this
theorem Src.keep {w w':World}{A:Option Addr}{xs:List Value}(h:Src w A xs)(hc:Chg [] w w'):Src w' A xs:=fun hp=>by
 obtain⟨ad,e,hb,hx⟩:=h hp;refine⟨ad,e,Nat.lt_of_lt_of_le hb hc.size,fun j v hj=>?_⟩;have:=hx j v hj;rw[<-this];refine World.cell?_of_block (w:=w) (hc.block _ ?_ (by simp));have e2:(ad.add j).block=ad.block:=by unfold Addr.add;split<;>rfl
 rw[e2];exact hb
def B8 (c:UInt8):Value:=.int .u8 (c.toNat:Int)
def bts (l:List UInt8):List Value:=l.map B8
def bls (l:List Bool):List Value:=l.map Value.bool
def nms (l:List Int):List Value:=l.map (Value.int .i64)
theorem yd_ (l:List UInt8):∀v∈bts l,v.oneCell'=true:=by
 intro v hv;simp only[bts,List.mem_map]at hv;obtain⟨c,_,rfl⟩:=hv;rfl
theorem zg_ (l:List UInt8):(bts l).length=l.length:=by simp[bts]
theorem qj_ (l:List UInt8)(i:Nat)(h:i<l.length):(bts l)[i]?=some (B8 l[i]):=by simp[bts,h]
theorem zoA (l:List UInt8)(i:Nat)(c:UInt8):(bts l).set i (B8 c)=bts (l.set i c):=by simp[bts]
theorem ql_ (l:List Bool):(bls l).length=l.length:=by simp[bls]
theorem vW_ (l:List Bool)(i:Nat)(h:i<l.length):(bls l)[i]?=some (.bool l[i]):=by simp[bls,h]
theorem g6_ (l:List Bool)(i:Nat)(c:Bool):(bls l).set i (.bool c)=bls (l.set i c):=by simp[bls]
def zm_ (n:Nat):List UInt8:=List.replicate n 0
def zH_ (n:Nat):List Bool:=List.replicate n false
theorem zE_ (n:Nat):(zm_ n).length=n:=by simp[zm_]
theorem yx_ (n:Nat):(zH_ n).length=n:=by simp[zH_]
theorem yV_ (n:Nat):bts (zm_ n)=List.replicate n (.int .u8 0):=by simp[bts,zm_,B8]
theorem zfZ (n:Nat):bls (zH_ n)=List.replicate n (.bool false):=by simp[bls,zH_]
theorem gF_ (z:Value)(n:Nat):madeCells #[z] n=(List.replicate n z).toArray:=by
 apply Array.ext
 · simp[madeCells]
 · intro i h1 h2;simp[madeCells,Nat.mod_one]
theorem x0_ {α:Type}(L cs:List α)(h:cs.length=L.length):splice L 0 cs=cs:=by
 simp[splice,h]
theorem x4_ {P:Program}(t e:TypeId)(i:TypeInfo)(z:Value)(hz1:z.cells=#[z])(ht:P.underlying t=some (.slice e))(hi:P.info? e=some i)(hz:i.zero=some z)(hs:i.size=1)
    (n:Nat) (hb:i.bytes*n<=281474976710656) (h63:n<=9223372036854775807) (w:World) :
    (Instr.makeSlice t (.int .i64 (n:Int)) (.int .i64 (n:Int))).run P w=.ok (.slice (some ⟨w.heap.size,0,none⟩) n n) (w.alloc (.cells (List.replicate n z).toArray e)):=by
      have hb':(i.bytes:Int)*(n:Int)<=281474976710656:=(by
       have h:((i.bytes*n:Nat):Int)<=281474976710656:=(by omega);rwa[Int.natCast_mul]at h);have h:=run_make (P:=P) w t e i z ht hi hz .i64 .i64 (n:Int) (n:Int) (by omega) (Int.le_refl _) hb' (by omega);rw[h,hs,hz1,gF_];simp
theorem k0_ {P:Program}{w:World}{g off t:Nat}{cur cs:List Value}(dT sT ty elem:TypeId)(hu:P.underlying dT=some (.slice elem))(hsz:(P.info? elem).map (·.size)=some 1)
    (dp sp:Option Addr) (dLen dCap sLen sCap:Nat) (hg:zb_ w g t cur) (hn:cs.length=Nat.min sLen dLen) (hd:0<cs.length->dp=some ⟨g,off,none⟩) (hs:Src w sp cs)
    (hfit:off+cs.length<=cur.length) (h1:∀v∈cs,v.oneCell'=true) :
    ∃w',(Builtin.copy_ #[dT,sT] ty #[.slice dp dLen dCap,.slice sp sLen sCap]).run P w=.ok (goInt cs.length) w'/\zb_ w' g t (splice cur off cs)/\Chg [g] w w':=by
 rcases Nat.eq_zero_or_pos cs.length with h0|h0
 · obtain rfl:cs=[]:=List.eq_nil_of_length_eq_zero h0;refine⟨w,run_copy_none (P:=P) w dT sT ty elem dp sp dLen dCap sLen sCap hu hsz (by simpa using hn.symm),?_,Chg.refl _ _⟩;simpa[splice] using hg
 · obtain⟨ad,rfl,_,hx⟩:=hs h0;obtain rfl:=hd h0;refine⟨_,run_copy_row (P:=P) w dT sT ty elem g off dLen dCap ad sLen sCap cur.toArray t cs hu hsz hg hn hx (by simpa using hfit) h1,?_,(Chg.refl [g] w).setRow (by simp) _⟩;have:=setRow_heap w g _ (splice cur off cs).toArray t _ hg;simpa[zb_,splice,List.append_assoc] using this
theorem z7_ {P:Program}{w:World}{ops:Array Oper}{rest:List Oper}{o:Oper}{a:Act}{Q:Exit->Act->World->Prop}(hgd:o.guard=none)(d s:Operand)(dT sT:TypeId)
    (ho:o.op=.call { callee:=.builtin .copy,args:=#[d,s],argTypes:=#[dT,sT] }) (elem:TypeId) (hu:P.underlying dT=some (.slice elem)) (hsz:(P.info? elem).map (·.size)=some 1)
    (dp sp:Option Addr) (dLen dCap sLen sCap:Nat) (hde:a.eval d=.slice dp dLen dCap) (hse:a.eval s=.slice sp sLen sCap)
    (g off t:Nat) (cur cs:List Value) (hg:zb_ w g t cur) (hn:cs.length=Nat.min sLen dLen) (hd:0<cs.length->dp=some ⟨g,off,none⟩) (hs:Src w sp cs)
    (hfit:off+cs.length<=cur.length) (h1:∀v∈cs,v.oneCell'=true)
    (h:∀w',zb_ w' g t (splice cur off cs)->Chg [g] w w'->wpList P ops Q rest (a.put o.dst (goInt cs.length)) w'):wpList P ops Q (o::rest) a w:=by
      refine wpList_plain hgd fun K hK=>?_;obtain⟨w',hrun,h2,h3⟩:=k0_ (P:=P) dT sT o.type elem hu hsz dp sp dLen dCap sLen sCap hg hn hd hs hfit h1;unfold Oper.wp;simp[execOp,ho,resolve,invoke,builtin,hde,hse,hrun,Result.andThen];exact hK _ _ (h w' h2 h3)
theorem vo_ {P:Program}{w:World}{ops:Array Oper}{o:Oper}{a:Act}{K:Act->World->Prop}{Q:Exit->Act->World->Prop}{E:Prop}(hgd:o.guard=none)(d s:Operand)(dT sT:TypeId)
    (ho:o.op=.call { callee:=.builtin .copy,args:=#[d,s],argTypes:=#[dT,sT] }) (elem:TypeId) (hu:P.underlying dT=some (.slice elem)) (hsz:(P.info? elem).map (·.size)=some 1)
    (dp sp:Option Addr) (dLen dCap sLen sCap:Nat) (hde:a.eval d=.slice dp dLen dCap) (hse:a.eval s=.slice sp sLen sCap)
    (g off t:Nat) (cur cs:List Value) (hg:zb_ w g t cur) (hn:cs.length=Nat.min sLen dLen) (hd:0<cs.length->dp=some ⟨g,off,none⟩) (hs:Src w sp cs)
    (hfit:off+cs.length<=cur.length) (h1:∀v∈cs,v.oneCell'=true)
    (h:∀w',zb_ w' g t (splice cur off cs)->Chg [g] w w'->K (a.put o.dst (goInt cs.length)) w') :
    if Region.wanted o (yielded ops a.tmps)=true then Oper.wp P o a w K Q else E:=by
 have hw:Region.wanted o (yielded ops a.tmps)=true:=by simp[Region.wanted,hgd]
 rw[if_pos hw];obtain⟨w',hrun,h2,h3⟩:=k0_ (P:=P) dT sT o.type elem hu hsz dp sp dLen dCap sLen sCap hg hn hd hs hfit h1;unfold Oper.wp;simp[execOp,ho,resolve,invoke,builtin,hde,hse,hrun,Result.andThen];exact h w' h2 h3
theorem uq_ {P:Program}{w:World}{ops:Array Oper}{o:Oper}{a:Act}{K:Act->World->Prop}{Q:Exit->Act->World->Prop}{E:Prop}(hgd:o.guard=none)(d s:Operand)(dT sT:TypeId)
    (ho:o.op=.call { callee:=.builtin .copy,args:=#[d,s],argTypes:=#[dT,sT] }) (elem:TypeId) (hu:P.underlying dT=some (.slice elem)) (hsz:(P.info? elem).map (·.size)=some 1)
    (dp sp:Option Addr) (dLen dCap sLen sCap:Nat) (hde:a.eval d=.slice dp dLen dCap) (hse:a.eval s=.slice sp sLen sCap) (hn:Nat.min sLen dLen=0)
    (h:K (a.put o.dst (goInt 0)) w) :
    if Region.wanted o (yielded ops a.tmps)=true then Oper.wp P o a w K Q else E:=by
 have hw:Region.wanted o (yielded ops a.tmps)=true:=by simp[Region.wanted,hgd]
 rw[if_pos hw];have hrun:=run_copy_none (P:=P) w dT sT o.type elem dp sp dLen dCap sLen sCap hu hsz hn;unfold Oper.wp;simp[execOp,ho,resolve,invoke,builtin,hde,hse,hrun,Result.andThen];exact h
theorem vi_ (l m:List UInt8)(o:Nat):splice (bts l) o (bts m)=bts (splice l o m):=by simp[splice,bts]
theorem zjv (l:List UInt8)(o n:Nat):((bts l).drop o).take n=bts ((l.drop o).take n):=by simp[bts]
def zj_ (l:List UInt8):ByteArray:=⟨l.toArray⟩
theorem znm {P:Program} (src e dst:TypeId) (hs:P.underlying src=some (.slice e)) (he:P.underlying e=some (.int .u8)) (hd:P.underlying dst=some .string)
    (A:Option Addr) (l:List UInt8) (cap:Nat) (w:World) (h:Src w A (bts l)) (hp:∀ad,A=some ad->ad.spot=none) :
    (convert src dst (.slice A l.length cap)).run P w=.ok (.string (zj_ l)) w:=by
      rcases Nat.eq_zero_or_pos l.length with h0|h0
      · obtain rfl:l=[]:=List.eq_nil_of_length_eq_zero h0;rcases A with _|ad
        · exact run_convert_bytes_nil (P:=P) w src e hs he 0 cap dst hd
        · obtain⟨b,o,s⟩:=ad;obtain rfl:s=none:=hp _ rfl;exact Lib.run_convert_whole (P:=P) w src e dst hs he hd b o (zj_ []) (fun i hi=>absurd hi (by simp[zj_,ByteArray.size])) cap
      · obtain⟨ad,rfl,_,hx⟩:=h (by simpa[bts] using h0);obtain⟨b,o,s⟩:=ad;obtain rfl:s=none:=hp _ rfl;have:=Lib.run_convert_whole (P:=P) w src e dst hs he hd b o (zj_ l) (fun i hi=>by
         have hi':i<l.length:=(by simpa[zj_,ByteArray.size] using hi);have h1:=hx i _ (qj_ l i hi');rw[zl_]at h1;rw[h1];rfl) cap;simpa[zj_,ByteArray.size] using this
end
section
open Go.RowKit
def zcV (k:IntKind)(w:World)(a:Option Addr)(len cap:Nat)(zs:List Int):Prop :=
 (a=none/\len=0/\cap=0/\zs=[]) \/
 ∃x,a=some x/\len<=cap/\cap<=maxLen/\zs.length=cap/\(∀i,i<zs.length->w.cell? (x.add i)=some (.int k (zs.getD i 0)))/\∀n∈zs,(Lit.int k n).wf=true
theorem zgY {k:IntKind}{w:World}{a:Option Addr}{len cap:Nat}{zs:List Int}(h:zcV k w a len cap zs):(zs.take len).length=len/\Src w a ((zs.take len).map (Value.int k))/\∀n∈zs.take len,(Lit.int k n).wf=true:=by
 rcases h with⟨rfl,rfl,rfl,rfl⟩|⟨x,rfl,hlc,_,hz,hcell,hwf⟩
 · exact⟨rfl,fun hp=>absurd hp (by simp),by simp⟩
 · refine⟨by rw[List.length_take];omega,fun hp=>?_,fun n hn=>hwf n (List.mem_of_mem_take hn)⟩;have h0:0<zs.length:=(by
    simp only[List.length_map,List.length_take]at hp;omega);have hb:(x.add 0).block=x.block:=(by unfold Addr.add;split<;>rfl);refine⟨x,rfl,by rw[<-hb];exact block_lt_of_cell (hcell 0 h0),fun j v hj=>?_⟩;simp only[List.getElem?_map,List.getElem?_take]at hj;split at hj
   · have hjl:j<zs.length:=(by omega);rw[List.getElem?_eq_getElem hjl]at hj;simp only[Option.map_some,Option.some.injEq]at hj;rw[hcell j hjl,<-hj];simp[List.getD,hjl]
   · simp at hj
theorem row_len {k:IntKind}{w:World}{a:Option Addr}{len cap:Nat}{zs:List Int}(h:zcV k w a len cap zs):len<=maxLen:=by
 rcases h with⟨_,rfl,_,_⟩|⟨_,_,hlc,hm,_⟩
 · exact Nat.zero_le _
 · omega
theorem zkD {k:IntKind}{w:World}{a:Option Addr}{len cap:Nat}{zs:List Int}(h:zcV k w a len cap zs)(h0:0<len):∀ad,a=some ad->ad.spot=none/\ad.block<w.heap.size:=by
 rcases h with⟨_,rfl,_,_⟩|⟨x,rfl,hlc,_,hz,hcell,_⟩
 · exact absurd h0 (by omega)
 · intro ad e;injection e with e;subst e;have hc:=hcell 0 (by omega);have hb:(x.add 0).block=x.block:=(by unfold Addr.add;split<;>rfl);refine⟨?_,by rw[<-hb];exact block_lt_of_cell hc⟩;have h1:x.add 0=x:=(by simp[Addr.add]);rw[h1]at hc;cases hs:x.spot with
   | none=>rfl
   | some v =>
     exfalso;unfold World.cell? at hc;rw[hs]at hc;split at hc
     · simp at hc
     · cases hc
theorem zpi {w:World}{a:Option Addr}{len cap:Nat}{zs:List Int}(h:zcV .u8 w a len cap zs):∃l:List UInt8,l.length=len/\Src w a (bts l):=by
 obtain⟨h1,h2,h3⟩:=zgY h;refine⟨(zs.take len).map fun z=>UInt8.ofNat z.toNat,by rw[List.length_map];exact h1,?_⟩;have e:bts ((zs.take len).map fun z=>UInt8.ofNat z.toNat)=(zs.take len).map (Value.int .u8):=by
  unfold bts;rw[List.map_map];refine List.map_congr_left fun z hz=>?_;have hw:=h3 z hz;have hb:0<=z/\z<=255:=by simpa[Lit.wf,IntKind.min,IntKind.max,IntKind.signed,IntKind.bits] using hw
  show Value.int .u8 ((UInt8.ofNat z.toNat).toNat:Int)=Value.int .u8 z;rw[UInt8.toNat_ofNat'];congr 1;omega
 rw[e];exact h2
theorem zkE {w:World}{a:Option Addr}{len cap:Nat}{zs:List Int}(h:zcV .i64 w a len cap zs) :
    ∃l:List Int,l.length=len/\Src w a (nms l)/\∀n∈l,-9223372036854775808<=n/\n<=9223372036854775807:=by
 obtain⟨h1,h2,h3⟩:=zgY h;refine⟨zs.take len,h1,h2,fun n hn=>?_⟩;simpa[Lit.wf,IntKind.min,IntKind.max,IntKind.signed,IntKind.bits] using h3 n hn
end
section
open Go.RowKit
section
variable {w w':World} {B n:Nat} {e:TypeId} {v:Value} {xs:List Value}
theorem zk_ (h:w.ownsRow B e 1 v n xs)(hc:Chg [] w w'):w'.ownsRow B e 1 v n xs:=by
 refine⟨h.1,h.2.imp id ?_⟩;rintro⟨g,cap,cur,rfl,hb,hg,r⟩;refine⟨g,cap,cur,rfl,hb,?_,r⟩;rw[hc.block g ?_ (by simp)]
 · exact hg
 · rcases Nat.lt_or_ge g w.heap.size with hlt|hge
   · exact hlt
   · rw[Array.getElem?_eq_none hge]at hg;cases hg
theorem z0_ {B':Nat}(h:w.ownsRow B e 1 v n xs)(hB:B'<=B):w.ownsRow B' e 1 v n xs:=by
 refine⟨h.1,h.2.imp id ?_⟩;rintro⟨g,cap,cur,rfl,hb,r⟩;exact⟨g,cap,cur,rfl,Nat.le_trans hB hb,r⟩
theorem zr_ (h:w.ownsRow B e 1 v n xs):∃A c,v=.slice A n c/\xs.length=n/\n<=c/\Src w A xs/\(∀ad,A=some ad->ad.spot=none/\B<=ad.block/\ad.off=0/\ad.block<w.heap.size):=by
 have hl:xs.length=n:=by simpa using h.1
 rcases h.2 with⟨rfl,rfl⟩|⟨g,cap,cur,rfl,hb,hg,hn,hc,hs,ht⟩
 · exact⟨none,0,rfl,hl,Nat.le_refl _,fun hp=>absurd hp (by omega),fun ad h=>by cases h⟩
 · have hgl:g<w.heap.size:=by
    rcases Nat.lt_or_ge g w.heap.size with hlt|hge
    · exact hlt
    · rw[Array.getElem?_eq_none hge]at hg;cases hg
   refine⟨some ⟨g,0,none⟩,cap,rfl,hl,hn,fun _=>⟨_,rfl,hgl,fun j u hj=>?_⟩,fun ad h=>by injection h with h;subst h;exact⟨rfl,hb,rfl,hgl⟩⟩;rw[zl_,Nat.zero_add,cell_of_row w g j cur e (0,0) hg];have hjl:j<n:=(by rw[<-hl];exact(List.getElem?_eq_some_iff.1 hj).1);rw[<-ht,List.getElem?_take_of_lt (by omega)]at hj;simpa using hj
theorem zT_ {g c:Nat}{cs:List Value}(h:zb_ w g e cs)(hB:B<=g)(hc:cs.length=c)(hn:n<=c)(hm:c<=maxLen):w.ownsRow B e 1 (.slice (some ⟨g,0,none⟩) n c) n (cs.take n):=by
 refine⟨by rw[List.length_take];omega,.inr ⟨g,c,cs.toArray,rfl,hB,h,hn,hm,by simpa using hc,by simp⟩⟩
theorem vP_ (w:World)(B:Nat)(e:TypeId):w.ownsRow B e 1 (.slice none 0 0) 0 []:=⟨rfl,.inl ⟨rfl,rfl⟩⟩
theorem Chg.own {T:List Nat}{a:World}(h:Chg T a w)(ho:w.ownsRow B e 1 v n xs)(hB:a.heap.size<=B)(hg:w.grownBy w' v.ownBlock):Chg T a w':=by
 refine h.then_ (T':=match v.ownBlock with|some g=>[g]|none=>[]) ?_ ?_
 · refine Chg.of_grown hg fun g hr _=>?_;rw[hr];simp
 · intro i hi hlt;exfalso;rcases ho.2 with⟨rfl,_⟩|⟨g,cap,cur,rfl,hb,_⟩
   · simp[Value.ownBlock]at hi
   · simp[Value.ownBlock]at hi;omega
end
section
variable {P:Program} (w:World)
theorem xP_ (base:Nat) (t ty e:TypeId) (i:TypeInfo) (z:Value) (bytes:Nat) (ht:P.underlying t=some (.slice e)) (hi:P.info? e=some i) (hz:i.zero=some z)
    (hsize:i.size=1) (hby:i.bytes=bytes) (hzs:z.cells.size=1)
    (v:Value) (n:Nat) (xs:List Value) (hown:w.ownsRow base e 1 v n xs)
    (A:Option Addr) (m c:Nat) (news:List Value) (hl:news.length=m) (hs:Src w A news) (h1:∀u∈news,u.oneCell'=true)
    (h63:n+m<=maxLen) (hbytes:(n+m)*bytes<=140737488355328) (hbase:base<=w.heap.size) :
    ∃ v' w',(Builtin.append_ #[t,t] ty #[v,.slice A m c]).run P w=.ok v' w'/\w'.ownsRow base e 1 v' (n+m) (xs++news)/\w.grownBy w' v.ownBlock /\
      (v'.ownBlock=v.ownBlock\/v'.ownBlock=some w.heap.size):=by
        have hnil:m=0->news=[]:=fun h=>List.eq_nil_of_length_eq_zero (by omega);rcases A with _|ad
        · have hm:m=0:=by
           rcases Nat.eq_zero_or_pos m with h0|h0
           · exact h0
           · obtain⟨ad,h,_⟩:=hs (by omega);cases h
          subst hm;obtain rfl:=hnil rfl;refine⟨v,w,?_,by simpa using hown,World.grownBy.refl w _,.inl rfl⟩;rcases hown.2 with⟨rfl,rfl⟩|⟨g,cap,cur,rfl,_,_,hnc,_⟩
          · simp[Builtin.append_,run_underlying ht,sizeOf,typeInfo,hi,Builtin.lenOf,Builtin.firstCells]
          · simp[Builtin.append_,run_underlying ht,sizeOf,typeInfo,hi,Builtin.lenOf,Builtin.firstCells,hnc,storeCells]
        · have hcells:∀j u,news[j]?=some u->w.cell? (ad.add j)=some u:=(by
           intro j u hu;obtain⟨ad',h,_,hc⟩:=hs (by have:=(List.getElem?_eq_some_iff.1 hu).1;omega);injection h with h;subst h;exact hc j u hu);obtain⟨v',w',hrun,h2,h3,_,h5⟩:=run_append_own_at (P:=P) w base t ty e i z 1 bytes ht hi hz hsize hby hzs (by omega) v n xs hown ad m c news (by omega) hcells h1 h63 hbytes hbase;exact⟨v',w',hrun,h2,h3,h5⟩
theorem zC_ {w:World}{ops:Array Oper}{rest:List Oper}{o:Oper}{a:Act}{Q:Exit->Act->World->Prop}(hgd:o.guard=none)(s x:Operand)(t:TypeId)
    (ho:o.op=.call { callee:=.builtin .append,args:=#[s,x],argTypes:=#[t,t] })
    (base:Nat) (e:TypeId) (i:TypeInfo) (z:Value) (bytes:Nat) (ht:P.underlying t=some (.slice e)) (hi:P.info? e=some i) (hz:i.zero=some z)
    (hsize:i.size=1) (hby:i.bytes=bytes) (hzs:z.cells.size=1)
    (v:Value) (n:Nat) (xs:List Value) (hse:a.eval s=v) (hown:w.ownsRow base e 1 v n xs)
    (A:Option Addr) (m c:Nat) (news:List Value) (hxe:a.eval x=.slice A m c) (hl:news.length=m) (hs:Src w A news) (h1:∀u∈news,u.oneCell'=true)
    (h63:n+m<=maxLen) (hbytes:(n+m)*bytes<=140737488355328) (hbase:base<=w.heap.size)
    (h:∀v' w',w'.ownsRow base e 1 v' (n+m) (xs++news)->w.grownBy w' v.ownBlock->(v'.ownBlock=v.ownBlock\/v'.ownBlock=some w.heap.size)->wpList P ops Q rest (a.put o.dst v') w'):wpList P ops Q (o::rest) a w:=by
      refine wpList_plain hgd fun K hK=>?_;obtain⟨v',w',hrun,h2,h3,h4⟩:=xP_ (P:=P) w base t o.type e i z bytes ht hi hz hsize hby hzs v n xs hown A m c news hl hs h1 h63 hbytes hbase;unfold Oper.wp execOp;simp only[ho,resolve,invoke,builtin,Sem.run_bind,Sem.run_pure,Result.andThen_ok,List.map_toArray,List.map_cons,List.map_nil,hse,hxe,hrun];exact hK _ _ (h v' w' h2 h3 h4)
end
theorem x5_ {P:Program}(t e:TypeId)(i:TypeInfo)(z:Value)(hz1:z.cells=#[z])(ht:P.underlying t=some (.slice e))(hi:P.info? e=some i)(hz:i.zero=some z)(hs:i.size=1)
    (n:Nat) (hb:i.bytes*n<=281474976710656) (h63:n<=9223372036854775807) (w:World) :
    (Instr.makeSlice t (.int .i64 0) (.int .i64 (n:Int))).run P w=.ok (.slice (some ⟨w.heap.size,0,none⟩) 0 n) (w.alloc (.cells (List.replicate n z).toArray e)):=by
      have hb':(i.bytes:Int)*(n:Int)<=281474976710656:=(by
       have h:((i.bytes*n:Nat):Int)<=281474976710656:=(by omega);rwa[Int.natCast_mul]at h);have h:=run_make (P:=P) w t e i z ht hi hz .i64 .i64 0 (n:Int) (by omega) (by omega) hb' (by omega);rw[h,hs,hz1,gF_];simp
end
section
open Go.RowKit
structure Bs (w:World) (A:Option Addr) (n c:Nat) (l:List UInt8):Prop where
  len:l.length=n
  src:Src w A (bts l)
  cap:n<=c
  max:c<=9223372036854775807
  spot:0<n->∀ad,A=some ad->ad.spot=none
section
variable {w w':World} {A:Option Addr} {n c:Nat} {l:List UInt8}
theorem Bs.keep (h:Bs w A n c l)(hc:Chg [] w w'):Bs w' A n c l:=⟨h.len,h.src.keep hc,h.cap,h.max,h.spot⟩
theorem Bs.drew (h:Bs w A n c l):Bs w.drew A n c l:=⟨h.len,h.src,h.cap,h.max,h.spot⟩
theorem Bs.le (h:Bs w A n c l):n<=9223372036854775807:=Nat.le_trans h.cap h.max
theorem Bs.nil (w:World):Bs w none 0 0 []:=⟨rfl,Src.nil _ _,Nat.le_refl _,by omega,fun h=>absurd h (by omega)⟩
theorem Bs.of_whole {g t cap:Nat}{cs:List Value}(h:zb_ w g t cs)(hn:l.length=n)(hc:cs.take n=bts l)(hcap:n<=cap)(hm:cap<=9223372036854775807):Bs w (some ⟨g,0,none⟩) n cap l:=by
 refine⟨hn,?_,hcap,hm,fun _ ad e=>by injection e with e;subst e;rfl⟩;have:=Src.of_whole h 0 n;rwa[List.drop_zero,hc]at this
theorem Bs.of_all {g t:Nat}(h:zb_ w g t (bts l))(hm:l.length<=9223372036854775807):Bs w (some ⟨g,0,none⟩) l.length l.length l :=
 Bs.of_whole h rfl (by rw[List.take_of_length_le (by rw[zg_];exact Nat.le_refl _)]) (Nat.le_refl _) hm
theorem Bs.of_own {B:Nat}{e:TypeId}{v:Value}(h:w.ownsRow B e 1 v n (bts l)):∃A c,v=.slice A n c/\Bs w A n c l/\(∀ad,A=some ad->ad.spot=none/\B<=ad.block/\ad.off=0/\ad.block<w.heap.size):=by
 obtain⟨A,c,rfl,hl,hn,hs,hA⟩:=zr_ h;have hm:c<=9223372036854775807:=by
  rcases h.2 with⟨h,_⟩|⟨g,cap,cur,h,_,_,_,hc,_⟩
  · injection h with _ _ h;omega
  · injection h with _ _ h;subst h;simpa[maxLen] using hc
 exact⟨A,c,rfl,⟨by rw[zg_]at hl;exact hl,hs,hn,hm,fun _ ad e=>(hA ad e).1⟩,hA⟩
theorem Bs.cut (h:Bs w A n c l){lo hi:Nat}(h1:lo<=hi)(h2:hi<=n):Bs w (if c=lo then A else A.map (·.add lo)) (hi-lo) (c-lo) ((l.drop lo).take (hi-lo)):=by
 have hl:=h.len;refine⟨by rw[List.length_take,List.length_drop];omega,fun hp=>?_,by have:=h.cap;omega,by have:=h.max;omega,fun h0 ad e=>?_⟩
 · have hp':0<hi-lo:=(by rw[zg_,List.length_take,List.length_drop]at hp;omega);rw[if_neg (by have:=h.cap;omega)];obtain⟨ad,rfl,hb,hx⟩:=h.src (by rw[zg_];omega);obtain⟨b,o,s⟩:=ad;obtain rfl:s=none:=h.spot (by omega) _ rfl;refine⟨_,rfl,by simp only[zl_];exact hb,fun j v hj=>?_⟩;simp only[zl_];have h3:=hx (lo+j) v (by
    rw[<-hj];unfold bts;rw[List.getElem?_map,List.getElem?_map,List.getElem?_take];have:j<hi-lo:=(by have:=(List.getElem?_eq_some_iff.1 hj).1;rw[zg_,List.length_take]at this;omega);rw[if_pos this,List.getElem?_drop]);rw[zl_]at h3;rw[<-h3,Nat.add_assoc]
 · rw[if_neg (by have:=h.cap;omega)]at e;cases hA:A with
   | none=>rw[hA]at e;cases e
   | some ad0 =>
     obtain⟨b,o,s⟩:=ad0;obtain rfl:s=none:=h.spot (by omega) _ hA;rw[hA]at e;simp only[Option.map_some,Option.some.injEq]at e;subst e;rw[zl_]
theorem zdi {P:Program}(src e dst:TypeId)(hs:P.underlying src=some (.slice e))(he:P.underlying e=some (.int .u8))(hd:P.underlying dst=some .string)(A:Option Addr)(cap:Nat)(w:World) :
    (convert src dst (.slice A 0 cap)).run P w=.ok (.string (zj_ [])) w:=by
      rcases A with _|ad
      · exact run_convert_bytes_nil (P:=P) w src e hs he 0 cap dst hd
      · rw[run_convert_bytes_string w src dst e _ 0 cap hs he hd];simp[Conv.bytesToString,zj_,go_sem];rfl
theorem Bs.str {P:Program}(h:Bs w A n c l)(src e dst:TypeId)(hs:P.underlying src=some (.slice e))(he:P.underlying e=some (.int .u8))(hd:P.underlying dst=some .string) :
    (convert src dst (.slice A n c)).run P w=.ok (.string (zj_ l)) w:=by
      rcases Nat.eq_zero_or_pos n with h0|h0
      · subst h0;obtain rfl:l=[]:=List.eq_nil_of_length_eq_zero h.len;exact zdi src e dst hs he hd A c w
      · have hl:=h.len;subst hl;exact znm src e dst hs he hd A l c w h.src (h.spot h0)
end
end
section
open Go.RowKit
theorem j4_:(Tryz.prog.info? 5).map (fun i=>(i.zero,i.size,i.bytes))=some (some (.int .u8 0),1,1):=by kernel_rfl
theorem zbe:(Tryz.prog.info? 4).map (fun i=>(i.zero,i.size,i.bytes))=some (some (.bool false),1,1):=by kernel_rfl
theorem gH_:(Tryz.prog.info? 3).map (fun i=>(i.zero,i.size,i.bytes))=some (some (.int .i64 0),1,8):=by kernel_rfl
theorem xB_:(Tryz.prog.info? 5).map (·.size)=some 1:=by kernel_rfl
theorem j1_ (n:Nat)(h:n<=1000000)(w:World) :
    (Instr.makeSlice 39 (.int .i64 (n:Int)) (.int .i64 (n:Int))).run Tryz.prog w=.ok (.slice (some ⟨w.heap.size,0,none⟩) n n) (w.alloc (.cells (bts (zm_ n)).toArray 5)):=by
      rw[yV_];obtain⟨i,hi,hz,hs,hb⟩:=info_parts j4_;exact x4_ _ _ i _ rfl Tryz.underlying39 hi hz hs n (by rw[hb];omega) (by omega) w
theorem j2_ (n:Nat)(h:n<=1000000)(w:World) :
    (Instr.makeSlice 99 (.int .i64 (n:Int)) (.int .i64 (n:Int))).run Tryz.prog w=.ok (.slice (some ⟨w.heap.size,0,none⟩) n n) (w.alloc (.cells (bls (zH_ n)).toArray 4)):=by
      rw[zfZ];obtain⟨i,hi,hz,hs,hb⟩:=info_parts zbe;exact x4_ _ _ i _ rfl Tryz.underlying99 hi hz hs n (by rw[hb];omega) (by omega) w
theorem j9_ {w:World}{A:Option Addr}{n c:Nat}{xs:List Value}(hl:xs.length=n)(hs:Src w A xs)(h1:∀v∈xs,v.oneCell'=true)(hn:n<=1000000) :
    Calls Tryz.prog 69 #[.slice A n c] w fun e w'=>e=.returned (.slice (some ⟨w.heap.size,0,none⟩) n n)/\zb_ w' w.heap.size 5 xs/\Chg [] w w':=by
 have hmk:=j1_ n hn;go_enter Tryz.func69,Tryz.ntmps69;go_wp2_with (first
  | ((with_reducible refine wpList_copy_splice rfl (.tmp 7) (.tmp 8) _ _ rfl 5 Tryz.underlying39 xB_ (some ⟨w.heap.size,0,none⟩) A n n n c rfl rfl w.heap.size 0 (bts (zm_ n)) 5 ?c1 xs ?c2 ?c3 ?c4 h1 w.heap.size w ?c5 (Nat.le_refl _) ?_);(case c1=>exact heap_alloc_new w _);(case c2=>simp[hl]);case c3 =>
      intro hp;obtain⟨ad,e,_,hx⟩:=(hs.keep ((Chg.refl [] w).alloc _)) hp;exact⟨rfl,ad,e,hx⟩
     (case c4=>simp[hl,zg_,zE_]);(case c5=>exact(Below.refl _ _).alloc (Nat.le_refl _) _);intro w1 HG hB));go_ret;have HG':=HG.o;rw[x0_ _ _ (by simp[hl,zg_,zE_])]at HG';exact⟨rfl,HG',Chg.of_below hB⟩
end
section
open Go.RowKit
structure Dsk (w:World) (p bL bS bW:Nat) (L S:List UInt8) (V:List Bool):Prop where
  rec_:zb_ w p 138 [.slice (some ⟨bL,0,none⟩) L.length L.length,.slice (some ⟨bS,0,none⟩) S.length S.length,.slice (some ⟨bW,0,none⟩) V.length V.length]
  last:zb_ w bL 5 (bts L)
  seen:zb_ w bS 5 (bts S)
  wait:zb_ w bW 4 (bls V)
  lenL:L.length=64*V.length
  lenS:S.length=64*V.length
  pos:0<V.length
  le:V.length<=160
  ne:bL≠bS
section
variable {w w':World} {p bL bS bW:Nat} {L S:List UInt8} {V:List Bool}
theorem Dsk.keep (h:Dsk w p bL bS bW L S V)(hc:Chg [] w w'):Dsk w' p bL bS bW L S V :=
 ⟨h.rec_.keep hc,h.last.keep hc,h.seen.keep hc,h.wait.keep hc,h.lenL,h.lenS,h.pos,h.le,h.ne⟩
theorem Dsk.away {T:List Nat}(h:Dsk w p bL bS bW L S V)(hc:Chg T w w')(h0:p∉T)(h1:bL∉T)(h2:bS∉T)(h3:bW∉T):Dsk w' p bL bS bW L S V :=
 ⟨h.rec_.chg hc h0,h.last.chg hc h1,h.seen.chg hc h2,h.wait.chg hc h3,h.lenL,h.lenS,h.pos,h.le,h.ne⟩
theorem xQ_ (h:Dsk w p bL bS bW L S V):Calls Tryz.prog 38 #[.pointer (some ⟨p,0,none⟩)] w fun e w'=>e=.returned (.int .i64 (V.length:Int))/\w=w':=by
 have c2:=h.rec_.cell 2;go_enter Tryz.func38,Tryz.ntmps38;go_wp2_with fail;go_ret;exact⟨rfl,rfl⟩
theorem zcz (h:Dsk w p bL bS bW L S V)(i:Int)(h0:0<=i)(h1:i<V.length) :
    Calls Tryz.prog 108 #[.pointer (some ⟨p,0,none⟩),.int .i64 i] w fun e w'=>e=.returned (.bool true)/\w=w':=by
 go_enter Tryz.func108,Tryz.ntmps108;go_wp2_with (go_at_call 38;refine(xQ_ h).mono ?_;rintro e w' ⟨rfl,rfl⟩);go_ret;exact⟨rfl,rfl⟩
theorem zmy (h:Dsk w p bL bS bW L S V)(i:Int)(h0:i<0\/(V.length:Int)<=i) :
    Calls Tryz.prog 108 #[.pointer (some ⟨p,0,none⟩),.int .i64 i] w fun e w'=>e=.returned (.bool false)/\w=w':=by
 rcases h0 with h0|h0
 · have hd:decide (0<=i)=false:=(by simp;omega);go_enter Tryz.func108,Tryz.ntmps108;go_wp2_with (go_at_call 38;refine(xQ_ h).mono ?_;rintro e w' ⟨rfl,rfl⟩);go_ret;exact⟨rfl,rfl⟩
 · by_cases hi:0<=i
   · go_enter Tryz.func108,Tryz.ntmps108;go_wp2_with (go_at_call 38;refine(xQ_ h).mono ?_;rintro e w' ⟨rfl,rfl⟩);go_ret;exact⟨by simp;omega,rfl⟩
   · have:=h.pos;exact absurd h0 (by omega)
end
end
section
open Go.RowKit
theorem vA_ {w:World}{g n c:Nat}(k:Nat)(h:64*(k+1)<=n)(hc:n<=c)(hn:c<=1000000) :
    Calls Tryz.prog 109 #[.slice (some ⟨g,0,none⟩) n c,.int .i64 (k:Int)] w fun e w'=>e=.returned (.slice (some ⟨g,k*64,none⟩) 64 (c-k*64))/\w=w':=by
 go_enter Tryz.func109,Tryz.ntmps109;go_wp2_with fail;go_ret;exact⟨by show Ending.returned (.slice _ ((k+1)*64-k*64) _)=_;rw[show(k+1)*64-k*64=64 by omega],rfl⟩
end
section
open Go.RowKit
theorem xD_ {T:List Nat}{a w w':World}{row:Option Nat}(h:Chg T a w)(hg:w.grownBy w' row)(hr:∀g,row=some g->a.heap.size<=g):Chg T a w' :=
 h.then_ (T':=row.toList) (Chg.of_grown hg fun g e _=>by simp[e]) fun i hi hlt=>by
  have:=hr i (by simpa using hi);omega
end
section
open Go.RowKit
section
variable {w:World} {p bL bS bW:Nat} {L S:List UInt8} {V:List Bool}
theorem zjS (h:Dsk w p bL bS bW L S V)(i:Int)(A:Option Addr)(n c:Nat)(hi:i<0\/(V.length:Int)<=i\/n≠64) :
    Calls Tryz.prog 70 #[.pointer (some ⟨p,0,none⟩),.int .i64 i,.slice A n c] w fun e w'=>e=.returned (.bool false)/\w=w':=by
 by_cases hok:0<=i/\i<V.length
 · obtain⟨h0,h1⟩:=hok;have hd:((n:Int) != 64)=true:=(by simp;omega);clear hi;go_enter Tryz.func70,Tryz.ntmps70;go_wp2_with (go_at_call 108;refine(zcz h i h0 h1).mono ?_;rintro e w' ⟨rfl,rfl⟩);go_ret;exact⟨rfl,rfl⟩
 · have h2:i<0\/(V.length:Int)<=i:=(by omega);clear hi hok;go_enter Tryz.func70,Tryz.ntmps70;go_wp2_with (go_at_call 108;refine(zmy h i h2).mono ?_;rintro e w' ⟨rfl,rfl⟩);go_ret;exact⟨rfl,rfl⟩
theorem zgk {w2:World}{k:Nat}{x:List UInt8}(h:Dsk w p bL bS bW L S V)(hk:k<V.length)(hx:x.length=64)(HC:Chg [bS] w w2)(HG:zb_ w2 bS 5 (splice (bts S) (k*64) (bts x))) :
    Dsk (w2.setCell ⟨bW,k,none⟩ (.bool true)) p bL bS bW L (splice S (k*64) x) (V.set k true)/\Chg [bS,bW] w (w2.setCell ⟨bW,k,none⟩ (.bool true)):=by
 have s1:64*(k+1)<=S.length:=by have:=h.lenS;omega
 have eS:(splice S (k*64) x).length=S.length:=length_splice _ _ _ (by omega);rw[vi_]at HG;have d0:=h.rec_.ne_ h.seen (by decide);have d1:=h.rec_.ne_ h.wait (by decide);have d2:=h.last.ne_ h.wait (by decide);have d3:=h.seen.ne_ h.wait (by decide);have V2:=h.wait.chg HC (by simpa using fun e=>d3 e.symm);have hw:zb_ (w2.setCell ⟨bW,k,none⟩ (.bool true)) bW 4 (bls (V.set k true)):=by
  have:=V2.set_ k (.bool true);rwa[g6_]at this
 refine⟨⟨?_,(h.last.chg HC (by simpa using h.ne)).far d2 _,HG.far d3 _,hw,by rw[List.length_set];exact h.lenL,by rw[eS,List.length_set];exact h.lenS,by rw[List.length_set];exact h.pos,by rw[List.length_set];exact h.le,h.ne⟩,?_⟩
 · rw[eS,List.length_set];exact(h.rec_.chg HC (by simpa using d0)).far d1 _
 · exact(HC.sub (T':=[bS,bW]) (by simp)).setCell (by simp) _
theorem uL_ (h:Dsk w p bL bS bW L S V)(k:Nat)(hk:k<V.length){A:Option Addr}{c:Nat}{x:List UInt8}(hx:x.length=64)(hs:Src w A (bts x)) :
    Calls Tryz.prog 70 #[.pointer (some ⟨p,0,none⟩),.int .i64 (k:Int),.slice A 64 c] w fun e w'=>e=.returned (.bool true) /\
      Dsk w' p bL bS bW L (splice S (k*64) x) (V.set k true)/\Chg [bS,bW] w w':=by
 have c1:=h.rec_.cell 1;have hS:=h.lenS;have hv:=h.le;have s1:64*(k+1)<=S.length:=by omega
 have s2:S.length<=1000000:=by omega
 clear hS;have hfit:k*64+(bts x).length<=(bts S).length:=by rw[zg_,zg_];omega
 have Hn:=hQ_ (show(bts x).length=Nat.min 64 64 by rw[zg_,hx];rfl);have Hx:=hQ_ hx;have b1:=yd_ x;have n2:=hQ_ (show p∉[bS] by simpa using h.rec_.ne_ h.seen (by decide));have n3:=hQ_ (show bW∉[bS] by simpa using h.wait.ne_ h.seen (by decide));obtain⟨Y,hY⟩:∃Y,Y=bts x:=⟨_,rfl⟩;have HY:=hQ_ hY;rw[<-hY]at hfit Hn b1 hs;clear hx hY;go_enter Tryz.func70,Tryz.ntmps70;go_wp2_with (first
  | (go_at_call 108;refine(zcz h _ (by omega) (by omega)).mono ?_;rintro e w' ⟨rfl,rfl⟩)
  | (go_at_call 109;refine(vA_ k s1 (Nat.le_refl _) s2).mono ?_;rintro e w' ⟨rfl,rfl⟩)
  | ((with_reducible refine z7_ rfl (.tmp 21) (.tmp 22) _ _ rfl 5 Tryz.underlying39 xB_ (some ⟨bS,k*64,none⟩) A 64 (S.length-k*64) 64 c rfl rfl bS (k*64) 5 (bts S) Y h.seen Hn.o (fun _=>rfl) hs hfit b1 ?_);intro w2 HG HC;have R2:=h.rec_.chg HC n2.out;have V2:=h.wait.chg HC n3.out;have c2:=R2.cell 2;have c4:=(V2.cell k).trans (vW_ V k hk);have c5:=V2.frozen k));go_ret;rw[HY.o]at HG;exact⟨rfl,zgk h hk Hx.o HC HG⟩
theorem znw (h:Dsk w p bL bS bW L S V)(i:Int)(hi:i<0\/(V.length:Int)<=i) :
    Calls Tryz.prog 112 #[.pointer (some ⟨p,0,none⟩),.int .i64 i] w fun e w'=>e=.returned (.tuple #[.slice none 0 0,.bool false])/\w=w':=by
 go_enter Tryz.func112,Tryz.ntmps112;go_wp2_with (go_at_call 108;refine(zmy h i hi).mono ?_;rintro e w' ⟨rfl,rfl⟩);go_ret2;exact⟨rfl,rfl⟩
theorem ji_ (h:Dsk w p bL bS bW L S V)(k:Nat)(hk:k<V.length) :
    Calls Tryz.prog 112 #[.pointer (some ⟨p,0,none⟩),.int .i64 (k:Int)] w fun e w'=>e=.returned (.tuple #[.slice (some ⟨w.heap.size,0,none⟩) 64 64,.bool true]) /\
      zb_ w' w.heap.size 5 (bts ((S.drop (k*64)).take 64))/\Chg [] w w':=by
 have c1:=h.rec_.cell 1;have hS:=h.lenS;have hv:=h.le;have s1:64*(k+1)<=S.length:=by omega
 have s2:S.length<=1000000:=by omega
 clear hS;have hl:(bts ((S.drop (k*64)).take 64)).length=64:=by rw[zg_,List.length_take,List.length_drop];omega
 have Hl:=hQ_ hl;have hsr:Src w (some ⟨bS,k*64,none⟩) (bts ((S.drop (k*64)).take 64)):=by rw[<-zjv];exact Src.of_whole h.seen _ _
 have b1:=yd_ ((S.drop (k*64)).take 64);obtain⟨Y,hY⟩:∃Y,Y=bts ((S.drop (k*64)).take 64):=⟨_,rfl⟩;rw[<-hY]at Hl hsr b1;rw[<-hY];clear hl hY;go_enter Tryz.func112,Tryz.ntmps112;go_wp2_with (first
  | (go_at_call 108;refine(zcz h _ (by omega) (by omega)).mono ?_;rintro e w' ⟨rfl,rfl⟩)
  | (go_at_call 109;refine(vA_ k s1 (Nat.le_refl _) s2).mono ?_;rintro e w' ⟨rfl,rfl⟩)
  | (go_at_call 69;refine(j9_ Hl.o hsr b1 (by omega)).mono ?_;rintro e w2 ⟨rfl,HB,HC⟩));go_ret2;exact⟨rfl,HB,HC⟩
end
end
section
open Go.RowKit
theorem zpw (W:World){s:Nat}(h:W.heap.size=s)(C:Array Value)(n c:Nat):(convert 39 39 (.slice (some ⟨s,0,none⟩) n c)).run Tryz.prog (W.alloc (.cells C 5))=.ok (.slice (some ⟨s,0,none⟩) n c) (W.alloc (.cells C 5 (C.size,C.size+1))):=by
 subst h;exact Lib.run_convert_bytes_const (P:=Tryz.prog) W 39 5 C n c Tryz.underlying39 Tryz.underlying5
theorem zek (w:World)(t:TypeId)(l:List UInt8)(fz:Nat×Nat)(hm:l.length<=9223372036854775807):Bs (w.alloc (.cells (bts l).toArray t fz)) (some ⟨w.heap.size,0,none⟩) l.length l.length l:=by
 refine⟨rfl,fun _=>⟨_,rfl,by simp,fun j v hj=>?_⟩,Nat.le_refl _,hm,fun _ ad e=>by injection e with e;subst e;rfl⟩;rw[zl_,Nat.zero_add,cell_of_row _ _ _ _ _ _ (heap_alloc_new w _)];simpa using hj
end
section
open Go.RowKit
def zgd (w:World)(vs:List Value)(ls:List (List UInt8)):Prop :=
 vs.length=ls.length/\∀(i:Nat)(v:Value)(X:List UInt8),vs[i]?=some v->ls[i]?=some X->∃A n c,v=.slice A n c/\Bs w A n c X
theorem zgd.keep {w w':World}{vs:List Value}{ls:List (List UInt8)}(h:zgd w vs ls)(hc:Chg [] w w'):zgd w' vs ls :=
 ⟨h.1,fun i v X hv hX=>by obtain⟨A,n,c,e,hB⟩:=h.2 i v X hv hX;exact⟨A,n,c,e,hB.keep hc⟩⟩
end
section
open Go.RowKit
def Rows (B:Nat)(w:World)(vs:List Value)(rs:List (List UInt8)):Prop :=
 vs.length=rs.length/\∀(i:Nat)(v:Value)(l:List UInt8),vs[i]?=some v->rs[i]?=some l->w.ownsRow B 5 1 v l.length (bts l)
theorem Rows.keep {B:Nat}{w w':World}{vs:List Value}{rs:List (List UInt8)}(h:Rows B w vs rs)(hc:Chg [] w w'):Rows B w' vs rs :=
 ⟨h.1,fun i v l hv hl=>zk_ (h.2 i v l hv hl) hc⟩
theorem Rows.nil (B:Nat)(w:World):Rows B w [] []:=⟨rfl,fun i v l hv=>by simp at hv⟩
theorem Rows.snoc {B:Nat}{w:World}{vs:List Value}{rs:List (List UInt8)}(h:Rows B w vs rs){v:Value}{l:List UInt8}(ho:w.ownsRow B 5 1 v l.length (bts l)):Rows B w (vs++[v]) (rs++[l]):=by
 refine⟨by simp[h.1],fun i u x hu hx=>?_⟩;rcases Nat.lt_or_ge i vs.length with hi|hi
 · rw[List.getElem?_append_left hi]at hu;rw[List.getElem?_append_left (by rw[<-h.1];exact hi)]at hx;exact h.2 i u x hu hx
 · rw[List.getElem?_append_right hi]at hu;rw[List.getElem?_append_right (by rw[<-h.1];exact hi)]at hx;rw[<-h.1]at hx;cases hj:i-vs.length with
   | zero=>rw[hj]at hu hx;simp at hu hx;subst hu;subst hx;exact ho
   | succ j=>rw[hj]at hu;simp at hu
theorem zhu {w w':World}{B B2 n m:Nat}{e e2:TypeId}{v v2:Value}{xs ys:List Value}(h:w.ownsRow B e 1 v n xs)(h2:w.ownsRow B2 e2 1 v2 m ys)(hne:e≠e2)(hg:w.grownBy w' v2.ownBlock):w'.ownsRow B e 1 v n xs:=by
 refine⟨h.1,h.2.imp id ?_⟩;rintro⟨g,cap,cur,rfl,hb,hh,r⟩;refine⟨g,cap,cur,rfl,hb,?_,r⟩;rw[hg.block g ?_ ?_]
 · exact hh
 · rcases Nat.lt_or_ge g w.heap.size with hlt|hge
   · exact hlt
   · rw[Array.getElem?_eq_none hge]at hh;cases hh
 · intro hc;rcases h2.2 with⟨rfl,_⟩|⟨g2,cap2,cur2,rfl,hb2,hh2,_⟩
   · simp[Value.ownBlock]at hc
   · simp[Value.ownBlock]at hc;subst hc;rw[hh]at hh2;simp at hh2;exact hne hh2.2
theorem Rows.grown {B B2 m:Nat}{w w':World}{vs:List Value}{rs:List (List UInt8)}(h:Rows B w vs rs){v2:Value}{ys:List Value}(h2:w.ownsRow B2 39 1 v2 m ys)(hg:w.grownBy w' v2.ownBlock):Rows B w' vs rs :=
 ⟨h.1,fun i v l hv hl=>zhu (h.2 i v l hv hl) h2 (by decide) hg⟩
theorem kH_:(Tryz.prog.info? 39).map (fun i=>(i.zero,i.size,i.bytes))=some (some (.slice none 0 0),1,24):=by kernel_rfl
theorem qg_:(Value.slice none 0 0).cells.size=1:=rfl
end
end Go.Proofs.YtcbcfcdmdedefaaGreatDoor
namespace Go.Proofs
open Go.Shelf
def Tryz.lays242_ren:Go.Shelf.Ren:=⟨fun|242=>31|278=>64|n=>n,fun|37=>39|21=>21|51=>56|4=>4|5=>5|46=>185|n=>n,fun|n=>n⟩
theorem Tryz.lays242:Go.Proofs.Lays.n242 Tryz.prog Tryz.lays242_ren:={
  mixed:=by kernel_rfl
  f242:=Tryz.func31.trans (congrArg some (by kernel_rfl))
  f278:=Tryz.func64.trans (congrArg some (by kernel_rfl))
  t4:=Tryz.underlying4
  a4:=Tryz.isAgg4
  z4:=Tryz.sizeOf4
  v4:=Tryz.zeroValue4
  t5:=Tryz.underlying5
  a5:=Tryz.isAgg5
  z5:=Tryz.sizeOf5
  v5:=Tryz.zeroValue5
  t21:=Tryz.underlying21
  a21:=Tryz.isAgg21
  z21:=Tryz.sizeOf21
  v21:=Tryz.zeroValue21
  t37:=Tryz.underlying39
  a37:=Tryz.isAgg39
  z37:=Tryz.sizeOf39
  v37:=Tryz.zeroValue39
  t46:=Tryz.underlying185
  a46:=Tryz.isAgg185
  z46:=Tryz.sizeOf185
  v46:=Tryz.zeroValue185
  t51:=Tryz.underlying56
  a51:=Tryz.isAgg56
  z51:=Tryz.sizeOf56
  v51:=Tryz.zeroValue56 }
open Go.RowKit in
theorem Tryz.utf8_AppendRune_plain (B:Nat)(v:Value)(n:Nat)(xs:List Value)(r:Int)(hr0:-2147483648<=r)(hr1:r<=2147483647)(w:World)(hown:w.ownsRow B 5 1 v n xs)(hlen:n+4<=140737488355328)(hBw:B<=w.heap.size) :
    Calls Tryz.prog 31 #[v,.int .i32 r] w fun e w'=>∃v',e=.returned v'/\w'.ownsRow B 5 1 v' (n+(Lib.runeCells r).length) (xs++Lib.runeCells r)/\∃o,(w.alloc o).grownBy w' v.ownBlock:=Any.utf8_AppendRune_plain Tryz.lays242 (by kernel_rfl) B v n xs r hr0 hr1 w hown hlen hBw
def Tryz.lays171_ren:Go.Shelf.Ren:=⟨fun|171=>29|243=>62|246=>103|283=>142|284=>143|285=>144|286=>145|129=>167|317=>166|318=>168|319=>169|320=>170|337=>183|338=>184|n=>n,fun|3=>3|9=>9|2=>2|4=>4|171=>225|0=>0|53=>226|37=>39|5=>5|173=>229|212=>255|51=>56|20=>20|213=>256|46=>185|232=>272|233=>273|n=>n,fun|17=>1|18=>2|19=>3|n=>n⟩
theorem Tryz.lays171:Go.Proofs.Lays.n171 Tryz.prog Tryz.lays171_ren:={
  mixed:=by kernel_rfl
  f129:=Tryz.func167.trans (congrArg some (by kernel_rfl))
  f171:=Tryz.func29.trans (congrArg some (by kernel_rfl))
  f243:=Tryz.func62.trans (congrArg some (by kernel_rfl))
  f246:=Tryz.func103.trans (congrArg some (by kernel_rfl))
  f283:=Tryz.func142.trans (congrArg some (by kernel_rfl))
  f284:=Tryz.func143.trans (congrArg some (by kernel_rfl))
  f285:=Tryz.func144.trans (congrArg some (by kernel_rfl))
  f286:=Tryz.func145.trans (congrArg some (by kernel_rfl))
  f317:=Tryz.func166.trans (congrArg some (by kernel_rfl))
  f318:=Tryz.func168.trans (congrArg some (by kernel_rfl))
  f319:=Tryz.func169.trans (congrArg some (by kernel_rfl))
  f320:=Tryz.func170.trans (congrArg some (by kernel_rfl))
  f337:=Tryz.func183.trans (congrArg some (by kernel_rfl))
  f338:=Tryz.func184.trans (congrArg some (by kernel_rfl))
  t0:=Tryz.underlying0
  a0:=Tryz.isAgg0
  z0:=Tryz.sizeOf0
  v0:=Tryz.zeroValue0
  t2:=Tryz.underlying2
  a2:=Tryz.isAgg2
  z2:=Tryz.sizeOf2
  v2:=Tryz.zeroValue2
  t3:=Tryz.underlying3
  a3:=Tryz.isAgg3
  z3:=Tryz.sizeOf3
  v3:=Tryz.zeroValue3
  t4:=Tryz.underlying4
  a4:=Tryz.isAgg4
  z4:=Tryz.sizeOf4
  v4:=Tryz.zeroValue4
  t5:=Tryz.underlying5
  a5:=Tryz.isAgg5
  z5:=Tryz.sizeOf5
  v5:=Tryz.zeroValue5
  t9:=Tryz.underlying9
  a9:=Tryz.isAgg9
  z9:=Tryz.sizeOf9
  v9:=Tryz.zeroValue9
  t20:=Tryz.underlying20
  a20:=Tryz.isAgg20
  z20:=Tryz.sizeOf20
  v20:=Tryz.zeroValue20
  t37:=Tryz.underlying39
  a37:=Tryz.isAgg39
  z37:=Tryz.sizeOf39
  v37:=Tryz.zeroValue39
  t46:=Tryz.underlying185
  a46:=Tryz.isAgg185
  z46:=Tryz.sizeOf185
  v46:=Tryz.zeroValue185
  t51:=Tryz.underlying56
  a51:=Tryz.isAgg56
  z51:=Tryz.sizeOf56
  v51:=Tryz.zeroValue56
  t53:=Tryz.underlying226
  a53:=Tryz.isAgg226
  z53:=Tryz.sizeOf226
  v53:=Tryz.zeroValue226
  t171:=Tryz.underlying225
  a171:=Tryz.isAgg225
  z171:=Tryz.sizeOf225
  v171:=Tryz.zeroValue225
  t173:=Tryz.underlying229
  a173:=Tryz.isAgg229
  z173:=Tryz.sizeOf229
  v173:=Tryz.zeroValue229
  t212:=Tryz.underlying255
  a212:=Tryz.isAgg255
  z212:=Tryz.sizeOf255
  v212:=Tryz.zeroValue255
  t213:=Tryz.underlying256
  a213:=Tryz.isAgg256
  z213:=Tryz.sizeOf256
  t232:=Tryz.underlying272
  a232:=Tryz.isAgg272
  z232:=Tryz.sizeOf272
  v232:=Tryz.zeroValue272
  t233:=Tryz.underlying273
  a233:=Tryz.isAgg273
  z233:=Tryz.sizeOf273
  v233:=Tryz.zeroValue273
  g17:=by kernel_rfl
  g18:=by kernel_rfl
  g19:=by kernel_rfl }
open Go.RowKit Go.Sort Go.Lib in
theorem Tryz.strconv_Itoa_small (i:Nat)(hi:i<100)(w:World) :
    Calls Tryz.prog 29 #[.int .i64 i] w fun e w'=>e=.returned (.string ⟨(Lib.decDigits i).toArray⟩)/\w'=w:=Any.strconv_Itoa_small Tryz.lays171 i hi w
def Tryz.lays219_ren:Go.Shelf.Ren:=⟨fun|219=>187|217=>188|225=>189|224=>190|267=>191|266=>192|314=>193|n=>n,fun|9=>9|3=>3|4=>4|5=>5|46=>185|146=>276|51=>56|n=>n,fun|1=>0|n=>n⟩
theorem Tryz.lays219:Go.Proofs.Lays.n219 Tryz.prog Tryz.lays219_ren:={
  mixed:=by kernel_rfl
  f217:=Tryz.func188.trans (congrArg some (by kernel_rfl))
  f219:=Tryz.func187.trans (congrArg some (by kernel_rfl))
  f224:=Tryz.func190.trans (congrArg some (by kernel_rfl))
  f225:=Tryz.func189.trans (congrArg some (by kernel_rfl))
  f266:=Tryz.func192.trans (congrArg some (by kernel_rfl))
  f267:=Tryz.func191.trans (congrArg some (by kernel_rfl))
  f314:=Tryz.func193.trans (congrArg some (by kernel_rfl))
  t3:=Tryz.underlying3
  a3:=Tryz.isAgg3
  z3:=Tryz.sizeOf3
  v3:=Tryz.zeroValue3
  t4:=Tryz.underlying4
  a4:=Tryz.isAgg4
  z4:=Tryz.sizeOf4
  v4:=Tryz.zeroValue4
  t5:=Tryz.underlying5
  a5:=Tryz.isAgg5
  z5:=Tryz.sizeOf5
  v5:=Tryz.zeroValue5
  t9:=Tryz.underlying9
  a9:=Tryz.isAgg9
  z9:=Tryz.sizeOf9
  v9:=Tryz.zeroValue9
  t46:=Tryz.underlying185
  a46:=Tryz.isAgg185
  z46:=Tryz.sizeOf185
  v46:=Tryz.zeroValue185
  t51:=Tryz.underlying56
  a51:=Tryz.isAgg56
  z51:=Tryz.sizeOf56
  v51:=Tryz.zeroValue56
  t146:=Tryz.underlying276
  a146:=Tryz.isAgg276
  z146:=Tryz.sizeOf276
  v146:=Tryz.zeroValue276
  g1:=by kernel_rfl }
open Go.RowKit Go.Lib in
theorem Tryz.stringslite_Index_one (s:ByteArray)(c:UInt8)(w:World) :
    Calls Tryz.prog 187 #[.string s,.string ⟨#[c]⟩] w fun e w'=>e=.returned (.int .i64 (Lib.indexByte s.data.toList c))/\w'=w:=Any.stringslite_Index_one Tryz.lays219 s c w
open Go.RowKit Go.Lib in
def Tryz.laysM176_ren:Go.Shelf.Ren:=⟨fun|176=>65|249=>106|288=>146|283=>142|284=>143|285=>144|286=>145|129=>167|317=>166|318=>168|319=>169|320=>170|337=>183|338=>184|n=>n,fun|37=>39|2=>2|3=>3|53=>226|4=>4|9=>9|171=>225|0=>0|173=>229|212=>255|51=>56|5=>5|20=>20|213=>256|46=>185|232=>272|233=>273|n=>n,fun|17=>1|18=>2|19=>3|n=>n⟩
theorem Tryz.laysM176:Go.Proofs.LaysM.n176 Tryz.prog Tryz.laysM176_ren:={
  mixed:=by kernel_rfl
  f129:=Tryz.func167.trans (congrArg some (by kernel_rfl))
  f176:=Tryz.func65.trans (congrArg some (by kernel_rfl))
  f249:=Tryz.func106.trans (congrArg some (by kernel_rfl))
  f283:=Tryz.func142.trans (congrArg some (by kernel_rfl))
  f284:=Tryz.func143.trans (congrArg some (by kernel_rfl))
  f285:=Tryz.func144.trans (congrArg some (by kernel_rfl))
  f286:=Tryz.func145.trans (congrArg some (by kernel_rfl))
  f288:=Tryz.func146.trans (congrArg some (by kernel_rfl))
  f317:=Tryz.func166.trans (congrArg some (by kernel_rfl))
  f318:=Tryz.func168.trans (congrArg some (by kernel_rfl))
  f319:=Tryz.func169.trans (congrArg some (by kernel_rfl))
  f320:=Tryz.func170.trans (congrArg some (by kernel_rfl))
  f337:=Tryz.func183.trans (congrArg some (by kernel_rfl))
  f338:=Tryz.func184.trans (congrArg some (by kernel_rfl))
  t0:=Tryz.underlying0
  a0:=Tryz.isAgg0
  z0:=Tryz.sizeOf0
  v0:=Tryz.zeroValue0
  t2:=Tryz.underlying2
  a2:=Tryz.isAgg2
  z2:=Tryz.sizeOf2
  v2:=Tryz.zeroValue2
  t3:=Tryz.underlying3
  a3:=Tryz.isAgg3
  z3:=Tryz.sizeOf3
  v3:=Tryz.zeroValue3
  t4:=Tryz.underlying4
  a4:=Tryz.isAgg4
  z4:=Tryz.sizeOf4
  v4:=Tryz.zeroValue4
  t5:=Tryz.underlying5
  a5:=Tryz.isAgg5
  z5:=Tryz.sizeOf5
  v5:=Tryz.zeroValue5
  t9:=Tryz.underlying9
  a9:=Tryz.isAgg9
  z9:=Tryz.sizeOf9
  v9:=Tryz.zeroValue9
  t20:=Tryz.underlying20
  a20:=Tryz.isAgg20
  z20:=Tryz.sizeOf20
  v20:=Tryz.zeroValue20
  t37:=Tryz.underlying39
  a37:=Tryz.isAgg39
  z37:=Tryz.sizeOf39
  v37:=Tryz.zeroValue39
  t46:=Tryz.underlying185
  a46:=Tryz.isAgg185
  z46:=Tryz.sizeOf185
  v46:=Tryz.zeroValue185
  t51:=Tryz.underlying56
  a51:=Tryz.isAgg56
  z51:=Tryz.sizeOf56
  v51:=Tryz.zeroValue56
  t53:=Tryz.underlying226
  a53:=Tryz.isAgg226
  z53:=Tryz.sizeOf226
  v53:=Tryz.zeroValue226
  t171:=Tryz.underlying225
  a171:=Tryz.isAgg225
  z171:=Tryz.sizeOf225
  v171:=Tryz.zeroValue225
  t173:=Tryz.underlying229
  a173:=Tryz.isAgg229
  z173:=Tryz.sizeOf229
  v173:=Tryz.zeroValue229
  t212:=Tryz.underlying255
  a212:=Tryz.isAgg255
  z212:=Tryz.sizeOf255
  v212:=Tryz.zeroValue255
  t213:=Tryz.underlying256
  a213:=Tryz.isAgg256
  z213:=Tryz.sizeOf256
  t232:=Tryz.underlying272
  a232:=Tryz.isAgg272
  z232:=Tryz.sizeOf272
  v232:=Tryz.zeroValue272
  t233:=Tryz.underlying273
  a233:=Tryz.isAgg273
  z233:=Tryz.sizeOf273
  v233:=Tryz.zeroValue273
  g17:=by kernel_rfl
  g18:=by kernel_rfl
  g19:=by kernel_rfl
  i0:=by kernel_rfl
  i2:=by kernel_rfl
  i3:=by kernel_rfl
  i4:=by kernel_rfl
  i5:=by kernel_rfl
  i9:=by kernel_rfl
  i20:=by kernel_rfl
  i37:=by kernel_rfl
  i46:=by kernel_rfl
  i51:=by kernel_rfl
  i53:=by kernel_rfl
  i171:=by kernel_rfl
  i173:=by kernel_rfl
  i212:=by kernel_rfl
  i232:=by kernel_rfl
  i233:=by kernel_rfl
  m17:=by kernel_rfl
  m18:=by kernel_rfl
  m19:=by kernel_rfl }
open Go.RowKit Go.Sort Go.Lib in
theorem Tryz.strconv_AppendInt_10 (B n : Nat) (i : Int) (h0 : -9223372036854775808 ≤ i) (h1 : i ≤ 9223372036854775807) (sv : Value) (xs : List Value) (w : World) (hown : w.ownsRow B 5 1 sv n xs) (hBw : B ≤ w.heap.size) (hlim : n + 21 ≤ 140737488355328) (htab : Lib.TabBelow Tryz.prog B w "internal/strconv.uint64pow10" .u64 Lib.pow10Tab) :
    Calls Tryz.prog 65 #[sv,.int .i64 i,.int .i64 10] w fun e w'=>∃v',e=.returned v'/\w'.ownsRow B 5 1 v' (n+(Lib.itoa i).length) (xs++Lib.byteCells (Lib.itoa i))/\Below B w w'/\Lib.OthersKept 5 none w w':=Any.strconv_AppendInt_10 Tryz.laysM176 B n i h0 h1 sv xs w hown hBw hlim htab
end Go.Proofs
