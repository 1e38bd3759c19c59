import Derived.Test.YtcbcfcdmdedefaaGreatDoorZTA3
import Derived.Lib.AppendZerosOnto
set_option maxRecDepth 100000
set_option maxHeartbeats 16000000
namespace Go.Proofs.YtcbcfcdmdedefaaGreatDoor
open Go.RowKit
def k9_:List UInt8:=[69,78,71,49]
def xq_ (a b c:Nat):List UInt8:=k9_++be4 a++be4 b++be4 c
def z3_ (a b c:Nat):List UInt8:=xq_ a b c++be4 (kh_ (xq_ a b c))++zm_ 44
theorem j9_ (a b c:Nat):(xq_ a b c).length=16:=rfl
theorem x3_ (a b c:Nat):(z3_ a b c).length=64:=by
 unfold z3_;rw[List.length_append,List.length_append,j9_,vY_,zE_]
section
variable (a b c:Nat)
theorem zkL (ha:a<4294967296)(hb:b<4294967296)(hc:c<4294967296) :
    zz_ (z3_ a b c) ((4:Nat):Int)=a/\zz_ (z3_ a b c) ((8:Nat):Int)=b/\zz_ (z3_ a b c) ((12:Nat):Int)=c/\zz_ (z3_ a b c) ((16:Nat):Int)=kh_ (xq_ a b c)/\(z3_ a b c).take 16=xq_ a b c:=by
 refine⟨?_,?_,?_,?_,?_⟩
 · have e:z3_ a b c=k9_++(be4 a++(be4 b++be4 c++be4 (kh_ (xq_ a b c))++zm_ 44)):=(by
    simp only[z3_,xq_,List.append_assoc]);rw[e];exact y5_ _ _ a ha _ rfl
 · have e:z3_ a b c=(k9_++be4 a)++(be4 b++(be4 c++be4 (kh_ (xq_ a b c))++zm_ 44)):=(by
    simp only[z3_,xq_,List.append_assoc]);rw[e];exact y5_ _ _ b hb _ rfl
 · have e:z3_ a b c=(k9_++be4 a++be4 b)++(be4 c++(be4 (kh_ (xq_ a b c))++zm_ 44)):=(by
    simp only[z3_,xq_,List.append_assoc]);rw[e];exact y5_ _ _ c hc _ rfl
 · have e:z3_ a b c=xq_ a b c++(be4 (kh_ (xq_ a b c))++zm_ 44):=(by
    simp only[z3_,List.append_assoc]);rw[e];exact y5_ _ _ _ (gk_ _) _ (by rw[j9_])
 · have e:z3_ a b c=xq_ a b c++(be4 (kh_ (xq_ a b c))++zm_ 44):=(by
    simp only[z3_,List.append_assoc]);rw[e];exact List.take_left' (j9_ _ _ _)
end
def vD_ (l:List UInt8):Prop:=zz_ l 4<=2147483647/\zz_ l 8<=2147483647/\l=z3_ (zz_ l 4) (zz_ l 8) (zz_ l 12)
instance (l:List UInt8):Decidable (vD_ l):=by unfold vD_;exact inferInstance
theorem znp (a b c:Nat)(ha:a<=2147483647)(hb:b<=2147483647)(hc:c<4294967296):vD_ (z3_ a b c)/\zz_ (z3_ a b c) 4=a/\zz_ (z3_ a b c) 8=b/\zz_ (z3_ a b c) 12=c:=by
 obtain⟨h4,h8,h12,_,_⟩:=zkL a b c (by omega) (by omega) hc;have h4':zz_ (z3_ a b c) 4=a:=h4;have h8':zz_ (z3_ a b c) 8=b:=h8;have h12':zz_ (z3_ a b c) 12=c:=h12;refine⟨⟨by omega,by omega,by rw[h4',h8',h12']⟩,h4',h8',h12'⟩
def zq_ (L P E s:Int):Bool:=decide (1<=L/\L<=64/\1<=P/\P<=64/\2+L+P<=s/\1<=E)
theorem zj_ {L P E s:Int}:zq_ L P E s=true↔(1<=L/\L<=64/\1<=P/\P<=64/\2+L+P<=s/\1<=E):=by unfold zq_;exact decide_eq_true_iff
theorem xc_ {L P E s:Int}:zq_ L P E s=false↔¬(1<=L/\L<=64/\1<=P/\P<=64/\2+L+P<=s/\1<=E):=by unfold zq_;exact decide_eq_false_iff_not
structure RV where
  log:Nat
  pages:Nat
  epoch:Nat
def RV.zero:RV:=⟨0,0,0⟩
def zx_ (n:Int)(o:RV)(l:List UInt8):RV :=
 if vD_ l/\zq_ (zz_ l 4) (zz_ l 8) (zz_ l 12) n=true/\o.epoch<zz_ l 12 then ⟨zz_ l 4,zz_ l 8,zz_ l 12⟩ else o
theorem zcK {n:Int}{o:RV}{l:List UInt8}(h:o.log<4294967296/\o.pages<4294967296/\o.epoch<4294967296):(zx_ n o l).log<4294967296/\(zx_ n o l).pages<4294967296/\(zx_ n o l).epoch<4294967296:=by
 unfold zx_;split
 · exact⟨xj_ _ _,xj_ _ _,xj_ _ _⟩
 · exact h
def xa_ (S:List UInt8)(n i:Nat):List UInt8:=if i<n then (S.drop (i*64)).take 64 else []
theorem zoZ {l m:List UInt8}:((zi_ l).toList==(zi_ m).toList)=decide (l=m):=by
 rw[ByteArray.toList_eq,ByteArray.toList_eq];show(l==m)=decide (l=m);by_cases h:l=m
 · subst h;simp
 · rw[decide_eq_false h,beq_eq_false_iff_ne];exact h
section
variable {w:World} {A A2:Option Addr} {n c n2 c2:Nat}
theorem kM_ {l m:List UInt8}(h:Bs w A n c l)(h2:Bs w A2 n2 c2 m) :
    Calls Tryz.prog 95 #[.slice A n c,.slice A2 n2 c2] w fun e w'=>e=.returned (.bool (decide (l=m)))/\w=w':=by
 have v1:=h.str (P:=Tryz.prog) 39 5 9 Tryz.underlying39 Tryz.underlying5 Tryz.underlying9;have v2:=h2.str (P:=Tryz.prog) 39 5 9 Tryz.underlying39 Tryz.underlying5 Tryz.underlying9;have HE:=hQ_ (zoZ (l:=l) (m:=m));go_enter Tryz.func95,Tryz.ntmps95;go_wp2_with fail;go_ret;exact⟨by rw[<-HE.o];rfl,rfl⟩
end
theorem vk_ (z:Value)(n:Nat):Builtin.zeroCells #[z] n=(List.replicate n z).toArray:=by
 apply Array.ext
 · simp[Builtin.zeroCells]
 · intro i h1 h2;simp[Builtin.zeroCells,Nat.mod_one]
theorem xh_ {P:Program} (w:World) (base:Nat) (t tn ty e:TypeId) (i:TypeInfo) (z:Value) (bytes:Nat) (kn:IntKind) (ht:P.underlying t=some (.slice e)) (htn:P.underlying tn=some (.int kn)) (hi:P.info? e=some i) (hz:i.zero=some z)
    (hsize:i.size=1) (hby:i.bytes=bytes) (hzc:z.cells=#[z]) (hz1:z.oneCell'=true)
    (g n cap:Nat) (xs:List Value) (hown:w.ownsRow base e 1 (.slice (some ⟨g,0,none⟩) n cap) n xs)
    (k:Nat) (h63:n+k<=maxLen) (hbytes:(n+k)*bytes<=140737488355328) (hbase:base<=w.heap.size) :
    ∃ g' cap' w',(Builtin.append_ #[t,tn] ty #[.slice (some ⟨g,0,none⟩) n cap,.int .i64 (k:Int)]).run P w=.ok (.slice (some ⟨g',0,none⟩) (n+k) cap') w' /\
      w'.ownsRow base e 1 (.slice (some ⟨g',0,none⟩) (n+k) cap') (n+k) (xs++List.replicate k z)/\w.grownBy w' (some g)/\(g'=g\/g'=w.heap.size):=by
 have hsmall:n+k<=9223372036854775807:=by simpa only[maxLen] using h63
 have hw:IntKind.i64.wrap (k:Int)=k:=by rw[IntKind.wrap_i64];omega
 have hneg:¬((k:Int)<0):=by omega
 have h48:k*bytes<=281474976710656:=by have:k*bytes<=(n+k)*bytes:=Nat.mul_le_mul_right _ (by omega);omega
 have h48i:¬(281474976710656<(k:Int)*(i.bytes:Int)):=by rw[hby,<-Int.natCast_mul];omega
 have hlx:=hown.1;rcases hown.2 with⟨h,_⟩|⟨g',cap',cur,h,hbg,hg,hnc,hcm,hcs,htake⟩
 · simp at h
 · simp only[Value.slice.injEq,Option.some.injEq,Addr.mk.injEq,and_true,true_and]at h;obtain⟨rfl,rfl⟩:=h;rw[Nat.mul_one]at hcs htake hlx;by_cases hk0:k=0
   · subst hk0;refine⟨g,cap,w,?_,by simpa using hown,World.grownBy.refl w _,.inl rfl⟩;have hw0:IntKind.i64.wrap 0=0:=(by decide);simp[Builtin.append_,run_underlying ht,run_underlying htn,sizeOf,typeInfo,hi,asInt,asIntOf,storeCells,hnc,hw0]
   · have hns:¬(k*i.size=0):=(by rw[hsize];omega);by_cases hroom:n+k<=cap
     · have hfit:n+(List.replicate k z).length<=cur.size:=(by rw[List.length_replicate];omega);have hst:=run_storeCells_at P g n e (List.replicate k z) 0 cur w hg (by simpa using hfit) (fun u hu=>by rw[(List.mem_replicate.1 hu).2];exact hz1);simp only[Nat.add_zero]at hst;rw[List.length_replicate]at hst;have hr:(Builtin.append_ #[t,tn] ty #[.slice (some ⟨g,0,none⟩) n cap,.int .i64 (k:Int)]).run P w=.ok (.slice (some ⟨g,0,none⟩) (n+k) cap) (w.setRow g (cur.toList.take n++List.replicate k z++cur.toList.drop (n+k)).toArray):=(by
        simp[Builtin.append_,run_underlying ht,run_underlying htn,sizeOf,typeInfo,zeroValue,hi,hz,asInt,asIntOf,hw,hneg,h48i,hk0,hroom,hsize,hzc,vk_,Addr.add_lit,hst]);refine⟨_,_,_,hr,⟨by simp[hlx],.inr ⟨g,cap,_,rfl,hbg,setRow_heap w g cur _ e _ hg,hroom,hcm,?_,?_⟩⟩,⟨rfl,rfl,rfl,by simp,fun j _ hj=>setRow_other w g j _ (fun e=>hj (by simp[e]))⟩,.inl rfl⟩
       · simp only[List.size_toArray,List.length_append,List.length_take,List.length_drop,Array.length_toList,List.length_replicate];omega
       · rw[htake,Nat.mul_one];have e1:(xs++List.replicate k z).length=n+k:=(by rw[List.length_append,List.length_replicate,hlx]);rw[<-e1];exact List.take_left
     · have hf:=run_firstCells_some (P:=P) w.drew i.size n ⟨g,0,none⟩ n cap xs (by rw[hsize,Nat.mul_one];exact hlx) (fun j u hj=>hown.cells (g:=g) rfl j u hj);have hr:=Lib.run_append_grow_zeros (P:=P) w t tn ty e i z .i64 kn ht htn hi hz (some ⟨g,0,none⟩) n cap xs hf k (by omega) (by omega) (by omega) (by omega) (by rw[hby];exact h48) (by rw[hby];exact growslice_fits (by omega) hbytes);rw[hzc,vk_,vk_]at hr;have hge:=grownCap_ge w (n+k) cap e;have hcm2:grownCap w (n+k) cap e<=maxLen:=grownCap_le_maxLen w (n+k) cap e h63;refine⟨_,_,_,hr,⟨by simp[hlx],.inr ⟨w.heap.size,_,_,rfl,hbase,heap_alloc_new w.drew _,hge,hcm2,?_,?_⟩⟩,⟨rfl,rfl,rfl,by simp,fun j hj _=>Below.heap_alloc w.drew _ j hj⟩,.inr rfl⟩
       · simp only[Array.size_append,List.size_toArray,List.length_replicate,hlx];omega
       · simp only[Array.toList_append,Nat.mul_one];have e1:(xs++List.replicate k z).length=n+k:=(by rw[List.length_append,List.length_replicate,hlx]);rw[<-e1];exact List.take_left
theorem zp_ {W:World}{g:Nat}{x y z:Value}(h:zb_ W g 82 [x,y,z]):W.cell? ⟨g,0,none⟩=some x/\W.cell? ⟨g,1,none⟩=some y/\W.cell? ⟨g,2,none⟩=some z/\W.frozen? ⟨g,0,none⟩=false/\W.frozen? ⟨g,1,none⟩=false/\W.frozen? ⟨g,2,none⟩=false :=
 ⟨h.cell 0,h.cell 1,h.cell 2,h.frozen 0,h.frozen 1,h.frozen 2⟩
def xQ_ (L P page:Int):Int:=if page<0\/P<=page then -1 else wrap64 (wrap64 (2+L)+page)
section
variable {w:World}
theorem yb_ (L P E s:Int):Calls Tryz.prog 37 #[zB_ L P E,.int .i64 s] w (yd_ (zq_ L P E s) w):=by
 unfold zB_;by_cases h1:L<1
 · have HF:=hQ_ (show zq_ L P E s=false from xc_.2 (by omega));have hd:decide (L<1)=true:=(by simpa using h1);go_enter Tryz.func37,Tryz.ntmps37;go_wp2_with fail;go_ret;exact⟨by rw[HF.o];rfl,(Chg.refl _ _).alloc _⟩
 have hd1:decide (L<1)=false:=by simpa using h1
 by_cases h2:64<L
 · have HF:=hQ_ (show zq_ L P E s=false from xc_.2 (by omega));go_enter Tryz.func37,Tryz.ntmps37;go_wp2_with fail;go_ret;exact⟨by rw[HF.o];rfl,(Chg.refl _ _).alloc _⟩
 have hd2:decide (64<L)=false:=by simpa using h2
 by_cases h3:P<1
 · have HF:=hQ_ (show zq_ L P E s=false from xc_.2 (by omega));go_enter Tryz.func37,Tryz.ntmps37;go_wp2_with fail;go_ret;exact⟨by rw[HF.o];rfl,(Chg.refl _ _).alloc _⟩
 have hd3:decide (P<1)=false:=by simpa using h3
 by_cases h4:64<P
 · have HF:=hQ_ (show zq_ L P E s=false from xc_.2 (by omega));go_enter Tryz.func37,Tryz.ntmps37;go_wp2_with fail;go_ret;exact⟨by rw[HF.o];rfl,(Chg.refl _ _).alloc _⟩
 have hd4:decide (64<P)=false:=by simpa using h4
 have b1:1<=L:=by omega
 have b2:L<=64:=by omega
 have b3:1<=P:=by omega
 have b4:P<=64:=by omega
 by_cases h5:2+L+P<=s
 · have hd5:decide (2+L+P<=s)=true:=(by simpa using h5);have HF:=hQ_ (show zq_ L P E s=decide (1<=E) from by unfold zq_;congr 1;apply propext;omega);go_enter Tryz.func37,Tryz.ntmps37;go_wp2_with fail;go_ret;exact⟨by rw[HF.o];rfl,(Chg.refl _ _).alloc _⟩
 · have hd5:decide (2+L+P<=s)=false:=(by simpa using h5);have HF:=hQ_ (show zq_ L P E s=false from xc_.2 (by omega));go_enter Tryz.func37,Tryz.ntmps37;go_wp2_with fail;go_ret;exact⟨by rw[HF.o];rfl,(Chg.refl _ _).alloc _⟩
theorem gE_ (L P E page:Int):Calls Tryz.prog 125 #[zB_ L P E,.int .i64 page] w fun e w'=>e=.returned (.int .i64 (xQ_ L P page))/\Chg [] w w':=by
 unfold zB_;by_cases h1:page<0
 · have HF:=hQ_ (show xQ_ L P page=-1 by unfold xQ_;rw[if_pos (.inl h1)]);go_enter Tryz.func125,Tryz.ntmps125;go_wp2_with fail;go_ret;exact⟨y3_ HF.o.symm,(Chg.refl _ _).alloc _⟩
 have hd1:decide (page<0)=false:=by simpa using h1
 by_cases h2:P<=page
 · have HF:=hQ_ (show xQ_ L P page=-1 by unfold xQ_;rw[if_pos (.inr h2)]);go_enter Tryz.func125,Tryz.ntmps125;go_wp2_with fail;go_ret;exact⟨y3_ HF.o.symm,(Chg.refl _ _).alloc _⟩
 · have hd2:decide (P<=page)=false:=(by simpa using h2);have HF:=hQ_ (show xQ_ L P page=wrap64 (wrap64 (2+L)+page) by unfold xQ_;rw[if_neg (by omega)]);go_enter Tryz.func125,Tryz.ntmps125;go_wp2_with fail;go_ret;exact⟨y3_ HF.o.symm,(Chg.refl _ _).alloc _⟩
end
structure ChV where
  page:Int
  bA:Option Addr
  bn:Nat
  bc:Nat
  B:List UInt8
def chC (a:ChV):List Value:=[.int .i64 a.page,.slice a.bA a.bn a.bc]
structure ChOk (w:World) (a:ChV):Prop where
  p0:-9223372036854775808<=a.page
  p1:a.page<=9223372036854775807
  bs:Bs w a.bA a.bn a.bc a.B
structure Chs (w:World) (A:Option Addr) (l:List ChV):Prop where
  cells:0<l.length->∃g o,A=some ⟨g,o,none⟩/\g<w.heap.size/\∀k a,l[k]?=some a->w.cell? ⟨g,o+k*2,none⟩=some (.int .i64 a.page)/\w.cell? ⟨g,o+k*2+1,none⟩=some (.slice a.bA a.bn a.bc)
  ok:∀a∈l,ChOk w a
def zoF (a:ChV):Prop:=0<=a.page/\a.page<65536/\a.bn=64
theorem ChOk.keep {w w':World}{a:ChV}(h:ChOk w a)(hc:Chg [] w w'):ChOk w' a:={ h with bs:=h.bs.keep hc }
theorem Chs.nil (w:World)(A:Option Addr):Chs w A []:=⟨fun h=>absurd h (by simp),fun a ha=>by simp at ha⟩
theorem Chs.keep {w w':World}{A:Option Addr}{l:List ChV}(h:Chs w A l)(hc:Chg [] w w'):Chs w' A l:=by
 refine⟨fun h0=>?_,fun a ha=>(h.ok a ha).keep hc⟩;obtain⟨g,o,e,hg,hx⟩:=h.cells h0;refine⟨g,o,e,Nat.lt_of_lt_of_le hg hc.size,fun k a ha=>?_⟩;obtain⟨h1,h2⟩:=hx k a ha;have hk:∀j,w'.cell? ⟨g,j,none⟩=w.cell? ⟨g,j,none⟩:=fun j=>World.cell?_of_block (w:=w) (hc.block g hg (by simp));exact⟨(hk _).trans h1,(hk _).trans h2⟩
theorem jL_ {P:Program}{w:World}{ops:Array Oper}{o:Oper}{a:Act}{K:Act->World->Prop}{Q:Exit->Act->World->Prop}{E:Prop}(hgd:o.guard=none)(s x:Operand)(t:TypeId)
    (ho:o.op=.call { callee:=.builtin .append,args:=#[s,x],argTypes:=#[t,t] })
    (base:Nat) (e:TypeId) (i:TypeInfo) (z:Value) (bytes:Nat) (ht:P.underlying t=some (.slice e)) (hi:P.info? e=some i) (hz:i.zero=some z)
    (hsize:i.size=1) (hby:i.bytes=bytes) (hzs:z.cells.size=1)
    (v:Value) (n:Nat) (xs:List Value) (hse:a.eval s=v) (hown:w.ownsRow base e 1 v n xs)
    (A:Option Addr) (m c:Nat) (news:List Value) (hxe:a.eval x=.slice A m c) (hl:news.length=m) (hs:Src w A news) (h1:∀u∈news,u.oneCell'=true)
    (h63:n+m<=maxLen) (hbytes:(n+m)*bytes<=140737488355328) (hbase:base<=w.heap.size)
    (h:∀v' w',w'.ownsRow base e 1 v' (n+m) (xs++news)->w.grownBy w' v.ownBlock->K (a.put o.dst v') w') :
    if Region.wanted o (yielded ops a.tmps)=true then Oper.wp P o a w K Q else E:=by
 have hw:Region.wanted o (yielded ops a.tmps)=true:=by simp[Region.wanted,hgd]
 rw[if_pos hw];obtain⟨v',w',hrun,h2,h3,_⟩:=xO_ (P:=P) w base t o.type e i z bytes ht hi hz hsize hby hzs v n xs hown A m c news hl hs h1 h63 hbytes hbase;unfold Oper.wp execOp;simp only[ho,resolve,invoke,builtin,Sem.run_bind,Sem.run_pure,Result.andThen_ok,List.map_toArray,List.map_cons,List.map_nil,hse,hxe,hrun];exact h v' w' h2 h3
def be2 (k:Nat):List UInt8:=[UInt8.ofNat (k/256),UInt8.ofNat k]
theorem zos (k:Nat)(hk:k<65536):bts (be2 k)=[.int .u8 ((k:Int)/256),.int .u8 ((k:Int)%256)]:=by
 unfold be2 bts;simp only[List.map_cons,List.map_nil,B8,UInt8.toNat_ofNat'];have h1:k/256%2^8=k/256:=Nat.mod_eq_of_lt (by omega);rw[h1];congr 2
def yJ_ (last pages:Int):List ChV->Bool
  | []=>true
  | a::l=>!(decide (a.page<=last)||decide (pages<=a.page)||decide (a.bn≠64))&&yJ_ a.page pages l
def zF_ (pages:Int)(l:List ChV):Bool:=decide (pages<=64)&&yJ_ (-1) pages l
section
variable {w:World} {A:Option Addr} {n c:Nat}
theorem zdP {B m:Nat}{X:List UInt8}{v:Value}(hown:w.ownsRow B 5 1 v m (bts X))(hB:B<=w.heap.size)(k:Nat)(hk:k<65536)(hm:m<=1000000) :
    Calls Tryz.prog 121 #[v,.int .i64 (k:Int)] w fun e w'=>∃v',e=.returned v'/\w'.ownsRow B 5 1 v' (m+2) (bts (X++be2 k))/\(∀(g t:Nat)(cs:List Value),t≠5->zb_ w g t cs->zb_ w' g t cs)/\Low B w w':=by
 obtain⟨i0,hi,hz,hs1,hb⟩:=info_parts yC_;obtain⟨A1,c1,rfl,_,_,_,_⟩:=zr_ hown;have hbe:=hQ_ (zos k hk);have hx:bts (X++be2 k)=bts X++bts (be2 k):=by simp[bts]
 have HX:=hQ_ hx;clear hx;go_enter Tryz.func121,Tryz.ntmps121;go_wp2_with (first
  | (at_builtin;refine wpList_append_own _ rfl (.tmp 5) (.tmp 11) _ rfl B 5 i0 (.int .u8 0) 1 1 Tryz.underlying39 hi hz hs1 hb rfl (by decide) _ m (bts X) rfl (zk_ hown ((Chg.refl _ _).alloc _)) ⟨w.heap.size,0,none⟩ 2 2 [.int .u8 ((k:Int)/256),.int .u8 ((k:Int)%256)] rfl rfl ?c1 ?c2 ?c3 ?c4 ?c5 ?_;(case c1=>exact fun j u hj=>by rw[zl_,Nat.zero_add,(zb_.new w 5 [.int .u8 ((k:Int)/256),.int .u8 ((k:Int)%256)]).cell];exact hj);(case c2=>simp[Value.oneCell']);(case c3=>simp only[maxLen];omega);(case c4=>omega);(case c5=>simp;omega);intro v' w2 hown' hg' _));go_ret;refine⟨v',rfl,?_,fun g t cs ht hW=>zn_ (hW.keep ((Chg.refl [] w).alloc _)) (zk_ hown ((Chg.refl [] w).alloc _)) ht hg',(Low.of_chg ((Chg.refl [] w).alloc _)).trans (Low.of_own (zk_ hown ((Chg.refl [] w).alloc _)) hg')⟩;rw[HX.o,hbe.out];exact hown'
theorem jP_ {l:List ChV} (h:Chs w A l) (hl:l.length=n) (hn:n<=9223372036854775807) (pages:Int) :
    Calls Tryz.prog 79 #[.slice A n c,.int .i64 pages] w (yd_ (zF_ pages l) w):=by
 have H:=hQ_ h;have HL:=hQ_ hl;clear h hl;by_cases hp:64<pages
 · have hd:decide (64<pages)=true:=(by simp;omega);have HR:=hQ_ (show zF_ pages l=false by unfold zF_;rw[decide_eq_false (by omega)];rfl);go_enter Tryz.func79,Tryz.ntmps79;go_wp2_with fail;go_ret;exact⟨by rw[HR.o];rfl,Chg.refl _ _⟩
 · have hd:decide (64<pages)=false:=(by simp;omega);have HR:=hQ_ (show zF_ pages l=yJ_ (-1) pages l by unfold zF_;rw[decide_eq_true (by omega)];rfl);go_enter Tryz.func79,Tryz.ntmps79;go_wp2_with fail;go_loopw [5,12] (fun t i wr=>∃k:Nat,k<=n/\i=.int .i64 (k:Int)/\(∃last:Int,t=.int .i64 last/\Hid (zF_ pages l=yJ_ last pages (l.drop k)))/\Chg [] w wr) (fun _ i _=>n-(intOf i).toNat);(case atStart=>exact⟨0,Nat.zero_le _,rfl,⟨-1,rfl,by rw[List.drop_zero];exact HR⟩,Chg.refl _ _⟩);case round =>
    obtain⟨k,hk,rfl,⟨last,rfl,HK⟩,hcr⟩:=hrel;clear HR;by_cases hlt:k<n
    · obtain⟨a,ha⟩:∃a,l[k]?=some a:=⟨_,List.getElem?_eq_getElem (by have:=HL.o;omega)⟩;obtain⟨g,o,rfl,hg,hce⟩:=(H.o.keep hcr).cells (by have:=HL.o;omega);obtain⟨c0,c1⟩:=hce k a ha;have HD:=hQ_ (show l.drop k=a::l.drop (k+1) by rw[List.drop_eq_getElem_cons (by have:=HL.o;omega)];congr 1;have:=List.getElem?_eq_getElem (l:=l) (i:=k) (by have:=HL.o;omega);rw[this]at ha;injection ha);have HC:=hQ_ hcr;clear hce ha hcr;obtain⟨page,bA,bn,bc,B⟩:=a;simp only at c0 c1;have hkI:(k:Int)<(n:Int):=(by omega);by_cases h1:page<=last
      · have hd1:decide (page<=last)=true:=(by simp;omega);have HF:=hQ_ (show zF_ pages l=false by rw[HK.o,HD.o];simp[yJ_,h1]);go_wp2_with fail;go_ret;exact⟨by rw[HF.o];rfl,HC.o.alloc _⟩
      · have hd1:decide (page<=last)=false:=(by simp;omega);by_cases h2:pages<=page
        · have hd2:decide (pages<=page)=true:=(by simp;omega);have HF:=hQ_ (show zF_ pages l=false by rw[HK.o,HD.o];simp[yJ_,h2]);go_wp2_with fail;go_ret;exact⟨by rw[HF.o];rfl,HC.o.alloc _⟩
        · have hd2:decide (pages<=page)=false:=(by simp;omega);by_cases h3:bn=64
          · have HF:=hQ_ (show zF_ pages l=yJ_ page pages (l.drop (k+1)) by rw[HK.o,HD.o];simp only[yJ_];rw[decide_eq_false h1,decide_eq_false h2,decide_eq_false (by simpa using h3)];rfl);subst h3;go_wp2_with fail;go_roundw;(case rel=>exact⟨k+1,by omega,by go_num,⟨page,rfl,HF⟩,HC.o.alloc _⟩);case measure=>simp[intOf];omega
          · have HF:=hQ_ (show zF_ pages l=false by rw[HK.o,HD.o];simp[yJ_,h3]);have hd3:((bn:Int)==64)=false:=(by simp;omega);have hd4:(!((bn:Int)==64))=true:=(by simp;omega);go_wp2_with fail;go_ret;exact⟨by rw[HF.o];rfl,HC.o.alloc _⟩
    · have HF:=hQ_ (show zF_ pages l=true by rw[HK.o,List.drop_eq_nil_of_le (by have:=HL.o;omega)];rfl);have hkI:(n:Int)<=(k:Int):=(by omega);go_wp2_with fail;go_ret;exact⟨by rw[HF.o];rfl,hcr⟩
end
def xV_:List ChV->List Value
  | []=>[]
  | a::l=>chC a++xV_ l
theorem gW_:∀l,(xV_ l).length=l.length*2
  | []=>rfl
  | a::l=>by rw[xV_,List.length_append,gW_ l];simp[chC];omega
theorem ui_:∀l m,xV_ (l++m)=xV_ l++xV_ m
  | [],_=>rfl
  | a::l,m=>by rw[List.cons_append,xV_,xV_,ui_ l m,List.append_assoc]
theorem kd_ (a:ChV):xV_ [a]=chC a:=by simp[xV_]
theorem gX_:∀(l:List ChV)(k:Nat)(a:ChV)(j:Nat),l[k]?=some a->j<2->(xV_ l)[k*2+j]?=(chC a)[j]?
  | [],k,a,j,h,hj=>by simp at h
  | b::l,0,a,j,h,hj=>by
    simp at h;subst h;rw[xV_,List.getElem?_append_left (by simp[chC];omega)];congr 1;omega
  | b::l,k+1,a,j,h,hj=>by
    simp at h;rw[xV_,List.getElem?_append_right (by simp[chC];omega)];rw[<-gX_ l k a j h hj];congr 1;simp[chC];omega
structure MadeCh (w:World) (B0:Nat) (a:ChV):Prop where
  b:∃g,a.bA=some ⟨g,0,none⟩/\B0<=g/\zb_ w g 5 (bts a.B)
  bl:a.B.length=64
  bn:a.bn=64
  bc:a.bc=64
  p:0<=a.page/\a.page<65536
theorem MadeCh.ok {w:World}{B0:Nat}{a:ChV}(h:MadeCh w B0 a):ChOk w a:=by
 obtain⟨g,hg,_,hW⟩:=h.b;refine⟨by have:=h.p;omega,by have:=h.p;omega,?_⟩;rw[hg,h.bn,h.bc];have:=Bs.of_all hW (by rw[h.bl];omega);rwa[h.bl]at this
theorem MadeCh.small {w:World}{B0:Nat}{a:ChV}(h:MadeCh w B0 a):zoF a:=⟨h.p.1,h.p.2,h.bn⟩
theorem MadeCh.chg {w w':World}{B0:Nat}{a:ChV}{T:List Nat}(h:MadeCh w B0 a)(hc:Chg T w w')(hT:∀i∈T,i<B0\/w.heap.size<=i):MadeCh w' B0 a:=by
 obtain⟨g,hg,hB,hW⟩:=h.b;exact { h with b:=⟨g,hg,hB,hW.chg hc fun hm=>by have:=hT g hm;have:=hW.lt;omega⟩ }
theorem MadeCh.grown {w w':World}{B0 B2 m:Nat}{v2:Value}{ys:List Value}{a:ChV}(h:MadeCh w B0 a)(h2:w.ownsRow B2 123 2 v2 m ys)(hg:w.grownBy w' v2.ownBlock):MadeCh w' B0 a:=by
 obtain⟨g,hg1,hB,hW⟩:=h.b;exact { h with b:=⟨g,hg1,hB,zn_ hW h2 (by decide) hg⟩ }
theorem zR_ {w w':World}{B n k:Nat}{e:TypeId}{v:Value}{xs:List Value}{T:List Nat}(h:w.ownsRow B e k v n xs)(hc:Chg T w w')(hT:∀i∈T,i<B\/w.heap.size<=i):w'.ownsRow B e k v n xs:=by
 refine⟨h.1,h.2.imp id ?_⟩;rintro⟨g,cap,cur,rfl,hb,hg,r⟩;refine⟨g,cap,cur,rfl,hb,?_,r⟩;have hgl:g<w.heap.size:=by
  rcases Nat.lt_or_ge g w.heap.size with hlt|hge
  · exact hlt
  · rw[Array.getElem?_eq_none hge]at hg;cases hg
 rw[hc.block g hgl (fun hm=>by have:=hT g hm;omega)];exact hg
theorem zom {w:World}{B B0 n:Nat}{e:TypeId}{v:Value}{l:List ChV}(h:w.ownsRow B e 2 v n (xV_ l))(hok:∀a∈l,MadeCh w B0 a) :
    ∃A c,v=.slice A n c/\l.length=n/\Chs w A l/\n<=9223372036854775807/\n<=c/\(∀ad,A=some ad->ad.spot=none):=by
 have hl:l.length=n:=by have:=h.1;rw[gW_]at this;omega
 rcases h.2 with⟨rfl,rfl⟩|⟨g,cap,cur,rfl,hb,hg,hn,hc,hs,ht⟩
 · exact⟨none,0,rfl,hl,⟨fun h=>absurd h (by omega),fun a ha=>(hok a ha).ok⟩,by omega,Nat.le_refl _,fun ad e=>by cases e⟩
 · have hgl:g<w.heap.size:=by
    rcases Nat.lt_or_ge g w.heap.size with hlt|hge
    · exact hlt
    · rw[Array.getElem?_eq_none hge]at hg;cases hg
   refine⟨_,cap,rfl,hl,⟨fun _=>⟨g,0,rfl,hgl,fun k a ha=>?_⟩,fun a ha=>(hok a ha).ok⟩,by unfold maxLen at hc;omega,hn,fun ad e=>by injection e with e;subst e;rfl⟩;have hx:∀j u,(xV_ l)[j]?=some u->w.cell? ((⟨g,0,none⟩:Addr).add j)=some u:=h.cells rfl;have q:∀j,j<2->∀u,(chC a)[j]?=some u->w.cell? ⟨g,k*2+j,none⟩=some u:=fun j hj u hu=>(by
    have:=hx (k*2+j) u ((gX_ l k a j ha hj).trans hu);rwa[zl_,Nat.zero_add]at this);simp only[Nat.zero_add];exact⟨q 0 (by omega) _ rfl,q 1 (by omega) _ rfl⟩
theorem vv_:(Tryz.prog.info? 123).map (fun i=>(i.zero,i.size,i.bytes))=some (some (.agg #[.int .i64 0,.slice none 0 0]),2,32):=by kernel_rfl
theorem zL_ (w:World)(xs:List Value)(t:Nat):∀(j:Nat)(u:Value),xs[j]?=some u->(w.alloc (.cells xs.toArray t)).cell? ((⟨w.heap.size,0,none⟩:Addr).add j)=some u:=fun j u hj=>by
 rw[zl_,Nat.zero_add,(zb_.new w t xs).cell];exact hj
structure RMade (w:World) (B0:Nat) (a:ChV):Prop where
  b:∃g r,a.bA=some ⟨g,0,none⟩/\B0<=g/\zb_ w g 5 (bts a.B++r)/\a.bc=64+r.length/\64+r.length<=9223372036854775807
  bl:a.B.length=64
  bn:a.bn=64
  p:0<=a.page/\a.page<65536
theorem RMade.ok {w:World}{B0:Nat}{a:ChV}(h:RMade w B0 a):ChOk w a:=by
 obtain⟨g,r,hg,_,hW,hc,hm⟩:=h.b;refine⟨by have:=h.p;omega,by have:=h.p;omega,?_⟩;rw[hg,h.bn,hc];exact Bs.of_whole hW h.bl (by rw[List.take_left' (by rw[zg_,h.bl])]) (by omega) hm
theorem RMade.chg {w w':World}{B0:Nat}{a:ChV}{T:List Nat}(h:RMade w B0 a)(hc:Chg T w w')(hT:∀i∈T,i<B0\/w.heap.size<=i):RMade w' B0 a:=by
 obtain⟨g,r,hg,hB,hW,hr⟩:=h.b;exact { h with b:=⟨g,r,hg,hB,hW.chg hc (fun hm=>by have:=hT g hm;have:=hW.lt;omega),hr⟩ }
theorem RMade.grown {w w':World}{B0 B2 m:Nat}{v2:Value}{ys:List Value}{a:ChV}(h:RMade w B0 a)(h2:w.ownsRow B2 123 2 v2 m ys)(hg:w.grownBy w' v2.ownBlock):RMade w' B0 a:=by
 obtain⟨g,r,hg1,hB,hW,hr⟩:=h.b;exact { h with b:=⟨g,r,hg1,hB,zn_ hW h2 (by decide) hg,hr⟩ }
theorem jr_ {w:World}{B n:Nat}{e:TypeId}{v:Value}{l:List ChV}(h:w.ownsRow B e 2 v n (xV_ l))(hok:∀a∈l,ChOk w a) :
    ∃A c,v=.slice A n c/\l.length=n/\Chs w A l/\n<=9223372036854775807/\n<=c/\(∀ad,A=some ad->ad.spot=none):=by
 have hl:l.length=n:=by have:=h.1;rw[gW_]at this;omega
 rcases h.2 with⟨rfl,rfl⟩|⟨g,cap,cur,rfl,hb,hg,hn,hc,hs,ht⟩
 · exact⟨none,0,rfl,hl,⟨fun h=>absurd h (by omega),hok⟩,by omega,Nat.le_refl _,fun ad e=>by cases e⟩
 · have hgl:g<w.heap.size:=by
    rcases Nat.lt_or_ge g w.heap.size with hlt|hge
    · exact hlt
    · rw[Array.getElem?_eq_none hge]at hg;cases hg
   refine⟨_,cap,rfl,hl,⟨fun _=>⟨g,0,rfl,hgl,fun k a ha=>?_⟩,hok⟩,by unfold maxLen at hc;omega,hn,fun ad e=>by injection e with e;subst e;rfl⟩;have hx:∀j u,(xV_ l)[j]?=some u->w.cell? ((⟨g,0,none⟩:Addr).add j)=some u:=h.cells rfl;have q:∀j,j<2->∀u,(chC a)[j]?=some u->w.cell? ⟨g,k*2+j,none⟩=some u:=fun j hj u hu=>(by
    have:=hx (k*2+j) u ((gX_ l k a j ha hj).trans hu);rwa[zl_,Nat.zero_add]at this);simp only[Nat.zero_add];exact⟨q 0 (by omega) _ rfl,q 1 (by omega) _ rfl⟩
theorem MadeCh.rmade {w:World}{B0:Nat}{a:ChV}(h:MadeCh w B0 a):RMade w B0 a:=by
 obtain⟨g,hg,hB,hW⟩:=h.b;exact⟨⟨g,[],hg,hB,by rw[List.append_nil];exact hW,by rw[h.bc];rfl,by simp⟩,h.bl,h.bn,h.p⟩
def Into (n lo hi r:Int):Prop:=lo<=r/\r<=hi/\(lo<=n->n<=hi->r=n)
def zfW (n lo hi:Int)(w:World)(e:Ending)(w':World):Prop:=∃r:Int,Into n lo hi r/\e=.returned (.int .i64 r)/\w=w'
def yZ_ (n lo hi:Int):Int:=if lo<=n/\n<=hi then n else if n.tmod (hi-lo+1)<0 then lo+(n.tmod (hi-lo+1)+hi-lo+1) else lo+n.tmod (hi-lo+1)
theorem zcp (n lo hi:Int)(h1:lo<=hi):Into n lo hi (yZ_ n lo hi):=by
 have b1:=Int.tmod_lt_of_pos n (show 0<hi-lo+1 by omega);have b2:=Int.lt_tmod_of_pos n (show 0<hi-lo+1 by omega);unfold yZ_;split
 · rename_i h;exact⟨h.1,h.2,fun _ _=>rfl⟩
 · rename_i h;split
   · exact⟨by omega,by omega,fun ha hb=>absurd ⟨ha,hb⟩ h⟩
   · exact⟨by omega,by omega,fun ha hb=>absurd ⟨ha,hb⟩ h⟩
theorem x4_ {a b:Int}(h:a=b):Ending.returned (.int .i64 a)=.returned (.int .i64 b):=by rw[h]
section
variable {w:World}
theorem zgj (n lo hi:Int)(h0:-1000000<=lo)(h1:lo<=hi)(h2:hi<=1000000)(hn0:-9223372036854775808<=n)(hn1:n<=9223372036854775807) :
    Calls Tryz.prog 7 #[.int .i64 n,.int .i64 lo,.int .i64 hi] w fun e w'=>e=.returned (.int .i64 (yZ_ n lo hi))/\w=w':=by
 have b1:=Int.tmod_lt_of_pos n (show 0<hi-lo+1 by omega);have b2:=Int.lt_tmod_of_pos n (show 0<hi-lo+1 by omega);have hne:((hi-lo+1)==0)=false:=by simp;omega
 by_cases ha:lo<=n
 · by_cases hb:n<=hi
   · have HI:=hQ_ (show yZ_ n lo hi=n by unfold yZ_;rw[if_pos ⟨ha,hb⟩]);go_enter Tryz.func7,Tryz.ntmps7;go_wp2_with fail;go_ret;exact⟨x4_ HI.o.symm,rfl⟩
   · by_cases hm:n.tmod (hi-lo+1)<0
     · have HI:=hQ_ (show yZ_ n lo hi=lo+(n.tmod (hi-lo+1)+hi-lo+1) by unfold yZ_;rw[if_neg (fun h=>hb h.2),if_pos hm]);go_enter Tryz.func7,Tryz.ntmps7;go_wp2_with fail;go_ret;exact⟨x4_ HI.o.symm,rfl⟩
     · have HI:=hQ_ (show yZ_ n lo hi=lo+n.tmod (hi-lo+1) by unfold yZ_;rw[if_neg (fun h=>hb h.2),if_neg hm]);go_enter Tryz.func7,Tryz.ntmps7;go_wp2_with fail;go_ret;exact⟨x4_ HI.o.symm,rfl⟩
 · have hd:decide (lo<=n)=false:=(by simp;omega);by_cases hm:n.tmod (hi-lo+1)<0
   · have HI:=hQ_ (show yZ_ n lo hi=lo+(n.tmod (hi-lo+1)+hi-lo+1) by unfold yZ_;rw[if_neg (fun h=>ha h.1),if_pos hm]);go_enter Tryz.func7,Tryz.ntmps7;go_wp2_with fail;go_ret;exact⟨x4_ HI.o.symm,rfl⟩
   · have HI:=hQ_ (show yZ_ n lo hi=lo+n.tmod (hi-lo+1) by unfold yZ_;rw[if_neg (fun h=>ha h.1),if_neg hm]);go_enter Tryz.func7,Tryz.ntmps7;go_wp2_with fail;go_ret;exact⟨x4_ HI.o.symm,rfl⟩
theorem zew (n lo hi:Int)(h0:-1000000<=lo)(h1:lo<=hi)(h2:hi<=1000000)(hn0:-9223372036854775808<=n)(hn1:n<=9223372036854775807) :
    Calls Tryz.prog 7 #[.int .i64 n,.int .i64 lo,.int .i64 hi] w (zfW n lo hi w) :=
 (zgj n lo hi h0 h1 h2 hn0 hn1).mono fun _ _ ⟨h1',h2'⟩=>⟨_,zcp n lo hi h1,h1',h2'⟩
end
section
variable {w w':World} {p n c at_:Nat} {A:Option Addr} {l:List Int}
theorem vd_ {T:List Nat}{a w w':World}{row:Option Nat}(h:Chg T a w)(hg:w.grownBy w' row)(hr:∀g,row=some g->a.heap.size<=g):Chg T a w' :=
 h.then_ (T':=row.toList) (Chg.of_grown hg fun g e _=>by simp[e]) fun i hi hlt=>by
  have:=hr i (by simpa using hi);omega
end
def v9_ (l:List UInt8):Nat:=(l.getD 0 0).toNat*256+(l.getD 1 0).toNat
theorem jY_ (a:Nat)(h:a<65536):(BitVec.ofInt 64 (a:Int)).toNat=a:=by
 rw[BitVec.toNat_ofInt];omega
theorem zpe (x y:UInt8):bits .or .i64 ((x.toNat:Int)*256) (y.toNat:Int)=((x.toNat*256+y.toNat:Nat):Int):=by
 have hx:=x.toNat_lt;have hy:=y.toNat_lt;have e1:(x.toNat:Int)*256=((x.toNat*256:Nat):Int):=by omega
 rw[e1];show IntKind.i64.wrap ((BitVec.ofInt 64 ((x.toNat*256:Nat):Int) ||| BitVec.ofInt 64 (y.toNat:Int)).toNat:Int)=_;rw[BitVec.toNat_or,jY_ _ (by omega),jY_ _ (by omega),nat_join 8 (x.toNat*256) y.toNat (by omega) (by omega)];exact IntWalk.i64_in _ (by omega)
theorem zkM {a b:Int}(h:a=b):Ending.returned (.int .i64 a)=.returned (.int .i64 b):=by rw[h]
section
variable {w:World} {A:Option Addr} {n c:Nat} {l:List UInt8}
theorem zdT (h:Bs w A n c l)(hn:2<=n) :
    Calls Tryz.prog 150 #[.slice A n c] w fun e w'=>e=.returned (.int .i64 (v9_ l:Nat))/\Chg [] w w':=by
 obtain⟨x,y,t,rfl⟩:∃x y t,l=x::y::t:=by
  match l,h.len with
  | [],h0=>simp at h0;omega
  | [_],h0=>simp at h0;omega
  | x::y::t,_=>exact⟨x,y,t,rfl⟩
 obtain⟨ad,rfl,_,hx⟩:=h.src (by simp[bts]);obtain⟨b,o,s⟩:=ad;obtain rfl:s=none:=h.spot (by omega) _ rfl;have h0:=hx 0 (B8 x) rfl;have h1:=hx 1 (B8 y) rfl;rw[zl_,Nat.add_zero]at h0;rw[zl_]at h1;unfold B8 at h0 h1;have hx256:=x.toNat_lt;have hy256:=y.toNat_lt;have hnI:(1:Int)<(n:Int):=by omega
 have hnJ:(0:Int)<(n:Int):=by omega
 clear hx;go_enter Tryz.func150,Tryz.ntmps150;go_wp2_with fail;go_quiet (fail);go_wp2_with fail;go_ret;exact⟨zkM (by rw[zpe];simp[v9_]),(Chg.refl _ _).drewN _⟩
end
def chB (a:ChV):List UInt8:=be2 a.page.toNat++a.B
def qx_:List ChV->List UInt8
  | []=>[]
  | a::l=>chB a++qx_ l
theorem zdZ:∀l m,qx_ (l++m)=qx_ l++qx_ m
  | [],_=>rfl
  | a::l,m=>by rw[List.cons_append,qx_,qx_,zdZ l m,List.append_assoc]
theorem zjq (l:List ChV)(k:Nat)(a:ChV)(h:l[k]?=some a):qx_ (l.take (k+1))=qx_ (l.take k)++chB a:=by
 obtain⟨hk,rfl⟩:=List.getElem?_eq_some_iff.1 h;rw[List.take_succ_eq_append_getElem hk,zdZ];simp[qx_]
def zD_ (l:List ChV):List UInt8:=be2 l.length++qx_ l
section
variable {w:World} {A:Option Addr} {n c:Nat}
theorem zfN {l:List ChV} (h:Chs w A l) (hs:∀a∈l,zoF a) (hl:l.length=n) (hn:n<=1000) :
    Calls Tryz.prog 82 #[.slice A n c] w (xE_ w (zD_ l)):=by
 obtain⟨i0,hi,hz,hs1,hb⟩:=info_parts yC_;have H:=hQ_ h;have HL:=hQ_ hl;have HS:=hQ_ hs;clear h hl hs;have hmk:∀W:World,(Instr.makeSlice 39 (.int .i64 0) (.int .i64 (2+(n:Int)*66))).run Tryz.prog W=.ok (.slice (some ⟨W.heap.size,0,none⟩) 0 (2+n*66)) (W.alloc (.cells (bts (zm_ (2+n*66))).toArray 5)):=by
  intro W;rw[yT_];have:=x1_ (P:=Tryz.prog) 39 5 i0 _ rfl Tryz.underlying39 hi hz hs1 (2+n*66) (by rw[hb];omega) (by omega) W;simpa using this
 have ho0:(w.alloc (.cells (bts (zm_ (2+n*66))).toArray 5)).ownsRow w.heap.size 5 1 (.slice (some ⟨w.heap.size,0,none⟩) 0 (2+n*66)) 0 (bts []):=by
  have:=z0_ (B:=w.heap.size) (n:=0) (c:=2+n*66) (zb_.new w 5 (bts (zm_ (2+n*66)))) (Nat.le_refl _) (by simp[zg_,zE_]) (by omega) (by unfold maxLen;omega);simpa[bts] using this
 go_enter Tryz.func82,Tryz.ntmps82;go_wp2_with fail;refine(zdP ho0 (by simp) n (by omega) (by omega)).mono ?_;rintro e w1 ⟨v1,rfl,ho1,_,hL1⟩;have hc1:Chg [] w w1:=((Low.of_chg (B:=w.heap.size) ((Chg.refl [] w).alloc _)).trans hL1).chg (Nat.le_refl _);simp only[Nat.zero_add,List.nil_append]at ho1;clear ho0 hL1;go_wp2_with fail;go_loopw [3,16] (fun t i wr=>∃k:Nat,k<=n/\i=.int .i64 (k:Int)/\wr.ownsRow w.heap.size 5 1 t (2+k*66) (bts (be2 n++qx_ (l.take k)))/\Chg [] w wr) (fun _ i _=>n-(intOf i).toNat);case atStart=>exact⟨0,Nat.zero_le _,rfl,by simpa[qx_] using ho1,hc1⟩
 case round =>
  obtain⟨k,hk,rfl,hown,hcr⟩:=hrel;have hwr:=hcr.size;clear ho1 hc1;by_cases hlt:k<n
  · obtain⟨a,ha⟩:∃a,l[k]?=some a:=⟨_,List.getElem?_eq_getElem (by have:=HL.o;omega)⟩;have ham:=List.mem_of_getElem? ha;obtain⟨g,o,rfl,hg,hce⟩:=(H.o.keep hcr).cells (by have:=HL.o;omega);obtain⟨c0,c1⟩:=hce k a ha;have hbs:=(H.o.ok a ham).bs;obtain⟨hp0,hp1,hbn⟩:=HS.o a ham;have HT:=hQ_ (zjq l k a ha);have HC:=hQ_ hcr;clear hce ha ham hcr;obtain⟨page,bA,bn,bc,Bb⟩:=a;simp only at c0 c1 hbs hp0 hp1 hbn;subst hbn;obtain⟨q,rfl⟩:=Int.eq_ofNat_of_zero_le hp0;have HBS:=hQ_ hbs;clear hbs;obtain⟨A3,c3,rfl,_,_,_,_⟩:=zr_ hown;obtain⟨X,hX⟩:∃X,X=be2 n++qx_ (l.take k):=⟨_,rfl⟩;rw[<-hX]at hown;have HX:=hQ_ hX;clear hX;have hkI:(k:Int)<(n:Int):=(by omega);go_wp2_with fail;have hz0:=zb_.new wr 123 [.int .i64 (q:Int),.slice bA 64 bc];have hal:Chg [] wr (wr.alloc (.cells #[.int .i64 (q:Int),.slice bA 64 bc] 123)):=(Chg.refl [] wr).alloc _;have HW0:=hQ_ hal;have HZ0:=hQ_ hz0;clear hal hz0 c0 c1;go_region_law (first
     | (refine jL_ rfl (.tmp 23) (.tmp 25) 39 rfl w.heap.size 5 i0 _ 1 Tryz.underlying39 hi hz hs1 hb uj_ v2 (2+k*66+2) (bts (X++be2 q)) rfl ho2 bA 64 bc (bts Bb) rfl hbl hsB (yc_ _) hx1 hx2 hx3 ?_;intro v5 w5 ho5 hg5)
     | (go_simp;go_at_call 121;refine(zdP (zk_ hown HW0.o.drew) (by simp;omega) q (by omega) (by omega)).mono ?_;rintro e w2 ⟨v2,rfl,ho2,hk2,hL2⟩;have hz2:=hk2 _ _ _ (by decide) HZ0.o.drew;have hc2:Chg [] w w2:=((Low.of_chg (B:=w.heap.size) (HC.o.new HW0.o).drew).trans hL2).chg (Nat.le_refl _);have hB2:=HBS.o.keep hc2;have hbl:(bts Bb).length=64:=(by rw[zg_];exact hB2.len);have hsB:=hB2.src;have hx1:2+k*66+2+64<=maxLen:=(by unfold maxLen;omega);have hx2:(2+k*66+2+64)*1<=140737488355328:=(by omega);have hx3:w.heap.size<=w2.heap.size:=hc2.size;have z0:=hz2.cell 0;have z1:=hz2.cell 1));all_goals
      have hL5:Low w.heap.size w2 w5:=Low.of_own ho2 hg5;have hc5:Chg [] w w5:=((Low.of_chg hc2).trans hL5).chg (Nat.le_refl _);clear hg5;go_wp2_with fail;go_roundw;case rel =>
       refine⟨k+1,by omega,by go_num,?_,hc5⟩;have e1:bts (be2 n++qx_ (l.take (k+1)))=bts (X++be2 q)++bts Bb:=(by
        rw[HT.o,<-List.append_assoc,<-HX.o];simp[chB,bts]);rw[e1,show 2+(k+1)*66=2+k*66+2+64 by omega];exact ho5
      case measure=>simp[intOf];omega
  · obtain rfl:n=k:=(by omega);have HK:=hQ_ (show l.take n=l by rw[List.take_of_length_le (by rw[HL.o];exact Nat.le_refl _)]);rw[HK.o]at hown;have e1:be2 n++qx_ l=zD_ l:=(by unfold zD_;rw[HL.o]);rw[e1]at hown;have e2:2+n*66=(zD_ l).length:=(by have:=hown.1;rw[zg_]at this;omega);rw[e2]at hown;have HO:=hQ_ hown;clear e1 e2 hown;go_wp2_with fail;go_ret;exact⟨_,rfl,HO.o,hcr⟩
end
theorem zhM (W:World):(Instr.makeSlice 39 (.int .i64 64) (.int .i64 64)).run Tryz.prog W=.ok (.slice (some ⟨W.heap.size,0,none⟩) 64 64) (W.alloc (.cells (bts (zm_ 64)).toArray 5)):=by
 obtain⟨i,hi,hz,hs1,hb⟩:=info_parts yC_;rw[yT_];exact x0_ 39 5 i (.int .u8 0) rfl Tryz.underlying39 hi hz hs1 64 (by rw[hb];omega) (by omega) W
def zbI (a:ChV):Int×List UInt8:=(a.page,a.B)
def yU_ (n:Nat)(S:List UInt8):Nat->RV
  | 0=>RV.zero
  | k+1=>zx_ n (yU_ n S k) (xa_ S n k)
theorem g0_ (n:Nat)(S:List UInt8):∀k,(yU_ n S k).log<4294967296/\(yU_ n S k).pages<4294967296/\(yU_ n S k).epoch<4294967296
  | 0=>⟨by show 0<_;omega,by show 0<_;omega,by show 0<_;omega⟩
  | k+1=>zcK (g0_ n S k)
theorem zgQ {S x:List UInt8}{n k:Nat}(hS:S.length=64*n)(hk:k<n)(hx:x.length=64):xa_ (splice S (k*64) x) n k=x:=by
 unfold xa_ splice;rw[if_pos hk,List.drop_left' (by rw[List.length_take];omega),List.take_left' hx]
theorem zeU {S x:List UInt8}{n k j:Nat}(hS:S.length=64*n)(hk:k<n)(hx:x.length=64)(hj:j≠k):xa_ (splice S (k*64) x) n j=xa_ S n j:=by
 unfold xa_ splice;split
 · rcases Nat.lt_or_ge j k with h|h
   · rw[List.drop_append_of_le_length (by rw[List.length_take];omega),List.take_append_of_le_length (by rw[List.length_drop,List.length_take];omega),List.drop_take,List.take_take,Nat.min_eq_left (by omega)]
   · have hl:(S.take (k*64)++x).length=k*64+64:=(by rw[List.length_append,List.length_take,hx];omega);rw[<-List.append_assoc,List.drop_append,List.drop_eq_nil_of_le (by omega),List.nil_append,hl,hx,List.drop_drop];congr 2;omega
 · rfl
section
variable {w w':World} {B B2 n m k k2:Nat} {e e2:TypeId} {v v2:Value} {xs ys:List Value}
theorem ze_ (h:w.ownsRow B e k v n xs)(hc:Chg [] w w'):w'.ownsRow B e k v n xs:=by
 refine⟨h.1,h.2.imp id ?_⟩;rintro⟨g,cap,cur,rfl,hb,hg,r⟩;refine⟨g,cap,cur,rfl,hb,?_,r⟩;rw[hc.block g ?_ (by simp)]
 · exact hg
 · rcases Nat.lt_or_ge g w.heap.size with hlt|hge
   · exact hlt
   · rw[Array.getElem?_eq_none hge]at hg;cases hg
theorem zh_ (h:w.ownsRow B e k v n xs):∃A c,v=.slice A n c/\n<=c/\c<=9223372036854775807/\(∀ad,A=some ad->ad.spot=none/\B<=ad.block/\ad.off=0/\ad.block<w.heap.size):=by
 rcases h.2 with⟨rfl,rfl⟩|⟨g,cap,cur,rfl,hb,hg,hn,hc,hs,ht⟩
 · exact⟨none,0,rfl,Nat.le_refl _,by omega,fun ad h=>by cases h⟩
 · have hgl:g<w.heap.size:=by
    rcases Nat.lt_or_ge g w.heap.size with hlt|hge
    · exact hlt
    · rw[Array.getElem?_eq_none hge]at hg;cases hg
   exact⟨some ⟨g,0,none⟩,cap,rfl,hn,by unfold maxLen at hc;omega,fun ad h=>by injection h with h;subst h;exact⟨rfl,hb,rfl,hgl⟩⟩
theorem zv_ (h:w.ownsRow B e k v n xs){A:Option Addr}{c:Nat}(hv:v=.slice A n c){j:Nat}{u:Value}(hj:xs[j]?=some u):∃g,A=some ⟨g,0,none⟩/\w.cell? ⟨g,j,none⟩=some u:=by
 rcases h.2 with⟨rfl,rfl⟩|⟨g,cap,cur,rfl,hb,hg,hn,hc,hs,ht⟩
 · have:=(List.getElem?_eq_some_iff.1 hj).1;have h1:=h.1;simp at h1;subst h1;simp at hj
 · injection hv with h1;refine⟨g,h1.symm,?_⟩;have:=h.cells (g:=g) rfl j u hj;rwa[zl_,Nat.zero_add]at this
theorem yj_ (h:w.ownsRow B e k v n xs)(h2:w.ownsRow B2 e2 k2 v2 m ys)(hne:e≠e2)(hg:w.grownBy w' v2.ownBlock):w'.ownsRow B e k v n xs:=by
 refine⟨h.1,h.2.imp id ?_⟩;rintro⟨g,cap,cur,rfl,hb,hh,r⟩;refine⟨g,cap,cur,rfl,hb,?_,r⟩;rw[hg.block g ?_ ?_]
 · exact hh
 · rcases Nat.lt_or_ge g w.heap.size with hlt|hge
   · exact hlt
   · rw[Array.getElem?_eq_none hge]at hh;cases hh
 · intro hc;rcases h2.2 with⟨rfl,_⟩|⟨g2,cap2,cur2,rfl,hb2,hh2,_⟩
   · simp[Value.ownBlock]at hc
   · simp[Value.ownBlock]at hc;subst hc;rw[hh]at hh2;simp at hh2;exact hne hh2.2
end
section
variable {p B B3 n c:Nat} {A:Option Addr} {l:List Int}
theorem tf_lt {W:World}{g:Nat}{o:Obj}(h:W.heap[g]?=some o):g<W.heap.size:=by
 rcases Nat.lt_or_ge g W.heap.size with hlt|hge
 · exact hlt
 · rw[Array.getElem?_eq_none hge]at h;cases h
end
structure TkV where
  sign:Int
  n:Int
  name:Int
def tkC (t:TkV):List Value:=[.int .i32 t.sign,.int .i64 t.n,.int .i32 t.name]
def vB_:List TkV->List Value
  | []=>[]
  | t::l=>tkC t++vB_ l
theorem yE_:∀l,(vB_ l).length=l.length*3
  | []=>rfl
  | t::l=>by rw[vB_,List.length_append,yE_ l];simp[tkC];omega
theorem y2_:∀l m,vB_ (l++m)=vB_ l++vB_ m
  | [],_=>rfl
  | t::l,m=>by rw[List.cons_append,vB_,vB_,y2_ l m,List.append_assoc]
theorem vl_:∀(l:List TkV)(k:Nat)(t:TkV)(j:Nat),l[k]?=some t->j<3->(vB_ l)[k*3+j]?=(tkC t)[j]?
  | [],k,t,j,h,hj=>by simp at h
  | u::l,0,t,j,h,hj=>by
    simp at h;subst h;rw[vB_,List.getElem?_append_left (by simp[tkC];omega)];congr 1;omega
  | u::l,k+1,t,j,h,hj=>by
    simp at h;rw[vB_,List.getElem?_append_right (by simp[tkC];omega)];rw[<-vl_ l k t j h hj];congr 1;simp[tkC];omega
def yn_ (l:List TkV):List Int:=l.map (·.sign)
theorem q2_:(Tryz.prog.info? 132).map (fun i=>(i.zero,i.size,i.bytes))=some (some (.agg #[.int .i32 0,.int .i64 0,.int .i32 0]),3,24):=by kernel_rfl
structure Tks (W:World) (A:Option Addr) (n c:Nat) (l:List TkV):Prop where
  len:l.length=n
  src:Src W A (vB_ l)
  cap:n<=c
  max:n<=100000
  spot:0<n->∀ad,A=some ad->ad.spot=none
section
variable {W W':World} {A:Option Addr} {n c:Nat} {l:List TkV}
theorem Tks.keep (h:Tks W A n c l)(hc:Chg [] W W'):Tks W' A n c l:=⟨h.len,h.src.keep hc,h.cap,h.max,h.spot⟩
theorem Tks.nil (W:World):Tks W none 0 0 []:=⟨rfl,Src.nil _ _,Nat.le_refl _,by omega,fun h=>absurd h (by omega)⟩
theorem Tks.cell (h:Tks W A n c l){k:Nat}{t:TkV}(hk:l[k]?=some t):∃b o,A=some ⟨b,o,none⟩/\b<W.heap.size/\W.cell? ⟨b,o+k*3,none⟩=some (.int .i32 t.sign)/\W.cell? ⟨b,o+k*3+1,none⟩=some (.int .i64 t.n)/\W.cell? ⟨b,o+k*3+2,none⟩=some (.int .i32 t.name):=by
 have hkl:=(List.getElem?_eq_some_iff.1 hk).1;obtain⟨⟨b,o,s⟩,e,hb,hx⟩:=h.src (by rw[yE_];omega);obtain rfl:s=none:=h.spot (by have:=h.len;omega) _ e;refine⟨b,o,e,hb,?_,?_,?_⟩
 · have:=hx _ _ ((vl_ l k t 0 hk (by omega)).trans rfl);rwa[zl_]at this
 · have:=hx _ _ ((vl_ l k t 1 hk (by omega)).trans rfl);rwa[zl_]at this
 · have:=hx _ _ ((vl_ l k t 2 hk (by omega)).trans rfl);rwa[zl_]at this
theorem Tks.of_own {B:Nat}{e:TypeId}{v:Value}(h:W.ownsRow B e 3 v n (vB_ l))(hm:n<=100000):∃A c,v=.slice A n c/\Tks W A n c l:=by
 have hl:l.length=n:=by have:=h.1;rw[yE_]at this;omega
 rcases h.2 with⟨rfl,rfl⟩|⟨g,cap,cur,rfl,hb,hg,hn,hc,hs,ht⟩
 · exact⟨none,0,rfl,hl,fun h=>absurd h (by rw[yE_];omega),Nat.le_refl _,by omega,fun h=>absurd h (by omega)⟩
 · refine⟨_,cap,rfl,hl,fun _=>⟨_,rfl,?_,fun j u hj=>h.cells rfl j u hj⟩,hn,hm,fun _ ad e=>by injection e with e;subst e;rfl⟩;rcases Nat.lt_or_ge g W.heap.size with hlt|hge
   · exact hlt
   · rw[Array.getElem?_eq_none hge]at hg;cases hg
end
end Go.Proofs.YtcbcfcdmdedefaaGreatDoor
