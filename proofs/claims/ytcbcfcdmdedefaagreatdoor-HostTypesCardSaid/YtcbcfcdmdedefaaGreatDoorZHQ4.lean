import Derived.Test.YtcbcfcdmdedefaaGreatDoorZHQ3
import Derived.StillTailTactics
import Derived.Deep.AppendLies
set_option maxRecDepth 100000
set_option maxHeartbeats 16000000
namespace Go.Proofs.YtcbcfcdmdedefaaGreatDoor
open Go.RowKit
structure ChV where
  page:Int
  bA:Option Addr
  bn:Nat
  bc:Nat
  B:List UInt8
def chC (a:ChV):List Value:=[.int .i64 a.page,.slice a.bA a.bn a.bc]
structure ChOk (w:World) (a:ChV):Prop where
  p0:-9223372036854775808<=a.page
  p1:a.page<=9223372036854775807
  bs:Bs w a.bA a.bn a.bc a.B
structure Chs (w:World) (A:Option Addr) (l:List ChV):Prop where
  cells:0<l.length->∃g o,A=some ⟨g,o,none⟩/\g<w.heap.size/\∀k a,l[k]?=some a->w.cell? ⟨g,o+k*2,none⟩=some (.int .i64 a.page)/\w.cell? ⟨g,o+k*2+1,none⟩=some (.slice a.bA a.bn a.bc)
  ok:∀a∈l,ChOk w a
def zoK (a:ChV):Prop:=0<=a.page/\a.page<65536/\a.bn=64
theorem ChOk.keep {w w':World}{a:ChV}(h:ChOk w a)(hc:Chg [] w w'):ChOk w' a:={ h with bs:=h.bs.keep hc }
theorem Chs.nil (w:World)(A:Option Addr):Chs w A []:=⟨fun h=>absurd h (by simp),fun a ha=>by simp at ha⟩
theorem Chs.keep {w w':World}{A:Option Addr}{l:List ChV}(h:Chs w A l)(hc:Chg [] w w'):Chs w' A l:=by
 refine⟨fun h0=>?_,fun a ha=>(h.ok a ha).keep hc⟩;obtain⟨g,o,e,hg,hx⟩:=h.cells h0;refine⟨g,o,e,Nat.lt_of_lt_of_le hg hc.size,fun k a ha=>?_⟩;obtain⟨h1,h2⟩:=hx k a ha;have hk:∀j,w'.cell? ⟨g,j,none⟩=w.cell? ⟨g,j,none⟩:=fun j=>World.cell?_of_block (w:=w) (hc.block g hg (by simp));exact⟨(hk _).trans h1,(hk _).trans h2⟩
theorem jJ_ {P:Program}{w:World}{ops:Array Oper}{o:Oper}{a:Act}{K:Act->World->Prop}{Q:Exit->Act->World->Prop}{E:Prop}(hgd:o.guard=none)(s x:Operand)(t:TypeId)
    (ho:o.op=.call { callee:=.builtin .append,args:=#[s,x],argTypes:=#[t,t] })
    (base:Nat) (e:TypeId) (i:TypeInfo) (z:Value) (bytes:Nat) (ht:P.underlying t=some (.slice e)) (hi:P.info? e=some i) (hz:i.zero=some z)
    (hsize:i.size=1) (hby:i.bytes=bytes) (hzs:z.cells.size=1)
    (v:Value) (n:Nat) (xs:List Value) (hse:a.eval s=v) (hown:w.ownsRow base e 1 v n xs)
    (A:Option Addr) (m c:Nat) (news:List Value) (hxe:a.eval x=.slice A m c) (hl:news.length=m) (hs:Src w A news) (h1:∀u∈news,u.oneCell'=true)
    (h63:n+m<=maxLen) (hbytes:(n+m)*bytes<=140737488355328) (hbase:base<=w.heap.size)
    (h:∀v' w',w'.ownsRow base e 1 v' (n+m) (xs++news)->w.grownBy w' v.ownBlock->K (a.put o.dst v') w') :
    if Region.wanted o (yielded ops a.tmps)=true then Oper.wp P o a w K Q else E:=by
 have hw:Region.wanted o (yielded ops a.tmps)=true:=by simp[Region.wanted,hgd]
 rw[if_pos hw];obtain⟨v',w',hrun,h2,h3,_⟩:=xP_ (P:=P) w base t o.type e i z bytes ht hi hz hsize hby hzs v n xs hown A m c news hl hs h1 h63 hbytes hbase;unfold Oper.wp execOp;simp only[ho,resolve,invoke,builtin,Sem.run_bind,Sem.run_pure,Result.andThen_ok,List.map_toArray,List.map_cons,List.map_nil,hse,hxe,hrun];exact h v' w' h2 h3
def be2 (k:Nat):List UInt8:=[UInt8.ofNat (k/256),UInt8.ofNat k]
theorem zoC (k:Nat)(hk:k<65536):bts (be2 k)=[.int .u8 ((k:Int)/256),.int .u8 ((k:Int)%256)]:=by
 unfold be2 bts;simp only[List.map_cons,List.map_nil,B8,UInt8.toNat_ofNat'];have h1:k/256%2^8=k/256:=Nat.mod_eq_of_lt (by omega);rw[h1];congr 2
def yK_ (last pages:Int):List ChV->Bool
  | []=>true
  | a::l=>!(decide (a.page<=last)||decide (pages<=a.page)||decide (a.bn≠64))&&yK_ a.page pages l
def zF_ (pages:Int)(l:List ChV):Bool:=decide (pages<=64)&&yK_ (-1) pages l
section
variable {w:World} {A:Option Addr} {n c:Nat}
theorem zdX {B m:Nat}{X:List UInt8}{v:Value}(hown:w.ownsRow B 5 1 v m (bts X))(hB:B<=w.heap.size)(k:Nat)(hk:k<65536)(hm:m<=1000000) :
    Calls Tryz.prog 121 #[v,.int .i64 (k:Int)] w fun e w'=>∃v',e=.returned v'/\w'.ownsRow B 5 1 v' (m+2) (bts (X++be2 k))/\(∀(g t:Nat)(cs:List Value),t≠5->zb_ w g t cs->zb_ w' g t cs)/\Low B w w':=by
 obtain⟨i0,hi,hz,hs1,hb⟩:=info_parts yF_;obtain⟨A1,c1,rfl,_,_,_,_⟩:=zr_ hown;have hbe:=hQ_ (zoC k hk);have hx:bts (X++be2 k)=bts X++bts (be2 k):=by simp[bts]
 have HX:=hQ_ hx;clear hx;go_enter Tryz.func121,Tryz.ntmps121;go_wp2_with (first
  | (at_builtin;refine wpList_append_own _ rfl (.tmp 5) (.tmp 11) _ rfl B 5 i0 (.int .u8 0) 1 1 Tryz.underlying39 hi hz hs1 hb rfl (by decide) _ m (bts X) rfl (zk_ hown ((Chg.refl _ _).alloc _)) ⟨w.heap.size,0,none⟩ 2 2 [.int .u8 ((k:Int)/256),.int .u8 ((k:Int)%256)] rfl rfl ?c1 ?c2 ?c3 ?c4 ?c5 ?_;(case c1=>exact fun j u hj=>by rw[zl_,Nat.zero_add,(zb_.new w 5 [.int .u8 ((k:Int)/256),.int .u8 ((k:Int)%256)]).cell];exact hj);(case c2=>simp[Value.oneCell']);(case c3=>simp only[maxLen];omega);(case c4=>omega);(case c5=>simp;omega);intro v' w2 hown' hg' _));go_ret;refine⟨v',rfl,?_,fun g t cs ht hW=>zn_ (hW.keep ((Chg.refl [] w).alloc _)) (zk_ hown ((Chg.refl [] w).alloc _)) ht hg',(Low.of_chg ((Chg.refl [] w).alloc _)).trans (Low.of_own (zk_ hown ((Chg.refl [] w).alloc _)) hg')⟩;rw[HX.o,hbe.out];exact hown'
theorem jN_ {l:List ChV} (h:Chs w A l) (hl:l.length=n) (hn:n<=9223372036854775807) (pages:Int) :
    Calls Tryz.prog 79 #[.slice A n c,.int .i64 pages] w (ye_ (zF_ pages l) w):=by
 have H:=hQ_ h;have HL:=hQ_ hl;clear h hl;by_cases hp:64<pages
 · have hd:decide (64<pages)=true:=(by simp;omega);have HR:=hQ_ (show zF_ pages l=false by unfold zF_;rw[decide_eq_false (by omega)];rfl);go_enter Tryz.func79,Tryz.ntmps79;go_wp2_with fail;go_ret;exact⟨by rw[HR.o];rfl,Chg.refl _ _⟩
 · have hd:decide (64<pages)=false:=(by simp;omega);have HR:=hQ_ (show zF_ pages l=yK_ (-1) pages l by unfold zF_;rw[decide_eq_true (by omega)];rfl);go_enter Tryz.func79,Tryz.ntmps79;go_wp2_with fail;go_loopw [5,12] (fun t i wr=>∃k:Nat,k<=n/\i=.int .i64 (k:Int)/\(∃last:Int,t=.int .i64 last/\Hid (zF_ pages l=yK_ last pages (l.drop k)))/\Chg [] w wr) (fun _ i _=>n-(intOf i).toNat);(case atStart=>exact⟨0,Nat.zero_le _,rfl,⟨-1,rfl,by rw[List.drop_zero];exact HR⟩,Chg.refl _ _⟩);case round =>
    obtain⟨k,hk,rfl,⟨last,rfl,HK⟩,hcr⟩:=hrel;clear HR;by_cases hlt:k<n
    · obtain⟨a,ha⟩:∃a,l[k]?=some a:=⟨_,List.getElem?_eq_getElem (by have:=HL.o;omega)⟩;obtain⟨g,o,rfl,hg,hce⟩:=(H.o.keep hcr).cells (by have:=HL.o;omega);obtain⟨c0,c1⟩:=hce k a ha;have HD:=hQ_ (show l.drop k=a::l.drop (k+1) by rw[List.drop_eq_getElem_cons (by have:=HL.o;omega)];congr 1;have:=List.getElem?_eq_getElem (l:=l) (i:=k) (by have:=HL.o;omega);rw[this]at ha;injection ha);have HC:=hQ_ hcr;clear hce ha hcr;obtain⟨page,bA,bn,bc,B⟩:=a;simp only at c0 c1;have hkI:(k:Int)<(n:Int):=(by omega);by_cases h1:page<=last
      · have hd1:decide (page<=last)=true:=(by simp;omega);have HF:=hQ_ (show zF_ pages l=false by rw[HK.o,HD.o];simp[yK_,h1]);go_wp2_with fail;go_ret;exact⟨by rw[HF.o];rfl,HC.o.alloc _⟩
      · have hd1:decide (page<=last)=false:=(by simp;omega);by_cases h2:pages<=page
        · have hd2:decide (pages<=page)=true:=(by simp;omega);have HF:=hQ_ (show zF_ pages l=false by rw[HK.o,HD.o];simp[yK_,h2]);go_wp2_with fail;go_ret;exact⟨by rw[HF.o];rfl,HC.o.alloc _⟩
        · have hd2:decide (pages<=page)=false:=(by simp;omega);by_cases h3:bn=64
          · have HF:=hQ_ (show zF_ pages l=yK_ page pages (l.drop (k+1)) by rw[HK.o,HD.o];simp only[yK_];rw[decide_eq_false h1,decide_eq_false h2,decide_eq_false (by simpa using h3)];rfl);subst h3;go_wp2_with fail;go_roundw;(case rel=>exact⟨k+1,by omega,by go_num,⟨page,rfl,HF⟩,HC.o.alloc _⟩);case measure=>simp[intOf];omega
          · have HF:=hQ_ (show zF_ pages l=false by rw[HK.o,HD.o];simp[yK_,h3]);have hd3:((bn:Int)==64)=false:=(by simp;omega);have hd4:(!((bn:Int)==64))=true:=(by simp;omega);go_wp2_with fail;go_ret;exact⟨by rw[HF.o];rfl,HC.o.alloc _⟩
    · have HF:=hQ_ (show zF_ pages l=true by rw[HK.o,List.drop_eq_nil_of_le (by have:=HL.o;omega)];rfl);have hkI:(n:Int)<=(k:Int):=(by omega);go_wp2_with fail;go_ret;exact⟨by rw[HF.o];rfl,hcr⟩
end
def xY_:List ChV->List Value
  | []=>[]
  | a::l=>chC a++xY_ l
theorem g4_:∀l,(xY_ l).length=l.length*2
  | []=>rfl
  | a::l=>by rw[xY_,List.length_append,g4_ l];simp[chC];omega
theorem ui_:∀l m,xY_ (l++m)=xY_ l++xY_ m
  | [],_=>rfl
  | a::l,m=>by rw[List.cons_append,xY_,xY_,ui_ l m,List.append_assoc]
theorem kg_ (a:ChV):xY_ [a]=chC a:=by simp[xY_]
theorem g5_:∀(l:List ChV)(k:Nat)(a:ChV)(j:Nat),l[k]?=some a->j<2->(xY_ l)[k*2+j]?=(chC a)[j]?
  | [],k,a,j,h,hj=>by simp at h
  | b::l,0,a,j,h,hj=>by
    simp at h;subst h;rw[xY_,List.getElem?_append_left (by simp[chC];omega)];congr 1;omega
  | b::l,k+1,a,j,h,hj=>by
    simp at h;rw[xY_,List.getElem?_append_right (by simp[chC];omega)];rw[<-g5_ l k a j h hj];congr 1;simp[chC];omega
structure MadeCh (w:World) (B0:Nat) (a:ChV):Prop where
  b:∃g,a.bA=some ⟨g,0,none⟩/\B0<=g/\zb_ w g 5 (bts a.B)
  bl:a.B.length=64
  bn:a.bn=64
  bc:a.bc=64
  p:0<=a.page/\a.page<65536
theorem MadeCh.ok {w:World}{B0:Nat}{a:ChV}(h:MadeCh w B0 a):ChOk w a:=by
 obtain⟨g,hg,_,hW⟩:=h.b;refine⟨by have:=h.p;omega,by have:=h.p;omega,?_⟩;rw[hg,h.bn,h.bc];have:=Bs.of_all hW (by rw[h.bl];omega);rwa[h.bl]at this
theorem MadeCh.small {w:World}{B0:Nat}{a:ChV}(h:MadeCh w B0 a):zoK a:=⟨h.p.1,h.p.2,h.bn⟩
theorem MadeCh.chg {w w':World}{B0:Nat}{a:ChV}{T:List Nat}(h:MadeCh w B0 a)(hc:Chg T w w')(hT:∀i∈T,i<B0\/w.heap.size<=i):MadeCh w' B0 a:=by
 obtain⟨g,hg,hB,hW⟩:=h.b;exact { h with b:=⟨g,hg,hB,hW.chg hc fun hm=>by have:=hT g hm;have:=hW.lt;omega⟩ }
theorem MadeCh.grown {w w':World}{B0 B2 m:Nat}{v2:Value}{ys:List Value}{a:ChV}(h:MadeCh w B0 a)(h2:w.ownsRow B2 123 2 v2 m ys)(hg:w.grownBy w' v2.ownBlock):MadeCh w' B0 a:=by
 obtain⟨g,hg1,hB,hW⟩:=h.b;exact { h with b:=⟨g,hg1,hB,zn_ hW h2 (by decide) hg⟩ }
theorem zS_ {w w':World}{B n k:Nat}{e:TypeId}{v:Value}{xs:List Value}{T:List Nat}(h:w.ownsRow B e k v n xs)(hc:Chg T w w')(hT:∀i∈T,i<B\/w.heap.size<=i):w'.ownsRow B e k v n xs:=by
 refine⟨h.1,h.2.imp id ?_⟩;rintro⟨g,cap,cur,rfl,hb,hg,r⟩;refine⟨g,cap,cur,rfl,hb,?_,r⟩;have hgl:g<w.heap.size:=by
  rcases Nat.lt_or_ge g w.heap.size with hlt|hge
  · exact hlt
  · rw[Array.getElem?_eq_none hge]at hg;cases hg
 rw[hc.block g hgl (fun hm=>by have:=hT g hm;omega)];exact hg
theorem zow {w:World}{B B0 n:Nat}{e:TypeId}{v:Value}{l:List ChV}(h:w.ownsRow B e 2 v n (xY_ l))(hok:∀a∈l,MadeCh w B0 a) :
    ∃A c,v=.slice A n c/\l.length=n/\Chs w A l/\n<=9223372036854775807/\n<=c/\(∀ad,A=some ad->ad.spot=none):=by
 have hl:l.length=n:=by have:=h.1;rw[g4_]at this;omega
 rcases h.2 with⟨rfl,rfl⟩|⟨g,cap,cur,rfl,hb,hg,hn,hc,hs,ht⟩
 · exact⟨none,0,rfl,hl,⟨fun h=>absurd h (by omega),fun a ha=>(hok a ha).ok⟩,by omega,Nat.le_refl _,fun ad e=>by cases e⟩
 · have hgl:g<w.heap.size:=by
    rcases Nat.lt_or_ge g w.heap.size with hlt|hge
    · exact hlt
    · rw[Array.getElem?_eq_none hge]at hg;cases hg
   refine⟨_,cap,rfl,hl,⟨fun _=>⟨g,0,rfl,hgl,fun k a ha=>?_⟩,fun a ha=>(hok a ha).ok⟩,by unfold maxLen at hc;omega,hn,fun ad e=>by injection e with e;subst e;rfl⟩;have hx:∀j u,(xY_ l)[j]?=some u->w.cell? ((⟨g,0,none⟩:Addr).add j)=some u:=h.cells rfl;have q:∀j,j<2->∀u,(chC a)[j]?=some u->w.cell? ⟨g,k*2+j,none⟩=some u:=fun j hj u hu=>(by
    have:=hx (k*2+j) u ((g5_ l k a j ha hj).trans hu);rwa[zl_,Nat.zero_add]at this);simp only[Nat.zero_add];exact⟨q 0 (by omega) _ rfl,q 1 (by omega) _ rfl⟩
theorem vy_:(Tryz.prog.info? 123).map (fun i=>(i.zero,i.size,i.bytes))=some (some (.agg #[.int .i64 0,.slice none 0 0]),2,32):=by kernel_rfl
theorem zK_ (w:World)(xs:List Value)(t:Nat):∀(j:Nat)(u:Value),xs[j]?=some u->(w.alloc (.cells xs.toArray t)).cell? ((⟨w.heap.size,0,none⟩:Addr).add j)=some u:=fun j u hj=>by
 rw[zl_,Nat.zero_add,(zb_.new w t xs).cell];exact hj
structure RMade (w:World) (B0:Nat) (a:ChV):Prop where
  b:∃g r,a.bA=some ⟨g,0,none⟩/\B0<=g/\zb_ w g 5 (bts a.B++r)/\a.bc=64+r.length/\64+r.length<=9223372036854775807
  bl:a.B.length=64
  bn:a.bn=64
  p:0<=a.page/\a.page<65536
theorem RMade.ok {w:World}{B0:Nat}{a:ChV}(h:RMade w B0 a):ChOk w a:=by
 obtain⟨g,r,hg,_,hW,hc,hm⟩:=h.b;refine⟨by have:=h.p;omega,by have:=h.p;omega,?_⟩;rw[hg,h.bn,hc];exact Bs.of_whole hW h.bl (by rw[List.take_left' (by rw[zg_,h.bl])]) (by omega) hm
theorem RMade.chg {w w':World}{B0:Nat}{a:ChV}{T:List Nat}(h:RMade w B0 a)(hc:Chg T w w')(hT:∀i∈T,i<B0\/w.heap.size<=i):RMade w' B0 a:=by
 obtain⟨g,r,hg,hB,hW,hr⟩:=h.b;exact { h with b:=⟨g,r,hg,hB,hW.chg hc (fun hm=>by have:=hT g hm;have:=hW.lt;omega),hr⟩ }
theorem RMade.grown {w w':World}{B0 B2 m:Nat}{v2:Value}{ys:List Value}{a:ChV}(h:RMade w B0 a)(h2:w.ownsRow B2 123 2 v2 m ys)(hg:w.grownBy w' v2.ownBlock):RMade w' B0 a:=by
 obtain⟨g,r,hg1,hB,hW,hr⟩:=h.b;exact { h with b:=⟨g,r,hg1,hB,zn_ hW h2 (by decide) hg,hr⟩ }
theorem js_ {w:World}{B n:Nat}{e:TypeId}{v:Value}{l:List ChV}(h:w.ownsRow B e 2 v n (xY_ l))(hok:∀a∈l,ChOk w a) :
    ∃A c,v=.slice A n c/\l.length=n/\Chs w A l/\n<=9223372036854775807/\n<=c/\(∀ad,A=some ad->ad.spot=none):=by
 have hl:l.length=n:=by have:=h.1;rw[g4_]at this;omega
 rcases h.2 with⟨rfl,rfl⟩|⟨g,cap,cur,rfl,hb,hg,hn,hc,hs,ht⟩
 · exact⟨none,0,rfl,hl,⟨fun h=>absurd h (by omega),hok⟩,by omega,Nat.le_refl _,fun ad e=>by cases e⟩
 · have hgl:g<w.heap.size:=by
    rcases Nat.lt_or_ge g w.heap.size with hlt|hge
    · exact hlt
    · rw[Array.getElem?_eq_none hge]at hg;cases hg
   refine⟨_,cap,rfl,hl,⟨fun _=>⟨g,0,rfl,hgl,fun k a ha=>?_⟩,hok⟩,by unfold maxLen at hc;omega,hn,fun ad e=>by injection e with e;subst e;rfl⟩;have hx:∀j u,(xY_ l)[j]?=some u->w.cell? ((⟨g,0,none⟩:Addr).add j)=some u:=h.cells rfl;have q:∀j,j<2->∀u,(chC a)[j]?=some u->w.cell? ⟨g,k*2+j,none⟩=some u:=fun j hj u hu=>(by
    have:=hx (k*2+j) u ((g5_ l k a j ha hj).trans hu);rwa[zl_,Nat.zero_add]at this);simp only[Nat.zero_add];exact⟨q 0 (by omega) _ rfl,q 1 (by omega) _ rfl⟩
theorem MadeCh.rmade {w:World}{B0:Nat}{a:ChV}(h:MadeCh w B0 a):RMade w B0 a:=by
 obtain⟨g,hg,hB,hW⟩:=h.b;exact⟨⟨g,[],hg,hB,by rw[List.append_nil];exact hW,by rw[h.bc];rfl,by simp⟩,h.bl,h.bn,h.p⟩
theorem zbf (n:Int):bits .and .i64 n 63=n%64:=by
 have h127:(BitVec.ofInt 64 63).toNat=2^6-1:=by decide
 have key:(BitVec.ofInt 64 n &&& BitVec.ofInt 64 63).toNat=(n%((2^64:Nat):Int)).toNat%2^6:=by
  rw[BitVec.toNat_and,BitVec.toNat_ofInt,h127,Nat.and_two_pow_sub_one_eq_mod]
 show IntKind.i64.wrap ((BitVec.ofInt 64 n &&& BitVec.ofInt 64 63).toNat:Nat)=n%64;rw[key,IntKind.wrap_i64];omega
def In64 (a:Int):Prop:=-9223372036854775808<=a/\a<=9223372036854775807
def doR (s a b:Int):Int×Int :=
 if s=43 then (wrap64 (a+b),0) else if s=45 then (wrap64 (a-b),0) else if s=42 then (wrap64 (a*b),0)
 else if s=47 then (if b=0 then (0,3) else if a=-9223372036854775808/\b=-1 then (0,4) else (wrap64 (a.tdiv b),0))
 else if s=37 then (if b=0 then (0,3) else (a.tmod b,0))
 else if s=38 then (bits .and .i64 a b,0) else if s=124 then (bits .or .i64 a b,0) else if s=94 then (bits .xor .i64 a b,0)
 else if s=60 then (if a<b then 1 else 0,0) else if s=61 then (if a=b then 1 else 0,0)
 else if s=171 then (wrap64 (a*2^(b%64).toNat),0) else if s=187 then (a/2^(b%64).toNat,0)
 else if s=33 then (if a=0 then 1 else 0,0) else (0,2)
theorem zlG {s:Int}(a b:Int)(h:s≠43/\s≠45/\s≠42/\s≠47/\s≠37/\s≠38/\s≠124/\s≠94/\s≠60/\s≠61/\s≠171/\s≠187/\s≠33):doR s a b=(0,2):=by
 obtain⟨h1,h2,h3,h4,h5,h6,h7,h8,h9,h10,h11,h12,h13⟩:=h;simp[doR,h1,h2,h3,h4,h5,h6,h7,h8,h9,h10,h11,h12,h13]
def yp_ (n:Int)(i:Nat):UInt8:=UInt8.ofNat (n/2^(8*i)%256).toNat
theorem qi_ (n:Int)(i:Nat):((yp_ n i).toNat:Int)=n/2^(8*i)%256:=by
 unfold yp_;rw[UInt8.toNat_ofNat'];have h1:=Int.emod_nonneg (n/2^(8*i)) (show(256:Int)≠0 by omega);have h2:=Int.emod_lt_of_pos (n/2^(8*i)) (show(0:Int)<256 by omega);omega
def stL (L:List UInt8)(k:Nat)(n:Int):Nat->List UInt8
  | 0=>L
  | m+1=>(stL L k n m).set (k+m) (yp_ n m)
def stV (V:List Bool)(k:Nat):Nat->List Bool
  | 0=>V
  | m+1=>(stV V k m).set ((k+m)/64) true
theorem gq_ (L:List UInt8)(k:Nat)(n:Int)(m:Nat):(stL L k n m).length=L.length:=by
 induction m with
 | zero=>rfl
 | succ m ih=>rw[stL,List.length_set,ih]
theorem znh (V:List Bool)(k m:Nat):(stV V k m).length=V.length:=by
 induction m with
 | zero=>rfl
 | succ m ih=>rw[stV,List.length_set,ih]
theorem zni (L:List UInt8)(k:Nat)(n:Int)(m i:Nat)(hi:i<m)(h:k+m<=L.length):(stL L k n m)[k+i]?=some (yp_ n i):=by
 induction m with
 | zero=>omega
 | succ m ih =>
   rw[stL,List.getElem?_set];by_cases e:m=i
   · subst e;rw[if_pos rfl,if_pos (by rw[gq_];omega)]
   · rw[if_neg (by omega)];exact ih (by omega) (by omega)
def ldN:List UInt8->Nat
  | []=>0
  | b::l=>b.toNat+256*ldN l
theorem zpt (l:List UInt8):ldN l<256^l.length:=by
 induction l with
 | nil=>simp[ldN]
 | cons b l ih =>
   have h:=b.toNat_lt;rw[ldN,List.length_cons,Nat.pow_succ];omega
theorem zdH (L:List UInt8)(k j m:Nat)(h:k+j<L.length)(hm:0<m):ldN ((L.drop (k+j)).take m)=(L[k+j]).toNat+256*ldN ((L.drop (k+j+1)).take (m-1)):=by
 obtain⟨q,rfl⟩:∃q,m=q+1:=⟨m-1,by omega⟩;rw[List.drop_eq_getElem_cons h,List.take_succ_cons,ldN];rfl
def ldI (L:List UInt8)(k s:Nat):Int:=IntKind.i64.wrap (ldN ((L.drop k).take s):Nat)
theorem znY (L:List UInt8)(k:Nat)(b:UInt8)(h:L[k]?=some b):ldI L k 1=(b.toNat:Int):=by
 have hk:=(List.getElem?_eq_some_iff.1 h).1;have hb:=(List.getElem?_eq_some_iff.1 h).2;have e:ldN ((L.drop k).take 1)=L[k].toNat+256*ldN ((L.drop (k+1)).take 0):=zdH L k 0 1 hk (by omega);have h0:ldN ((L.drop (k+1)).take 0)=0:=rfl;have hlt:=b.toNat_lt;unfold ldI;rw[e,h0,hb,IntKind.wrap_i64];omega
theorem take8 (L:List UInt8)(k:Nat)(b0 b1 b2 b3 b4 b5 b6 b7:UInt8)(h0:L[k]?=some b0)(h1:L[k+1]?=some b1)(h2:L[k+2]?=some b2)(h3:L[k+3]?=some b3)
    (h4:L[k+4]?=some b4) (h5:L[k+5]?=some b5) (h6:L[k+6]?=some b6) (h7:L[k+7]?=some b7):(L.drop k).take 8=[b0,b1,b2,b3,b4,b5,b6,b7]:=by
      apply List.ext_getElem?;intro i;rw[List.getElem?_take,List.getElem?_drop]
      match i with
      | 0=>simpa using h0
      | 1=>simpa using h1
      | 2=>simpa using h2
      | 3=>simpa using h3
      | 4=>simpa using h4
      | 5=>simpa using h5
      | 6=>simpa using h6
      | 7=>simpa using h7
      | i+8=>simp;omega
theorem zpu (L:List UInt8)(k:Nat)(n:Int)(hn:In64 n)(h:k+8<=L.length):ldI (stL L k n 8) k 8=n:=by
 have g:=fun i hi=>zni L k n 8 i hi h;have e:=take8 (stL L k n 8) k _ _ _ _ _ _ _ _ (g 0 (by omega)) (g 1 (by omega)) (g 2 (by omega)) (g 3 (by omega)) (g 4 (by omega)) (g 5 (by omega)) (g 6 (by omega)) (g 7 (by omega));have q:=qi_ n;have q0:=q 0;have q1:=q 1;have q2:=q 2;have q3:=q 3;have q4:=q 4;have q5:=q 5;have q6:=q 6;have q7:=q 7;simp only[Nat.mul_zero,Nat.mul_one,Nat.reduceMul,Int.pow_zero,Int.ediv_one,Int.reducePow]at q0 q1 q2 q3 q4 q5 q6 q7;obtain⟨n1,n2⟩:=hn;unfold ldI;rw[e];simp only[ldN];rw[IntKind.wrap_i64];generalize (yp_ n 0).toNat=c0 at *;generalize (yp_ n 1).toNat=c1 at *;generalize (yp_ n 2).toNat=c2 at *;generalize (yp_ n 3).toNat=c3 at *;generalize (yp_ n 4).toNat=c4 at *;generalize (yp_ n 5).toNat=c5 at *;generalize (yp_ n 6).toNat=c6 at *;generalize (yp_ n 7).toNat=c7 at *;omega
theorem zeH (a:Nat)(b:UInt8)(ha:a<72057594037927936):bits .or .u64 ((a:Int)*256) (b.toNat:Int)=((b.toNat+256*a:Nat):Int):=by
 have hb:=b.toNat_lt;have e:=bits_or_u64_nat (a*256) b.toNat (by omega) (by omega);have e1:((a*256:Nat):Int)=(a:Int)*256:=by omega
 rw[e1]at e;rw[e];congr 1;have h:=Nat.shiftLeft_add_eq_or_of_lt (i:=8) (b:=b.toNat) (by omega) a;rw[Nat.shiftLeft_eq]at h;have h256:(2:Nat)^8=256:=rfl;rw[h256]at h;rw[<-h];omega
structure Mm (w:World) (p gC gD:Nat) (L:List UInt8) (X:List Value) (V:List Bool) (Y:List Value) (most:Nat):Prop where
  rec_:zb_ w p 105 [.slice (some ⟨gC,0,none⟩) L.length (L.length+X.length),.int .i64 (most:Int),.slice (some ⟨gD,0,none⟩) V.length (V.length+Y.length)]
  cel:zb_ w gC 5 (bts L++X)
  dir:zb_ w gD 4 (bls V++Y)
  len:L.length=64*V.length
  le:V.length<=most
  top:most<=64
  capX:L.length+X.length<=maxLen
  capY:V.length+Y.length<=maxLen
section
variable {w w':World} {p gC gD:Nat} {L:List UInt8} {X:List Value} {V:List Bool} {Y:List Value} {most:Nat}
theorem Mm.keep (h:Mm w p gC gD L X V Y most)(hc:Chg [] w w'):Mm w' p gC gD L X V Y most :=
 ⟨h.rec_.keep hc,h.cel.keep hc,h.dir.keep hc,h.len,h.le,h.top,h.capX,h.capY⟩
theorem Mm.away {T:List Nat}(h:Mm w p gC gD L X V Y most)(hc:Chg T w w')(h0:p∉T)(h1:gC∉T)(h2:gD∉T):Mm w' p gC gD L X V Y most :=
 ⟨h.rec_.chg hc h0,h.cel.chg hc h1,h.dir.chg hc h2,h.len,h.le,h.top,h.capX,h.capY⟩
theorem Mm.small (h:Mm w p gC gD L X V Y most):L.length<=4096:=by have:=h.len;have:=h.le;have:=h.top;omega
theorem Mm.smallV (h:Mm w p gC gD L X V Y most):V.length<=64:=by have:=h.le;have:=h.top;omega
theorem Mm.byte (h:Mm w p gC gD L X V Y most)(k:Nat)(hk:k<L.length):w.cell? ⟨gC,k,none⟩=some (B8 L[k]):=by
 rw[h.cel.cell,List.getElem?_append_left (by rw[zg_];exact hk)];exact qj_ L k hk
theorem Mm.bit (h:Mm w p gC gD L X V Y most)(k:Nat)(hk:k<V.length):w.cell? ⟨gD,k,none⟩=some (.bool V[k]):=by
 rw[h.dir.cell,List.getElem?_append_left (by rw[ql_];exact hk)];exact vW_ V k hk
theorem Mm.src (h:Mm w p gC gD L X V Y most):Src w (some ⟨gC,0,none⟩) (bts L):=by
 have:=Src.of_whole h.cel 0 (bts L).length;rwa[List.drop_zero,List.take_left' rfl]at this
theorem ret_i {x y:Int}(h:x=y):Ending.returned (.int .i64 x)=.returned (.int .i64 y):=by rw[h]
theorem vM_ (b:Bool):Calls Tryz.prog 178 #[.bool b] w fun e w'=>e=.returned (.int .i64 (if b then 8 else 1))/\w=w':=by
 cases b <;>
 · go_enter Tryz.func178,Tryz.ntmps178;go_wp2_with fail;go_ret;exact⟨rfl,rfl⟩
theorem xf_ (h:Mm w p gC gD L X V Y most):Calls Tryz.prog 57 #[.pointer (some ⟨p,0,none⟩)] w fun e w'=>e=.returned (.int .i64 (V.length:Int))/\w=w':=by
 have c0:=h.rec_.cell 0;have hl:=hQ_ h.len;have b1:=h.small;go_enter Tryz.func57,Tryz.ntmps57;go_wp2_with fail;go_ret;exact⟨ret_i (by have:=hl.out;omega),rfl⟩
theorem qH_ (h:Mm w p gC gD L X V Y most)(k s:Nat)(hs:s<=8)(hk:k+s<=L.length) :
    Calls Tryz.prog 179 #[.pointer (some ⟨p,0,none⟩),.int .i64 (k:Int),.int .i64 (s:Int)] w fun e w'=>e=.returned (.bool true)/\w=w':=by
 have c0:=h.rec_.cell 0;have b1:=h.small;have hd:decide ((k:Int)<=(L.length:Int)-(s:Int))=true:=by simp;omega
 go_enter Tryz.func179,Tryz.ntmps179;go_wp2_with fail;go_ret;exact⟨rfl,rfl⟩
theorem jz_ (h:Mm w p gC gD L X V Y most)(k:Int)(s:Nat)(hs:s<=8)(hk:k<0\/(L.length:Int)-s<k) :
    Calls Tryz.prog 179 #[.pointer (some ⟨p,0,none⟩),.int .i64 k,.int .i64 (s:Int)] w fun e w'=>e=.returned (.bool false)/\w=w':=by
 have c0:=h.rec_.cell 0;have b1:=h.small;by_cases h0:0<=k
 · have hd:decide (k<=(L.length:Int)-(s:Int))=false:=(by simp;omega);clear hk;go_enter Tryz.func179,Tryz.ntmps179;go_wp2_with fail;go_ret;exact⟨rfl,rfl⟩
 · have hd:decide (0<=k)=false:=(by simpa using h0);clear hk h0;go_enter Tryz.func179,Tryz.ntmps179;go_wp2_with fail;go_ret;exact⟨rfl,rfl⟩
theorem znr {x y:Int}{b:Bool}(h:x=y):Ending.returned (.tuple #[.int .i64 x,.bool b])=.returned (.tuple #[.int .i64 y,.bool b]):=by rw[h]
theorem znW (h:Mm w p gC gD L X V Y most)(k:Int)(wide:Bool)(s:Nat)(hw:s=if wide then 8 else 1)(hk:k<0\/(L.length:Int)-s<k) :
    Calls Tryz.prog 156 #[.pointer (some ⟨p,0,none⟩),.int .i64 k,.bool wide] w fun e w'=>e=.returned (.tuple #[.int .i64 0,.bool false])/\w=w':=by
 cases wide
 · simp only[Bool.false_eq_true,if_false]at hw;subst hw;go_enter Tryz.func156,Tryz.ntmps156;go_wp2_with (first
    | (go_at_call 178;refine(vM_ false).mono ?_;rintro e w' ⟨rfl,rfl⟩)
    | (go_at_call 179;refine(jz_ h k 1 (by omega) hk).mono ?_;rintro e w' ⟨rfl,rfl⟩));go_ret2;exact⟨rfl,rfl⟩
 · simp only[if_true]at hw;subst hw;go_enter Tryz.func156,Tryz.ntmps156;go_wp2_with (first
    | (go_at_call 178;refine(vM_ true).mono ?_;rintro e w' ⟨rfl,rfl⟩)
    | (go_at_call 179;refine(jz_ h k 8 (by omega) hk).mono ?_;rintro e w' ⟨rfl,rfl⟩));go_ret2;exact⟨rfl,rfl⟩
theorem zla (h:Mm w p gC gD L X V Y most)(k:Nat)(wide:Bool)(s:Nat)(hw:s=if wide then 8 else 1)(hk:k+s<=L.length) :
    Calls Tryz.prog 156 #[.pointer (some ⟨p,0,none⟩),.int .i64 (k:Int),.bool wide] w fun e w'=>e=.returned (.tuple #[.int .i64 (ldI L k s),.bool true])/\w=w':=by
 have c0:=h.rec_.cell 0;have b1:=h.small;have s1:s<=8:=by subst hw;split<;>omega
 have s2:1<=s:=by subst hw;split<;>omega
 have HW:=hQ_ (show(if wide then (8:Int) else 1)=(s:Int) by subst hw;cases wide<;>rfl);clear hw;go_enter Tryz.func156,Tryz.ntmps156;go_wp2_with (first
  | (go_at_call 178;refine(vM_ wide).mono ?_;rintro e w' ⟨rfl,rfl⟩;rw[HW.o])
  | (go_at_call 179;refine(qH_ h k s s1 hk).mono ?_;rintro e w' ⟨rfl,rfl⟩));go_loop [9,10] (fun a i=>∃j:Nat,j<=s/\i=.int .i64 ((j:Int)-1)/\a=.int .u64 (ldN ((L.drop (k+j)).take (s-j)):Nat)) (fun _ i=>(intOf i+1).toNat);case atStart=>exact⟨s,Nat.le_refl _,rfl,by simp[ldN]⟩
 case round =>
  obtain⟨j,hj,rfl,rfl⟩:=hrel;by_cases h0:0<j
  · obtain⟨i,rfl⟩:∃i,j=i+1:=⟨j-1,by omega⟩;have hki:k+i<L.length:=(by omega);have hx:=h.byte (k+i) hki;unfold B8 at hx;have hnx:=zdH L k i (s-i) hki (by omega);have hlt:=zpt ((L.drop (k+i+1)).take (s-(i+1)));have hp:ldN ((L.drop (k+i+1)).take (s-(i+1)))<72057594037927936:=(by
     refine Nat.lt_of_lt_of_le hlt ?_;have e7:(256:Nat)^7=72057594037927936:=(by decide);rw[<-e7];refine Nat.pow_le_pow_right (by omega) ?_;rw[List.length_take];omega);rw[show s-i-1=s-(i+1) by omega]at hnx;have e1:k+(i+1)=k+i+1:=rfl;rw[e1];generalize ldN ((L.drop (k+i+1)).take (s-(i+1)))=a at *;generalize L[k+i]=b at *;have ho:=zeH a b hp;have HN:=hQ_ hnx;have HO:=hQ_ ho;have HB:=hQ_ (IntWalk.u64_in (b.toNat:Int) (by have:=b.toNat_lt;omega));clear hnx hlt e1 ho;have g1:((i+1:Nat):Int)-1=(i:Int):=(by omega);rw[g1];have g2:(0:Int)<=(i:Int):=(by omega);go_wp2_with fail;go_round;(case rel=>exact⟨i,by omega,rfl,by rw[HN.o,HB.o,HO.o]⟩);case measure=>simp[intOf]<;>omega
  · obtain rfl:j=0:=(by omega);go_wp2_with fail;go_ret2;exact⟨znr (by unfold ldI;first|rfl|exact(IntWalk.i64_left _).symm|(rw[IntWalk.i64_left];rfl)),rfl⟩
end
def uz_ (L:Int):Int:=if L<1\/64<L then 0 else L*64
def zcs (L u:Int):Int:=max (uz_ L-max u 0) 0
def yI_ (L u n:Int):Bool:=decide (0<kz_ n)&&decide (kz_ n<=zcs L u)
theorem zkj (L:Int):0<=uz_ L/\uz_ L<=4096:=by unfold uz_;split<;>omega
section
variable {w:World}
theorem zav (n:Int)(hn:n<=9223372036854775807):Calls Tryz.prog 119 #[.int .i64 n] w fun e w'=>e=.returned (.int .i64 (kz_ n))/\w=w':=by
 by_cases h0:n<0
 · go_enter Tryz.func119,Tryz.ntmps119;go_wp2_with fail;go_ret;exact⟨y3_ (by unfold kz_;rw[if_pos (.inl h0)]),rfl⟩
 · have hd:decide (n<0)=false:=(by simpa using h0);by_cases h1:64<n
   · go_enter Tryz.func119,Tryz.ntmps119;go_wp2_with fail;go_ret;exact⟨y3_ (by unfold kz_;rw[if_pos (.inr h1)]),rfl⟩
   · have h2:0<=n:=(by omega);have h3:n<=64:=(by omega);go_enter Tryz.func119,Tryz.ntmps119;go_wp2_with fail;go_ret;exact⟨y3_ (by unfold kz_;rw[if_neg (by omega)]),rfl⟩
theorem jg_ (L P E:Int)(hL:L<=9223372036854775807):Calls Tryz.prog 123 #[zB_ L P E] w fun e w'=>e=.returned (.int .i64 (uz_ L))/\Chg [] w w':=by
 unfold zB_;by_cases h0:L<1
 · go_enter Tryz.func123,Tryz.ntmps123;go_wp2_with fail;go_ret;exact⟨y3_ (by unfold uz_;rw[if_pos (.inl h0)]),(Chg.refl _ _).alloc _⟩
 · have hd:decide (L<1)=false:=(by simpa using h0);by_cases h1:64<L
   · go_enter Tryz.func123,Tryz.ntmps123;go_wp2_with fail;go_ret;exact⟨y3_ (by unfold uz_;rw[if_pos (.inr h1)]),(Chg.refl _ _).alloc _⟩
   · have h2:1<=L:=(by omega);have h3:L<=64:=(by omega);go_enter Tryz.func123,Tryz.ntmps123;go_wp2_with fail;go_ret;exact⟨y3_ (by unfold uz_;rw[if_neg (by omega)]),(Chg.refl _ _).alloc _⟩
theorem zlc (L P E u:Int)(hL:L<=9223372036854775807)(hu:u<=9223372036854775807):Calls Tryz.prog 120 #[zB_ L P E,.int .i64 u] w fun e w'=>e=.returned (.int .i64 (zcs L u))/\Chg [] w w':=by
 have hs:=zkj L;obtain⟨b1,b2⟩:=hs;have b3:0<=max u 0:=by omega
 have b4:max u 0<=9223372036854775807:=by omega
 unfold zB_;go_enter Tryz.func120,Tryz.ntmps120;go_wp2_with (go_at_call 123;refine(jg_ L P E hL).mono ?_;rintro e w1 ⟨rfl,hc1⟩);go_ret;exact⟨y3_ (by unfold zcs;rfl),((Chg.refl _ _).alloc _).new hc1⟩
theorem zlz (L P E u n:Int)(hL:L<=9223372036854775807)(hu:u<=9223372036854775807)(hn:n<=9223372036854775807) :
    Calls Tryz.prog 80 #[zB_ L P E,.int .i64 u,.int .i64 n] w fun e w'=>e=.returned (.bool (yI_ L u n))/\Chg [] w w':=by
 have HF:Hid (yI_ L u n=(decide (0<kz_ n)&&decide (kz_ n<=zcs L u))):=rfl;unfold zB_;by_cases h0:0<kz_ n
 · go_enter Tryz.func80,Tryz.ntmps80;go_wp2_with (first
    | (go_at_call 119;refine(zav n hn).mono ?_;rintro e w1 ⟨rfl,rfl⟩)
    | (go_at_call 120;refine(zlc L P E u hL hu).mono ?_;rintro e w1 ⟨rfl,hc1⟩));go_ret;exact⟨zV_ (by rw[HF.o];simp[h0]),((Chg.refl _ _).alloc _).new hc1⟩
 · have hd:decide (0<kz_ n)=false:=(by simpa using h0);go_enter Tryz.func80,Tryz.ntmps80;go_wp2_with (first
    | (go_at_call 119;refine(zav n hn).mono ?_;rintro e w1 ⟨rfl,rfl⟩));go_ret;exact⟨zV_ (by rw[HF.o,hd];rfl),(Chg.refl _ _).alloc _⟩
end
section
variable {w w':World} {p gC gD:Nat} {L:List UInt8} {X:List Value} {V:List Bool} {Y:List Value} {most:Nat}
theorem zeQ (h:Mm w p gC gD L X V Y most)(k i:Nat)(n:Int)(b:UInt8)(hb:b=yp_ n i)(hk:k+i<L.length) :
    Mm ((w.setCell ⟨gC,k+i,none⟩ (B8 b)).setCell ⟨gD,(k+i)/64,none⟩ (.bool true)) p gC gD (L.set (k+i) (yp_ n i)) X (V.set ((k+i)/64) true) Y most /\
      Chg [gC,gD] w ((w.setCell ⟨gC,k+i,none⟩ (B8 b)).setCell ⟨gD,(k+i)/64,none⟩ (.bool true)):=by
 subst hb;have d0:=h.rec_.ne_ h.cel (by decide);have d1:=h.rec_.ne_ h.dir (by decide);have d2:=h.cel.ne_ h.dir (by decide);have hl:=h.len;have hc:=h.cel.set_ (k+i) (B8 (yp_ n i));rw[List.set_append_left _ _ (by rw[zg_];exact hk),zoA]at hc;have hd:=(h.dir.far (p:=⟨gC,k+i,none⟩) (Ne.symm d2) (B8 (yp_ n i))).set_ ((k+i)/64) (.bool true);rw[List.set_append_left _ _ (by rw[ql_];omega),g6_]at hd;refine⟨⟨?_,hc.far d2 _,hd,by rw[List.length_set,List.length_set];exact h.len,by rw[List.length_set];exact h.le,h.top,by rw[List.length_set];exact h.capX,by rw[List.length_set];exact h.capY⟩,?_⟩
 · rw[List.length_set,List.length_set];exact(h.rec_.far d0 _).far d1 _
 · exact((Chg.refl [gC,gD] w).setCell (by simp) _).setCell (by simp) _
theorem zke (h:Mm w p gC gD L X V Y most)(k n:Int)(wide:Bool)(s:Nat)(hw:s=if wide then 8 else 1)(hk:k<0\/(L.length:Int)-s<k) :
    Calls Tryz.prog 157 #[.pointer (some ⟨p,0,none⟩),.int .i64 k,.int .i64 n,.bool wide] w fun e w'=>e=.returned (.bool false)/\w=w':=by
 have s1:s<=8:=by subst hw;split<;>omega
 have HW:=hQ_ (show(if wide then (8:Int) else 1)=(s:Int) by subst hw;cases wide<;>rfl);have HK:=hQ_ hk;clear hw hk;go_enter Tryz.func157,Tryz.ntmps157;go_wp2_with (first
  | (go_at_call 178;refine(vM_ wide).mono ?_;rintro e w' ⟨rfl,rfl⟩;rw[HW.o])
  | (go_at_call 179;refine(jz_ h k s s1 HK.o).mono ?_;rintro e w' ⟨rfl,rfl⟩));go_ret;exact⟨rfl,rfl⟩
def zjE (w:World)(p gC gD:Nat)(L:List UInt8)(X:List Value)(V:List Bool)(Y:List Value)(most k:Nat)(n:Int)(s:Nat)(e:Ending)(w':World):Prop :=
 e=.returned (.bool true)/\Mm w' p gC gD (stL L k n s) X (stV V k s) Y most/\Chg [gC,gD] w w'
theorem zgE (h:Mm w p gC gD L X V Y most)(k:Nat)(n:Int)(wide:Bool)(s:Nat)(hw:s=if wide then 8 else 1)(hk:k+s<=L.length) :
    Calls Tryz.prog 157 #[.pointer (some ⟨p,0,none⟩),.int .i64 (k:Int),.int .i64 n,.bool wide] w (zjE w p gC gD L X V Y most k n s):=by
 have b1:=h.small;have hlen:=h.len;have s1:s<=8:=by subst hw;split<;>omega
 have HW:=hQ_ (show(if wide then (8:Int) else 1)=(s:Int) by subst hw;cases wide<;>rfl);have HL:=hQ_ hlen;clear hw hlen;go_enter Tryz.func157,Tryz.ntmps157;go_wp2_with (first
  | (go_at_call 178;refine(vM_ wide).mono ?_;rintro e w' ⟨rfl,rfl⟩;rw[HW.o])
  | (go_at_call 179;refine(qH_ h k s s1 hk).mono ?_;rintro e w' ⟨rfl,rfl⟩));go_loopw [19] (fun i wr=>∃m:Nat,m<=s/\i=.int .i64 (m:Int)/\Mm wr p gC gD (stL L k n m) X (stV V k m) Y most/\Chg [gC,gD] w wr) (fun i _=>s-(intOf i).toNat);case atStart=>exact⟨0,by omega,rfl,h,Chg.refl _ _⟩
 case round =>
  obtain⟨m,hm,rfl,hM,hC⟩:=hrel;by_cases hlt:m<s
  · have hki:k+m<(stL L k n m).length:=(by rw[gq_];omega);have hst:=zeQ hM k m n (yp_ n m) rfl hki;have hl1:(stL L k n m).length=L.length:=gq_ _ _ _ _;have hl2:(stV V k m).length=V.length:=znh _ _ _;have c0:=hM.rec_.cell 0;have c2:=hM.rec_.cell 2;have cb:=hM.byte (k+m) hki;have hx64:(k+m)/64<(stV V k m).length:=(by rw[hl2];have:=HL.o;omega);have cd:=hM.bit ((k+m)/64) hx64;have fc:=hM.cel.frozen (k+m);have fd:=hM.dir.frozen ((k+m)/64);have dcd:=hM.cel.ne_ hM.dir (by decide);have dpc:=hM.rec_.ne_ hM.cel (by decide);have hby:=hQ_ (qi_ n m);rw[hl1]at c0 c2;rw[hl2]at c0 c2;have HC:=hQ_ hC;have HST:=hQ_ hst;have HM:=hQ_ hM;have e1:IntKind.i64.wrap ((k:Int)+(m:Int))=(k:Int)+(m:Int):=IntWalk.i64_in _ (by omega);have e2:((k:Int)+(m:Int)).toNat=k+m:=(by omega);have e3:(0:Int)<=(k:Int)+(m:Int):=(by omega);have e4:IntKind.i64.wrap (8*(m:Int))=8*(m:Int):=IntWalk.i64_in _ (by omega);have e5:(8*(m:Int)).toNat=8*m:=(by omega);have e6:(0:Int)<=8*(m:Int):=(by omega);have e7:min (8*m) 64=8*m:=(by omega);have e8:k+m<L.length:=(by omega);have e9:(k+m)/64<V.length:=(by have:=HL.o;omega);clear hl1 hl2 hC hst hM;go_wp2_with fail;go_still_tail 12,(by kernel_rfl);change wpList _ _ _ _ _ wr.drew;go_wp2_with fail
    · go_roundw;case rel =>
       have hq:=HST.o;unfold B8 at hq;rw[hby.out]at hq;exact⟨m+1,by omega,by go_num,hq.1.keep (Chg.refl [] _).drew,(HC.o.trans hq.2).drew⟩
      case measure=>simp[intOf]<;>omega
  · obtain rfl:m=s:=(by omega);go_wp2_with fail;go_ret;exact⟨rfl,hM,hC⟩
end
end Go.Proofs.YtcbcfcdmdedefaaGreatDoor
