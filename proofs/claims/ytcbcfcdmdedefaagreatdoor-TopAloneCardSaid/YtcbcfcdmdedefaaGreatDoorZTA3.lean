import Derived.Test.YtcbcfcdmdedefaaGreatDoorZTA1
import Derived.Test.YtcbcfcdmdedefaaGreatDoorZTA2
import Derived.Deep.DeepCutAuto
import Derived.StillTailTactics
import Derived.Deep.AppendLies
import Derived.Great.Walk
set_option maxRecDepth 100000
set_option maxHeartbeats 16000000
namespace Go.Proofs.YtcbcfcdmdedefaaGreatDoor
open Go.RowKit
def vz_ (w:World)(e:Ending)(w':World):Prop:=e=.returned (.bool true)/\Chg [] w w'
def yl_:Turns:=⟨Chg [],Chg [],[],[]⟩
theorem za_:yl_.Ok:=⟨Chg.refl [],fun _ _ h=>h,fun _ _ _ h k=>h.trans k⟩
theorem xJ_ (k:Nat):yl_.by_ k=Chg []:=by unfold Turns.by_;split<;>rfl
def ji_ (B:Nat)(e:TypeId)(xs:List Value):yI_:=fun v W=>W.ownsRow B e 1 v xs.length xs
theorem yh_ (B:Nat)(e:TypeId)(xs:List Value):zQ_ (Chg []) (ji_ B e xs):=fun _ _ _ h hc=>zk_ h hc
section
variable {P:Program} {T:Turns} {w0:World} {a0:Act} {ops:List Oper} {Q:Exit->Act->World->Prop} {F:Said} {k:Nat} {rest:List Oper}
  {d:Option Tmp} {ty:TypeId} {pos:String} {af:Array Go.Edge} {g:Option (Nat×Bool)}
theorem ziL {x:Operand}{A:Option Addr}{n c:Nat}{ats:Array TypeId}(hT:T.Ok)(hx:Det a0 F x (.slice A n c))(hrun:∀ev W,EvOk ev->ev x=.slice A n c->(execOp ev ⟨d,.call { callee:=.builtin .len,args:=#[x],argTypes:=ats },ty,pos,af,g⟩).run P W=.ok (.value (.int .i64 (n:Int))) W)
    (hg:zy_ ops F true ⟨d,.call { callee:=.builtin .len,args:=#[x],argTypes:=ats },ty,pos,af,g⟩) (h:Flow P T w0 a0 ops Q ((d,isV (.int .i64 (n:Int)))::F) (k+1) rest) :
    Flow P T w0 a0 ops Q F k (⟨d,.call { callee:=.builtin .len,args:=#[x],argTypes:=ats },ty,pos,af,g⟩::rest) :=
 flow1 hT rfl hx hg hrun h
end
theorem j6_:(Tryz.prog.info? 5).map (fun i=>(i.zero,i.size,i.bytes))=some (some (.int .u8 0),1,1):=by kernel_rfl
theorem zaY:(Tryz.prog.info? 4).map (fun i=>(i.zero,i.size,i.bytes))=some (some (.bool false),1,1):=by kernel_rfl
theorem gD_:(Tryz.prog.info? 3).map (fun i=>(i.zero,i.size,i.bytes))=some (some (.int .i64 0),1,8):=by kernel_rfl
theorem xz_:(Tryz.prog.info? 5).map (·.size)=some 1:=by kernel_rfl
theorem j3_ (n:Nat)(h:n<=1000000)(w:World) :
    (Instr.makeSlice 39 (.int .i64 (n:Int)) (.int .i64 (n:Int))).run Tryz.prog w=.ok (.slice (some ⟨w.heap.size,0,none⟩) n n) (w.alloc (.cells (bts (zm_ n)).toArray 5)):=by
      rw[yT_];obtain⟨i,hi,hz,hs,hb⟩:=info_parts j6_;exact x0_ _ _ i _ rfl Tryz.underlying39 hi hz hs n (by rw[hb];omega) (by omega) w
theorem j4_ (n:Nat)(h:n<=1000000)(w:World) :
    (Instr.makeSlice 99 (.int .i64 (n:Int)) (.int .i64 (n:Int))).run Tryz.prog w=.ok (.slice (some ⟨w.heap.size,0,none⟩) n n) (w.alloc (.cells (bls (zK_ n)).toArray 4)):=by
      rw[zfT];obtain⟨i,hi,hz,hs,hb⟩:=info_parts zaY;exact x0_ _ _ i _ rfl Tryz.underlying99 hi hz hs n (by rw[hb];omega) (by omega) w
theorem qb_ {w:World}{A:Option Addr}{n c:Nat}{xs:List Value}(hl:xs.length=n)(hs:Src w A xs)(h1:∀v∈xs,v.oneCell'=true)(hn:n<=1000000) :
    Calls Tryz.prog 69 #[.slice A n c] w fun e w'=>e=.returned (.slice (some ⟨w.heap.size,0,none⟩) n n)/\zb_ w' w.heap.size 5 xs/\Chg [] w w':=by
 have hmk:=j3_ n hn;go_enter Tryz.func69,Tryz.ntmps69;go_wp2_with (first
  | ((with_reducible refine wpList_copy_splice rfl (.tmp 7) (.tmp 8) _ _ rfl 5 Tryz.underlying39 xz_ (some ⟨w.heap.size,0,none⟩) A n n n c rfl rfl w.heap.size 0 (bts (zm_ n)) 5 ?c1 xs ?c2 ?c3 ?c4 h1 w.heap.size w ?c5 (Nat.le_refl _) ?_);(case c1=>exact heap_alloc_new w _);(case c2=>simp[hl]);case c3 =>
      intro hp;obtain⟨ad,e,_,hx⟩:=(hs.keep ((Chg.refl [] w).alloc _)) hp;exact⟨rfl,ad,e,hx⟩
     (case c4=>simp[hl,zg_,zE_]);(case c5=>exact(Below.refl _ _).alloc (Nat.le_refl _) _);intro w1 HG hB));go_ret;have HG':=HG.o;rw[xX_ _ _ (by simp[hl,zg_,zE_])]at HG';exact⟨rfl,HG',Chg.of_below hB⟩
structure Dsk (w:World) (p bL bS bW:Nat) (L S:List UInt8) (V:List Bool):Prop where
  rec_:zb_ w p 138 [.slice (some ⟨bL,0,none⟩) L.length L.length,.slice (some ⟨bS,0,none⟩) S.length S.length,.slice (some ⟨bW,0,none⟩) V.length V.length]
  last:zb_ w bL 5 (bts L)
  seen:zb_ w bS 5 (bts S)
  wait:zb_ w bW 4 (bls V)
  lenL:L.length=64*V.length
  lenS:S.length=64*V.length
  pos:0<V.length
  le:V.length<=160
  ne:bL≠bS
section
variable {w w':World} {p bL bS bW:Nat} {L S:List UInt8} {V:List Bool}
theorem Dsk.keep (h:Dsk w p bL bS bW L S V)(hc:Chg [] w w'):Dsk w' p bL bS bW L S V :=
 ⟨h.rec_.keep hc,h.last.keep hc,h.seen.keep hc,h.wait.keep hc,h.lenL,h.lenS,h.pos,h.le,h.ne⟩
theorem Dsk.away {T:List Nat}(h:Dsk w p bL bS bW L S V)(hc:Chg T w w')(h0:p∉T)(h1:bL∉T)(h2:bS∉T)(h3:bW∉T):Dsk w' p bL bS bW L S V :=
 ⟨h.rec_.chg hc h0,h.last.chg hc h1,h.seen.chg hc h2,h.wait.chg hc h3,h.lenL,h.lenS,h.pos,h.le,h.ne⟩
theorem xP_ (h:Dsk w p bL bS bW L S V):Calls Tryz.prog 38 #[.pointer (some ⟨p,0,none⟩)] w fun e w'=>e=.returned (.int .i64 (V.length:Int))/\w=w':=by
 have c2:=h.rec_.cell 2;go_enter Tryz.func38,Tryz.ntmps38;go_wp2_with fail;go_ret;exact⟨rfl,rfl⟩
theorem zcu (h:Dsk w p bL bS bW L S V)(i:Int)(h0:0<=i)(h1:i<V.length) :
    Calls Tryz.prog 108 #[.pointer (some ⟨p,0,none⟩),.int .i64 i] w fun e w'=>e=.returned (.bool true)/\w=w':=by
 go_enter Tryz.func108,Tryz.ntmps108;go_wp2_with (go_at_call 38;refine(xP_ h).mono ?_;rintro e w' ⟨rfl,rfl⟩);go_ret;exact⟨rfl,rfl⟩
theorem zmD (h:Dsk w p bL bS bW L S V)(i:Int)(h0:i<0\/(V.length:Int)<=i) :
    Calls Tryz.prog 108 #[.pointer (some ⟨p,0,none⟩),.int .i64 i] w fun e w'=>e=.returned (.bool false)/\w=w':=by
 rcases h0 with h0|h0
 · have hd:decide (0<=i)=false:=(by simp;omega);go_enter Tryz.func108,Tryz.ntmps108;go_wp2_with (go_at_call 38;refine(xP_ h).mono ?_;rintro e w' ⟨rfl,rfl⟩);go_ret;exact⟨rfl,rfl⟩
 · by_cases hi:0<=i
   · go_enter Tryz.func108,Tryz.ntmps108;go_wp2_with (go_at_call 38;refine(xP_ h).mono ?_;rintro e w' ⟨rfl,rfl⟩);go_ret;exact⟨by simp;omega,rfl⟩
   · have:=h.pos;exact absurd h0 (by omega)
end
theorem vx_ {w:World}{g n c:Nat}(k:Nat)(h:64*(k+1)<=n)(hc:n<=c)(hn:c<=1000000) :
    Calls Tryz.prog 109 #[.slice (some ⟨g,0,none⟩) n c,.int .i64 (k:Int)] w fun e w'=>e=.returned (.slice (some ⟨g,k*64,none⟩) 64 (c-k*64))/\w=w':=by
 go_enter Tryz.func109,Tryz.ntmps109;go_wp2_with fail;go_ret;exact⟨by show Ending.returned (.slice _ ((k+1)*64-k*64) _)=_;rw[show(k+1)*64-k*64=64 by omega],rfl⟩
theorem ve_ {T:List Nat}{a w w':World}{row:Option Nat}(h:Chg T a w)(hg:w.grownBy w' row)(hr:∀g,row=some g->a.heap.size<=g):Chg T a w' :=
 h.then_ (T':=row.toList) (Chg.of_grown hg fun g e _=>by simp[e]) fun i hi hlt=>by
  have:=hr i (by simpa using hi);omega
structure Low (B:Nat) (w w':World):Prop where
  os:w'.os=w.os
  tape:w'.tape=w.tape
  output:w'.output=w.output
  size:w.heap.size<=w'.heap.size
  block:∀k,k<B->k<w.heap.size->w'.heap[k]?=w.heap[k]?
theorem Low.of_chg {B:Nat}{w w':World}(h:Chg [] w w'):Low B w w':=⟨h.os,h.tape,h.output,h.size,fun k _ hk=>h.block k hk (by simp)⟩
theorem Low.trans {B:Nat}{a b c:World}(h:Low B a b)(k:Low B b c):Low B a c :=
 ⟨k.os.trans h.os,k.tape.trans h.tape,k.output.trans h.output,Nat.le_trans h.size k.size,fun i hB hi=>(k.block i hB (Nat.lt_of_lt_of_le hi h.size)).trans (h.block i hB hi)⟩
theorem Low.chg {B:Nat}{a b:World}(h:Low B a b)(hB:a.heap.size<=B):Chg [] a b:=⟨h.os,h.tape,h.output,h.size,fun k hk _=>h.block k (Nat.lt_of_lt_of_le hk hB) hk⟩
theorem Low.of_own {B n:Nat}{e:TypeId}{v:Value}{xs:List Value}{w w':World}(ho:w.ownsRow B e 1 v n xs)(hg:w.grownBy w' v.ownBlock):Low B w w':=by
 refine⟨hg.os,hg.tape,hg.output,hg.size,fun k hk hl=>hg.block k hl fun hc=>?_⟩;rcases ho.2 with⟨rfl,_⟩|⟨g,cap,cur,rfl,hb,_⟩
 · cases hc
 · injection hc with hc;simp only at hc;omega
section
variable {P:Program} {T:Turns} {w0:World} {a0:Act} {ops:List Oper} {Q:Exit->Act->World->Prop} {F:Said} {k:Nat} {rest:List Oper}
  {d:Option Tmp} {ty:TypeId} {pos:String} {af:Array Go.Edge} {g:Option (Nat×Bool)} {B:Nat} {hard soft:List Nat}
end
def yd_ (b:Bool)(w:World)(e:Ending)(w':World):Prop:=e=.returned (.bool b)/\Chg [] w w'
theorem zU_ {a b:Bool}(h:a=b):Ending.returned (.bool a)=.returned (.bool b):=by rw[h]
theorem y3_ {k:IntKind}{a b:Int}(h:a=b):Ending.returned (.int k a)=.returned (.int k b):=by rw[h]
def zB_ (L P E:Int):Value:=.agg #[.int .i64 L,.int .i64 P,.int .u32 E]
def kw_ (n:Int):Int:=if n<0\/64<n then 0 else 18+n*66
theorem zn_ {w w':World}{B2 e2 k2 m:Nat}{v2:Value}{ys:List Value}{g t:Nat}{cs:List Value}(h:zb_ w g t cs)(h2:w.ownsRow B2 e2 k2 v2 m ys)(hne:t≠e2)(hg:w.grownBy w' v2.ownBlock):zb_ w' g t cs:=by
 unfold zb_ at h⊢;rw[hg.block g ?_ ?_]
 · exact h
 · rcases Nat.lt_or_ge g w.heap.size with hlt|hge
   · exact hlt
   · rw[Array.getElem?_eq_none hge]at h;cases h
 · intro hc;rcases h2.2 with⟨rfl,_⟩|⟨g2,cap2,cur2,rfl,hb2,hh2,_⟩
   · simp[Value.ownBlock]at hc
   · simp[Value.ownBlock]at hc;subst hc;rw[h]at hh2;simp at hh2;exact hne hh2.2
theorem yt_ {P:Program}{w:World}{ops:Array Oper}{o:Oper}{a:Act}{K:Act->World->Prop}{Q:Exit->Act->World->Prop}{E:Prop}(hgd:o.guard=none)(s x:Operand)(t:TypeId)
    (ho:o.op=.call { callee:=.builtin .append,args:=#[s,x],argTypes:=#[t,t] })
    (base:Nat) (e:TypeId) (i:TypeInfo) (z:Value) (size bytes:Nat) (ht:P.underlying t=some (.slice e)) (hi:P.info? e=some i) (hz:i.zero=some z)
    (hsize:i.size=size) (hby:i.bytes=bytes) (hzs:z.cells.size=size) (hsz:0<size)
    (v:Value) (n:Nat) (xs:List Value) (hse:a.eval s=v) (hown:w.ownsRow base e size v n xs)
    (ad:Addr) (m c:Nat) (news:List Value) (hxe:a.eval x=.slice (some ad) m c) (hl:news.length=m*size) (hnews:∀j u,news[j]?=some u->w.cell? (ad.add j)=some u) (h1:∀u∈news,u.oneCell'=true)
    (h63:n+m<=maxLen) (hbytes:(n+m)*bytes<=140737488355328) (hbase:base<=w.heap.size)
    (h:∀v' w',w'.ownsRow base e size v' (n+m) (xs++news)->w.grownBy w' v.ownBlock->K (a.put o.dst v') w') :
    if Region.wanted o (yielded ops a.tmps)=true then Oper.wp P o a w K Q else E:=by
 have hw:Region.wanted o (yielded ops a.tmps)=true:=by simp[Region.wanted,hgd]
 rw[if_pos hw];obtain⟨v',w',hrun,h2,h3,_,_⟩:=run_append_own_at (P:=P) w base t o.type e i z size bytes ht hi hz hsize hby hzs hsz v n xs hown ad m c news hl hnews h1 h63 hbytes hbase;unfold Oper.wp execOp;simp only[ho,resolve,invoke,builtin,Sem.run_bind,Sem.run_pure,Result.andThen_ok,List.map_toArray,List.map_cons,List.map_nil,hse,hxe,hrun];exact h v' w' h2 h3
theorem uj_:(Value.int .u8 0).cells.size=1:=rfl
theorem xi_ (l:List Int):(nms l).length=l.length:=by simp[nms]
theorem kv_ (l m:List Int):nms (l++m)=nms l++nms m:=by simp[nms]
theorem j0_ (l:List Int)(i:Nat)(h:i<l.length):(nms l)[i]?=some (.int .i64 l[i]):=by simp[nms,h]
theorem zd_ {w w':World}{p:Addr}{v:Value}(h:w.cell? p=some v)(hc:Chg [] w w'):w'.cell? p=some v:=by
 have hs:Src w (some p) [v]:=fun _=>⟨p,rfl,by
  rcases Nat.lt_or_ge p.block w.heap.size with hlt|hge
  · exact hlt
  · simp[World.cell?,Array.getElem?_eq_none hge]at h,fun j u hj=>by
  cases j with
  | zero =>
    simp at hj;subst hj;have e:p.add 0=p:=(by simp[Addr.add]);rw[e];exact h
  | succ j=>simp at hj⟩;obtain⟨ad,e,_,hx⟩:=hs.keep hc (by simp);injection e with e;subst e;have:=hx 0 v rfl;have e:p.add 0=p:=by simp[Addr.add]
 rwa[e]at this
theorem jC_ {w W:World}(h:Chg [] w.drew W):Chg [] w W:=(Chg.refl [] w).drew.new h
theorem not2' {a b x:Nat}(h1:x≠a)(h2:x≠b):x∉[a,b]:=by simp;exact⟨h1,h2⟩
theorem znr {k:IntKind}{a b:Int}(h:a=b):Ending.returned (.int k a)=.returned (.int k b):=by rw[h]
def stp (h:Int)(b:UInt8):Int:=bits .xor .u32 h ((b.toNat:Int)%4294967296)*16777619%4294967296
theorem znq (h:Int)(b:UInt8):Ending.returned (.int .u32 (bits .xor .u32 h ((b.toNat:Int)%4294967296)*16777619%4294967296))=.returned (.int .u32 (stp h b)):=by unfold stp;rfl
def zao (h:Int)(l:List UInt8):Int:=l.foldl stp h
theorem zgx (h:Int)(l:List UInt8)(b:UInt8):zao h (l++[b])=stp (zao h l) b:=by simp[zao]
theorem zgs {α:Type}(l:List α)(k:Nat)(h:k<l.length):l.take (k+1)=l.take k++[l[k]]:=List.take_succ_eq_append_getElem h
theorem zgy (h:Int)(l:List UInt8)(k:Nat)(hk:k<l.length):zao h (l.take (k+1))=stp (zao h (l.take k)) l[k]:=by rw[zgs l k hk,zgx]
section
variable {w:World}
theorem zkm (h:Int)(b:UInt8) :
    Calls Tryz.prog 147 #[.int .u32 h,.int .u8 (b.toNat:Int)] w fun e w'=>e=.returned (.int .u32 (stp h b))/\w=w':=by
 go_enter Tryz.func147,Tryz.ntmps147;go_wp2_with fail;go_ret;exact⟨znq h b,rfl⟩
variable {A:Option Addr} {n c:Nat} {l:List UInt8}
theorem znc (hl:l.length=n)(hs:Src w A (bts l))(hn:n<=9223372036854775807)(hsp:0<n->∀ad,A=some ad->ad.spot=none) :
    Calls Tryz.prog 111 #[.slice A n c] w fun e w'=>e=.returned (.int .u32 (zao 2166136261 l))/\w=w':=by
 have HL:=hQ_ hl;have HS:=hQ_ hsp;clear hl hsp;go_enter Tryz.func111,Tryz.ntmps111;go_wp2_with fail;go_loop [3,8] (fun h i=>∃k:Nat,k<=n/\i=.int .i64 (k:Int)/\h=.int .u32 (zao 2166136261 (l.take k))) (fun _ i=>n-(intOf i).toNat);case atStart=>exact⟨0,Nat.zero_le _,rfl,rfl⟩
 case round =>
  obtain⟨k,hk,rfl,rfl⟩:=hrel;by_cases hlt:k<n
  · have hkl:k<l.length:=(by rw[HL.o];exact hlt);obtain⟨⟨b,o,s⟩,rfl,_,hx⟩:=hs (by rw[zg_];omega);obtain rfl:s=none:=HS.o (by omega) _ rfl;have hx1:=hx k _ (gY_ l k hkl);rw[zl_]at hx1;have hnx:=hQ_ (zgy 2166136261 l k hkl);clear hx;generalize l[k]=q at hx1 hnx;unfold B8 at hx1;have hnx2:zao 2166136261 (l.take (k+1))=stp (zao 2166136261 (l.take k)) q:=hnx.out;generalize zao 2166136261 (l.take k)=H at hnx2⊢;have hnx:=hQ_ hnx2;clear hnx2;go_wp2_with (go_at_call 147;refine(zkm _ _).mono ?_;rintro e w' ⟨rfl,rfl⟩);go_round;(case rel=>exact⟨k+1,by omega,by go_num,by rw[hnx.out]⟩);case measure=>simp[intOf];omega
  · have ht:=hQ_ (show zao 2166136261 (l.take k)=zao 2166136261 l by rw[List.take_of_length_le (by rw[HL.o];omega)]);go_wp2_with fail;go_ret;exact⟨znr ht.out,rfl⟩
end
theorem yC_:(Tryz.prog.info? 5).map (fun i=>(i.zero,i.size,i.bytes))=some (some (.int .u8 0),1,1):=by kernel_rfl
def be4 (k:Nat):List UInt8:=[UInt8.ofNat (k/16777216),UInt8.ofNat (k/65536),UInt8.ofNat (k/256),UInt8.ofNat k]
theorem vY_ (k:Nat):(be4 k).length=4:=rfl
theorem zor (k:Nat)(hk:k<4294967296):bts (be4 k)=[.int .u8 ((k:Int)/16777216),.int .u8 ((k:Int)/65536%256),.int .u8 ((k:Int)/256%256),.int .u8 ((k:Int)%256)]:=by
 have h:∀x:Nat,(((UInt8.ofNat x).toNat:Nat):Int)=((x%256:Nat):Int):=fun x=>by rw[UInt8.toNat_ofNat']
 have h2:((k/16777216%256:Nat):Int)=(k:Int)/16777216:=by omega
 simp only[bts,be4,List.map_cons,List.map_nil,B8,h,h2,Int.natCast_emod,Int.natCast_ediv,Int.cast_ofNat_Int]
def xE_ (w:World)(l:List UInt8)(e:Ending)(w':World):Prop:=∃v,e=.returned v/\w'.ownsRow w.heap.size 5 1 v l.length (bts l)/\Chg [] w w'
section
variable {w:World} {A:Option Addr} {n c:Nat} {l:List UInt8}
theorem znB (k:Nat)(hk:k<4294967296)(hl:l.length=n)(hs:Src w A (bts l))(hn:n+4<=140737488355328) :
    Calls Tryz.prog 97 #[.slice A n c,.int .u32 (k:Int)] w (xE_ w (l++be4 k)):=by
 obtain⟨i,hi,hz,hs1,hb⟩:=info_parts yC_;have hmk:∀W:World,(Instr.makeSlice 39 (.int .i64 0) (.int .i64 ((n:Int)+4))).run Tryz.prog W=.ok (.slice (some ⟨W.heap.size,0,none⟩) 0 (n+4)) (W.alloc (.cells (bts (zm_ (n+4))).toArray 5)):=by
  intro W;rw[yT_];have:=x1_ (P:=Tryz.prog) 39 5 i _ rfl Tryz.underlying39 hi hz hs1 (n+4) (by rw[hb];omega) (by omega) W;simpa using this
 have ho0:(w.alloc (.cells (bts (zm_ (n+4))).toArray 5)).ownsRow w.heap.size 5 1 (.slice (some ⟨w.heap.size,0,none⟩) 0 (n+4)) 0 []:=by
  have:=z0_ (B:=w.heap.size) (n:=0) (c:=n+4) (zb_.new w 5 (bts (zm_ (n+4)))) (Nat.le_refl _) (by simp[zg_,zE_]) (by omega) (by unfold maxLen;omega);simpa using this
 have hlb:=hQ_ (show(bts l).length=n by rw[zg_,hl]);have hm1:=hQ_ (show 0+n<=maxLen by unfold maxLen;omega);have hm2:=hQ_ (show n+4<=maxLen by unfold maxLen;omega);have hm3:=hQ_ (show(0+n)*1<=140737488355328 by omega);have hm4:=hQ_ (show(n+4)*1<=140737488355328 by omega);have hbe:=hQ_ (zor k hk);go_enter Tryz.func97,Tryz.ntmps97;go_wp2_with (first
  | (at_builtin;refine zC_ rfl (.tmp 10) (.tmp 11) 39 rfl w.heap.size 5 i _ 1 Tryz.underlying39 hi hz hs1 hb uj_ (.slice (some ⟨w.heap.size,0,none⟩) 0 (n+4)) 0 [] rfl ho0 A n c (bts l) rfl hlb.out (hs.keep ((Chg.refl _ _).alloc _)) (yc_ l) hm1.out hm3.out (by simp) ?_;intro v1 w1 ho1 hg1 _;have hc1:Chg [] w w1:=((Chg.refl [] w).alloc _).own ho0 (Nat.le_refl _) hg1;clear hg1;simp only[Nat.zero_add,List.nil_append]at ho1;obtain⟨A1,c1,rfl,_⟩:=zr_ ho1)
  | (at_builtin;refine zC_ rfl (.tmp 13) (.tmp 25) 39 rfl w.heap.size 5 i _ 1 Tryz.underlying39 hi hz hs1 hb uj_ (.slice A1 n c1) n (bts l) rfl (zk_ ho1 ((Chg.refl _ _).alloc _)) (some ⟨w1.heap.size,0,none⟩) 4 4 _ rfl rfl (Src.of_all (zb_.new w1 5 (_::_::_::_::[])))
       (by rw[<-hbe.out];exact yc_ _) hm2.out hm4.out (by have:=hc1.size;simp;omega) ?_;intro v2 w2 ho2 hg2 _;have hc2:Chg [] w w2:=(hc1.alloc _).own (zk_ ho1 ((Chg.refl _ _).alloc _)) (Nat.le_refl _) hg2;clear hg2));go_ret;refine⟨v2,rfl,?_,hc2⟩;rw[<-hbe.out]at ho2;have e1:(l++be4 k).length=n+4:=by rw[List.length_append,vY_,hl]
 have e2:bts (l++be4 k)=bts l++bts (be4 k):=by simp[bts]
 rw[e1,e2];exact ho2
end
def zbG (l:List UInt8):Nat:=l.foldl (fun g b=>g*256+b.toNat) 0
theorem zhx (l:List UInt8)(b:UInt8):zbG (l++[b])=zbG l*256+b.toNat:=by simp[zbG]
theorem ziF:∀(l:List UInt8)(g:Nat),l.foldl (fun g b=>g*256+b.toNat) g<(g+1)*256^l.length
  | [],g=>by simp
  | b::l,g=>by
    have h:=ziF l (g*256+b.toNat);have hb:=b.toNat_lt;have h2:(g*256+b.toNat+1)*256^l.length<=((g+1)*256)*256^l.length:=Nat.mul_le_mul_right _ (by omega);rw[List.foldl_cons,List.length_cons,Nat.pow_succ,Nat.mul_comm (256^l.length) 256,<-Nat.mul_assoc];omega
theorem zhz (l:List UInt8):zbG l<256^l.length:=by
 have:=ziF l 0;simpa[zbG] using this
theorem zkZ (l:List UInt8)(k:Nat):zbG ((l.drop k).take 4)<4294967296:=by
 have h:=zhz ((l.drop k).take 4);have h2:((l.drop k).take 4).length<=4:=by rw[List.length_take];omega
 have:256^((l.drop k).take 4).length<=256^4:=Nat.pow_le_pow_right (by omega) h2;omega
theorem zhy (l:List UInt8)(k j:Nat)(h:k+j<l.length):zbG ((l.drop k).take (j+1))=zbG ((l.drop k).take j)*256+(l[k+j]).toNat:=by
 rw[List.take_succ_eq_append_getElem (by rw[List.length_drop];omega),zhx,List.getElem_drop]
theorem zkY (l:List UInt8)(k j:Nat)(hj:j<4):zbG ((l.drop k).take j)<16777216:=by
 have h:=zhz ((l.drop k).take j);have h2:((l.drop k).take j).length<=3:=by rw[List.length_take];omega
 have:256^((l.drop k).take j).length<=256^3:=Nat.pow_le_pow_right (by omega) h2;omega
theorem znF (g:Nat)(q:UInt8)(hg:g<16777216):bits .or .u32 ((g:Int)*256%4294967296) ((q.toNat:Int)%4294967296)=((g*256+q.toNat:Nat):Int):=by
 have hq:=q.toNat_lt;have e1:(g:Int)*256%4294967296=((g*256:Nat):Int):=by omega
 have e2:(q.toNat:Int)%4294967296=((q.toNat:Nat):Int):=by omega
 rw[e1,e2,u32_or_nat _ _ (by omega) (by omega),nat_join 8 (g*256) q.toNat (by omega) (by omega)]
def zz_ (l:List UInt8)(at_:Int):Nat:=if 0<=at_/\at_+4<=l.length then zbG ((l.drop at_.toNat).take 4) else 0
theorem xj_ (l:List UInt8)(i:Int):zz_ l i<4294967296:=by
 unfold zz_;split
 · exact zkZ _ _
 · omega
section
variable {w:World} {A:Option Addr} {n c:Nat} {l:List UInt8}
theorem zpo (hn:n<=9223372036854775807)(i:Int)(h:i<0\/(n:Int)<i+4)(hi:i<=9223372036854775807) :
    Calls Tryz.prog 148 #[.slice A n c,.int .i64 i] w fun e w'=>e=.returned (.int .u32 0)/\w=w':=by
 by_cases h0:i<0
 · go_enter Tryz.func148,Tryz.ntmps148;go_wp2_with fail;go_ret;exact⟨rfl,rfl⟩
 · have h1:(n:Int)-4<i:=(by omega);have h2:0<=i:=(by omega);have hd:decide (i<0)=false:=(by simpa using h0);clear h;go_enter Tryz.func148,Tryz.ntmps148;go_wp2_with fail;go_ret;exact⟨rfl,rfl⟩
theorem znY (hl:l.length=n)(hs:Src w A (bts l))(hn:n<=9223372036854775807)(hsp:0<n->∀ad,A=some ad->ad.spot=none)(k:Nat)(hk:k+4<=n)(hnc:n<=c)(hc:c<=9223372036854775807) :
    Calls Tryz.prog 148 #[.slice A n c,.int .i64 (k:Int)] w fun e w'=>e=.returned (.int .u32 (zbG ((l.drop k).take 4):Nat))/\w=w':=by
 have HL:=hQ_ hl;have HS:=hQ_ hsp;clear hl hsp;obtain⟨⟨b,o,s⟩,rfl,_,hx⟩:=hs (by rw[zg_,HL.o];omega);obtain rfl:s=none:=HS.o (by omega) _ rfl;go_enter Tryz.func148,Tryz.ntmps148;go_wp2_with fail;go_loop [5,23] (fun h i=>∃j:Nat,j<=4/\i=.int .i64 (j:Int)/\h=.int .u32 ((zbG ((l.drop k).take j):Nat):Int)) (fun _ i=>4-(intOf i).toNat);case atStart=>exact⟨0,by omega,rfl,rfl⟩
 case round =>
  obtain⟨j,hj,rfl,rfl⟩:=hrel;by_cases hlt:j<4
  · have hkl:k+j<l.length:=(by rw[HL.o];omega);have hx1:=hx (k+j) _ (gY_ l (k+j) hkl);rw[zl_]at hx1;unfold B8 at hx1;have hnx:=zhy l k j hkl;have hgl:=zkY l k j hlt;clear hx;generalize l[k+j]=q at hx1 hnx;have hob:=znF _ q hgl;rw[<-hnx]at hob;clear hnx;generalize zbG ((l.drop k).take j)=g at hob hgl;have hob2:=hQ_ hob;clear hob hgl;have hx2:w.cell? ⟨b,o+k+j,none⟩=some (.int .u8 (q.toNat:Int)):=(by rw[<-hx1,Nat.add_assoc]);clear hx1;go_wp2_with fail;go_round;(case rel=>exact⟨j+1,by omega,by go_num,by rw[hob2.out]⟩);case measure=>simp[intOf];omega
  · obtain rfl:j=4:=(by omega);go_wp2_with fail;go_ret;exact⟨rfl,rfl⟩
end
section
variable {w:World} {A:Option Addr} {n c:Nat} {l:List UInt8}
theorem sum_b (h:Bs w A n c l):Calls Tryz.prog 111 #[.slice A n c] w fun e w'=>e=.returned (.int .u32 (zao 2166136261 l))/\w=w':=znc h.len h.src h.le h.spot
theorem zeZ (h:Bs w A n c l)(k:Nat)(hk:k<4294967296)(hn:n+4<=140737488355328):Calls Tryz.prog 97 #[.slice A n c,.int .u32 (k:Int)] w (xE_ w (l++be4 k)):=znB k hk h.len h.src hn
theorem uF_ (h:Bs w A n c l)(i:Int)(hi:i<=9223372036854775807):Calls Tryz.prog 148 #[.slice A n c,.int .i64 i] w fun e w'=>e=.returned (.int .u32 (zz_ l i:Nat))/\w=w':=by
 unfold zz_;split
 · rename_i hc;obtain⟨k,rfl⟩:=Int.eq_ofNat_of_zero_le hc.1;rw[Int.toNat_natCast];exact znY h.len h.src h.le h.spot k (by have:=h.len;omega) h.cap h.max
 · rename_i hc;exact zpo h.le i (by have:=h.len;omega) hi
end
def znh (h:Nat)(b:UInt8):Nat:=(h ^^^ b.toNat)*16777619%4294967296
def znd (h:Nat)(l:List UInt8):Nat:=l.foldl znh h
theorem zng (h:Nat)(b:UInt8)(hh:h<4294967296):stp (h:Int) b=(znh h b:Nat):=by
 have hb:=b.toNat_lt;have e1:((b.toNat:Nat):Int)%4294967296=((b.toNat:Nat):Int):=by omega
 unfold stp znh;rw[e1,u32_xor_nat h b.toNat hh (by omega)];generalize h ^^^ b.toNat=y;omega
theorem zgB (h:Nat)(b:UInt8):znh h b<4294967296:=by unfold znh;omega
theorem zgv:∀(l:List UInt8)(h:Nat),h<4294967296->zao (h:Int) l=(znd h l:Nat)
  | [],h,_=>rfl
  | b::l,h,hh=>by
    have e1:zao (h:Int) (b::l)=zao (stp (h:Int) b) l:=rfl;have e2:znd h (b::l)=znd (znh h b) l:=rfl;rw[e1,e2,zng h b hh];exact zgv l _ (zgB h b)
theorem zgw:∀(l:List UInt8)(h:Nat),h<4294967296->znd h l<4294967296
  | [],_,hh=>hh
  | b::l,h,_=>by
    have e2:znd h (b::l)=znd (znh h b) l:=rfl;rw[e2];exact zgw l _ (zgB h b)
section
variable {w:World} {A:Option Addr} {n c:Nat} {l:List UInt8}
theorem Bs.take (h:Bs w A n c l){m:Nat}(hm:m<=n):Bs w A m c (l.take m) :=
 ⟨by rw[List.length_take,h.len];omega,src_pre m h.src,Nat.le_trans hm h.cap,h.max,fun h0=>h.spot (by omega)⟩
where
  src_pre (m:Nat) {w:World} {A:Option Addr} {l:List UInt8} (hs:Src w A (bts l)):Src w A (bts (l.take m)):=fun hp=>by
   obtain⟨ad,e,hb,hx⟩:=hs (by simp[bts]at hp⊢;omega)
   refine⟨ad,e,hb,fun j v hj=>hx j v ?_⟩
   unfold bts at hj⊢
   rw[List.map_take,List.getElem?_take]at hj
   split at hj
   · exact hj
   · cases hj
end
theorem qi_ (l m:List UInt8):bts (l++m)=bts l++bts m:=by simp[bts]
theorem jX_ {w:World}{B n:Nat}{e:TypeId}{v:Value}{xs:List Value}(h:w.ownsRow B e 1 v n xs)(hn:0<n) :
    ∃g r,v=.slice (some ⟨g,0,none⟩) n (n+r.length)/\B<=g/\zb_ w g e (xs++r)/\n+r.length<=maxLen:=by
 rcases h.2 with⟨_,h0⟩|⟨g,cap,cur,rfl,hb,hg,hc,hm,hs,ht⟩
 · omega
 · have hl:cur.toList.length=cap:=(by rw[Array.length_toList];omega);have h1:n*1=n:=Nat.mul_one n;rw[h1]at ht;have e1:cap=n+(cur.toList.drop n).length:=(by rw[List.length_drop,hl];omega);refine⟨g,cur.toList.drop n,by rw[<-e1],hb,?_,by omega⟩;unfold zb_;rw[<-ht,List.take_append_drop];exact hg
def kh_ (l:List UInt8):Nat:=znd 2166136261 l
theorem gk_ (l:List UInt8):kh_ l<4294967296:=zgw l _ (by omega)
theorem zoY (l:List UInt8):zao 2166136261 l=(kh_ l:Nat):=by
 have h:=zgv l 2166136261 (by omega);have e:((2166136261:Nat):Int)=2166136261:=rfl;rw[e]at h;exact h
theorem zcg (k:Nat)(hk:k<4294967296):zbG (be4 k)=k:=by
 simp only[zbG,be4,List.foldl_cons,List.foldl_nil,UInt8.toNat_ofNat'];omega
theorem y5_ (l m:List UInt8)(k:Nat)(hk:k<4294967296)(i:Int)(hi:i=l.length):zz_ (l++(be4 k++m)) i=k:=by
 subst hi;unfold zz_;rw[if_pos ⟨by omega,by simp only[List.length_append,vY_];omega⟩,Int.toNat_natCast,List.drop_left,List.take_left' (vY_ k),zcg k hk]
theorem zgu {w:World}{A:Option Addr}{n c:Nat}{l:List UInt8}(h:Bs w A n c l):Calls Tryz.prog 111 #[.slice A n c] w fun e w'=>e=.returned (.int .u32 (kh_ l:Nat))/\w=w':=by
 rw[<-zoY];exact sum_b h
theorem zaZ (n:Int):bits .and .i64 n 63=n%64:=by
 have h127:(BitVec.ofInt 64 63).toNat=2^6-1:=by decide
 have key:(BitVec.ofInt 64 n &&& BitVec.ofInt 64 63).toNat=(n%((2^64:Nat):Int)).toNat%2^6:=by
  rw[BitVec.toNat_and,BitVec.toNat_ofInt,h127,Nat.and_two_pow_sub_one_eq_mod]
 show IntKind.i64.wrap ((BitVec.ofInt 64 n &&& BitVec.ofInt 64 63).toNat:Nat)=n%64;rw[key,IntKind.wrap_i64];omega
def zmo (a:Int):Prop:=-9223372036854775808<=a/\a<=9223372036854775807
theorem zgg {x:Int}(h:zmo x):wrap64 x=x:=IntWalk.wrap64_in x h
def doR (s a b:Int):Int×Int :=
 if s=43 then (wrap64 (a+b),0) else if s=45 then (wrap64 (a-b),0) else if s=42 then (wrap64 (a*b),0)
 else if s=47 then (if b=0 then (0,3) else if a=-9223372036854775808/\b=-1 then (0,4) else (wrap64 (a.tdiv b),0))
 else if s=37 then (if b=0 then (0,3) else (a.tmod b,0))
 else if s=38 then (bits .and .i64 a b,0) else if s=124 then (bits .or .i64 a b,0) else if s=94 then (bits .xor .i64 a b,0)
 else if s=60 then (if a<b then 1 else 0,0) else if s=61 then (if a=b then 1 else 0,0)
 else if s=171 then (wrap64 (a*2^(b%64).toNat),0) else if s=187 then (a/2^(b%64).toNat,0)
 else if s=33 then (if a=0 then 1 else 0,0) else (0,2)
theorem zlK {s:Int}(a b:Int)(h:s≠43/\s≠45/\s≠42/\s≠47/\s≠37/\s≠38/\s≠124/\s≠94/\s≠60/\s≠61/\s≠171/\s≠187/\s≠33):doR s a b=(0,2):=by
 obtain⟨h1,h2,h3,h4,h5,h6,h7,h8,h9,h10,h11,h12,h13⟩:=h;simp[doR,h1,h2,h3,h4,h5,h6,h7,h8,h9,h10,h11,h12,h13]
def vV_ (n:Int)(i:Nat):UInt8:=UInt8.ofNat (n/2^(8*i)%256).toNat
theorem zbv (n:Int)(i:Nat):((vV_ n i).toNat:Int)=n/2^(8*i)%256:=by
 unfold vV_;rw[UInt8.toNat_ofNat'];have h1:=Int.emod_nonneg (n/2^(8*i)) (show(256:Int)≠0 by omega);have h2:=Int.emod_lt_of_pos (n/2^(8*i)) (show(0:Int)<256 by omega);omega
def stL (L:List UInt8)(k:Nat)(n:Int):Nat->List UInt8
  | 0=>L
  | m+1=>(stL L k n m).set (k+m) (vV_ n m)
def stV (V:List Bool)(k:Nat):Nat->List Bool
  | 0=>V
  | m+1=>(stV V k m).set ((k+m)/64) true
theorem gl_ (L:List UInt8)(k:Nat)(n:Int)(m:Nat):(stL L k n m).length=L.length:=by
 induction m with
 | zero=>rfl
 | succ m ih=>rw[stL,List.length_set,ih]
theorem znj (V:List Bool)(k m:Nat):(stV V k m).length=V.length:=by
 induction m with
 | zero=>rfl
 | succ m ih=>rw[stV,List.length_set,ih]
theorem znk (L:List UInt8)(k:Nat)(n:Int)(m i:Nat)(hi:i<m)(h:k+m<=L.length):(stL L k n m)[k+i]?=some (vV_ n i):=by
 induction m with
 | zero=>omega
 | succ m ih =>
   rw[stL,List.getElem?_set];by_cases e:m=i
   · subst e;rw[if_pos rfl,if_pos (by rw[gl_];omega)]
   · rw[if_neg (by omega)];exact ih (by omega) (by omega)
def ldN:List UInt8->Nat
  | []=>0
  | b::l=>b.toNat+256*ldN l
theorem zpj (l:List UInt8):ldN l<256^l.length:=by
 induction l with
 | nil=>simp[ldN]
 | cons b l ih =>
   have h:=b.toNat_lt;rw[ldN,List.length_cons,Nat.pow_succ];omega
theorem zli (L:List UInt8)(k j m:Nat)(h:k+j<L.length)(hm:0<m):ldN ((L.drop (k+j)).take m)=(L[k+j]).toNat+256*ldN ((L.drop (k+j+1)).take (m-1)):=by
 obtain⟨q,rfl⟩:∃q,m=q+1:=⟨m-1,by omega⟩;rw[List.drop_eq_getElem_cons h,List.take_succ_cons,ldN];rfl
def ldI (L:List UInt8)(k s:Nat):Int:=IntKind.i64.wrap (ldN ((L.drop k).take s):Nat)
theorem take8 (L:List UInt8)(k:Nat)(b0 b1 b2 b3 b4 b5 b6 b7:UInt8)(h0:L[k]?=some b0)(h1:L[k+1]?=some b1)(h2:L[k+2]?=some b2)(h3:L[k+3]?=some b3)
    (h4:L[k+4]?=some b4) (h5:L[k+5]?=some b5) (h6:L[k+6]?=some b6) (h7:L[k+7]?=some b7):(L.drop k).take 8=[b0,b1,b2,b3,b4,b5,b6,b7]:=by
      apply List.ext_getElem?;intro i;rw[List.getElem?_take,List.getElem?_drop]
      match i with
      | 0=>simpa using h0
      | 1=>simpa using h1
      | 2=>simpa using h2
      | 3=>simpa using h3
      | 4=>simpa using h4
      | 5=>simpa using h5
      | 6=>simpa using h6
      | 7=>simpa using h7
      | i+8=>simp;omega
theorem zpk (L:List UInt8)(k:Nat)(n:Int)(hn:zmo n)(h:k+8<=L.length):ldI (stL L k n 8) k 8=n:=by
 have g:=fun i hi=>znk L k n 8 i hi h;have e:=take8 (stL L k n 8) k _ _ _ _ _ _ _ _ (g 0 (by omega)) (g 1 (by omega)) (g 2 (by omega)) (g 3 (by omega)) (g 4 (by omega)) (g 5 (by omega)) (g 6 (by omega)) (g 7 (by omega));have q:=zbv n;have q0:=q 0;have q1:=q 1;have q2:=q 2;have q3:=q 3;have q4:=q 4;have q5:=q 5;have q6:=q 6;have q7:=q 7;simp only[Nat.mul_zero,Nat.mul_one,Nat.reduceMul,Int.pow_zero,Int.ediv_one,Int.reducePow]at q0 q1 q2 q3 q4 q5 q6 q7;obtain⟨n1,n2⟩:=hn;unfold ldI;rw[e];simp only[ldN];rw[IntKind.wrap_i64];generalize (vV_ n 0).toNat=c0 at *;generalize (vV_ n 1).toNat=c1 at *;generalize (vV_ n 2).toNat=c2 at *;generalize (vV_ n 3).toNat=c3 at *;generalize (vV_ n 4).toNat=c4 at *;generalize (vV_ n 5).toNat=c5 at *;generalize (vV_ n 6).toNat=c6 at *;generalize (vV_ n 7).toNat=c7 at *;omega
theorem zeD (a:Nat)(b:UInt8)(ha:a<72057594037927936):bits .or .u64 ((a:Int)*256) (b.toNat:Int)=((b.toNat+256*a:Nat):Int):=by
 have hb:=b.toNat_lt;have e:=bits_or_u64_nat (a*256) b.toNat (by omega) (by omega);have e1:((a*256:Nat):Int)=(a:Int)*256:=by omega
 rw[e1]at e;rw[e];congr 1;have h:=Nat.shiftLeft_add_eq_or_of_lt (i:=8) (b:=b.toNat) (by omega) a;rw[Nat.shiftLeft_eq]at h;have h256:(2:Nat)^8=256:=rfl;rw[h256]at h;rw[<-h];omega
structure Mm (w:World) (p gC gD:Nat) (L:List UInt8) (X:List Value) (V:List Bool) (Y:List Value) (most:Nat):Prop where
  rec_:zb_ w p 105 [.slice (some ⟨gC,0,none⟩) L.length (L.length+X.length),.int .i64 (most:Int),.slice (some ⟨gD,0,none⟩) V.length (V.length+Y.length)]
  cel:zb_ w gC 5 (bts L++X)
  dir:zb_ w gD 4 (bls V++Y)
  len:L.length=64*V.length
  le:V.length<=most
  top:most<=64
  capX:L.length+X.length<=maxLen
  capY:V.length+Y.length<=maxLen
section
variable {w w':World} {p gC gD:Nat} {L:List UInt8} {X:List Value} {V:List Bool} {Y:List Value} {most:Nat}
theorem Mm.keep (h:Mm w p gC gD L X V Y most)(hc:Chg [] w w'):Mm w' p gC gD L X V Y most :=
 ⟨h.rec_.keep hc,h.cel.keep hc,h.dir.keep hc,h.len,h.le,h.top,h.capX,h.capY⟩
theorem Mm.away {T:List Nat}(h:Mm w p gC gD L X V Y most)(hc:Chg T w w')(h0:p∉T)(h1:gC∉T)(h2:gD∉T):Mm w' p gC gD L X V Y most :=
 ⟨h.rec_.chg hc h0,h.cel.chg hc h1,h.dir.chg hc h2,h.len,h.le,h.top,h.capX,h.capY⟩
theorem Mm.small (h:Mm w p gC gD L X V Y most):L.length<=4096:=by have:=h.len;have:=h.le;have:=h.top;omega
theorem Mm.smallV (h:Mm w p gC gD L X V Y most):V.length<=64:=by have:=h.le;have:=h.top;omega
theorem Mm.byte (h:Mm w p gC gD L X V Y most)(k:Nat)(hk:k<L.length):w.cell? ⟨gC,k,none⟩=some (B8 L[k]):=by
 rw[h.cel.cell,List.getElem?_append_left (by rw[zg_];exact hk)];exact gY_ L k hk
theorem Mm.bit (h:Mm w p gC gD L X V Y most)(k:Nat)(hk:k<V.length):w.cell? ⟨gD,k,none⟩=some (.bool V[k]):=by
 rw[h.dir.cell,List.getElem?_append_left (by rw[qj_];exact hk)];exact vW_ V k hk
theorem Mm.src (h:Mm w p gC gD L X V Y most):Src w (some ⟨gC,0,none⟩) (bts L):=by
 have:=Src.of_whole h.cel 0 (bts L).length;rwa[List.drop_zero,List.take_left' rfl]at this
theorem ret_i {x y:Int}(h:x=y):Ending.returned (.int .i64 x)=.returned (.int .i64 y):=by rw[h]
theorem vL_ (b:Bool):Calls Tryz.prog 178 #[.bool b] w fun e w'=>e=.returned (.int .i64 (if b then 8 else 1))/\w=w':=by
 cases b <;>
 · go_enter Tryz.func178,Tryz.ntmps178;go_wp2_with fail;go_ret;exact⟨rfl,rfl⟩
theorem xe_ (h:Mm w p gC gD L X V Y most):Calls Tryz.prog 57 #[.pointer (some ⟨p,0,none⟩)] w fun e w'=>e=.returned (.int .i64 (V.length:Int))/\w=w':=by
 have c0:=h.rec_.cell 0;have hl:=hQ_ h.len;have b1:=h.small;go_enter Tryz.func57,Tryz.ntmps57;go_wp2_with fail;go_ret;exact⟨ret_i (by have:=hl.out;omega),rfl⟩
theorem qF_ (h:Mm w p gC gD L X V Y most)(k s:Nat)(hs:s<=8)(hk:k+s<=L.length) :
    Calls Tryz.prog 179 #[.pointer (some ⟨p,0,none⟩),.int .i64 (k:Int),.int .i64 (s:Int)] w fun e w'=>e=.returned (.bool true)/\w=w':=by
 have c0:=h.rec_.cell 0;have b1:=h.small;have hd:decide ((k:Int)<=(L.length:Int)-(s:Int))=true:=by simp;omega
 go_enter Tryz.func179,Tryz.ntmps179;go_wp2_with fail;go_ret;exact⟨rfl,rfl⟩
theorem jB_ (h:Mm w p gC gD L X V Y most)(k:Int)(s:Nat)(hs:s<=8)(hk:k<0\/(L.length:Int)-s<k) :
    Calls Tryz.prog 179 #[.pointer (some ⟨p,0,none⟩),.int .i64 k,.int .i64 (s:Int)] w fun e w'=>e=.returned (.bool false)/\w=w':=by
 have c0:=h.rec_.cell 0;have b1:=h.small;by_cases h0:0<=k
 · have hd:decide (k<=(L.length:Int)-(s:Int))=false:=(by simp;omega);clear hk;go_enter Tryz.func179,Tryz.ntmps179;go_wp2_with fail;go_ret;exact⟨rfl,rfl⟩
 · have hd:decide (0<=k)=false:=(by simpa using h0);clear hk h0;go_enter Tryz.func179,Tryz.ntmps179;go_wp2_with fail;go_ret;exact⟨rfl,rfl⟩
theorem zns {x y:Int}{b:Bool}(h:x=y):Ending.returned (.tuple #[.int .i64 x,.bool b])=.returned (.tuple #[.int .i64 y,.bool b]):=by rw[h]
theorem znQ (h:Mm w p gC gD L X V Y most)(k:Int)(wide:Bool)(s:Nat)(hw:s=if wide then 8 else 1)(hk:k<0\/(L.length:Int)-s<k) :
    Calls Tryz.prog 156 #[.pointer (some ⟨p,0,none⟩),.int .i64 k,.bool wide] w fun e w'=>e=.returned (.tuple #[.int .i64 0,.bool false])/\w=w':=by
 cases wide
 · simp only[Bool.false_eq_true,if_false]at hw;subst hw;go_enter Tryz.func156,Tryz.ntmps156;go_wp2_with (first
    | (go_at_call 178;refine(vL_ false).mono ?_;rintro e w' ⟨rfl,rfl⟩)
    | (go_at_call 179;refine(jB_ h k 1 (by omega) hk).mono ?_;rintro e w' ⟨rfl,rfl⟩));go_ret2;exact⟨rfl,rfl⟩
 · simp only[if_true]at hw;subst hw;go_enter Tryz.func156,Tryz.ntmps156;go_wp2_with (first
    | (go_at_call 178;refine(vL_ true).mono ?_;rintro e w' ⟨rfl,rfl⟩)
    | (go_at_call 179;refine(jB_ h k 8 (by omega) hk).mono ?_;rintro e w' ⟨rfl,rfl⟩));go_ret2;exact⟨rfl,rfl⟩
theorem zle (h:Mm w p gC gD L X V Y most)(k:Nat)(wide:Bool)(s:Nat)(hw:s=if wide then 8 else 1)(hk:k+s<=L.length) :
    Calls Tryz.prog 156 #[.pointer (some ⟨p,0,none⟩),.int .i64 (k:Int),.bool wide] w fun e w'=>e=.returned (.tuple #[.int .i64 (ldI L k s),.bool true])/\w=w':=by
 have c0:=h.rec_.cell 0;have b1:=h.small;have s1:s<=8:=by subst hw;split<;>omega
 have s2:1<=s:=by subst hw;split<;>omega
 have HW:=hQ_ (show(if wide then (8:Int) else 1)=(s:Int) by subst hw;cases wide<;>rfl);clear hw;go_enter Tryz.func156,Tryz.ntmps156;go_wp2_with (first
  | (go_at_call 178;refine(vL_ wide).mono ?_;rintro e w' ⟨rfl,rfl⟩;rw[HW.o])
  | (go_at_call 179;refine(qF_ h k s s1 hk).mono ?_;rintro e w' ⟨rfl,rfl⟩));go_loop [9,10] (fun a i=>∃j:Nat,j<=s/\i=.int .i64 ((j:Int)-1)/\a=.int .u64 (ldN ((L.drop (k+j)).take (s-j)):Nat)) (fun _ i=>(intOf i+1).toNat);case atStart=>exact⟨s,Nat.le_refl _,rfl,by simp[ldN]⟩
 case round =>
  obtain⟨j,hj,rfl,rfl⟩:=hrel;by_cases h0:0<j
  · obtain⟨i,rfl⟩:∃i,j=i+1:=⟨j-1,by omega⟩;have hki:k+i<L.length:=(by omega);have hx:=h.byte (k+i) hki;unfold B8 at hx;have hnx:=zli L k i (s-i) hki (by omega);have hlt:=zpj ((L.drop (k+i+1)).take (s-(i+1)));have hp:ldN ((L.drop (k+i+1)).take (s-(i+1)))<72057594037927936:=(by
     refine Nat.lt_of_lt_of_le hlt ?_;have e7:(256:Nat)^7=72057594037927936:=(by decide);rw[<-e7];refine Nat.pow_le_pow_right (by omega) ?_;rw[List.length_take];omega);rw[show s-i-1=s-(i+1) by omega]at hnx;have e1:k+(i+1)=k+i+1:=rfl;rw[e1];generalize ldN ((L.drop (k+i+1)).take (s-(i+1)))=a at *;generalize L[k+i]=b at *;have ho:=zeD a b hp;have HN:=hQ_ hnx;have HO:=hQ_ ho;have HB:=hQ_ (IntWalk.u64_in (b.toNat:Int) (by have:=b.toNat_lt;omega));clear hnx hlt e1 ho;have g1:((i+1:Nat):Int)-1=(i:Int):=(by omega);rw[g1];have g2:(0:Int)<=(i:Int):=(by omega);go_wp2_with fail;go_round;(case rel=>exact⟨i,by omega,rfl,by rw[HN.o,HB.o,HO.o]⟩);case measure=>simp[intOf]<;>omega
  · obtain rfl:j=0:=(by omega);go_wp2_with fail;go_ret2;exact⟨zns (by unfold ldI;first|rfl|exact(IntWalk.i64_left _).symm|(rw[IntWalk.i64_left];rfl)),rfl⟩
end
def Rows (B:Nat)(w:World)(vs:List Value)(rs:List (List UInt8)):Prop :=
 vs.length=rs.length/\∀(i:Nat)(v:Value)(l:List UInt8),vs[i]?=some v->rs[i]?=some l->w.ownsRow B 5 1 v l.length (bts l)
theorem Rows.keep {B:Nat}{w w':World}{vs:List Value}{rs:List (List UInt8)}(h:Rows B w vs rs)(hc:Chg [] w w'):Rows B w' vs rs :=
 ⟨h.1,fun i v l hv hl=>zk_ (h.2 i v l hv hl) hc⟩
theorem Rows.nil (B:Nat)(w:World):Rows B w [] []:=⟨rfl,fun i v l hv=>by simp at hv⟩
theorem Rows.snoc {B:Nat}{w:World}{vs:List Value}{rs:List (List UInt8)}(h:Rows B w vs rs){v:Value}{l:List UInt8}(ho:w.ownsRow B 5 1 v l.length (bts l)):Rows B w (vs++[v]) (rs++[l]):=by
 refine⟨by simp[h.1],fun i u x hu hx=>?_⟩;rcases Nat.lt_or_ge i vs.length with hi|hi
 · rw[List.getElem?_append_left hi]at hu;rw[List.getElem?_append_left (by rw[<-h.1];exact hi)]at hx;exact h.2 i u x hu hx
 · rw[List.getElem?_append_right hi]at hu;rw[List.getElem?_append_right (by rw[<-h.1];exact hi)]at hx;rw[<-h.1]at hx;cases hj:i-vs.length with
   | zero=>rw[hj]at hu hx;simp at hu hx;subst hu;subst hx;exact ho
   | succ j=>rw[hj]at hu;simp at hu
theorem zhr {w w':World}{B B2 n m:Nat}{e e2:TypeId}{v v2:Value}{xs ys:List Value}(h:w.ownsRow B e 1 v n xs)(h2:w.ownsRow B2 e2 1 v2 m ys)(hne:e≠e2)(hg:w.grownBy w' v2.ownBlock):w'.ownsRow B e 1 v n xs:=by
 refine⟨h.1,h.2.imp id ?_⟩;rintro⟨g,cap,cur,rfl,hb,hh,r⟩;refine⟨g,cap,cur,rfl,hb,?_,r⟩;rw[hg.block g ?_ ?_]
 · exact hh
 · rcases Nat.lt_or_ge g w.heap.size with hlt|hge
   · exact hlt
   · rw[Array.getElem?_eq_none hge]at hh;cases hh
 · intro hc;rcases h2.2 with⟨rfl,_⟩|⟨g2,cap2,cur2,rfl,hb2,hh2,_⟩
   · simp[Value.ownBlock]at hc
   · simp[Value.ownBlock]at hc;subst hc;rw[hh]at hh2;simp at hh2;exact hne hh2.2
theorem Rows.grown {B B2 m:Nat}{w w':World}{vs:List Value}{rs:List (List UInt8)}(h:Rows B w vs rs){v2:Value}{ys:List Value}(h2:w.ownsRow B2 39 1 v2 m ys)(hg:w.grownBy w' v2.ownBlock):Rows B w' vs rs :=
 ⟨h.1,fun i v l hv hl=>zhr (h.2 i v l hv hl) h2 (by decide) hg⟩
theorem kE_:(Tryz.prog.info? 39).map (fun i=>(i.zero,i.size,i.bytes))=some (some (.slice none 0 0),1,24):=by kernel_rfl
theorem qg_:(Value.slice none 0 0).cells.size=1:=rfl
def ux_ (L:Int):Int:=if L<1\/64<L then 0 else L*64
def zcm (L u:Int):Int:=max (ux_ L-max u 0) 0
def yD_ (L u n:Int):Bool:=decide (0<kw_ n)&&decide (kw_ n<=zcm L u)
theorem zkq (L:Int):0<=ux_ L/\ux_ L<=4096:=by unfold ux_;split<;>omega
section
variable {w:World}
theorem zaq (n:Int)(hn:n<=9223372036854775807):Calls Tryz.prog 119 #[.int .i64 n] w fun e w'=>e=.returned (.int .i64 (kw_ n))/\w=w':=by
 by_cases h0:n<0
 · go_enter Tryz.func119,Tryz.ntmps119;go_wp2_with fail;go_ret;exact⟨y3_ (by unfold kw_;rw[if_pos (.inl h0)]),rfl⟩
 · have hd:decide (n<0)=false:=(by simpa using h0);by_cases h1:64<n
   · go_enter Tryz.func119,Tryz.ntmps119;go_wp2_with fail;go_ret;exact⟨y3_ (by unfold kw_;rw[if_pos (.inr h1)]),rfl⟩
   · have h2:0<=n:=(by omega);have h3:n<=64:=(by omega);go_enter Tryz.func119,Tryz.ntmps119;go_wp2_with fail;go_ret;exact⟨y3_ (by unfold kw_;rw[if_neg (by omega)]),rfl⟩
theorem je_ (L P E:Int)(hL:L<=9223372036854775807):Calls Tryz.prog 123 #[zB_ L P E] w fun e w'=>e=.returned (.int .i64 (ux_ L))/\Chg [] w w':=by
 unfold zB_;by_cases h0:L<1
 · go_enter Tryz.func123,Tryz.ntmps123;go_wp2_with fail;go_ret;exact⟨y3_ (by unfold ux_;rw[if_pos (.inl h0)]),(Chg.refl _ _).alloc _⟩
 · have hd:decide (L<1)=false:=(by simpa using h0);by_cases h1:64<L
   · go_enter Tryz.func123,Tryz.ntmps123;go_wp2_with fail;go_ret;exact⟨y3_ (by unfold ux_;rw[if_pos (.inr h1)]),(Chg.refl _ _).alloc _⟩
   · have h2:1<=L:=(by omega);have h3:L<=64:=(by omega);go_enter Tryz.func123,Tryz.ntmps123;go_wp2_with fail;go_ret;exact⟨y3_ (by unfold ux_;rw[if_neg (by omega)]),(Chg.refl _ _).alloc _⟩
theorem zlg (L P E u:Int)(hL:L<=9223372036854775807)(hu:u<=9223372036854775807):Calls Tryz.prog 120 #[zB_ L P E,.int .i64 u] w fun e w'=>e=.returned (.int .i64 (zcm L u))/\Chg [] w w':=by
 have hs:=zkq L;obtain⟨b1,b2⟩:=hs;have b3:0<=max u 0:=by omega
 have b4:max u 0<=9223372036854775807:=by omega
 unfold zB_;go_enter Tryz.func120,Tryz.ntmps120;go_wp2_with (go_at_call 123;refine(je_ L P E hL).mono ?_;rintro e w1 ⟨rfl,hc1⟩);go_ret;exact⟨y3_ (by unfold zcm;rfl),((Chg.refl _ _).alloc _).new hc1⟩
theorem zlC (L P E u n:Int)(hL:L<=9223372036854775807)(hu:u<=9223372036854775807)(hn:n<=9223372036854775807) :
    Calls Tryz.prog 80 #[zB_ L P E,.int .i64 u,.int .i64 n] w fun e w'=>e=.returned (.bool (yD_ L u n))/\Chg [] w w':=by
 have HF:Hid (yD_ L u n=(decide (0<kw_ n)&&decide (kw_ n<=zcm L u))):=rfl;unfold zB_;by_cases h0:0<kw_ n
 · go_enter Tryz.func80,Tryz.ntmps80;go_wp2_with (first
    | (go_at_call 119;refine(zaq n hn).mono ?_;rintro e w1 ⟨rfl,rfl⟩)
    | (go_at_call 120;refine(zlg L P E u hL hu).mono ?_;rintro e w1 ⟨rfl,hc1⟩));go_ret;exact⟨zU_ (by rw[HF.o];simp[h0]),((Chg.refl _ _).alloc _).new hc1⟩
 · have hd:decide (0<kw_ n)=false:=(by simpa using h0);go_enter Tryz.func80,Tryz.ntmps80;go_wp2_with (first
    | (go_at_call 119;refine(zaq n hn).mono ?_;rintro e w1 ⟨rfl,rfl⟩));go_ret;exact⟨zU_ (by rw[HF.o,hd];rfl),(Chg.refl _ _).alloc _⟩
end
def xR_ (ep sq:Nat)(l:List UInt8):List UInt8:=be4 ep++be4 sq++be4 (l.length%4294967296)++l
def zT_ (ep sq:Nat)(l:List UInt8):List UInt8:=xR_ ep sq l++be4 (kh_ (xR_ ep sq l))
theorem qa_ (ep sq:Nat)(l:List UInt8):(xR_ ep sq l).length=12+l.length:=by simp only[xR_,List.length_append,vY_]
theorem yM_ (ep sq:Nat)(l:List UInt8):(zT_ ep sq l).length=16+l.length:=by simp only[zT_,List.length_append,vY_,qa_];omega
def zjU (N:List Nat)(k:Nat):List UInt8:=(N.take k).flatMap be4
theorem zhj (N:List Nat)(k:Nat)(h:k<N.length):zjU N (k+1)=zjU N k++be4 N[k]:=by
 unfold zjU;rw[List.take_succ_eq_append_getElem h,List.flatMap_append];simp
def zoN (N:List Nat):List Value:=N.map fun (q:Nat)=>Value.int .u32 (q:Int)
section
variable {w:World} {A:Option Addr} {n c:Nat} {l:List UInt8}
theorem ziB (h:Bs w A n c l)(ep sq:Nat)(he:ep<4294967296)(hs:sq<4294967296)(hn:n+16<=140737488355328) :
    Calls Tryz.prog 81 #[.int .u32 (ep:Int),.int .u32 (sq:Int),.slice A n c] w (xE_ w (zT_ ep sq l)):=by
 obtain⟨i,hi,hz,hs1,hb⟩:=info_parts yC_;have hmk:∀W:World,(Instr.makeSlice 39 (.int .i64 0) (.int .i64 (12+(n:Int)))).run Tryz.prog W=.ok (.slice (some ⟨W.heap.size,0,none⟩) 0 (12+n)) (W.alloc (.cells (bts (zm_ (12+n))).toArray 5)):=by
  intro W;rw[yT_];have:=x1_ (P:=Tryz.prog) 39 5 i _ rfl Tryz.underlying39 hi hz hs1 (12+n) (by rw[hb];omega) (by omega) W;simpa using this
 go_enter Tryz.func81,Tryz.ntmps81;go_wp2_with fail;have ho0:(w.alloc (.cells (bts (zm_ (12+n))).toArray 5)).ownsRow w.heap.size 5 1 (.slice (some ⟨w.heap.size,0,none⟩) 0 (12+n)) 0 []:=by
  have:=z0_ (B:=w.heap.size) (n:=0) (c:=12+n) (zb_.new w 5 (bts (zm_ (12+n)))) (Nat.le_refl _) (by simp[zg_,zE_]) (by omega) (by unfold maxLen;omega);simpa using this
 have hm32:n%4294967296<4294967296:=Nat.mod_lt _ (by omega);have hN:∀q∈[ep,sq,n%4294967296],q<4294967296:=by
  intro q hq;simp only[List.mem_cons,List.not_mem_nil,or_false]at hq;rcases hq with rfl|rfl|rfl<;>assumption
 have hNl:[ep,sq,n%4294967296].length=3:=rfl;have hfin:zjU [ep,sq,n%4294967296] 3++l=xR_ ep sq l:=by rw[xR_,h.len];simp[zjU]
 have HC:=zb_.new (w.alloc (.cells (bts (zm_ (12+n))).toArray 5)) 56 (zoN [ep,sq,n%4294967296]);have ho1:=zk_ ho0 ((Chg.refl [] _).alloc (.cells (zoN [ep,sq,n%4294967296]).toArray 56));have hc1:Chg [] w ((w.alloc (.cells (bts (zm_ (12+n))).toArray 5)).alloc (.cells (zoN [ep,sq,n%4294967296]).toArray 56)):=((Chg.refl [] w).alloc _).alloc _;have hzz:(w.alloc (.cells (bts (zm_ (12+n))).toArray 5)).heap.size=w.heap.size+1:=by simp
 have hu:(zoN [ep,sq,n%4294967296]).toArray=#[.int .u32 (ep:Int),.int .u32 (sq:Int),.int .u32 ((n:Int)%4294967296)]:=by
  simp[zoN]
 rw[hzz]at HC;rw[hu]at HC ho1 hc1;generalize (w.alloc (.cells (bts (zm_ (12+n))).toArray 5)).alloc (.cells #[.int .u32 (ep:Int),.int .u32 (sq:Int),.int .u32 ((n:Int)%4294967296)] 56)=w1 at HC ho1 hc1⊢;generalize [ep,sq,n%4294967296]=N at HC hN hNl hfin;have HN:=hQ_ hN;have HNL:=hQ_ hNl;have HFIN:=hQ_ hfin;have HB1:=h.keep hc1;clear hzz hu ho0 hN hNl hfin hmk;go_loopw [7,9,21] (fun v _ i wr=>∃k:Nat,k<=3/\i=.int .i64 (k:Int)/\(∃m,m=4*k/\wr.ownsRow w.heap.size 5 1 v m (bts (zjU N k)))/\Chg [] w1 wr) (fun _ _ i _=>3-(intOf i).toNat);case atStart=>exact⟨0,by omega,rfl,⟨0,rfl,ho1⟩,Chg.refl _ _⟩
 case round =>
  obtain⟨k,hk,rfl,⟨m,hm0,hown⟩,hcr⟩:=hrel;have hm1:4*k<=m:=by omega
  have hm2:m<=4*k:=by omega
  clear hm0;obtain⟨Av,cv,rfl,hBv,_⟩:=Bs.of_own hown;by_cases hlt:k<3
  · obtain⟨q,hq⟩:∃q,q=N[k]'(by rw[HNL.o];exact hlt):=⟨_,rfl⟩;have hq2:=HN.o q (by rw[hq];exact List.getElem_mem _);have hnx:=hQ_ (show zjU N (k+1)=zjU N k++be4 q by rw[hq];exact zhj N k _);have cq:wr.cell? ⟨w.heap.size+1,k,none⟩=some (.int .u32 (q:Int)):=(by
     rw[(HC.keep hcr).cell];unfold zoN;rw[List.getElem?_map,List.getElem?_eq_getElem (by rw[HNL.o];exact hlt),<-hq];rfl);clear hq;go_wp2_with fail;refine(zeZ hBv q hq2 (by omega)).mono ?_;rintro e w2 ⟨v2,rfl,ho2,hc2⟩;go_wp2_with fail;go_roundw;case rel =>
     refine⟨k+1,by omega,by go_num,⟨(zjU N k++be4 q).length,?_,?_⟩,hcr.new hc2⟩
     · have:=hBv.len;rw[List.length_append,vY_];omega
     · rw[hnx.out];exact zZ_ ho2 (by have:=hc1.size;have:=hcr.size;omega)
    case measure=>simp[intOf];omega
  · obtain rfl:k=3:=(by omega);obtain⟨w3,rfl⟩:∃w3:World,w3=wr:=⟨_,rfl⟩;have hl3:=HB1.keep hcr;have hmx:m=12:=(by omega);have hlb:=hQ_ (show(bts l).length=n by rw[zg_,h.len]);have hx1:=hQ_ (show m+n<=maxLen by unfold maxLen;omega);have hx2:=hQ_ (show(m+n)*1<=140737488355328 by omega);clear hmx;go_wp2_with (
     at_builtin;refine zC_ rfl (.tmp 29) (.tmp 30) 39 rfl w.heap.size 5 i _ 1 Tryz.underlying39 hi hz hs1 hb uj_ (.slice Av m cv) m (bts (zjU N 3)) rfl hown A n c (bts l) rfl hlb.out hl3.src (yc_ l) hx1.out hx2.out (by have:=hc1.size;have:=hcr.size;omega) ?_;intro v4 w4 ho4 hg4 _;have hc4:Chg [] w w4:=(hc1.new hcr).own hown (Nat.le_refl _) hg4;clear hg4;rw[<-qi_,HFIN.o]at ho4;obtain⟨A4,c4,rfl,hB4,_⟩:=Bs.of_own ho4);refine(zgu hB4).mono ?_;rintro e w' ⟨rfl,rfl⟩;go_wp2_with fail;refine(zeZ hB4 (kh_ (xR_ ep sq l)) (gk_ _) (by omega)).mono ?_;rintro e w5 ⟨v5,rfl,ho5,hc5⟩;go_wp2_with fail;go_ret;exact⟨v5,rfl,zZ_ ho5 hc4.size,hc4.new hc5⟩
end
def zS_ (l:List UInt8)(ep sq:Nat):Prop:=16<=l.length/\zz_ l 0=ep/\zz_ l 4=sq/\zz_ l 8<=l.length-16/\zz_ l ((12+zz_ l 8:Nat):Int)=kh_ (l.take (12+zz_ l 8))
def zga (l:List UInt8):List UInt8:=(l.drop 12).take (zz_ l 8)
def zmm (w:World)(l:List UInt8)(ep sq:Nat)(e:Ending)(w':World):Prop :=
 (zS_ l ep sq/\∃v,e=.returned (.tuple #[v,.int .i64 ((16+zz_ l 8:Nat):Int),.bool true])/\w'.ownsRow w.heap.size 5 1 v (zga l).length (bts (zga l))/\Chg [] w w') \/
 (¬zS_ l ep sq/\e=.returned (.tuple #[.slice none 0 0,.int .i64 0,.bool false])/\Chg [] w w')
theorem zlc (q:Nat)(hq:q<=281474976710656)(W:World) :
    (Instr.makeSlice 39 (.int .u32 (q:Int)) (.int .u32 (q:Int))).run Tryz.prog W=.ok (.slice (some ⟨W.heap.size,0,none⟩) q q) (W.alloc (.cells (bts (zm_ q)).toArray 5)):=by
      obtain⟨i,hi,hz,hs1,hb⟩:=info_parts yC_;have hb':(i.bytes:Int)*(q:Int)<=281474976710656:=(by rw[hb];omega);have h:=run_make (P:=Tryz.prog) W 39 5 i _ Tryz.underlying39 hi hz .u32 .u32 (q:Int) (q:Int) (by omega) (Int.le_refl _) hb' (by omega);have h1:(Value.int .u8 0).cells=#[Value.int .u8 0]:=rfl;rw[h,hs1,h1,gB_,yT_];simp
theorem zgK:(Tryz.prog.info? 5).map (·.size)=some 1:=by kernel_rfl
theorem zot {a b:Int}(h:a=b):(a != b)=false:=by simpa using h
theorem zpS {a b:Int}(h:a≠b):(a != b)=true:=by simpa using h
section
variable {w:World} {A:Option Addr} {n c:Nat} {l:List UInt8}
theorem jS_ (h:Bs w A n c l)(ep sq:Nat)(hn:n<=140737488355328) :
    Calls Tryz.prog 149 #[.slice A n c,.int .u32 (ep:Int),.int .u32 (sq:Int)] w (zmm w l ep sq):=by
 have hl:=h.len;by_cases h16:n<16
 · have hno:¬zS_ l ep sq:=fun hr=>(by have:=hr.1;omega);have HNO:=hQ_ hno;clear hno hl;go_enter Tryz.func149,Tryz.ntmps149;go_wp2_with fail;go_ret3;exact .inr ⟨HNO.o,rfl,Chg.refl _ _⟩
 have hd16:decide ((n:Int)<16)=false:=by simp;omega
 have HL:=hQ_ hl;clear hl;by_cases h0:zz_ l 0=ep;rotate_left
 · have HNO:=hQ_ (show ¬zS_ l ep sq from fun hr=>h0 hr.2.1);have hb:=zpS (show((zz_ l 0:Nat):Int)≠(ep:Int) by omega);clear h0;go_enter Tryz.func149,Tryz.ntmps149;go_wp2_with fail;refine(uF_ h 0 (by omega)).mono ?_;rintro e w' ⟨rfl,rfl⟩;go_wp2_with fail;go_ret3;exact .inr ⟨HNO.o,rfl,Chg.refl _ _⟩
 by_cases h4:zz_ l 4=sq;rotate_left
 · have HNO:=hQ_ (show ¬zS_ l ep sq from fun hr=>h4 hr.2.2.1);have hb:=zpS (show((zz_ l 4:Nat):Int)≠(sq:Int) by omega);have hb0:=zot (show((zz_ l 0:Nat):Int)=(ep:Int) by omega);clear h4 h0;go_enter Tryz.func149,Tryz.ntmps149;go_wp2_with fail;refine(uF_ h 0 (by omega)).mono ?_;rintro e w' ⟨rfl,rfl⟩;go_wp2_with fail;refine(uF_ h 4 (by omega)).mono ?_;rintro e w' ⟨rfl,rfl⟩;go_wp2_with fail;go_ret3;exact .inr ⟨HNO.o,rfl,Chg.refl _ _⟩
 have hb0:=zot (show((zz_ l 0:Nat):Int)=(ep:Int) by omega);have hb4:=zot (show((zz_ l 4:Nat):Int)=(sq:Int) by omega);have H0:=hQ_ h0;have H4:=hQ_ h4;clear h0 h4;have hq:=xj_ l 8;by_cases h8:zz_ l 8<=n-16;rotate_left
 · have HNO:=hQ_ (show ¬zS_ l ep sq from fun hr=>h8 (by have:=hr.2.2.2.1;rw[HL.o]at this;exact this));have hgt:(n:Int)-16<((zz_ l 8:Nat):Int):=(by omega);go_enter Tryz.func149,Tryz.ntmps149;go_wp2_with fail;refine(uF_ h 0 (by omega)).mono ?_;rintro e w' ⟨rfl,rfl⟩;go_wp2_with fail;refine(uF_ h 4 (by omega)).mono ?_;rintro e w' ⟨rfl,rfl⟩;go_wp2_with fail;refine(uF_ h 8 (by omega)).mono ?_;rintro e w' ⟨rfl,rfl⟩;go_wp2_with fail;go_ret3;exact .inr ⟨HNO.o,rfl,Chg.refl _ _⟩
 have hle:((zz_ l 8:Nat):Int)<=(n:Int)-16:=by omega
 go_enter Tryz.func149,Tryz.ntmps149;go_wp2_with fail;refine(uF_ h 0 (by omega)).mono ?_;rintro e w' ⟨rfl,rfl⟩;go_wp2_with fail;refine(uF_ h 4 (by omega)).mono ?_;rintro e w' ⟨rfl,rfl⟩;go_wp2_with fail;refine(uF_ h 8 (by omega)).mono ?_;rintro e w' ⟨rfl,rfl⟩;go_wp2_with fail;obtain⟨q,hqe⟩:∃q,q=zz_ l 8:=⟨_,rfl⟩;rw[<-hqe]at hq h8 hle⊢;have ECAST:=hQ_ (show(12:Int)+(q:Int)=((12+q:Nat):Int) by omega);have e1:((12:Int)+(q:Int)).toNat=12+q:=by omega
 have e2:(0:Int)<=12+(q:Int):=by omega
 have hcap:=h.cap;have e3:¬(c:Int)<12+(q:Int):=by omega
 have e4:¬c<12+q:=by omega
 have hA0:Option.map (fun x:Addr=>x.add 0) A=A:=by cases A<;>simp[Addr.add]
 have HE:=hQ_ hqe;have hT:=h.take (m:=12+q) (by omega);clear hqe;have kp:∀W,Chg [] w.drew W->Chg [] w W:=fun W hW=>(Chg.refl [] w).drew.new hW;obtain⟨b,hbt⟩:∃b:Bool,b=(((zz_ l (12+(q:Int)):Nat):Int) != ((kh_ (l.take (12+q)):Nat):Int)):=⟨_,rfl⟩;refine wp_flow (by kernel_rfl) yl_ za_ (by kernel_rfl) ?_;refine flow_move_out za_ rfl rfl rfl ?_;refine flow_move_out za_ rfl rfl rfl ?_;refine zw_ (.int .u32 ((zz_ l (12+(q:Int)):Nat):Int)) (by kernel_rfl) rfl (.cons (.inn rfl) (.cons (.inn rfl) .nil)) (fun W hW=>(uF_ (h.keep (kp W hW)) (12+(q:Int)) (by omega)).mono ?_) ?_
 · rintro e w' ⟨rfl,rfl⟩;exact⟨rfl,Chg.refl _ _⟩
 refine flow_move_out za_ rfl rfl rfl ?_;refine flow_move_out za_ rfl rfl rfl ?_;refine gK_ (r:=.slice A (12+q) c) za_ (.inn rfl) (.inn rfl) (fun ev W he e1 e2=>by go_simp) rfl ?_;refine zw_ (.int .u32 ((kh_ (l.take (12+q)):Nat):Int)) (by kernel_rfl) rfl (.cons (.inn rfl) .nil) (fun W hW=>(zgu (hT.keep (kp W hW))).mono ?_) ?_
 · rintro e w' ⟨rfl,rfl⟩;exact⟨rfl,Chg.refl _ _⟩
 refine flow2 (r:=.bool b) za_ rfl (.inn rfl) (.inn rfl) rfl (fun ev W he e1 e2=>by rw[hbt];go_simp) ?_;intro vs W hW hF;have e46:vs 46=.bool b:=hF 46 _ rfl rfl;have hcW:=kp W hW;simp only[zV_,Act.put,List.setIfInBounds_toArray,List.set_cons_zero,List.set_cons_succ,e46];cases b with
 | true =>
   have hne:zz_ l (12+(q:Int))≠kh_ (l.take (12+q)):=fun hc=>(by rw[hc]at hbt;simp at hbt);have HNO:=hQ_ (show ¬zS_ l ep sq from fun hr=>hne (by have:=hr.2.2.2.2;rw[<-HE.o,<-ECAST.out]at this;exact this));clear hbt hne;go_wp2_with fail;go_ret3;exact .inr ⟨HNO.o,rfl,hcW⟩
 | false =>
   have heq:zz_ l (12+(q:Int))=kh_ (l.take (12+q)):=(by
    have h2:=hbt.symm;simp only[bne_eq_false_iff_eq]at h2;omega);have HOK:=hQ_ (show zS_ l ep sq from⟨by rw[HL.o];omega,H0.o,H4.o,by rw[<-HE.o,HL.o];exact h8,by rw[<-HE.o,<-ECAST.out];exact heq⟩);clear hbt heq;have hmk:=zlc q (by omega);have hC:=(h.keep hcW).cut (lo:=12) (hi:=12+q) (by omega) (by omega);have hc12:¬c=12:=(by omega);rw[if_neg hc12,show 12+q-12=q by omega]at hC;have e5:¬12+q<12:=(by omega);have e6:12+q-12=q:=(by omega);obtain⟨⟨b0,o0,s0⟩,rfl,_,_⟩:=h.src (by rw[zg_,HL.o];omega);obtain rfl:s0=none:=h.spot (by omega) _ rfl;simp only[Option.map_some,zl_]at hC;obtain⟨X,hX⟩:∃X,X=(l.drop 12).take q:=⟨_,rfl⟩;rw[<-hX]at hC;have hXl:=hQ_ (show(bts X).length=Nat.min q q by rw[zg_,hC.len];simp);have hsp:=hQ_ (show splice (bts (zm_ q)) 0 (bts X)=bts X by rw[xX_];rw[zg_,zg_,zE_,hC.len]);have hfit:0+(bts X).length<=(bts (zm_ q)).length:=(by rw[zg_,zg_,zE_,hC.len];omega);have HX:=hQ_ hX;have hXq:=hQ_ hC.len;clear hX;have HFIT:=hQ_ hfit;clear hfit;have hsX:=hC.src;clear hC;go_wp2_with (
    (with_reducible refine z7_ rfl (.tmp 49) (.tmp 52) _ _ rfl 5 Tryz.underlying39 zgK (some ⟨W.heap.size,0,none⟩) (some ⟨b0,o0+12,none⟩) q q q (c-12) rfl rfl W.heap.size 0 5 (bts (zm_ q)) (bts X) (zb_.new W _ _) hXl.out (fun _=>rfl) (hsX.keep ((Chg.refl _ _).alloc _)) HFIT.o (yc_ X) ?_);intro w1 HG HC;rw[hsp.out]at HG);go_ret3;refine .inl ⟨HOK.o,.slice (some ⟨W.heap.size,0,none⟩) q q,?_,?_,?_⟩
   · rw[<-HE.o];have e7:(16:Int)+(q:Int)=((16+q:Nat):Int):=(by omega);rw[<-e7];rfl
   · have hr:zga l=X:=(by rw[zga,<-HE.o,HX.o]);rw[hr,hXq.out];have:=z0_ (B:=w.heap.size) (n:=q) (c:=q) HG hcW.size (by rw[zg_,hXq.out]) (Nat.le_refl _) (by unfold maxLen;omega);rwa[List.take_of_length_le (by rw[zg_,hXq.out];exact Nat.le_refl _)]at this
   · exact(hcW.alloc (.cells (bts (zm_ q)).toArray 5)).then_ HC (by have:=hcW.size;simp;omega)
end
def jb_ (vs:List Value)(rs:List (Option Int)):Prop:=vs.length=rs.length/\∀(i:Nat)(v:Value)(r:Option Int),vs[i]?=some v->rs[i]?=some r->Num v r
theorem jb_.nil:jb_ [] []:=⟨rfl,fun i v r h _=>by simp at h⟩
theorem jb_.cons {v:Value}{r:Option Int}{vs:List Value}{rs:List (Option Int)}(h:Num v r)(k:jb_ vs rs):jb_ (v::vs) (r::rs):=by
 refine⟨by simp[k.1],fun i u q hu hq=>?_⟩;cases i with
 | zero=>simp at hu hq;subst hu;subst hq;exact h
 | succ i=>simp at hu hq;exact k.2 i u q hu hq
theorem jb_.app {vs vs':List Value}{rs rs':List (Option Int)}(h:jb_ vs rs)(k:jb_ vs' rs'):jb_ (vs++vs') (rs++rs'):=by
 refine⟨by simp[h.1,k.1],fun i u q hu hq=>?_⟩;rcases Nat.lt_or_ge i vs.length with hi|hi
 · rw[List.getElem?_append_left hi]at hu;rw[List.getElem?_append_left (by rw[<-h.1];exact hi)]at hq;exact h.2 i u q hu hq
 · rw[List.getElem?_append_right hi]at hu;rw[List.getElem?_append_right (by rw[<-h.1];exact hi),<-h.1]at hq;exact k.2 _ u q hu hq
theorem zch (l:List Int):∀v∈nms l,v.oneCell'=true:=by
 intro v hv;simp only[nms,List.mem_map]at hv;obtain⟨c,_,rfl⟩:=hv;rfl
theorem jk_:(Tryz.prog.info? 2).map (fun i=>(i.zero,i.size,i.bytes))=some (some (.int .i64 0),1,8):=by kernel_rfl
theorem zhO (n:Nat)(hn:n<=1000000)(W:World):(Instr.makeSlice 45 (.int .i64 0) (.int .i64 (n:Int))).run Tryz.prog W=.ok (.slice (some ⟨W.heap.size,0,none⟩) 0 n) (W.alloc (.cells (List.replicate n (Value.int .i64 0)).toArray 2)):=by
 obtain⟨i,hi,hz,hs1,hb⟩:=info_parts jk_;exact x1_ (P:=Tryz.prog) 45 2 i _ rfl Tryz.underlying45 hi hz hs1 n (by rw[hb];omega) (by omega) W
section
variable {w:World} {A:Option Addr} {n c:Nat} {vs:List Value}
def zjR (ns:List Int)(w:World)(e:Ending)(w':World):Prop:=∃v,e=.returned (.tuple #[v,.bool true])/\w'.ownsRow w.heap.size 2 1 v ns.length (nms ns)/\Chg [] w w'
theorem zjE {ns:List Int}(hN:jb_ vs (ns.map some))(hs:Src w A vs)(hA:∀ad,A=some ad->ad.spot=none)(hn:vs.length=n)(hm:n<=1000000) :
    Calls Tryz.prog 23 #[.slice A n c] w (zjR ns w):=by
 obtain⟨i0,hi,hz0,hz1,hz2⟩:=info_parts jk_;have hmk:=zhO n hm;have HNS:=hQ_ (show ns.length=n by have:=hN.1;rw[List.length_map]at this;omega);have HVS:=hQ_ hn;have HA:=hQ_ hA;have HN:=hQ_ hN;clear hn hA hN;go_enter Tryz.func23,Tryz.ntmps23;go_wp2_with fail;have ho0:(w.alloc (.cells (List.replicate n (Value.int .i64 0)).toArray 2)).ownsRow w.heap.size 2 1 (.slice (some ⟨w.heap.size,0,none⟩) 0 n) 0 (nms (ns.take 0)):=by
  have:=z0_ (B:=w.heap.size) (n:=0) (c:=n) (zb_.new w 2 (List.replicate n (Value.int .i64 0))) (Nat.le_refl _) (by simp) (by omega) (by unfold maxLen;omega);simpa[nms] using this
 have hc0:Chg [] w (w.alloc (.cells (List.replicate n (Value.int .i64 0)).toArray 2)):=(Chg.refl _ _).alloc _;go_loopw [4,14] (fun v i wr=>∃k:Nat,k<=n/\i=.int .i64 (k:Int)/\wr.ownsRow w.heap.size 2 1 v k (nms (ns.take k))/\Chg [] w wr) (fun _ i _=>n-(intOf i).toNat);case atStart=>exact⟨0,Nat.zero_le _,rfl,ho0,hc0⟩
 case round =>
  obtain⟨k,hk,rfl,hown,hcg⟩:=hrel;have hwr:=hcg.size;clear ho0 hc0;by_cases hlt:k<n
  · have hlv:k<vs.length:=(by rw[HVS.o];exact hlt);have hln:k<ns.length:=(by rw[HNS.o];exact hlt);obtain⟨ad,rfl,_,hx⟩:=(hs.keep hcg) (by omega);have hx1:=hx k _ (List.getElem?_eq_getElem hlv);obtain⟨b1,o1,s1⟩:=ad;obtain rfl:s1=none:=HA.o _ rfl;rw[zl_]at hx1;have hnum:Num vs[k] (some ns[k]):=HN.o.2 k _ _ (List.getElem?_eq_getElem hlv) (by simp[hln]);have HT:=hQ_ (show nms (ns.take (k+1))=nms (ns.take k)++[.int .i64 ns[k]] by rw[List.take_succ_eq_append_getElem hln,kv_];rfl);generalize vs[k]=u at hx1 hnum;generalize ns[k]=q at hnum HT;obtain⟨X,hX⟩:∃X,X=nms (ns.take k):=⟨_,rfl⟩;rw[<-hX]at hown HT;clear hx hX;go_wp2_with fail;refine(zgl hnum).mono ?_;rintro e w1 ⟨rfl,hc1⟩;have hown1:=zk_ hown hc1;have hs1:=hc1.size;simp only[Option.getD_some,Option.isSome_some];go_wp2_with (first
     | (at_builtin;refine wpList_append_own _ rfl (.tmp 25) (.tmp 27) _ rfl w.heap.size 2 i0 (.int .i64 0) 1 8 Tryz.underlying45 hi hz0 hz1 hz2 rfl (by decide) _ k X rfl (zk_ hown1 ((Chg.refl _ _).alloc _)) ⟨w1.heap.size,0,none⟩ 1 1 [.int .i64 q] rfl rfl ?c1 ?c2 ?c3 ?c4 ?c5 ?_;(case c1=>exact cell_one_new _ _ _);(case c2=>simp[Value.oneCell']);(case c3=>simp only[maxLen];omega);(case c4=>omega);(case c5=>simp;omega);intro v' w2 hown' hg' _));go_roundw;case rel =>
     refine⟨k+1,by omega,by go_num,?_,ve_ ((hcg.new hc1).alloc _) hg' fun g hgg=>(hown1.lt g hgg).1⟩;rw[HT.o];exact hown'
    case measure=>simp[intOf];omega
  · have hkn:k=n:=(by omega);subst hkn;have HK:=hQ_ (show ns.take k=ns by rw[List.take_of_length_le (by rw[HNS.o];exact Nat.le_refl _)]);rw[HK.o]at hown;rw[<-HNS.o]at hown;clear hlt hk;go_wp2_with fail;go_ret2;exact⟨_,rfl,hown,hcg⟩
end
section
variable {w w':World} {p gC gD:Nat} {L:List UInt8} {X:List Value} {V:List Bool} {Y:List Value} {most:Nat}
theorem zeM (h:Mm w p gC gD L X V Y most)(k i:Nat)(n:Int)(b:UInt8)(hb:b=vV_ n i)(hk:k+i<L.length) :
    Mm ((w.setCell ⟨gC,k+i,none⟩ (B8 b)).setCell ⟨gD,(k+i)/64,none⟩ (.bool true)) p gC gD (L.set (k+i) (vV_ n i)) X (V.set ((k+i)/64) true) Y most /\
      Chg [gC,gD] w ((w.setCell ⟨gC,k+i,none⟩ (B8 b)).setCell ⟨gD,(k+i)/64,none⟩ (.bool true)):=by
 subst hb;have d0:=h.rec_.ne_ h.cel (by decide);have d1:=h.rec_.ne_ h.dir (by decide);have d2:=h.cel.ne_ h.dir (by decide);have hl:=h.len;have hc:=h.cel.set_ (k+i) (B8 (vV_ n i));rw[List.set_append_left _ _ (by rw[zg_];exact hk),zoq]at hc;have hd:=(h.dir.far (p:=⟨gC,k+i,none⟩) (Ne.symm d2) (B8 (vV_ n i))).set_ ((k+i)/64) (.bool true);rw[List.set_append_left _ _ (by rw[qj_];omega),gZ_]at hd;refine⟨⟨?_,hc.far d2 _,hd,by rw[List.length_set,List.length_set];exact h.len,by rw[List.length_set];exact h.le,h.top,by rw[List.length_set];exact h.capX,by rw[List.length_set];exact h.capY⟩,?_⟩
 · rw[List.length_set,List.length_set];exact(h.rec_.far d0 _).far d1 _
 · exact((Chg.refl [gC,gD] w).setCell (by simp) _).setCell (by simp) _
theorem zkl (h:Mm w p gC gD L X V Y most)(k n:Int)(wide:Bool)(s:Nat)(hw:s=if wide then 8 else 1)(hk:k<0\/(L.length:Int)-s<k) :
    Calls Tryz.prog 157 #[.pointer (some ⟨p,0,none⟩),.int .i64 k,.int .i64 n,.bool wide] w fun e w'=>e=.returned (.bool false)/\w=w':=by
 have s1:s<=8:=by subst hw;split<;>omega
 have HW:=hQ_ (show(if wide then (8:Int) else 1)=(s:Int) by subst hw;cases wide<;>rfl);have HK:=hQ_ hk;clear hw hk;go_enter Tryz.func157,Tryz.ntmps157;go_wp2_with (first
  | (go_at_call 178;refine(vL_ wide).mono ?_;rintro e w' ⟨rfl,rfl⟩;rw[HW.o])
  | (go_at_call 179;refine(jB_ h k s s1 HK.o).mono ?_;rintro e w' ⟨rfl,rfl⟩));go_ret;exact⟨rfl,rfl⟩
def zjI (w:World)(p gC gD:Nat)(L:List UInt8)(X:List Value)(V:List Bool)(Y:List Value)(most k:Nat)(n:Int)(s:Nat)(e:Ending)(w':World):Prop :=
 e=.returned (.bool true)/\Mm w' p gC gD (stL L k n s) X (stV V k s) Y most/\Chg [gC,gD] w w'
theorem zgC (h:Mm w p gC gD L X V Y most)(k:Nat)(n:Int)(wide:Bool)(s:Nat)(hw:s=if wide then 8 else 1)(hk:k+s<=L.length) :
    Calls Tryz.prog 157 #[.pointer (some ⟨p,0,none⟩),.int .i64 (k:Int),.int .i64 n,.bool wide] w (zjI w p gC gD L X V Y most k n s):=by
 have b1:=h.small;have hlen:=h.len;have s1:s<=8:=by subst hw;split<;>omega
 have HW:=hQ_ (show(if wide then (8:Int) else 1)=(s:Int) by subst hw;cases wide<;>rfl);have HL:=hQ_ hlen;clear hw hlen;go_enter Tryz.func157,Tryz.ntmps157;go_wp2_with (first
  | (go_at_call 178;refine(vL_ wide).mono ?_;rintro e w' ⟨rfl,rfl⟩;rw[HW.o])
  | (go_at_call 179;refine(qF_ h k s s1 hk).mono ?_;rintro e w' ⟨rfl,rfl⟩));go_loopw [19] (fun i wr=>∃m:Nat,m<=s/\i=.int .i64 (m:Int)/\Mm wr p gC gD (stL L k n m) X (stV V k m) Y most/\Chg [gC,gD] w wr) (fun i _=>s-(intOf i).toNat);case atStart=>exact⟨0,by omega,rfl,h,Chg.refl _ _⟩
 case round =>
  obtain⟨m,hm,rfl,hM,hC⟩:=hrel;by_cases hlt:m<s
  · have hki:k+m<(stL L k n m).length:=(by rw[gl_];omega);have hst:=zeM hM k m n (vV_ n m) rfl hki;have hl1:(stL L k n m).length=L.length:=gl_ _ _ _ _;have hl2:(stV V k m).length=V.length:=znj _ _ _;have c0:=hM.rec_.cell 0;have c2:=hM.rec_.cell 2;have cb:=hM.byte (k+m) hki;have hx64:(k+m)/64<(stV V k m).length:=(by rw[hl2];have:=HL.o;omega);have cd:=hM.bit ((k+m)/64) hx64;have fc:=hM.cel.frozen (k+m);have fd:=hM.dir.frozen ((k+m)/64);have dcd:=hM.cel.ne_ hM.dir (by decide);have dpc:=hM.rec_.ne_ hM.cel (by decide);have hby:=hQ_ (zbv n m);rw[hl1]at c0 c2;rw[hl2]at c0 c2;have HC:=hQ_ hC;have HST:=hQ_ hst;have HM:=hQ_ hM;have e1:IntKind.i64.wrap ((k:Int)+(m:Int))=(k:Int)+(m:Int):=IntWalk.i64_in _ (by omega);have e2:((k:Int)+(m:Int)).toNat=k+m:=(by omega);have e3:(0:Int)<=(k:Int)+(m:Int):=(by omega);have e4:IntKind.i64.wrap (8*(m:Int))=8*(m:Int):=IntWalk.i64_in _ (by omega);have e5:(8*(m:Int)).toNat=8*m:=(by omega);have e6:(0:Int)<=8*(m:Int):=(by omega);have e7:min (8*m) 64=8*m:=(by omega);have e8:k+m<L.length:=(by omega);have e9:(k+m)/64<V.length:=(by have:=HL.o;omega);clear hl1 hl2 hC hst hM;go_wp2_with fail;go_still_tail 12,(by kernel_rfl);change wpList _ _ _ _ _ wr.drew;go_wp2_with fail
    · go_roundw;case rel =>
       have hq:=HST.o;unfold B8 at hq;rw[hby.out]at hq;exact⟨m+1,by omega,by go_num,hq.1.keep (Chg.refl [] _).drew,(HC.o.trans hq.2).drew⟩
      case measure=>simp[intOf]<;>omega
  · obtain rfl:m=s:=(by omega);go_wp2_with fail;go_ret;exact⟨rfl,hM,hC⟩
end
section
variable {P:Program} {ops:Array Oper} {rest:List Oper} {o:Oper} {a:Act} {w:World} {Q:Exit->Act->World->Prop}
theorem jz_ (hg:o.guard=none)(t:TypeId)(parts:Array (Nat×Operand))(ho:o.op=.build t parts)(C:Array Value)(hf:P.built t (parts.map fun (i,x)=>(i,a.eval x)).toList=some C)
    (h:wpList P ops Q rest (a.put o.dst (.agg C)) w):wpList P ops Q (o::rest) a w :=
      wpList_build hg t parts ho (by rw[hf];rfl) (by rw[hf];exact h)
theorem jA_ (hg:o.guard=none)(t:TypeId)(ho:o.op=.alloc t){i:TypeInfo}{z:Value}(hi:P.info? t=some i)(hz:i.zero=some z)(N:Nat)(hN:w.heap.size=N)
    (h:wpList P ops Q rest (a.put o.dst (.pointer (some ⟨N,0,none⟩))) (w.alloc (.cells z.cells t))):wpList P ops Q (o::rest) a w:=by
      subst hN;refine wpList_plain hg fun K hK=>?_;unfold Oper.wp execOp;simp[ho,go_sem,zeroValue,typeInfo,hi,hz];exact hK _ _ h
end
section
variable {P:Program} {ops:Array Oper} {o:Oper} {a:Act} {w:World} {K:Act->World->Prop} {Q:Exit->Act->World->Prop} {E:Prop}
theorem zgD (hgd:o.guard=none)(h:Oper.wp P o a w K Q):if Region.wanted o (yielded ops a.tmps)=true then Oper.wp P o a w K Q else E:=by
 have hw:Region.wanted o (yielded ops a.tmps)=true:=by simp[Region.wanted,hgd]
 rw[if_pos hw];exact h
theorem uN_ (hgd:o.guard=none)(ty:TypeId)(x:Operand)(ho:o.op=.load ty x)
    (g:Nat) (hx:a.eval x=.pointer (some ⟨g,0,none⟩)) (t:TypeId) (cs:Array Value) (fr:Nat×Nat) (d:TypeDesc) (hg:w.heap[g]?=some (.cells cs t fr))
    (hu:P.underlying ty=some d) (hd:(match d with|.struct _|.array _ _=>true|_=>false)=true) (hi:(P.info? ty).map (·.size)=some cs.size)
    (h:K (a.put o.dst (.agg cs)) w):if Region.wanted o (yielded ops a.tmps)=true then Oper.wp P o a w K Q else E :=
      zgD hgd (wp_load_row ty x ho g hx t cs fr d hg hu hd hi h)
theorem xN_ (hgd:o.guard=none)(t e:TypeId)(x:Operand)(ho:o.op=.buildSlice t 1 #[(0,x)])(cells:Array Value)(hx:a.eval x=.agg cells){i:TypeInfo}{z:Value}(s:Nat)
    (hu:P.underlying t=some (.slice e)) (hi:P.info? e=some i) (hz:i.zero=some z) (hs:i.size=s) (hzs:z.cells.size=s) (hpos:0<s) (hbig:s<=1000) (hc:cells.size=s) (N:Nat) (hN:w.heap.size=N)
    (h:K (a.put o.dst (.slice (some ⟨N,0,none⟩) 1 1)) (w.alloc (.cells cells e))):if Region.wanted o (yielded ops a.tmps)=true then Oper.wp P o a w K Q else E:=by
      subst hN;refine zgD hgd (Go.wp_buildSlice t e 1 #[(0,x)] ho cells i z hu hi hz (by rw[hs];omega) (by rw[hs];omega) ?_ h);have:=Go.Great.fill_whole hpos [.agg cells] ((Array.range (1*i.size)).map (z.cells[·%z.cells.size]!)) (by intro v hv;rw[List.mem_singleton]at hv;subst hv;exact hc) (by simp[hs]);simp only[List.map_toArray,List.map_cons,List.map_nil,hx,hs]at this⊢;rw[show([(Value.agg cells)].zipIdx 0).map (fun x=>(x.2,x.1))=[(0,Value.agg cells)] from rfl]at this;rw[this];simp[Value.cells]
end
theorem zau {w:World}{g t:Nat}{old cs:List Value}(h:zb_ w g t old):zb_ (w.setRow g cs.toArray) g t cs:=by
 have:=Go.setRow_heap w g old.toArray cs.toArray t (0,0) h;exact this
theorem zeT {w:World}{g:Nat}{cs:Array Value}{T:List Nat}{a:World}(h:Chg T a w)(hg:a.heap.size<=g):Chg T a (w.setRow g cs):=by
 refine⟨h.os,h.tape,h.output,?_,fun k hk hn=>?_⟩
 · have:=h.size;simpa[World.setRow] using this
 · exact(Go.setRow_other w g k cs (by omega)).trans (h.block k hk hn)
end Go.Proofs.YtcbcfcdmdedefaaGreatDoor
