import Derived.Test.YtcbcfcdmdedefaaGreatDoorZHQ1
import Derived.Test.YtcbcfcdmdedefaaGreatDoorZHQ2
import Derived.Deep.DeepCutAuto
import Derived.Great.Walk
set_option maxRecDepth 100000
set_option maxHeartbeats 16000000
namespace Go.Proofs.YtcbcfcdmdedefaaGreatDoor
open Go.RowKit
def xX_ (w:World)(e:Ending)(w':World):Prop:=e=.returned (.bool true)/\Chg [] w w'
def yn_:Turns:=⟨Chg [],Chg [],[],[]⟩
theorem za_:yn_.Ok:=⟨Chg.refl [],fun _ _ h=>h,fun _ _ _ h k=>h.trans k⟩
theorem xM_ (k:Nat):yn_.by_ k=Chg []:=by unfold Turns.by_;split<;>rfl
def jk_ (B:Nat)(e:TypeId)(xs:List Value):yJ_:=fun v W=>W.ownsRow B e 1 v xs.length xs
theorem yj_ (B:Nat)(e:TypeId)(xs:List Value):zQ_ (Chg []) (jk_ B e xs):=fun _ _ _ h hc=>zk_ h hc
section
variable {P:Program} {T:Turns} {w0:World} {a0:Act} {ops:List Oper} {Q:Exit->Act->World->Prop} {F:Said} {k:Nat} {rest:List Oper}
  {d:Option Tmp} {ty:TypeId} {pos:String} {af:Array Go.Edge} {g:Option (Nat×Bool)}
theorem ziL {x:Operand}{A:Option Addr}{n c:Nat}{ats:Array TypeId}(hT:T.Ok)(hx:Det a0 F x (.slice A n c))(hrun:∀ev W,EvOk ev->ev x=.slice A n c->(execOp ev ⟨d,.call { callee:=.builtin .len,args:=#[x],argTypes:=ats },ty,pos,af,g⟩).run P W=.ok (.value (.int .i64 (n:Int))) W)
    (hg:zy_ ops F true ⟨d,.call { callee:=.builtin .len,args:=#[x],argTypes:=ats },ty,pos,af,g⟩) (h:Flow P T w0 a0 ops Q ((d,isV (.int .i64 (n:Int)))::F) (k+1) rest) :
    Flow P T w0 a0 ops Q F k (⟨d,.call { callee:=.builtin .len,args:=#[x],argTypes:=ats },ty,pos,af,g⟩::rest) :=
 flow1 hT rfl hx hg hrun h
end
structure Low (B:Nat) (w w':World):Prop where
  os:w'.os=w.os
  tape:w'.tape=w.tape
  output:w'.output=w.output
  size:w.heap.size<=w'.heap.size
  block:∀k,k<B->k<w.heap.size->w'.heap[k]?=w.heap[k]?
theorem Low.of_chg {B:Nat}{w w':World}(h:Chg [] w w'):Low B w w':=⟨h.os,h.tape,h.output,h.size,fun k _ hk=>h.block k hk (by simp)⟩
theorem Low.trans {B:Nat}{a b c:World}(h:Low B a b)(k:Low B b c):Low B a c :=
 ⟨k.os.trans h.os,k.tape.trans h.tape,k.output.trans h.output,Nat.le_trans h.size k.size,fun i hB hi=>(k.block i hB (Nat.lt_of_lt_of_le hi h.size)).trans (h.block i hB hi)⟩
theorem Low.chg {B:Nat}{a b:World}(h:Low B a b)(hB:a.heap.size<=B):Chg [] a b:=⟨h.os,h.tape,h.output,h.size,fun k hk _=>h.block k (Nat.lt_of_lt_of_le hk hB) hk⟩
theorem Low.of_own {B n:Nat}{e:TypeId}{v:Value}{xs:List Value}{w w':World}(ho:w.ownsRow B e 1 v n xs)(hg:w.grownBy w' v.ownBlock):Low B w w':=by
 refine⟨hg.os,hg.tape,hg.output,hg.size,fun k hk hl=>hg.block k hl fun hc=>?_⟩;rcases ho.2 with⟨rfl,_⟩|⟨g,cap,cur,rfl,hb,_⟩
 · cases hc
 · injection hc with hc;simp only at hc;omega
section
variable {P:Program} {T:Turns} {w0:World} {a0:Act} {ops:List Oper} {Q:Exit->Act->World->Prop} {F:Said} {k:Nat} {rest:List Oper}
  {d:Option Tmp} {ty:TypeId} {pos:String} {af:Array Go.Edge} {g:Option (Nat×Bool)} {B:Nat} {hard soft:List Nat}
end
def ye_ (b:Bool)(w:World)(e:Ending)(w':World):Prop:=e=.returned (.bool b)/\Chg [] w w'
theorem zV_ {a b:Bool}(h:a=b):Ending.returned (.bool a)=.returned (.bool b):=by rw[h]
theorem y3_ {k:IntKind}{a b:Int}(h:a=b):Ending.returned (.int k a)=.returned (.int k b):=by rw[h]
def zB_ (L P E:Int):Value:=.agg #[.int .i64 L,.int .i64 P,.int .u32 E]
def kz_ (n:Int):Int:=if n<0\/64<n then 0 else 18+n*66
theorem zn_ {w w':World}{B2 e2 k2 m:Nat}{v2:Value}{ys:List Value}{g t:Nat}{cs:List Value}(h:zb_ w g t cs)(h2:w.ownsRow B2 e2 k2 v2 m ys)(hne:t≠e2)(hg:w.grownBy w' v2.ownBlock):zb_ w' g t cs:=by
 unfold zb_ at h⊢;rw[hg.block g ?_ ?_]
 · exact h
 · rcases Nat.lt_or_ge g w.heap.size with hlt|hge
   · exact hlt
   · rw[Array.getElem?_eq_none hge]at h;cases h
 · intro hc;rcases h2.2 with⟨rfl,_⟩|⟨g2,cap2,cur2,rfl,hb2,hh2,_⟩
   · simp[Value.ownBlock]at hc
   · simp[Value.ownBlock]at hc;subst hc;rw[h]at hh2;simp at hh2;exact hne hh2.2
theorem yv_ {P:Program}{w:World}{ops:Array Oper}{o:Oper}{a:Act}{K:Act->World->Prop}{Q:Exit->Act->World->Prop}{E:Prop}(hgd:o.guard=none)(s x:Operand)(t:TypeId)
    (ho:o.op=.call { callee:=.builtin .append,args:=#[s,x],argTypes:=#[t,t] })
    (base:Nat) (e:TypeId) (i:TypeInfo) (z:Value) (size bytes:Nat) (ht:P.underlying t=some (.slice e)) (hi:P.info? e=some i) (hz:i.zero=some z)
    (hsize:i.size=size) (hby:i.bytes=bytes) (hzs:z.cells.size=size) (hsz:0<size)
    (v:Value) (n:Nat) (xs:List Value) (hse:a.eval s=v) (hown:w.ownsRow base e size v n xs)
    (ad:Addr) (m c:Nat) (news:List Value) (hxe:a.eval x=.slice (some ad) m c) (hl:news.length=m*size) (hnews:∀j u,news[j]?=some u->w.cell? (ad.add j)=some u) (h1:∀u∈news,u.oneCell'=true)
    (h63:n+m<=maxLen) (hbytes:(n+m)*bytes<=140737488355328) (hbase:base<=w.heap.size)
    (h:∀v' w',w'.ownsRow base e size v' (n+m) (xs++news)->w.grownBy w' v.ownBlock->K (a.put o.dst v') w') :
    if Region.wanted o (yielded ops a.tmps)=true then Oper.wp P o a w K Q else E:=by
 have hw:Region.wanted o (yielded ops a.tmps)=true:=by simp[Region.wanted,hgd]
 rw[if_pos hw];obtain⟨v',w',hrun,h2,h3,_,_⟩:=run_append_own_at (P:=P) w base t o.type e i z size bytes ht hi hz hsize hby hzs hsz v n xs hown ad m c news hl hnews h1 h63 hbytes hbase;unfold Oper.wp execOp;simp only[ho,resolve,invoke,builtin,Sem.run_bind,Sem.run_pure,Result.andThen_ok,List.map_toArray,List.map_cons,List.map_nil,hse,hxe,hrun];exact h v' w' h2 h3
theorem uj_:(Value.int .u8 0).cells.size=1:=rfl
theorem xi_ (l:List Int):(nms l).length=l.length:=by simp[nms]
theorem ky_ (l m:List Int):nms (l++m)=nms l++nms m:=by simp[nms]
theorem jY_ (l:List Int)(i:Nat)(h:i<l.length):(nms l)[i]?=some (.int .i64 l[i]):=by simp[nms,h]
theorem zd_ {w w':World}{p:Addr}{v:Value}(h:w.cell? p=some v)(hc:Chg [] w w'):w'.cell? p=some v:=by
 have hs:Src w (some p) [v]:=fun _=>⟨p,rfl,by
  rcases Nat.lt_or_ge p.block w.heap.size with hlt|hge
  · exact hlt
  · simp[World.cell?,Array.getElem?_eq_none hge]at h,fun j u hj=>by
  cases j with
  | zero =>
    simp at hj;subst hj;have e:p.add 0=p:=(by simp[Addr.add]);rw[e];exact h
  | succ j=>simp at hj⟩;obtain⟨ad,e,_,hx⟩:=hs.keep hc (by simp);injection e with e;subst e;have:=hx 0 v rfl;have e:p.add 0=p:=by simp[Addr.add]
 rwa[e]at this
theorem jA_ {w W:World}(h:Chg [] w.drew W):Chg [] w W:=(Chg.refl [] w).drew.new h
theorem not2' {a b x:Nat}(h1:x≠a)(h2:x≠b):x∉[a,b]:=by simp;exact⟨h1,h2⟩
theorem znq {k:IntKind}{a b:Int}(h:a=b):Ending.returned (.int k a)=.returned (.int k b):=by rw[h]
def stp (h:Int)(b:UInt8):Int:=bits .xor .u32 h ((b.toNat:Int)%4294967296)*16777619%4294967296
theorem znp (h:Int)(b:UInt8):Ending.returned (.int .u32 (bits .xor .u32 h ((b.toNat:Int)%4294967296)*16777619%4294967296))=.returned (.int .u32 (stp h b)):=by unfold stp;rfl
def zat (h:Int)(l:List UInt8):Int:=l.foldl stp h
theorem zgz (h:Int)(l:List UInt8)(b:UInt8):zat h (l++[b])=stp (zat h l) b:=by simp[zat]
theorem zgu {α:Type}(l:List α)(k:Nat)(h:k<l.length):l.take (k+1)=l.take k++[l[k]]:=List.take_succ_eq_append_getElem h
theorem zgA (h:Int)(l:List UInt8)(k:Nat)(hk:k<l.length):zat h (l.take (k+1))=stp (zat h (l.take k)) l[k]:=by rw[zgu l k hk,zgz]
section
variable {w:World}
theorem zkf (h:Int)(b:UInt8) :
    Calls Tryz.prog 147 #[.int .u32 h,.int .u8 (b.toNat:Int)] w fun e w'=>e=.returned (.int .u32 (stp h b))/\w=w':=by
 go_enter Tryz.func147,Tryz.ntmps147;go_wp2_with fail;go_ret;exact⟨znp h b,rfl⟩
variable {A:Option Addr} {n c:Nat} {l:List UInt8}
theorem zna (hl:l.length=n)(hs:Src w A (bts l))(hn:n<=9223372036854775807)(hsp:0<n->∀ad,A=some ad->ad.spot=none) :
    Calls Tryz.prog 111 #[.slice A n c] w fun e w'=>e=.returned (.int .u32 (zat 2166136261 l))/\w=w':=by
 have HL:=hQ_ hl;have HS:=hQ_ hsp;clear hl hsp;go_enter Tryz.func111,Tryz.ntmps111;go_wp2_with fail;go_loop [3,8] (fun h i=>∃k:Nat,k<=n/\i=.int .i64 (k:Int)/\h=.int .u32 (zat 2166136261 (l.take k))) (fun _ i=>n-(intOf i).toNat);case atStart=>exact⟨0,Nat.zero_le _,rfl,rfl⟩
 case round =>
  obtain⟨k,hk,rfl,rfl⟩:=hrel;by_cases hlt:k<n
  · have hkl:k<l.length:=(by rw[HL.o];exact hlt);obtain⟨⟨b,o,s⟩,rfl,_,hx⟩:=hs (by rw[zg_];omega);obtain rfl:s=none:=HS.o (by omega) _ rfl;have hx1:=hx k _ (qj_ l k hkl);rw[zl_]at hx1;have hnx:=hQ_ (zgA 2166136261 l k hkl);clear hx;generalize l[k]=q at hx1 hnx;unfold B8 at hx1;have hnx2:zat 2166136261 (l.take (k+1))=stp (zat 2166136261 (l.take k)) q:=hnx.out;generalize zat 2166136261 (l.take k)=H at hnx2⊢;have hnx:=hQ_ hnx2;clear hnx2;go_wp2_with (go_at_call 147;refine(zkf _ _).mono ?_;rintro e w' ⟨rfl,rfl⟩);go_round;(case rel=>exact⟨k+1,by omega,by go_num,by rw[hnx.out]⟩);case measure=>simp[intOf];omega
  · have ht:=hQ_ (show zat 2166136261 (l.take k)=zat 2166136261 l by rw[List.take_of_length_le (by rw[HL.o];omega)]);go_wp2_with fail;go_ret;exact⟨znq ht.out,rfl⟩
end
theorem yF_:(Tryz.prog.info? 5).map (fun i=>(i.zero,i.size,i.bytes))=some (some (.int .u8 0),1,1):=by kernel_rfl
def be4 (k:Nat):List UInt8:=[UInt8.ofNat (k/16777216),UInt8.ofNat (k/65536),UInt8.ofNat (k/256),UInt8.ofNat k]
theorem vY_ (k:Nat):(be4 k).length=4:=rfl
theorem zoB (k:Nat)(hk:k<4294967296):bts (be4 k)=[.int .u8 ((k:Int)/16777216),.int .u8 ((k:Int)/65536%256),.int .u8 ((k:Int)/256%256),.int .u8 ((k:Int)%256)]:=by
 have h:∀x:Nat,(((UInt8.ofNat x).toNat:Nat):Int)=((x%256:Nat):Int):=fun x=>by rw[UInt8.toNat_ofNat']
 have h2:((k/16777216%256:Nat):Int)=(k:Int)/16777216:=by omega
 simp only[bts,be4,List.map_cons,List.map_nil,B8,h,h2,Int.natCast_emod,Int.natCast_ediv,Int.cast_ofNat_Int]
def xH_ (w:World)(l:List UInt8)(e:Ending)(w':World):Prop:=∃v,e=.returned v/\w'.ownsRow w.heap.size 5 1 v l.length (bts l)/\Chg [] w w'
section
variable {w:World} {A:Option Addr} {n c:Nat} {l:List UInt8}
theorem znH (k:Nat)(hk:k<4294967296)(hl:l.length=n)(hs:Src w A (bts l))(hn:n+4<=140737488355328) :
    Calls Tryz.prog 97 #[.slice A n c,.int .u32 (k:Int)] w (xH_ w (l++be4 k)):=by
 obtain⟨i,hi,hz,hs1,hb⟩:=info_parts yF_;have hmk:∀W:World,(Instr.makeSlice 39 (.int .i64 0) (.int .i64 ((n:Int)+4))).run Tryz.prog W=.ok (.slice (some ⟨W.heap.size,0,none⟩) 0 (n+4)) (W.alloc (.cells (bts (zm_ (n+4))).toArray 5)):=by
  intro W;rw[yV_];have:=x5_ (P:=Tryz.prog) 39 5 i _ rfl Tryz.underlying39 hi hz hs1 (n+4) (by rw[hb];omega) (by omega) W;simpa using this
 have ho0:(w.alloc (.cells (bts (zm_ (n+4))).toArray 5)).ownsRow w.heap.size 5 1 (.slice (some ⟨w.heap.size,0,none⟩) 0 (n+4)) 0 []:=by
  have:=zT_ (B:=w.heap.size) (n:=0) (c:=n+4) (zb_.new w 5 (bts (zm_ (n+4)))) (Nat.le_refl _) (by simp[zg_,zE_]) (by omega) (by unfold maxLen;omega);simpa using this
 have hlb:=hQ_ (show(bts l).length=n by rw[zg_,hl]);have hm1:=hQ_ (show 0+n<=maxLen by unfold maxLen;omega);have hm2:=hQ_ (show n+4<=maxLen by unfold maxLen;omega);have hm3:=hQ_ (show(0+n)*1<=140737488355328 by omega);have hm4:=hQ_ (show(n+4)*1<=140737488355328 by omega);have hbe:=hQ_ (zoB k hk);go_enter Tryz.func97,Tryz.ntmps97;go_wp2_with (first
  | (at_builtin;refine zC_ rfl (.tmp 10) (.tmp 11) 39 rfl w.heap.size 5 i _ 1 Tryz.underlying39 hi hz hs1 hb uj_ (.slice (some ⟨w.heap.size,0,none⟩) 0 (n+4)) 0 [] rfl ho0 A n c (bts l) rfl hlb.out (hs.keep ((Chg.refl _ _).alloc _)) (yd_ l) hm1.out hm3.out (by simp) ?_;intro v1 w1 ho1 hg1 _;have hc1:Chg [] w w1:=((Chg.refl [] w).alloc _).own ho0 (Nat.le_refl _) hg1;clear hg1;simp only[Nat.zero_add,List.nil_append]at ho1;obtain⟨A1,c1,rfl,_⟩:=zr_ ho1)
  | (at_builtin;refine zC_ rfl (.tmp 13) (.tmp 25) 39 rfl w.heap.size 5 i _ 1 Tryz.underlying39 hi hz hs1 hb uj_ (.slice A1 n c1) n (bts l) rfl (zk_ ho1 ((Chg.refl _ _).alloc _)) (some ⟨w1.heap.size,0,none⟩) 4 4 _ rfl rfl (Src.of_all (zb_.new w1 5 (_::_::_::_::[])))
       (by rw[<-hbe.out];exact yd_ _) hm2.out hm4.out (by have:=hc1.size;simp;omega) ?_;intro v2 w2 ho2 hg2 _;have hc2:Chg [] w w2:=(hc1.alloc _).own (zk_ ho1 ((Chg.refl _ _).alloc _)) (Nat.le_refl _) hg2;clear hg2));go_ret;refine⟨v2,rfl,?_,hc2⟩;rw[<-hbe.out]at ho2;have e1:(l++be4 k).length=n+4:=by rw[List.length_append,vY_,hl]
 have e2:bts (l++be4 k)=bts l++bts (be4 k):=by simp[bts]
 rw[e1,e2];exact ho2
end
def zbN (l:List UInt8):Nat:=l.foldl (fun g b=>g*256+b.toNat) 0
theorem zhA (l:List UInt8)(b:UInt8):zbN (l++[b])=zbN l*256+b.toNat:=by simp[zbN]
theorem ziF:∀(l:List UInt8)(g:Nat),l.foldl (fun g b=>g*256+b.toNat) g<(g+1)*256^l.length
  | [],g=>by simp
  | b::l,g=>by
    have h:=ziF l (g*256+b.toNat);have hb:=b.toNat_lt;have h2:(g*256+b.toNat+1)*256^l.length<=((g+1)*256)*256^l.length:=Nat.mul_le_mul_right _ (by omega);rw[List.foldl_cons,List.length_cons,Nat.pow_succ,Nat.mul_comm (256^l.length) 256,<-Nat.mul_assoc];omega
theorem zhC (l:List UInt8):zbN l<256^l.length:=by
 have:=ziF l 0;simpa[zbN] using this
theorem zkV (l:List UInt8)(k:Nat):zbN ((l.drop k).take 4)<4294967296:=by
 have h:=zhC ((l.drop k).take 4);have h2:((l.drop k).take 4).length<=4:=by rw[List.length_take];omega
 have:256^((l.drop k).take 4).length<=256^4:=Nat.pow_le_pow_right (by omega) h2;omega
theorem zhB (l:List UInt8)(k j:Nat)(h:k+j<l.length):zbN ((l.drop k).take (j+1))=zbN ((l.drop k).take j)*256+(l[k+j]).toNat:=by
 rw[List.take_succ_eq_append_getElem (by rw[List.length_drop];omega),zhA,List.getElem_drop]
theorem zkU (l:List UInt8)(k j:Nat)(hj:j<4):zbN ((l.drop k).take j)<16777216:=by
 have h:=zhC ((l.drop k).take j);have h2:((l.drop k).take j).length<=3:=by rw[List.length_take];omega
 have:256^((l.drop k).take j).length<=256^3:=Nat.pow_le_pow_right (by omega) h2;omega
theorem znL (g:Nat)(q:UInt8)(hg:g<16777216):bits .or .u32 ((g:Int)*256%4294967296) ((q.toNat:Int)%4294967296)=((g*256+q.toNat:Nat):Int):=by
 have hq:=q.toNat_lt;have e1:(g:Int)*256%4294967296=((g*256:Nat):Int):=by omega
 have e2:(q.toNat:Int)%4294967296=((q.toNat:Nat):Int):=by omega
 rw[e1,e2,u32_or_nat _ _ (by omega) (by omega),nat_join 8 (g*256) q.toNat (by omega) (by omega)]
def zz_ (l:List UInt8)(at_:Int):Nat:=if 0<=at_/\at_+4<=l.length then zbN ((l.drop at_.toNat).take 4) else 0
theorem xk_ (l:List UInt8)(i:Int):zz_ l i<4294967296:=by
 unfold zz_;split
 · exact zkV _ _
 · omega
section
variable {w:World} {A:Option Addr} {n c:Nat} {l:List UInt8}
theorem zpy (hn:n<=9223372036854775807)(i:Int)(h:i<0\/(n:Int)<i+4)(hi:i<=9223372036854775807) :
    Calls Tryz.prog 148 #[.slice A n c,.int .i64 i] w fun e w'=>e=.returned (.int .u32 0)/\w=w':=by
 by_cases h0:i<0
 · go_enter Tryz.func148,Tryz.ntmps148;go_wp2_with fail;go_ret;exact⟨rfl,rfl⟩
 · have h1:(n:Int)-4<i:=(by omega);have h2:0<=i:=(by omega);have hd:decide (i<0)=false:=(by simpa using h0);clear h;go_enter Tryz.func148,Tryz.ntmps148;go_wp2_with fail;go_ret;exact⟨rfl,rfl⟩
theorem zol (hl:l.length=n)(hs:Src w A (bts l))(hn:n<=9223372036854775807)(hsp:0<n->∀ad,A=some ad->ad.spot=none)(k:Nat)(hk:k+4<=n)(hnc:n<=c)(hc:c<=9223372036854775807) :
    Calls Tryz.prog 148 #[.slice A n c,.int .i64 (k:Int)] w fun e w'=>e=.returned (.int .u32 (zbN ((l.drop k).take 4):Nat))/\w=w':=by
 have HL:=hQ_ hl;have HS:=hQ_ hsp;clear hl hsp;obtain⟨⟨b,o,s⟩,rfl,_,hx⟩:=hs (by rw[zg_,HL.o];omega);obtain rfl:s=none:=HS.o (by omega) _ rfl;go_enter Tryz.func148,Tryz.ntmps148;go_wp2_with fail;go_loop [5,23] (fun h i=>∃j:Nat,j<=4/\i=.int .i64 (j:Int)/\h=.int .u32 ((zbN ((l.drop k).take j):Nat):Int)) (fun _ i=>4-(intOf i).toNat);case atStart=>exact⟨0,by omega,rfl,rfl⟩
 case round =>
  obtain⟨j,hj,rfl,rfl⟩:=hrel;by_cases hlt:j<4
  · have hkl:k+j<l.length:=(by rw[HL.o];omega);have hx1:=hx (k+j) _ (qj_ l (k+j) hkl);rw[zl_]at hx1;unfold B8 at hx1;have hnx:=zhB l k j hkl;have hgl:=zkU l k j hlt;clear hx;generalize l[k+j]=q at hx1 hnx;have hob:=znL _ q hgl;rw[<-hnx]at hob;clear hnx;generalize zbN ((l.drop k).take j)=g at hob hgl;have hob2:=hQ_ hob;clear hob hgl;have hx2:w.cell? ⟨b,o+k+j,none⟩=some (.int .u8 (q.toNat:Int)):=(by rw[<-hx1,Nat.add_assoc]);clear hx1;go_wp2_with fail;go_round;(case rel=>exact⟨j+1,by omega,by go_num,by rw[hob2.out]⟩);case measure=>simp[intOf];omega
  · obtain rfl:j=4:=(by omega);go_wp2_with fail;go_ret;exact⟨rfl,rfl⟩
end
section
variable {w:World} {A:Option Addr} {n c:Nat} {l:List UInt8}
theorem sum_b (h:Bs w A n c l):Calls Tryz.prog 111 #[.slice A n c] w fun e w'=>e=.returned (.int .u32 (zat 2166136261 l))/\w=w':=zna h.len h.src h.le h.spot
theorem zfc (h:Bs w A n c l)(k:Nat)(hk:k<4294967296)(hn:n+4<=140737488355328):Calls Tryz.prog 97 #[.slice A n c,.int .u32 (k:Int)] w (xH_ w (l++be4 k)):=znH k hk h.len h.src hn
theorem uH_ (h:Bs w A n c l)(i:Int)(hi:i<=9223372036854775807):Calls Tryz.prog 148 #[.slice A n c,.int .i64 i] w fun e w'=>e=.returned (.int .u32 (zz_ l i:Nat))/\w=w':=by
 unfold zz_;split
 · rename_i hc;obtain⟨k,rfl⟩:=Int.eq_ofNat_of_zero_le hc.1;rw[Int.toNat_natCast];exact zol h.len h.src h.le h.spot k (by have:=h.len;omega) h.cap h.max
 · rename_i hc;exact zpy h.le i (by have:=h.len;omega) hi
end
def znf (h:Nat)(b:UInt8):Nat:=(h ^^^ b.toNat)*16777619%4294967296
def znb (h:Nat)(l:List UInt8):Nat:=l.foldl znf h
theorem zne (h:Nat)(b:UInt8)(hh:h<4294967296):stp (h:Int) b=(znf h b:Nat):=by
 have hb:=b.toNat_lt;have e1:((b.toNat:Nat):Int)%4294967296=((b.toNat:Nat):Int):=by omega
 unfold stp znf;rw[e1,u32_xor_nat h b.toNat hh (by omega)];generalize h ^^^ b.toNat=y;omega
theorem zgD (h:Nat)(b:UInt8):znf h b<4294967296:=by unfold znf;omega
theorem zgx:∀(l:List UInt8)(h:Nat),h<4294967296->zat (h:Int) l=(znb h l:Nat)
  | [],h,_=>rfl
  | b::l,h,hh=>by
    have e1:zat (h:Int) (b::l)=zat (stp (h:Int) b) l:=rfl;have e2:znb h (b::l)=znb (znf h b) l:=rfl;rw[e1,e2,zne h b hh];exact zgx l _ (zgD h b)
theorem zgy:∀(l:List UInt8)(h:Nat),h<4294967296->znb h l<4294967296
  | [],_,hh=>hh
  | b::l,h,_=>by
    have e2:znb h (b::l)=znb (znf h b) l:=rfl;rw[e2];exact zgy l _ (zgD h b)
section
variable {w:World} {A:Option Addr} {n c:Nat} {l:List UInt8}
theorem Bs.take (h:Bs w A n c l){m:Nat}(hm:m<=n):Bs w A m c (l.take m) :=
 ⟨by rw[List.length_take,h.len];omega,src_pre m h.src,Nat.le_trans hm h.cap,h.max,fun h0=>h.spot (by omega)⟩
where
  src_pre (m:Nat) {w:World} {A:Option Addr} {l:List UInt8} (hs:Src w A (bts l)):Src w A (bts (l.take m)):=fun hp=>by
   obtain⟨ad,e,hb,hx⟩:=hs (by simp[bts]at hp⊢;omega)
   refine⟨ad,e,hb,fun j v hj=>hx j v ?_⟩
   unfold bts at hj⊢
   rw[List.map_take,List.getElem?_take]at hj
   split at hj
   · exact hj
   · cases hj
end
theorem qk_ (l m:List UInt8):bts (l++m)=bts l++bts m:=by simp[bts]
theorem jU_ {w:World}{B n:Nat}{e:TypeId}{v:Value}{xs:List Value}(h:w.ownsRow B e 1 v n xs)(hn:0<n) :
    ∃g r,v=.slice (some ⟨g,0,none⟩) n (n+r.length)/\B<=g/\zb_ w g e (xs++r)/\n+r.length<=maxLen:=by
 rcases h.2 with⟨_,h0⟩|⟨g,cap,cur,rfl,hb,hg,hc,hm,hs,ht⟩
 · omega
 · have hl:cur.toList.length=cap:=(by rw[Array.length_toList];omega);have h1:n*1=n:=Nat.mul_one n;rw[h1]at ht;have e1:cap=n+(cur.toList.drop n).length:=(by rw[List.length_drop,hl];omega);refine⟨g,cur.toList.drop n,by rw[<-e1],hb,?_,by omega⟩;unfold zb_;rw[<-ht,List.take_append_drop];exact hg
def kk_ (l:List UInt8):Nat:=znb 2166136261 l
theorem gp_ (l:List UInt8):kk_ l<4294967296:=zgy l _ (by omega)
theorem zpg (l:List UInt8):zat 2166136261 l=(kk_ l:Nat):=by
 have h:=zgx l 2166136261 (by omega);have e:((2166136261:Nat):Int)=2166136261:=rfl;rw[e]at h;exact h
theorem zcm (k:Nat)(hk:k<4294967296):zbN (be4 k)=k:=by
 simp only[zbN,be4,List.foldl_cons,List.foldl_nil,UInt8.toNat_ofNat'];omega
theorem y5_ (l m:List UInt8)(k:Nat)(hk:k<4294967296)(i:Int)(hi:i=l.length):zz_ (l++(be4 k++m)) i=k:=by
 subst hi;unfold zz_;rw[if_pos ⟨by omega,by simp only[List.length_append,vY_];omega⟩,Int.toNat_natCast,List.drop_left,List.take_left' (vY_ k),zcm k hk]
theorem zgw {w:World}{A:Option Addr}{n c:Nat}{l:List UInt8}(h:Bs w A n c l):Calls Tryz.prog 111 #[.slice A n c] w fun e w'=>e=.returned (.int .u32 (kk_ l:Nat))/\w=w':=by
 rw[<-zpg];exact sum_b h
def jb_:List UInt8:=[69,78,71,49]
def xr_ (a b c:Nat):List UInt8:=jb_++be4 a++be4 b++be4 c
def z3_ (a b c:Nat):List UInt8:=xr_ a b c++be4 (kk_ (xr_ a b c))++zm_ 44
theorem j7_ (a b c:Nat):(xr_ a b c).length=16:=rfl
theorem x7_ (a b c:Nat):(z3_ a b c).length=64:=by
 unfold z3_;rw[List.length_append,List.length_append,j7_,vY_,zE_]
section
variable (a b c:Nat)
theorem zkF (ha:a<4294967296)(hb:b<4294967296)(hc:c<4294967296) :
    zz_ (z3_ a b c) ((4:Nat):Int)=a/\zz_ (z3_ a b c) ((8:Nat):Int)=b/\zz_ (z3_ a b c) ((12:Nat):Int)=c/\zz_ (z3_ a b c) ((16:Nat):Int)=kk_ (xr_ a b c)/\(z3_ a b c).take 16=xr_ a b c:=by
 refine⟨?_,?_,?_,?_,?_⟩
 · have e:z3_ a b c=jb_++(be4 a++(be4 b++be4 c++be4 (kk_ (xr_ a b c))++zm_ 44)):=(by
    simp only[z3_,xr_,List.append_assoc]);rw[e];exact y5_ _ _ a ha _ rfl
 · have e:z3_ a b c=(jb_++be4 a)++(be4 b++(be4 c++be4 (kk_ (xr_ a b c))++zm_ 44)):=(by
    simp only[z3_,xr_,List.append_assoc]);rw[e];exact y5_ _ _ b hb _ rfl
 · have e:z3_ a b c=(jb_++be4 a++be4 b)++(be4 c++(be4 (kk_ (xr_ a b c))++zm_ 44)):=(by
    simp only[z3_,xr_,List.append_assoc]);rw[e];exact y5_ _ _ c hc _ rfl
 · have e:z3_ a b c=xr_ a b c++(be4 (kk_ (xr_ a b c))++zm_ 44):=(by
    simp only[z3_,List.append_assoc]);rw[e];exact y5_ _ _ _ (gp_ _) _ (by rw[j7_])
 · have e:z3_ a b c=xr_ a b c++(be4 (kk_ (xr_ a b c))++zm_ 44):=(by
    simp only[z3_,List.append_assoc]);rw[e];exact List.take_left' (j7_ _ _ _)
end
def vE_ (l:List UInt8):Prop:=zz_ l 4<=2147483647/\zz_ l 8<=2147483647/\l=z3_ (zz_ l 4) (zz_ l 8) (zz_ l 12)
instance (l:List UInt8):Decidable (vE_ l):=by unfold vE_;exact inferInstance
theorem zno (a b c:Nat)(ha:a<=2147483647)(hb:b<=2147483647)(hc:c<4294967296):vE_ (z3_ a b c)/\zz_ (z3_ a b c) 4=a/\zz_ (z3_ a b c) 8=b/\zz_ (z3_ a b c) 12=c:=by
 obtain⟨h4,h8,h12,_,_⟩:=zkF a b c (by omega) (by omega) hc;have h4':zz_ (z3_ a b c) 4=a:=h4;have h8':zz_ (z3_ a b c) 8=b:=h8;have h12':zz_ (z3_ a b c) 12=c:=h12;refine⟨⟨by omega,by omega,by rw[h4',h8',h12']⟩,h4',h8',h12'⟩
def zp_ (L P E s:Int):Bool:=decide (1<=L/\L<=64/\1<=P/\P<=64/\2+L+P<=s/\1<=E)
theorem zi_ {L P E s:Int}:zp_ L P E s=true↔(1<=L/\L<=64/\1<=P/\P<=64/\2+L+P<=s/\1<=E):=by unfold zp_;exact decide_eq_true_iff
theorem xd_ {L P E s:Int}:zp_ L P E s=false↔¬(1<=L/\L<=64/\1<=P/\P<=64/\2+L+P<=s/\1<=E):=by unfold zp_;exact decide_eq_false_iff_not
structure RV where
  log:Nat
  pages:Nat
  epoch:Nat
def RV.zero:RV:=⟨0,0,0⟩
def zx_ (n:Int)(o:RV)(l:List UInt8):RV :=
 if vE_ l/\zp_ (zz_ l 4) (zz_ l 8) (zz_ l 12) n=true/\o.epoch<zz_ l 12 then ⟨zz_ l 4,zz_ l 8,zz_ l 12⟩ else o
theorem zcR {n:Int}{o:RV}{l:List UInt8}(h:o.log<4294967296/\o.pages<4294967296/\o.epoch<4294967296):(zx_ n o l).log<4294967296/\(zx_ n o l).pages<4294967296/\(zx_ n o l).epoch<4294967296:=by
 unfold zx_;split
 · exact⟨xk_ _ _,xk_ _ _,xk_ _ _⟩
 · exact h
def xb_ (S:List UInt8)(n i:Nat):List UInt8:=if i<n then (S.drop (i*64)).take 64 else []
def xS_ (ep sq:Nat)(l:List UInt8):List UInt8:=be4 ep++be4 sq++be4 (l.length%4294967296)++l
def zU_ (ep sq:Nat)(l:List UInt8):List UInt8:=xS_ ep sq l++be4 (kk_ (xS_ ep sq l))
theorem j8_ (ep sq:Nat)(l:List UInt8):(xS_ ep sq l).length=12+l.length:=by simp only[xS_,List.length_append,vY_]
theorem yN_ (ep sq:Nat)(l:List UInt8):(zU_ ep sq l).length=16+l.length:=by simp only[zU_,List.length_append,vY_,j8_];omega
def zjN (N:List Nat)(k:Nat):List UInt8:=(N.take k).flatMap be4
theorem zhm (N:List Nat)(k:Nat)(h:k<N.length):zjN N (k+1)=zjN N k++be4 N[k]:=by
 unfold zjN;rw[List.take_succ_eq_append_getElem h,List.flatMap_append];simp
def zoU (N:List Nat):List Value:=N.map fun (q:Nat)=>Value.int .u32 (q:Int)
section
variable {w:World} {A:Option Addr} {n c:Nat} {l:List UInt8}
theorem ziC (h:Bs w A n c l)(ep sq:Nat)(he:ep<4294967296)(hs:sq<4294967296)(hn:n+16<=140737488355328) :
    Calls Tryz.prog 81 #[.int .u32 (ep:Int),.int .u32 (sq:Int),.slice A n c] w (xH_ w (zU_ ep sq l)):=by
 obtain⟨i,hi,hz,hs1,hb⟩:=info_parts yF_;have hmk:∀W:World,(Instr.makeSlice 39 (.int .i64 0) (.int .i64 (12+(n:Int)))).run Tryz.prog W=.ok (.slice (some ⟨W.heap.size,0,none⟩) 0 (12+n)) (W.alloc (.cells (bts (zm_ (12+n))).toArray 5)):=by
  intro W;rw[yV_];have:=x5_ (P:=Tryz.prog) 39 5 i _ rfl Tryz.underlying39 hi hz hs1 (12+n) (by rw[hb];omega) (by omega) W;simpa using this
 go_enter Tryz.func81,Tryz.ntmps81;go_wp2_with fail;have ho0:(w.alloc (.cells (bts (zm_ (12+n))).toArray 5)).ownsRow w.heap.size 5 1 (.slice (some ⟨w.heap.size,0,none⟩) 0 (12+n)) 0 []:=by
  have:=zT_ (B:=w.heap.size) (n:=0) (c:=12+n) (zb_.new w 5 (bts (zm_ (12+n)))) (Nat.le_refl _) (by simp[zg_,zE_]) (by omega) (by unfold maxLen;omega);simpa using this
 have hm32:n%4294967296<4294967296:=Nat.mod_lt _ (by omega);have hN:∀q∈[ep,sq,n%4294967296],q<4294967296:=by
  intro q hq;simp only[List.mem_cons,List.not_mem_nil,or_false]at hq;rcases hq with rfl|rfl|rfl<;>assumption
 have hNl:[ep,sq,n%4294967296].length=3:=rfl;have hfin:zjN [ep,sq,n%4294967296] 3++l=xS_ ep sq l:=by rw[xS_,h.len];simp[zjN]
 have HC:=zb_.new (w.alloc (.cells (bts (zm_ (12+n))).toArray 5)) 56 (zoU [ep,sq,n%4294967296]);have ho1:=zk_ ho0 ((Chg.refl [] _).alloc (.cells (zoU [ep,sq,n%4294967296]).toArray 56));have hc1:Chg [] w ((w.alloc (.cells (bts (zm_ (12+n))).toArray 5)).alloc (.cells (zoU [ep,sq,n%4294967296]).toArray 56)):=((Chg.refl [] w).alloc _).alloc _;have hzz:(w.alloc (.cells (bts (zm_ (12+n))).toArray 5)).heap.size=w.heap.size+1:=by simp
 have hu:(zoU [ep,sq,n%4294967296]).toArray=#[.int .u32 (ep:Int),.int .u32 (sq:Int),.int .u32 ((n:Int)%4294967296)]:=by
  simp[zoU]
 rw[hzz]at HC;rw[hu]at HC ho1 hc1;generalize (w.alloc (.cells (bts (zm_ (12+n))).toArray 5)).alloc (.cells #[.int .u32 (ep:Int),.int .u32 (sq:Int),.int .u32 ((n:Int)%4294967296)] 56)=w1 at HC ho1 hc1⊢;generalize [ep,sq,n%4294967296]=N at HC hN hNl hfin;have HN:=hQ_ hN;have HNL:=hQ_ hNl;have HFIN:=hQ_ hfin;have HB1:=h.keep hc1;clear hzz hu ho0 hN hNl hfin hmk;go_loopw [7,9,21] (fun v _ i wr=>∃k:Nat,k<=3/\i=.int .i64 (k:Int)/\(∃m,m=4*k/\wr.ownsRow w.heap.size 5 1 v m (bts (zjN N k)))/\Chg [] w1 wr) (fun _ _ i _=>3-(intOf i).toNat);case atStart=>exact⟨0,by omega,rfl,⟨0,rfl,ho1⟩,Chg.refl _ _⟩
 case round =>
  obtain⟨k,hk,rfl,⟨m,hm0,hown⟩,hcr⟩:=hrel;have hm1:4*k<=m:=by omega
  have hm2:m<=4*k:=by omega
  clear hm0;obtain⟨Av,cv,rfl,hBv,_⟩:=Bs.of_own hown;by_cases hlt:k<3
  · obtain⟨q,hq⟩:∃q,q=N[k]'(by rw[HNL.o];exact hlt):=⟨_,rfl⟩;have hq2:=HN.o q (by rw[hq];exact List.getElem_mem _);have hnx:=hQ_ (show zjN N (k+1)=zjN N k++be4 q by rw[hq];exact zhm N k _);have cq:wr.cell? ⟨w.heap.size+1,k,none⟩=some (.int .u32 (q:Int)):=(by
     rw[(HC.keep hcr).cell];unfold zoU;rw[List.getElem?_map,List.getElem?_eq_getElem (by rw[HNL.o];exact hlt),<-hq];rfl);clear hq;go_wp2_with fail;refine(zfc hBv q hq2 (by omega)).mono ?_;rintro e w2 ⟨v2,rfl,ho2,hc2⟩;go_wp2_with fail;go_roundw;case rel =>
     refine⟨k+1,by omega,by go_num,⟨(zjN N k++be4 q).length,?_,?_⟩,hcr.new hc2⟩
     · have:=hBv.len;rw[List.length_append,vY_];omega
     · rw[hnx.out];exact z0_ ho2 (by have:=hc1.size;have:=hcr.size;omega)
    case measure=>simp[intOf];omega
  · obtain rfl:k=3:=(by omega);obtain⟨w3,rfl⟩:∃w3:World,w3=wr:=⟨_,rfl⟩;have hl3:=HB1.keep hcr;have hmx:m=12:=(by omega);have hlb:=hQ_ (show(bts l).length=n by rw[zg_,h.len]);have hx1:=hQ_ (show m+n<=maxLen by unfold maxLen;omega);have hx2:=hQ_ (show(m+n)*1<=140737488355328 by omega);clear hmx;go_wp2_with (
     at_builtin;refine zC_ rfl (.tmp 29) (.tmp 30) 39 rfl w.heap.size 5 i _ 1 Tryz.underlying39 hi hz hs1 hb uj_ (.slice Av m cv) m (bts (zjN N 3)) rfl hown A n c (bts l) rfl hlb.out hl3.src (yd_ l) hx1.out hx2.out (by have:=hc1.size;have:=hcr.size;omega) ?_;intro v4 w4 ho4 hg4 _;have hc4:Chg [] w w4:=(hc1.new hcr).own hown (Nat.le_refl _) hg4;clear hg4;rw[<-qk_,HFIN.o]at ho4;obtain⟨A4,c4,rfl,hB4,_⟩:=Bs.of_own ho4);refine(zgw hB4).mono ?_;rintro e w' ⟨rfl,rfl⟩;go_wp2_with fail;refine(zfc hB4 (kk_ (xS_ ep sq l)) (gp_ _) (by omega)).mono ?_;rintro e w5 ⟨v5,rfl,ho5,hc5⟩;go_wp2_with fail;go_ret;exact⟨v5,rfl,z0_ ho5 hc4.size,hc4.new hc5⟩
end
def zR_ (l:List UInt8)(ep sq:Nat):Prop:=16<=l.length/\zz_ l 0=ep/\zz_ l 4=sq/\zz_ l 8<=l.length-16/\zz_ l ((12+zz_ l 8:Nat):Int)=kk_ (l.take (12+zz_ l 8))
def zge (l:List UInt8):List UInt8:=(l.drop 12).take (zz_ l 8)
def zmd (w:World)(l:List UInt8)(ep sq:Nat)(e:Ending)(w':World):Prop :=
 (zR_ l ep sq/\∃v,e=.returned (.tuple #[v,.int .i64 ((16+zz_ l 8:Nat):Int),.bool true])/\w'.ownsRow w.heap.size 5 1 v (zge l).length (bts (zge l))/\Chg [] w w') \/
 (¬zR_ l ep sq/\e=.returned (.tuple #[.slice none 0 0,.int .i64 0,.bool false])/\Chg [] w w')
theorem zkY (q:Nat)(hq:q<=281474976710656)(W:World) :
    (Instr.makeSlice 39 (.int .u32 (q:Int)) (.int .u32 (q:Int))).run Tryz.prog W=.ok (.slice (some ⟨W.heap.size,0,none⟩) q q) (W.alloc (.cells (bts (zm_ q)).toArray 5)):=by
      obtain⟨i,hi,hz,hs1,hb⟩:=info_parts yF_;have hb':(i.bytes:Int)*(q:Int)<=281474976710656:=(by rw[hb];omega);have h:=run_make (P:=Tryz.prog) W 39 5 i _ Tryz.underlying39 hi hz .u32 .u32 (q:Int) (q:Int) (by omega) (Int.le_refl _) hb' (by omega);have h1:(Value.int .u8 0).cells=#[Value.int .u8 0]:=rfl;rw[h,hs1,h1,gF_,yV_];simp
theorem zgN:(Tryz.prog.info? 5).map (·.size)=some 1:=by kernel_rfl
theorem zoD {a b:Int}(h:a=b):(a != b)=false:=by simpa using h
theorem zqb {a b:Int}(h:a≠b):(a != b)=true:=by simpa using h
section
variable {w:World} {A:Option Addr} {n c:Nat} {l:List UInt8}
theorem jQ_ (h:Bs w A n c l)(ep sq:Nat)(hn:n<=140737488355328) :
    Calls Tryz.prog 149 #[.slice A n c,.int .u32 (ep:Int),.int .u32 (sq:Int)] w (zmd w l ep sq):=by
 have hl:=h.len;by_cases h16:n<16
 · have hno:¬zR_ l ep sq:=fun hr=>(by have:=hr.1;omega);have HNO:=hQ_ hno;clear hno hl;go_enter Tryz.func149,Tryz.ntmps149;go_wp2_with fail;go_ret3;exact .inr ⟨HNO.o,rfl,Chg.refl _ _⟩
 have hd16:decide ((n:Int)<16)=false:=by simp;omega
 have HL:=hQ_ hl;clear hl;by_cases h0:zz_ l 0=ep;rotate_left
 · have HNO:=hQ_ (show ¬zR_ l ep sq from fun hr=>h0 hr.2.1);have hb:=zqb (show((zz_ l 0:Nat):Int)≠(ep:Int) by omega);clear h0;go_enter Tryz.func149,Tryz.ntmps149;go_wp2_with fail;refine(uH_ h 0 (by omega)).mono ?_;rintro e w' ⟨rfl,rfl⟩;go_wp2_with fail;go_ret3;exact .inr ⟨HNO.o,rfl,Chg.refl _ _⟩
 by_cases h4:zz_ l 4=sq;rotate_left
 · have HNO:=hQ_ (show ¬zR_ l ep sq from fun hr=>h4 hr.2.2.1);have hb:=zqb (show((zz_ l 4:Nat):Int)≠(sq:Int) by omega);have hb0:=zoD (show((zz_ l 0:Nat):Int)=(ep:Int) by omega);clear h4 h0;go_enter Tryz.func149,Tryz.ntmps149;go_wp2_with fail;refine(uH_ h 0 (by omega)).mono ?_;rintro e w' ⟨rfl,rfl⟩;go_wp2_with fail;refine(uH_ h 4 (by omega)).mono ?_;rintro e w' ⟨rfl,rfl⟩;go_wp2_with fail;go_ret3;exact .inr ⟨HNO.o,rfl,Chg.refl _ _⟩
 have hb0:=zoD (show((zz_ l 0:Nat):Int)=(ep:Int) by omega);have hb4:=zoD (show((zz_ l 4:Nat):Int)=(sq:Int) by omega);have H0:=hQ_ h0;have H4:=hQ_ h4;clear h0 h4;have hq:=xk_ l 8;by_cases h8:zz_ l 8<=n-16;rotate_left
 · have HNO:=hQ_ (show ¬zR_ l ep sq from fun hr=>h8 (by have:=hr.2.2.2.1;rw[HL.o]at this;exact this));have hgt:(n:Int)-16<((zz_ l 8:Nat):Int):=(by omega);go_enter Tryz.func149,Tryz.ntmps149;go_wp2_with fail;refine(uH_ h 0 (by omega)).mono ?_;rintro e w' ⟨rfl,rfl⟩;go_wp2_with fail;refine(uH_ h 4 (by omega)).mono ?_;rintro e w' ⟨rfl,rfl⟩;go_wp2_with fail;refine(uH_ h 8 (by omega)).mono ?_;rintro e w' ⟨rfl,rfl⟩;go_wp2_with fail;go_ret3;exact .inr ⟨HNO.o,rfl,Chg.refl _ _⟩
 have hle:((zz_ l 8:Nat):Int)<=(n:Int)-16:=by omega
 go_enter Tryz.func149,Tryz.ntmps149;go_wp2_with fail;refine(uH_ h 0 (by omega)).mono ?_;rintro e w' ⟨rfl,rfl⟩;go_wp2_with fail;refine(uH_ h 4 (by omega)).mono ?_;rintro e w' ⟨rfl,rfl⟩;go_wp2_with fail;refine(uH_ h 8 (by omega)).mono ?_;rintro e w' ⟨rfl,rfl⟩;go_wp2_with fail;obtain⟨q,hqe⟩:∃q,q=zz_ l 8:=⟨_,rfl⟩;rw[<-hqe]at hq h8 hle⊢;have ECAST:=hQ_ (show(12:Int)+(q:Int)=((12+q:Nat):Int) by omega);have e1:((12:Int)+(q:Int)).toNat=12+q:=by omega
 have e2:(0:Int)<=12+(q:Int):=by omega
 have hcap:=h.cap;have e3:¬(c:Int)<12+(q:Int):=by omega
 have e4:¬c<12+q:=by omega
 have hA0:Option.map (fun x:Addr=>x.add 0) A=A:=by cases A<;>simp[Addr.add]
 have HE:=hQ_ hqe;have hT:=h.take (m:=12+q) (by omega);clear hqe;have kp:∀W,Chg [] w.drew W->Chg [] w W:=fun W hW=>(Chg.refl [] w).drew.new hW;obtain⟨b,hbt⟩:∃b:Bool,b=(((zz_ l (12+(q:Int)):Nat):Int) != ((kk_ (l.take (12+q)):Nat):Int)):=⟨_,rfl⟩;refine wp_flow (by kernel_rfl) yn_ za_ (by kernel_rfl) ?_;refine flow_move_out za_ rfl rfl rfl ?_;refine flow_move_out za_ rfl rfl rfl ?_;refine zw_ (.int .u32 ((zz_ l (12+(q:Int)):Nat):Int)) (by kernel_rfl) rfl (.cons (.inn rfl) (.cons (.inn rfl) .nil)) (fun W hW=>(uH_ (h.keep (kp W hW)) (12+(q:Int)) (by omega)).mono ?_) ?_
 · rintro e w' ⟨rfl,rfl⟩;exact⟨rfl,Chg.refl _ _⟩
 refine flow_move_out za_ rfl rfl rfl ?_;refine flow_move_out za_ rfl rfl rfl ?_;refine gR_ (r:=.slice A (12+q) c) za_ (.inn rfl) (.inn rfl) (fun ev W he e1 e2=>by go_simp) rfl ?_;refine zw_ (.int .u32 ((kk_ (l.take (12+q)):Nat):Int)) (by kernel_rfl) rfl (.cons (.inn rfl) .nil) (fun W hW=>(zgw (hT.keep (kp W hW))).mono ?_) ?_
 · rintro e w' ⟨rfl,rfl⟩;exact⟨rfl,Chg.refl _ _⟩
 refine flow2 (r:=.bool b) za_ rfl (.inn rfl) (.inn rfl) rfl (fun ev W he e1 e2=>by rw[hbt];go_simp) ?_;intro vs W hW hF;have e46:vs 46=.bool b:=hF 46 _ rfl rfl;have hcW:=kp W hW;simp only[zW_,Act.put,List.setIfInBounds_toArray,List.set_cons_zero,List.set_cons_succ,e46];cases b with
 | true =>
   have hne:zz_ l (12+(q:Int))≠kk_ (l.take (12+q)):=fun hc=>(by rw[hc]at hbt;simp at hbt);have HNO:=hQ_ (show ¬zR_ l ep sq from fun hr=>hne (by have:=hr.2.2.2.2;rw[<-HE.o,<-ECAST.out]at this;exact this));clear hbt hne;go_wp2_with fail;go_ret3;exact .inr ⟨HNO.o,rfl,hcW⟩
 | false =>
   have heq:zz_ l (12+(q:Int))=kk_ (l.take (12+q)):=(by
    have h2:=hbt.symm;simp only[bne_eq_false_iff_eq]at h2;omega);have HOK:=hQ_ (show zR_ l ep sq from⟨by rw[HL.o];omega,H0.o,H4.o,by rw[<-HE.o,HL.o];exact h8,by rw[<-HE.o,<-ECAST.out];exact heq⟩);clear hbt heq;have hmk:=zkY q (by omega);have hC:=(h.keep hcW).cut (lo:=12) (hi:=12+q) (by omega) (by omega);have hc12:¬c=12:=(by omega);rw[if_neg hc12,show 12+q-12=q by omega]at hC;have e5:¬12+q<12:=(by omega);have e6:12+q-12=q:=(by omega);obtain⟨⟨b0,o0,s0⟩,rfl,_,_⟩:=h.src (by rw[zg_,HL.o];omega);obtain rfl:s0=none:=h.spot (by omega) _ rfl;simp only[Option.map_some,zl_]at hC;obtain⟨X,hX⟩:∃X,X=(l.drop 12).take q:=⟨_,rfl⟩;rw[<-hX]at hC;have hXl:=hQ_ (show(bts X).length=Nat.min q q by rw[zg_,hC.len];simp);have hsp:=hQ_ (show splice (bts (zm_ q)) 0 (bts X)=bts X by rw[x0_];rw[zg_,zg_,zE_,hC.len]);have hfit:0+(bts X).length<=(bts (zm_ q)).length:=(by rw[zg_,zg_,zE_,hC.len];omega);have HX:=hQ_ hX;have hXq:=hQ_ hC.len;clear hX;have HFIT:=hQ_ hfit;clear hfit;have hsX:=hC.src;clear hC;go_wp2_with (
    (with_reducible refine z7_ rfl (.tmp 49) (.tmp 52) _ _ rfl 5 Tryz.underlying39 zgN (some ⟨W.heap.size,0,none⟩) (some ⟨b0,o0+12,none⟩) q q q (c-12) rfl rfl W.heap.size 0 5 (bts (zm_ q)) (bts X) (zb_.new W _ _) hXl.out (fun _=>rfl) (hsX.keep ((Chg.refl _ _).alloc _)) HFIT.o (yd_ X) ?_);intro w1 HG HC;rw[hsp.out]at HG);go_ret3;refine .inl ⟨HOK.o,.slice (some ⟨W.heap.size,0,none⟩) q q,?_,?_,?_⟩
   · rw[<-HE.o];have e7:(16:Int)+(q:Int)=((16+q:Nat):Int):=(by omega);rw[<-e7];rfl
   · have hr:zge l=X:=(by rw[zge,<-HE.o,HX.o]);rw[hr,hXq.out];have:=zT_ (B:=w.heap.size) (n:=q) (c:=q) HG hcW.size (by rw[zg_,hXq.out]) (Nat.le_refl _) (by unfold maxLen;omega);rwa[List.take_of_length_le (by rw[zg_,hXq.out];exact Nat.le_refl _)]at this
   · exact(hcW.alloc (.cells (bts (zm_ q)).toArray 5)).then_ HC (by have:=hcW.size;simp;omega)
end
def yW_ (n:Nat)(S:List UInt8):Nat->RV
  | 0=>RV.zero
  | k+1=>zx_ n (yW_ n S k) (xb_ S n k)
theorem g7_ (n:Nat)(S:List UInt8):∀k,(yW_ n S k).log<4294967296/\(yW_ n S k).pages<4294967296/\(yW_ n S k).epoch<4294967296
  | 0=>⟨by show 0<_;omega,by show 0<_;omega,by show 0<_;omega⟩
  | k+1=>zcR (g7_ n S k)
theorem zgT {S x:List UInt8}{n k:Nat}(hS:S.length=64*n)(hk:k<n)(hx:x.length=64):xb_ (splice S (k*64) x) n k=x:=by
 unfold xb_ splice;rw[if_pos hk,List.drop_left' (by rw[List.length_take];omega),List.take_left' hx]
theorem zeY {S x:List UInt8}{n k j:Nat}(hS:S.length=64*n)(hk:k<n)(hx:x.length=64)(hj:j≠k):xb_ (splice S (k*64) x) n j=xb_ S n j:=by
 unfold xb_ splice;split
 · rcases Nat.lt_or_ge j k with h|h
   · rw[List.drop_append_of_le_length (by rw[List.length_take];omega),List.take_append_of_le_length (by rw[List.length_drop,List.length_take];omega),List.drop_take,List.take_take,Nat.min_eq_left (by omega)]
   · have hl:(S.take (k*64)++x).length=k*64+64:=(by rw[List.length_append,List.length_take,hx];omega);rw[<-List.append_assoc,List.drop_append,List.drop_eq_nil_of_le (by omega),List.nil_append,hl,hx,List.drop_drop];congr 2;omega
 · rfl
theorem qQ_ (s:ByteArray)(pos:Nat)(h:pos<s.size):1<=(Utf8.decode s pos).2:=by
 by_cases ha:(s[pos]'h).toNat<128
 · rw[decode_ascii s pos h ha];exact Nat.le_refl _
 · exact(decode_high s pos h (by omega)).2
def zji (s:ByteArray):Nat->Nat->Nat
  | 0,_=>0
  | b+1,pos=>if pos<s.size then zji s b (pos+(Utf8.decode s pos).2)+1 else 0
def x3_ (s:ByteArray):Nat:=zji s s.size 0
theorem zee (s:ByteArray)(b pos:Nat)(h:¬pos<s.size):zji s b pos=0:=by
 cases b with
 | zero=>rfl
 | succ b=>simp[zji,h]
theorem zbx (s:ByteArray)(b pos:Nat)(h:pos<s.size)(hb:s.size<=pos+b):∃c,b=c+1/\zji s b pos=zji s c (pos+(Utf8.decode s pos).2)+1:=by
 obtain⟨c,rfl⟩:∃c,b=c+1:=⟨b-1,by omega⟩;exact⟨c,rfl,by simp[zji,h]⟩
theorem g3_ (w:World)(s:ByteArray)(pos:Nat):Chg [] w (w.iter s pos) :=
 (Chg.refl [] w).alloc _
section
variable {w:World}
theorem qR_ (b:Bool):Calls Tryz.prog 129 #[.bool b] w fun e w'=>e=.returned (.int .i64 (if b then 1 else 0))/\w=w':=by
 cases b <;>
 · go_enter Tryz.func129,Tryz.ntmps129;go_wp2_with fail;go_ret;exact⟨rfl,rfl⟩
def zoP (n:Int)(w:World)(e:Ending)(w':World):Prop:=e=.returned (.int .i64 n)/\Chg [] w w'
set_option maxRecDepth 1000000 in
theorem zfh (s:ByteArray)(hs:s.size<=9223372036854775807):Calls Tryz.prog 130 #[.string s] w (zoP (x3_ s) w):=by
 go_enter Tryz.func130,Tryz.ntmps130
 go_wp2
 go_loopw [3] (fun n wr=>∃(pos b acc:Nat),wr=w.iter s pos/\n=.int .i64 (acc:Int)/\acc<=pos/\acc+zji s b pos=x3_ s/\s.size<=pos+b) (fun _ wr=>s.size-wr.iterPos w.heap.size);case atStart=>exact⟨0,s.size,0,rfl,rfl,Nat.le_refl _,by unfold x3_;omega,by omega⟩
 case round =>
  obtain⟨pos,b,acc,rfl,rfl,hap,hcnt,hb⟩:=hrel;by_cases hlt:pos<s.size
  · obtain⟨c,rfl,hn⟩:=zbx s b pos hlt hb;have hw:=qQ_ s pos hlt;have HN:=hQ_ hn;have HC:=hQ_ hcnt;clear hn hcnt;have hnx:=run_next_any (P:=Tryz.prog) w s pos
    go_wp2
    go_roundw;(case rel=>exact⟨_,c,acc+1,rfl,by go_num,by omega,by have:=HN.o;have:=HC.o;omega,by omega⟩);case measure=>simp;omega
  · have HC:=hQ_ hcnt;clear hcnt;have hne:=run_next_end (P:=Tryz.prog) w s pos
    go_wp2
    go_ret;have h1:=HC.o;rw[zee s b pos hlt]at h1;exact⟨by rw[<-h1];rfl,g3_ w s pos⟩
end
theorem xx_ {P:Program}{a t xT:TypeId}{d:TypeDesc}{v z:Value}(hu:P.underlying a=some d)(hn:∀m,d≠.interface m)(hz:(P.info? a).map (·.zero)=some (some z))(w:World) :
    (Instr.typeAssert (.iface t v) xT a true).run P w=.ok (.tuple (if t=a then #[v,.bool true] else #[z,.bool false])) w:=by
      obtain⟨i,hi,hz'⟩:∃i,P.info? a=some i/\i.zero=some z:=(by
       cases h:P.info? a with
       | none=>rw[h]at hz;simp at hz
       | some i=>rw[h]at hz;exact⟨i,rfl,by simpa using hz⟩);by_cases ht:t=a
      · subst ht;cases d<;>simp_all [Instr.typeAssert,run_underlying hu]
      · cases d<;>simp_all [Instr.typeAssert,run_underlying hu,typeInfo,zeroValue]
theorem yk_ {P:Program}{a xT:TypeId}{d:TypeDesc}{z:Value}(hu:P.underlying a=some d)(hn:∀m,d≠.interface m)(hz:(P.info? a).map (·.zero)=some (some z))(w:World) :
    (Instr.typeAssert .nilIface xT a true).run P w=.ok (.tuple #[z,.bool false]) w:=by
      obtain⟨i,hi,hz'⟩:∃i,P.info? a=some i/\i.zero=some z:=(by
       cases h:P.info? a with
       | none=>rw[h]at hz;simp at hz
       | some i=>rw[h]at hz;exact⟨i,rfl,by simpa using hz⟩);cases d<;>simp_all [Instr.typeAssert,run_underlying hu,typeInfo,zeroValue]
theorem as0 (t:TypeId)(v:Value)(w:World):(Instr.typeAssert (.iface t v) 20 2 true).run Tryz.prog w=.ok (.tuple (if t=2 then #[v,.bool true] else #[.int .i64 0,.bool false])) w:=xx_ Tryz.underlying2 (by intro m h;cases h) (by kernel_rfl) w
theorem an0 (w:World):(Instr.typeAssert .nilIface 20 2 true).run Tryz.prog w=.ok (.tuple #[.int .i64 0,.bool false]) w:=yk_ Tryz.underlying2 (by intro m h;cases h) (by kernel_rfl) w
theorem as1 (t:TypeId)(v:Value)(w:World):(Instr.typeAssert (.iface t v) 20 3 true).run Tryz.prog w=.ok (.tuple (if t=3 then #[v,.bool true] else #[.int .i64 0,.bool false])) w:=xx_ Tryz.underlying3 (by intro m h;cases h) (by kernel_rfl) w
theorem an1 (w:World):(Instr.typeAssert .nilIface 20 3 true).run Tryz.prog w=.ok (.tuple #[.int .i64 0,.bool false]) w:=yk_ Tryz.underlying3 (by intro m h;cases h) (by kernel_rfl) w
theorem as2 (t:TypeId)(v:Value)(w:World):(Instr.typeAssert (.iface t v) 20 4 true).run Tryz.prog w=.ok (.tuple (if t=4 then #[v,.bool true] else #[.bool false,.bool false])) w:=xx_ Tryz.underlying4 (by intro m h;cases h) (by kernel_rfl) w
theorem an2 (w:World):(Instr.typeAssert .nilIface 20 4 true).run Tryz.prog w=.ok (.tuple #[.bool false,.bool false]) w:=yk_ Tryz.underlying4 (by intro m h;cases h) (by kernel_rfl) w
theorem as3 (t:TypeId)(v:Value)(w:World):(Instr.typeAssert (.iface t v) 20 21 true).run Tryz.prog w=.ok (.tuple (if t=21 then #[v,.bool true] else #[.int .i32 0,.bool false])) w:=xx_ Tryz.underlying21 (by intro m h;cases h) (by kernel_rfl) w
theorem an3 (w:World):(Instr.typeAssert .nilIface 20 21 true).run Tryz.prog w=.ok (.tuple #[.int .i32 0,.bool false]) w:=yk_ Tryz.underlying21 (by intro m h;cases h) (by kernel_rfl) w
theorem as4 (t:TypeId)(v:Value)(w:World):(Instr.typeAssert (.iface t v) 20 9 true).run Tryz.prog w=.ok (.tuple (if t=9 then #[v,.bool true] else #[.string ⟨#[]⟩,.bool false])) w:=xx_ Tryz.underlying9 (by intro m h;cases h) (by kernel_rfl) w
theorem an4 (w:World):(Instr.typeAssert .nilIface 20 9 true).run Tryz.prog w=.ok (.tuple #[.string ⟨#[]⟩,.bool false]) w:=yk_ Tryz.underlying9 (by intro m h;cases h) (by kernel_rfl) w
theorem as5 (t:TypeId)(v:Value)(w:World):(Instr.typeAssert (.iface t v) 20 59 true).run Tryz.prog w=.ok (.tuple (if t=59 then #[v,.bool true] else #[.slice none 0 0,.bool false])) w:=xx_ Tryz.underlying59 (by intro m h;cases h) (by kernel_rfl) w
theorem an5 (w:World):(Instr.typeAssert .nilIface 20 59 true).run Tryz.prog w=.ok (.tuple #[.slice none 0 0,.bool false]) w:=yk_ Tryz.underlying59 (by intro m h;cases h) (by kernel_rfl) w
inductive Num:Value->Option Int->Prop
  | i64 (n:Int):Num (.iface 2 (.int .i64 n)) (some n)
  | int (n:Int) (h0:-9223372036854775808<=n) (h1:n<=9223372036854775807):Num (.iface 3 (.int .i64 n)) (some n)
  | bool (b:Bool):Num (.iface 4 (.bool b)) (some (if b then 1 else 0))
  | rune (r:Int) (h0:-2147483648<=r) (h1:r<=2147483647):Num (.iface 21 (.int .i32 r)) (some r)
  | str (s:ByteArray) (h:s.size<=9223372036854775807):Num (.iface 9 (.string s)) (some (x3_ s:Nat))
  | list (A:Option Addr) (n c:Nat) (h:n<=9223372036854775807):Num (.iface 59 (.slice A n c)) (some n)
  | nil:Num .nilIface none
  | other (t:TypeId) (u:Value) (h1:t≠2) (h2:t≠3) (h3:t≠4) (h4:t≠21) (h5:t≠9) (h6:t≠59):Num (.iface t u) none
def znO:Option Int->Value
  | some n=>.iface 2 (.int .i64 n)
  | none=>.nilIface
def zgc (r:Option Int)(w:World)(e:Ending)(w':World):Prop:=e=.returned (znO r)/\Chg [] w w'
section
variable {w:World} {v:Value} {r:Option Int}
theorem qZ_ (h:Num v r):Calls Tryz.prog 89 #[v] w (zgc r w):=by
 cases h with
 | i64 n =>
   have q0:=as0 2 (.int .i64 n);have q1:=as1 2 (.int .i64 n);have q2:=as2 2 (.int .i64 n);have q3:=as3 2 (.int .i64 n);have q4:=as4 2 (.int .i64 n);have q5:=as5 2 (.int .i64 n);simp only[reduceIte,Nat.reduceEqDiff]at q0 q1 q2 q3 q4 q5;go_enter Tryz.func89,Tryz.ntmps89;go_wp2_with fail;go_ret;exact⟨rfl,Chg.refl _ _⟩
 | int n h0 h1 =>
   have q0:=as0 3 (.int .i64 n);have q1:=as1 3 (.int .i64 n);have q2:=as2 3 (.int .i64 n);have q3:=as3 3 (.int .i64 n);have q4:=as4 3 (.int .i64 n);have q5:=as5 3 (.int .i64 n);simp only[reduceIte,Nat.reduceEqDiff]at q0 q1 q2 q3 q4 q5;go_enter Tryz.func89,Tryz.ntmps89;go_wp2_with fail;go_ret;exact⟨rfl,Chg.refl _ _⟩
 | bool b =>
   cases b with
   | true =>
     have q0:=as0 4 (.bool true);have q1:=as1 4 (.bool true);have q2:=as2 4 (.bool true);have q3:=as3 4 (.bool true);have q4:=as4 4 (.bool true);have q5:=as5 4 (.bool true);simp only[reduceIte,Nat.reduceEqDiff]at q0 q1 q2 q3 q4 q5;go_enter Tryz.func89,Tryz.ntmps89;go_wp2_with (go_at_call 129;refine(qR_ true).mono ?_;rintro e w' ⟨rfl,rfl⟩);go_ret;exact⟨rfl,Chg.refl _ _⟩
   | false =>
     have q0:=as0 4 (.bool false);have q1:=as1 4 (.bool false);have q2:=as2 4 (.bool false);have q3:=as3 4 (.bool false);have q4:=as4 4 (.bool false);have q5:=as5 4 (.bool false);simp only[reduceIte,Nat.reduceEqDiff]at q0 q1 q2 q3 q4 q5;go_enter Tryz.func89,Tryz.ntmps89;go_wp2_with (go_at_call 129;refine(qR_ false).mono ?_;rintro e w' ⟨rfl,rfl⟩);go_ret;exact⟨rfl,Chg.refl _ _⟩
 | rune r h0 h1 =>
   have q0:=as0 21 (.int .i32 r);have q1:=as1 21 (.int .i32 r);have q2:=as2 21 (.int .i32 r);have q3:=as3 21 (.int .i32 r);have q4:=as4 21 (.int .i32 r);have q5:=as5 21 (.int .i32 r);simp only[reduceIte,Nat.reduceEqDiff]at q0 q1 q2 q3 q4 q5;go_enter Tryz.func89,Tryz.ntmps89;go_wp2_with fail;go_ret;exact⟨rfl,Chg.refl _ _⟩
 | str s hs =>
   have q0:=as0 9 (.string s);have q1:=as1 9 (.string s);have q2:=as2 9 (.string s);have q3:=as3 9 (.string s);have q4:=as4 9 (.string s);have q5:=as5 9 (.string s);simp only[reduceIte,Nat.reduceEqDiff]at q0 q1 q2 q3 q4 q5;go_enter Tryz.func89,Tryz.ntmps89;go_wp2_with (go_at_call 130;refine(zfh s hs).mono ?_;rintro e w1 ⟨rfl,hc⟩);go_ret;exact⟨rfl,hc⟩
 | list A n c hn =>
   have q0:=as0 59 (.slice A n c);have q1:=as1 59 (.slice A n c);have q2:=as2 59 (.slice A n c);have q3:=as3 59 (.slice A n c);have q4:=as4 59 (.slice A n c);have q5:=as5 59 (.slice A n c);simp only[reduceIte,Nat.reduceEqDiff]at q0 q1 q2 q3 q4 q5;go_enter Tryz.func89,Tryz.ntmps89;go_wp2_with fail;go_ret;exact⟨rfl,Chg.refl _ _⟩
 | nil =>
   have q0:=an0;have q1:=an1;have q2:=an2;have q3:=an3;have q4:=an4;have q5:=an5;go_enter Tryz.func89,Tryz.ntmps89;go_wp2_with fail;go_ret;exact⟨rfl,Chg.refl _ _⟩
 | other t u h1 h2 h3 h4 h5 h6 =>
   have q0:=as0 t u;have q1:=as1 t u;have q2:=as2 t u;have q3:=as3 t u;have q4:=as4 t u;have q5:=as5 t u;simp only[if_neg h1]at q0;simp only[if_neg h2]at q1;simp only[if_neg h3]at q2;simp only[if_neg h4]at q3;simp only[if_neg h5]at q4;simp only[if_neg h6]at q5;go_enter Tryz.func89,Tryz.ntmps89;go_wp2_with fail;go_ret;exact⟨rfl,Chg.refl _ _⟩
def zqi (r:Option Int)(w:World)(e:Ending)(w':World):Prop:=e=.returned (.tuple #[.int .i64 (r.getD 0),.bool r.isSome])/\Chg [] w w'
theorem gi_ (h:Num v r):Calls Tryz.prog 48 #[v] w (zqi r w):=by
 cases r with
 | some n =>
   have q0:=as0 2 (.int .i64 n);simp only[reduceIte]at q0;go_enter Tryz.func48,Tryz.ntmps48;go_wp2_with (go_at_call 89;refine(qZ_ h).mono ?_;rintro e w1 ⟨rfl,hc⟩;simp only[znO]);go_ret2;exact⟨rfl,hc⟩
 | none =>
   have q0:=an0;go_enter Tryz.func48,Tryz.ntmps48;go_wp2_with (go_at_call 89;refine(qZ_ h).mono ?_;rintro e w1 ⟨rfl,hc⟩;simp only[znO]);go_ret2;exact⟨rfl,hc⟩
end
def xo_ (vs:List Value)(rs:List (Option Int)):Prop:=vs.length=rs.length/\∀(i:Nat)(v:Value)(r:Option Int),vs[i]?=some v->rs[i]?=some r->Num v r
theorem xo_.nil:xo_ [] []:=⟨rfl,fun i v r h _=>by simp at h⟩
theorem xo_.cons {v:Value}{r:Option Int}{vs:List Value}{rs:List (Option Int)}(h:Num v r)(k:xo_ vs rs):xo_ (v::vs) (r::rs):=by
 refine⟨by simp[k.1],fun i u q hu hq=>?_⟩;cases i with
 | zero=>simp at hu hq;subst hu;subst hq;exact h
 | succ i=>simp at hu hq;exact k.2 i u q hu hq
theorem xo_.app {vs vs':List Value}{rs rs':List (Option Int)}(h:xo_ vs rs)(k:xo_ vs' rs'):xo_ (vs++vs') (rs++rs'):=by
 refine⟨by simp[h.1,k.1],fun i u q hu hq=>?_⟩;rcases Nat.lt_or_ge i vs.length with hi|hi
 · rw[List.getElem?_append_left hi]at hu;rw[List.getElem?_append_left (by rw[<-h.1];exact hi)]at hq;exact h.2 i u q hu hq
 · rw[List.getElem?_append_right hi]at hu;rw[List.getElem?_append_right (by rw[<-h.1];exact hi),<-h.1]at hq;exact k.2 _ u q hu hq
theorem zcn (l:List Int):∀v∈nms l,v.oneCell'=true:=by
 intro v hv;simp only[nms,List.mem_map]at hv;obtain⟨c,_,rfl⟩:=hv;rfl
theorem u5_:(Tryz.prog.info? 2).map (fun i=>(i.zero,i.size,i.bytes))=some (some (.int .i64 0),1,8):=by kernel_rfl
theorem zaV (n:Nat)(hn:n<=1000000)(W:World):(Instr.makeSlice 45 (.int .i64 0) (.int .i64 (n:Int))).run Tryz.prog W=.ok (.slice (some ⟨W.heap.size,0,none⟩) 0 n) (W.alloc (.cells (List.replicate n (Value.int .i64 0)).toArray 2)):=by
 obtain⟨i,hi,hz,hs1,hb⟩:=info_parts u5_;exact x5_ (P:=Tryz.prog) 45 2 i _ rfl Tryz.underlying45 hi hz hs1 n (by rw[hb];omega) (by omega) W
section
variable {w:World} {A:Option Addr} {n c:Nat} {vs:List Value}
def zjK (ns:List Int)(w:World)(e:Ending)(w':World):Prop:=∃v,e=.returned (.tuple #[v,.bool true])/\w'.ownsRow w.heap.size 2 1 v ns.length (nms ns)/\Chg [] w w'
def zqk (w:World)(e:Ending)(w':World):Prop:=e=.returned (.tuple #[.slice none 0 0,.bool false])/\Chg [] w w'
theorem zjB {ns:List Int}(hN:xo_ vs (ns.map some))(hs:Src w A vs)(hA:∀ad,A=some ad->ad.spot=none)(hn:vs.length=n)(hm:n<=1000000) :
    Calls Tryz.prog 23 #[.slice A n c] w (zjK ns w):=by
 obtain⟨i0,hi,hz0,hz1,hz2⟩:=info_parts u5_;have hmk:=zaV n hm;have HNS:=hQ_ (show ns.length=n by have:=hN.1;rw[List.length_map]at this;omega);have HVS:=hQ_ hn;have HA:=hQ_ hA;have HN:=hQ_ hN;clear hn hA hN;go_enter Tryz.func23,Tryz.ntmps23;go_wp2_with fail;have ho0:(w.alloc (.cells (List.replicate n (Value.int .i64 0)).toArray 2)).ownsRow w.heap.size 2 1 (.slice (some ⟨w.heap.size,0,none⟩) 0 n) 0 (nms (ns.take 0)):=by
  have:=zT_ (B:=w.heap.size) (n:=0) (c:=n) (zb_.new w 2 (List.replicate n (Value.int .i64 0))) (Nat.le_refl _) (by simp) (by omega) (by unfold maxLen;omega);simpa[nms] using this
 have hc0:Chg [] w (w.alloc (.cells (List.replicate n (Value.int .i64 0)).toArray 2)):=(Chg.refl _ _).alloc _;go_loopw [4,14] (fun v i wr=>∃k:Nat,k<=n/\i=.int .i64 (k:Int)/\wr.ownsRow w.heap.size 2 1 v k (nms (ns.take k))/\Chg [] w wr) (fun _ i _=>n-(intOf i).toNat);case atStart=>exact⟨0,Nat.zero_le _,rfl,ho0,hc0⟩
 case round =>
  obtain⟨k,hk,rfl,hown,hcg⟩:=hrel;have hwr:=hcg.size;clear ho0 hc0;by_cases hlt:k<n
  · have hlv:k<vs.length:=(by rw[HVS.o];exact hlt);have hln:k<ns.length:=(by rw[HNS.o];exact hlt);obtain⟨ad,rfl,_,hx⟩:=(hs.keep hcg) (by omega);have hx1:=hx k _ (List.getElem?_eq_getElem hlv);obtain⟨b1,o1,s1⟩:=ad;obtain rfl:s1=none:=HA.o _ rfl;rw[zl_]at hx1;have hnum:Num vs[k] (some ns[k]):=HN.o.2 k _ _ (List.getElem?_eq_getElem hlv) (by simp[hln]);have HT:=hQ_ (show nms (ns.take (k+1))=nms (ns.take k)++[.int .i64 ns[k]] by rw[List.take_succ_eq_append_getElem hln,ky_];rfl);generalize vs[k]=u at hx1 hnum;generalize ns[k]=q at hnum HT;obtain⟨X,hX⟩:∃X,X=nms (ns.take k):=⟨_,rfl⟩;rw[<-hX]at hown HT;clear hx hX;go_wp2_with fail;refine(gi_ hnum).mono ?_;rintro e w1 ⟨rfl,hc1⟩;have hown1:=zk_ hown hc1;have hs1:=hc1.size;simp only[Option.getD_some,Option.isSome_some];go_wp2_with (first
     | (at_builtin;refine wpList_append_own _ rfl (.tmp 25) (.tmp 27) _ rfl w.heap.size 2 i0 (.int .i64 0) 1 8 Tryz.underlying45 hi hz0 hz1 hz2 rfl (by decide) _ k X rfl (zk_ hown1 ((Chg.refl _ _).alloc _)) ⟨w1.heap.size,0,none⟩ 1 1 [.int .i64 q] rfl rfl ?c1 ?c2 ?c3 ?c4 ?c5 ?_;(case c1=>exact cell_one_new _ _ _);(case c2=>simp[Value.oneCell']);(case c3=>simp only[maxLen];omega);(case c4=>omega);(case c5=>simp;omega);intro v' w2 hown' hg' _));go_roundw;case rel =>
     refine⟨k+1,by omega,by go_num,?_,xD_ ((hcg.new hc1).alloc _) hg' fun g hgg=>(hown1.lt g hgg).1⟩;rw[HT.o];exact hown'
    case measure=>simp[intOf];omega
  · have hkn:k=n:=(by omega);subst hkn;have HK:=hQ_ (show ns.take k=ns by rw[List.take_of_length_le (by rw[HNS.o];exact Nat.le_refl _)]);rw[HK.o]at hown;rw[<-HNS.o]at hown;clear hlt hk;go_wp2_with fail;go_ret2;exact⟨_,rfl,hown,hcg⟩
theorem zqd {rs:List (Option Int)}(hN:xo_ vs rs)(hs:Src w A vs)(hA:∀ad,A=some ad->ad.spot=none)(hn:vs.length=n)(hm:n<=1000000)(z:Nat)(hz:rs[z]?=some none)(hzz:∀i,i<z->∃q,rs[i]?=some (some q)) :
    Calls Tryz.prog 23 #[.slice A n c] w (zqk w):=by
 obtain⟨i0,hi,hz0,hz1,hz2⟩:=info_parts u5_;have hmk:=zaV n hm;have hzn:z<n:=by have:=(List.getElem?_eq_some_iff.1 hz).1;have:=hN.1;omega
 have HVS:=hQ_ hn;have HA:=hQ_ hA;have HN:=hQ_ hN;have HZ:=hQ_ hz;have HZZ:=hQ_ hzz;clear hn hA hN hz hzz;go_enter Tryz.func23,Tryz.ntmps23;go_wp2_with fail;have ho0:(w.alloc (.cells (List.replicate n (Value.int .i64 0)).toArray 2)).ownsRow w.heap.size 2 1 (.slice (some ⟨w.heap.size,0,none⟩) 0 n) 0 []:=by
  have:=zT_ (B:=w.heap.size) (n:=0) (c:=n) (zb_.new w 2 (List.replicate n (Value.int .i64 0))) (Nat.le_refl _) (by simp) (by omega) (by unfold maxLen;omega);simpa using this
 have hc0:Chg [] w (w.alloc (.cells (List.replicate n (Value.int .i64 0)).toArray 2)):=(Chg.refl _ _).alloc _;go_loopw [4,14] (fun v i wr=>∃k:Nat,k<=z/\i=.int .i64 (k:Int)/\(∃X,wr.ownsRow w.heap.size 2 1 v k X)/\Chg [] w wr) (fun _ i _=>n-(intOf i).toNat);case atStart=>exact⟨0,Nat.zero_le _,rfl,⟨_,ho0⟩,hc0⟩
 case round =>
  obtain⟨k,hk,rfl,⟨X,hown⟩,hcg⟩:=hrel;have hwr:=hcg.size;clear ho0 hc0;have hlt:k<n:=by omega
  have hlv:k<vs.length:=by rw[HVS.o];exact hlt
  obtain⟨ad,rfl,_,hx⟩:=(hs.keep hcg) (by omega);have hx1:=hx k _ (List.getElem?_eq_getElem hlv);obtain⟨b1,o1,s1⟩:=ad;obtain rfl:s1=none:=HA.o _ rfl;rw[zl_]at hx1;by_cases hkz:k<z
  · obtain⟨q,hq⟩:=HZZ.o k hkz;have hnum:Num vs[k] (some q):=HN.o.2 k _ _ (List.getElem?_eq_getElem hlv) hq;generalize vs[k]=u at hx1 hnum;clear hx hq;go_wp2_with fail;refine(gi_ hnum).mono ?_;rintro e w1 ⟨rfl,hc1⟩;have hown1:=zk_ hown hc1;have hs1:=hc1.size;simp only[Option.getD_some,Option.isSome_some];go_wp2_with (first
     | (at_builtin;refine wpList_append_own _ rfl (.tmp 25) (.tmp 27) _ rfl w.heap.size 2 i0 (.int .i64 0) 1 8 Tryz.underlying45 hi hz0 hz1 hz2 rfl (by decide) _ k X rfl (zk_ hown1 ((Chg.refl _ _).alloc _)) ⟨w1.heap.size,0,none⟩ 1 1 [.int .i64 q] rfl rfl ?c1 ?c2 ?c3 ?c4 ?c5 ?_;(case c1=>exact cell_one_new _ _ _);(case c2=>simp[Value.oneCell']);(case c3=>simp only[maxLen];omega);(case c4=>omega);(case c5=>simp;omega);intro v' w2 hown' hg' _));go_roundw;(case rel=>exact⟨k+1,by omega,by go_num,⟨_,hown'⟩,xD_ ((hcg.new hc1).alloc _) hg' fun g hgg=>(hown1.lt g hgg).1⟩);case measure=>simp[intOf];omega
  · obtain rfl:k=z:=(by omega);have hnum:Num vs[k] none:=HN.o.2 k _ _ (List.getElem?_eq_getElem hlv) HZ.o;generalize vs[k]=u at hx1 hnum;clear hx;go_wp2_with fail;refine(gi_ hnum).mono ?_;rintro e w1 ⟨rfl,hc1⟩;simp only[Option.getD_none,Option.isSome_none];go_wp2_with fail;go_ret2;exact⟨rfl,hcg.new hc1⟩
end
section
variable {P:Program} {ops:Array Oper} {rest:List Oper} {o:Oper} {a:Act} {w:World} {Q:Exit->Act->World->Prop}
theorem jx_ (hg:o.guard=none)(t:TypeId)(parts:Array (Nat×Operand))(ho:o.op=.build t parts)(C:Array Value)(hf:P.built t (parts.map fun (i,x)=>(i,a.eval x)).toList=some C)
    (h:wpList P ops Q rest (a.put o.dst (.agg C)) w):wpList P ops Q (o::rest) a w :=
      wpList_build hg t parts ho (by rw[hf];rfl) (by rw[hf];exact h)
theorem jy_ (hg:o.guard=none)(t:TypeId)(ho:o.op=.alloc t){i:TypeInfo}{z:Value}(hi:P.info? t=some i)(hz:i.zero=some z)(N:Nat)(hN:w.heap.size=N)
    (h:wpList P ops Q rest (a.put o.dst (.pointer (some ⟨N,0,none⟩))) (w.alloc (.cells z.cells t))):wpList P ops Q (o::rest) a w:=by
      subst hN;refine wpList_plain hg fun K hK=>?_;unfold Oper.wp execOp;simp[ho,go_sem,zeroValue,typeInfo,hi,hz];exact hK _ _ h
end
section
variable {P:Program} {ops:Array Oper} {o:Oper} {a:Act} {w:World} {K:Act->World->Prop} {Q:Exit->Act->World->Prop} {E:Prop}
theorem zgF (hgd:o.guard=none)(h:Oper.wp P o a w K Q):if Region.wanted o (yielded ops a.tmps)=true then Oper.wp P o a w K Q else E:=by
 have hw:Region.wanted o (yielded ops a.tmps)=true:=by simp[Region.wanted,hgd]
 rw[if_pos hw];exact h
theorem uO_ (hgd:o.guard=none)(ty:TypeId)(x:Operand)(ho:o.op=.load ty x)
    (g:Nat) (hx:a.eval x=.pointer (some ⟨g,0,none⟩)) (t:TypeId) (cs:Array Value) (fr:Nat×Nat) (d:TypeDesc) (hg:w.heap[g]?=some (.cells cs t fr))
    (hu:P.underlying ty=some d) (hd:(match d with|.struct _|.array _ _=>true|_=>false)=true) (hi:(P.info? ty).map (·.size)=some cs.size)
    (h:K (a.put o.dst (.agg cs)) w):if Region.wanted o (yielded ops a.tmps)=true then Oper.wp P o a w K Q else E :=
      zgF hgd (wp_load_row ty x ho g hx t cs fr d hg hu hd hi h)
theorem xO_ (hgd:o.guard=none)(t e:TypeId)(x:Operand)(ho:o.op=.buildSlice t 1 #[(0,x)])(cells:Array Value)(hx:a.eval x=.agg cells){i:TypeInfo}{z:Value}(s:Nat)
    (hu:P.underlying t=some (.slice e)) (hi:P.info? e=some i) (hz:i.zero=some z) (hs:i.size=s) (hzs:z.cells.size=s) (hpos:0<s) (hbig:s<=1000) (hc:cells.size=s) (N:Nat) (hN:w.heap.size=N)
    (h:K (a.put o.dst (.slice (some ⟨N,0,none⟩) 1 1)) (w.alloc (.cells cells e))):if Region.wanted o (yielded ops a.tmps)=true then Oper.wp P o a w K Q else E:=by
      subst hN;refine zgF hgd (Go.wp_buildSlice t e 1 #[(0,x)] ho cells i z hu hi hz (by rw[hs];omega) (by rw[hs];omega) ?_ h);have:=Go.Great.fill_whole hpos [.agg cells] ((Array.range (1*i.size)).map (z.cells[·%z.cells.size]!)) (by intro v hv;rw[List.mem_singleton]at hv;subst hv;exact hc) (by simp[hs]);simp only[List.map_toArray,List.map_cons,List.map_nil,hx,hs]at this⊢;rw[show([(Value.agg cells)].zipIdx 0).map (fun x=>(x.2,x.1))=[(0,Value.agg cells)] from rfl]at this;rw[this];simp[Value.cells]
end
theorem zaz {w:World}{g t:Nat}{old cs:List Value}(h:zb_ w g t old):zb_ (w.setRow g cs.toArray) g t cs:=by
 have:=Go.setRow_heap w g old.toArray cs.toArray t (0,0) h;exact this
theorem zeX {w:World}{g:Nat}{cs:Array Value}{T:List Nat}{a:World}(h:Chg T a w)(hg:a.heap.size<=g):Chg T a (w.setRow g cs):=by
 refine⟨h.os,h.tape,h.output,?_,fun k hk hn=>?_⟩
 · have:=h.size;simpa[World.setRow] using this
 · exact(Go.setRow_other w g k cs (by omega)).trans (h.block k hk hn)
end Go.Proofs.YtcbcfcdmdedefaaGreatDoor
