import Derived.Test.YtcbcfcdmdedefaaGreatDoorZTA14
import Derived.Deep.Fields
import Derived.Test.YtcbcfcdmdedefaaGreatDoorRows
import Derived.LaidMore
import Derived.Stop.LaidErr
set_option maxRecDepth 100000
set_option maxHeartbeats 16000000
namespace Go.Proofs.YtcbcfcdmdedefaaGreatDoor
section
open Go.RowKit
theorem arg_u32 {a:Int}(h:(Lit.int .u32 a).wf=true):∃k:Nat,a=k/\k<4294967296:=by
 have hb:0<=a/\a<=4294967295:=by simpa[Lit.wf,IntKind.min,IntKind.max,IntKind.signed,IntKind.bits] using h
 exact⟨a.toNat,by omega,by omega⟩
theorem arg_u8 {a:Int}(h:(Lit.int .u8 a).wf=true):∃x:UInt8,a=(x.toNat:Int):=by
 have hb:0<=a/\a<=255:=by simpa[Lit.wf,IntKind.min,IntKind.max,IntKind.signed,IntKind.bits] using h
 exact⟨UInt8.ofNat a.toNat,by rw[UInt8.toNat_ofNat'];omega⟩
theorem zcL {a:Int}(h:(Lit.int .i64 a).wf=true):-9223372036854775808<=a/\a<=9223372036854775807:=by
 simpa[Lit.wf,IntKind.min,IntKind.max,IntKind.signed,IntKind.bits] using h
theorem zpl {w:World}{e:Ending}{w':World}(h:vz_ w e w'):e=.returned (.bool true)/\Below w.heap.size w w':=⟨h.1,h.2.below0⟩
end
section
open Go.RowKit
section
variable {w:World} {p bL bS bW:Nat} {s:St}
def g8_ (w:World)(p bL bS bW:Nat)(s:St)(L P:Int)(e:Ending)(w':World):Prop :=
 (zq_ L P 1 s.V.length=true/\e=.returned (.int .i64 0)/\yx_ w' p bL bS bW (fmt s L.toNat P.toNat)/\Chg [bL,bS,bW] w w') \/
 (zq_ L P 1 s.V.length=false/\e=.returned (.int .i64 25)/\Chg [] w w')
theorem zft (h:yx_ w p bL bS bW s)(L P:Int) :
    Calls Tryz.prog 15 #[.pointer (some ⟨p,0,none⟩),.int .i64 L,.int .i64 P] w (g8_ w p bL bS bW s L P):=by
 have H:=hQ_ h;have HB:=hQ_ (show p<w.heap.size/\bL<w.heap.size/\bS<w.heap.size/\bW<w.heap.size from⟨(Dsk.rec_ h).lt,(Dsk.last h).lt,(Dsk.seen h).lt,(Dsk.wait h).lt⟩);clear h;go_enter Tryz.func15,Tryz.ntmps15;go_upto_region 4 with fail;have hR:=zb_.new w 82 [.int .i64 L,.int .i64 P,.int .u32 1];have hal:=(Chg.refl [] w).alloc (.cells #[.int .i64 L,.int .i64 P,.int .u32 1] 82);have HD:=hQ_ (H.o.keep hal);have HC:=hQ_ hal;obtain⟨gr,hgr⟩:∃g,g=w.heap.size:=⟨_,rfl⟩;have HG:=hQ_ hgr;rw[<-hgr]at hR⊢;generalize w.alloc (.cells #[.int .i64 L,.int .i64 P,.int .u32 1] 82)=w1 at hR HD HC⊢;have HR:=hQ_ hR;clear hR hal hgr;refine wp_flow (by kernel_rfl) yl_ za_ (by kernel_rfl) ?_;refine flow1h (r:=zB_ L P 1) za_ rfl (.out rfl rfl) rfl (fun ev W he hW e1=>by have hx:=HR.o.keep ((Chg.refl [] w1).drew.new hW);have r0:=hx.cell 0;have r1:=hx.cell 1;have r2:=hx.cell 2;clear hW hx;unfold zB_;go_simp) ?_;refine flow_move_out za_ rfl rfl rfl ?_;refine zw_ (.int .i64 (s.V.length:Int)) (by kernel_rfl) rfl (.cons (.inn rfl) .nil) (fun W hW=>(xP_ (HD.o.keep ((Chg.refl [] w1).drew.new hW))).mono ?_) ?_
 · rintro e w' ⟨rfl,rfl⟩;exact⟨rfl,Chg.refl _ _⟩
 refine zw_ (.bool (zq_ L P 1 s.V.length)) (by kernel_rfl) rfl (.cons (.inn rfl) (.cons (.inn rfl) .nil)) (fun W hW=>(yb_ L P 1 _).mono ?_) ?_
 · rintro e w' ⟨rfl,hc⟩;exact⟨rfl,hc⟩
 refine flow1 (r:=.bool (!zq_ L P 1 s.V.length)) za_ rfl (.inn rfl) rfl (fun ev W he e1=>by go_simp) ?_;intro vs W hW hF;have e17:vs 17=.bool (!zq_ L P 1 s.V.length):=hF 17 _ rfl rfl;have hcw:Chg [] w1 W:=(Chg.refl [] w1).drew.new hW;have HD2:=hQ_ (HD.o.keep hcw);have HR2:=hQ_ (HR.o.keep hcw);have HC2:=hQ_ (HC.o.new hcw);simp only[zV_,Act.put,List.setIfInBounds_toArray,List.set_cons_zero,List.set_cons_succ];rw[e17];clear hF hW e17 hcw;obtain⟨w2,hw2⟩:∃w2:World,w2=W:=⟨_,rfl⟩;rw[<-hw2]at HD2 HR2 HC2⊢;clear hw2;by_cases hr:zq_ L P 1 s.V.length=true
 · obtain⟨a1,a2,a3,a4,a5,_⟩:=zj_.1 hr;have HRT:=hQ_ hr;have HLP:=hQ_ (show L=(L.toNat:Int)/\P=(P.toNat:Int) from⟨by omega,by omega⟩);rw[hr];obtain⟨l,hl⟩:∃l,l=L.toNat:=⟨_,rfl⟩;obtain⟨q,hq⟩:∃q,q=P.toNat:=⟨_,rfl⟩;have HLQ:=hQ_ (And.intro hl hq);obtain rfl:L=(l:Int):=(by omega);obtain rfl:P=(q:Int):=(by omega);have hlq:1<=l/\l<=64/\1<=q/\q<=64/\2+l+q<=s.V.length:=(by omega);obtain⟨m1,hm1⟩:∃m1,m1=2+l:=⟨_,rfl⟩;obtain⟨m,hm⟩:∃m,m=2+l+q:=⟨_,rfl⟩;have hs1:IntKind.i64.wrap (2+(l:Int))=(m1:Int):=(by rw[IntKind.wrap_i64];omega);have hs2:IntKind.i64.wrap ((m1:Int)+(q:Int))=(m:Int):=(by rw[IntKind.wrap_i64];omega);have HL2:=hQ_ hlq;have HM:=hQ_ hm;clear a1 a2 a3 a4 a5 hl hq hr HLP hm hm1 hlq;go_wp2_with fail;refine(zcS HD2.o 0 2 (by omega) (by have:=HL2.o;omega)).mono ?_;rintro e w3 ⟨rfl,hd3,hc3⟩;have HD3:=hQ_ hd3;have HR3:=hQ_ (HR2.o.chg hc3 (fun hm=>by have h1:=HB.o;have h2:=HG.o;simp only[List.mem_cons,List.not_mem_nil,or_false]at hm;omega));have HC3:=hQ_ ((HC2.o.sub (T':=[bL,bS,bW]) (fun _ h=>by cases h)).trans hc3);clear hd3 hc3;go_wp2_with fail;refine(zcS HD3.o 2 m (by have:=HM.o;omega) (by have h1:=HL2.o;have h2:=HM.o;rw[zI_,zW_];omega)).mono ?_;rintro e w4 ⟨rfl,hd4,hc4⟩;have HD4:=hQ_ hd4;have hr4:=HR3.o.chg hc4 (fun hm=>by have h1:=HB.o;have h2:=HG.o;simp only[List.mem_cons,List.not_mem_nil,or_false]at hm;omega);have r0:=hr4.cell 0;have r1:=hr4.cell 1;have r2:=hr4.cell 2;have HC4:=hQ_ (HC3.o.trans hc4);clear hd4 hc4 hr4;go_wp2_with fail;have hpr:=jU_ HD4.o l q 1 (by have:=HL2.o;omega) (by have:=HL2.o;omega) (by omega) (by have h1:=HL2.o;rw[zI_,zW_,zI_,zW_];omega);unfold zB_ at hpr;refine hpr.mono ?_;rintro e w5 ⟨rfl,hd5,hc5⟩;have HP:=hQ_ (show g8_ w p bL bS bW s (l:Int) (q:Int) (.returned (.int .i64 0)) w5 from .inl ⟨HRT.o,rfl,by
    unfold fmt;have h1:=HLQ.o;have h2:=HM.o;rw[<-h1.1,<-h1.2,show l+q=m-2 by omega];exact hd5,HC4.o.trans hc5⟩);clear hd5 hc5 hpr r0 r1 r2;go_wp2_with fail;go_ret;exact HP.o
 · have hr':zq_ L P 1 s.V.length=false:=(by simpa using hr);have HP:=hQ_ (show g8_ w p bL bS bW s L P (.returned (.int .i64 25)) w2 from .inr ⟨hr',rfl,HC2.o⟩);rw[hr'];clear hr hr';go_wp2_with fail;go_ret;exact HP.o
end
end
section
open Go.RowKit
noncomputable def stepS (l:List UInt8) (ep:Nat) (s:List (List UInt8)×Nat):List (List UInt8)×Nat :=
 open Classical in if zS_ (l.drop s.2) ep s.1.length then (s.1++[zga (l.drop s.2)],s.2+16+zz_ (l.drop s.2) 8) else s
noncomputable def itS (l:List UInt8) (ep:Nat):Nat->List (List UInt8)×Nat
  | 0=>([],0)
  | k+1=>stepS l ep (itS l ep k)
noncomputable def scanS (l:List UInt8) (ep:Nat):List (List UInt8)×Nat:=itS l ep (l.length+1)
theorem zap {l:List UInt8}{ep:Nat}{s:List (List UInt8)×Nat}(h:zS_ (l.drop s.2) ep s.1.length):stepS l ep s=(s.1++[zga (l.drop s.2)],s.2+16+zz_ (l.drop s.2) 8):=by
 unfold stepS;rw[if_pos h]
theorem zcY {l:List UInt8}{ep:Nat}{s:List (List UInt8)×Nat}(h:¬zS_ (l.drop s.2) ep s.1.length):stepS l ep s=s:=by
 unfold stepS;rw[if_neg h]
theorem zll {l:List UInt8}{ep k:Nat}(h:¬zS_ (l.drop (itS l ep k).2) ep (itS l ep k).1.length)(j:Nat):itS l ep (k+j)=itS l ep k:=by
 induction j with
 | zero=>rfl
 | succ j ih=>show stepS l ep (itS l ep (k+j))=_;rw[ih,zcY h]
theorem zkA {l:List UInt8}{ep k:Nat}(h:¬zS_ (l.drop (itS l ep k).2) ep (itS l ep k).1.length)(hk:k<=l.length+1):scanS l ep=itS l ep k:=by
 unfold scanS;have e:l.length+1=k+(l.length+1-k):=by omega
 rw[e,zll h]
def g3_ (w:World)(l:List UInt8)(ep:Nat)(e:Ending)(w':World):Prop :=
 ∃v vs,e=.returned (.tuple #[v,.int .i64 ((scanS l ep).2:Nat)])/\w'.ownsRow w.heap.size 39 1 v (scanS l ep).1.length vs/\Rows w.heap.size w' vs (scanS l ep).1/\Chg [] w w'
structure At (l:List UInt8) (ep k:Nat) (rs:List (List UInt8)) (a:Nat):Prop where
  it:itS l ep k=(rs,a)
  len:rs.length=k
  low:16*k<=a
  top:a<=l.length
theorem At.zero (l:List UInt8)(ep:Nat):At l ep 0 [] 0:=⟨rfl,rfl,by omega,by omega⟩
theorem At.next {l:List UInt8}{ep k:Nat}{rs:List (List UInt8)}{a:Nat}(h:At l ep k rs a)(hr:zS_ (l.drop a) ep k):At l ep (k+1) (rs++[zga (l.drop a)]) (a+(16+zz_ (l.drop a) 8)):=by
 have h1:=hr.1;have h2:=hr.2.2.2.1;rw[List.length_drop]at h1 h2;refine⟨?_,by simp[h.len],by have:=h.low;omega,by have:=h.top;omega⟩;show stepS l ep (itS l ep k)=_;rw[h.it,zap (by simpa[h.len] using hr)];simp only[Nat.add_assoc]
theorem At.last {l:List UInt8}{ep k:Nat}{rs:List (List UInt8)}{a:Nat}(h:At l ep k rs a)(hr:¬zS_ (l.drop a) ep k):scanS l ep=(rs,a):=by
 have h1:=h.low;have h2:=h.top;rw[zkA (k:=k) (by rw[h.it];simpa[h.len] using hr) (by omega),h.it]
section
variable {w:World} {A:Option Addr} {n c:Nat} {l:List UInt8}
theorem zkz (h:Bs w A n c l)(ep:Nat)(hn:n<=2147483648) :
    Calls Tryz.prog 115 #[.slice A n c,.int .u32 (ep:Int)] w (g3_ w l ep):=by
 obtain⟨i,hi,hz,hs1,hb⟩:=info_parts kE_;go_enter Tryz.func115,Tryz.ntmps115;go_wp2_with fail;go_loopw [6,7] (fun v a wr=>∃k:Nat,∃m:Nat,∃rs vs,At l ep k rs m/\a=.int .i64 (m:Int)/\wr.ownsRow w.heap.size 39 1 v k vs/\Rows w.heap.size wr vs rs/\Chg [] w wr) (fun _ a _=>n-(intOf a).toNat);case atStart=>exact⟨0,0,[],[],At.zero l ep,rfl,vN_ _ _ _,Rows.nil _ _,Chg.refl _ _⟩
 case round =>
  obtain⟨k,m,rs,vs,hat,rfl,hown,hrows,hcr⟩:=hrel;obtain⟨Av,cv,rfl,hvl,hvc,_⟩:=zr_ hown;have hm:=hat.top;have hk:=hat.low;have hl:=h.len;have hcap:=h.cap;rw[hl]at hm;have hB:=(h.keep hcr).cut (lo:=m) (hi:=n) hm (Nat.le_refl _);have hdr:(l.drop m).take (n-m)=l.drop m:=List.take_of_length_le (by rw[List.length_drop];omega);rw[hdr]at hB;have e1:(k:Int)%4294967296=(k:Int):=by omega
  have e2:¬n<m:=by omega
  have e3:¬c<n:=by omega
  have hnx:zS_ (l.drop m) ep k->m+(16+zz_ (l.drop m) 8)<=n:=fun hr=>by have:=(hat.next hr).top;omega
  clear hdr hl;rcases Decidable.em (m=c) with hcm|hcm
  · have hok:¬zS_ (l.drop m) ep k:=fun hr=>(by have:=hnx hr;omega);have hnm:n=m:=(by omega);rw[if_pos hcm.symm]at hB;subst hcm;subst hnm;rw[Nat.sub_self]at hB;clear hnx;go_wp2_with fail;refine(jS_ hB ep k (by omega)).mono ?_;rintro e w2 (⟨hyes,_⟩|⟨_,rfl,hc2⟩)
    · exact absurd hyes hok
    go_wp2_with fail;go_ret2;rw[g3_,hat.last hok];exact⟨_,vs,rfl,by rw[hat.len];exact zk_ hown hc2,hrows.keep hc2,hcr.new hc2⟩
  · rw [if_neg (Ne.symm hcm)]at hB;have e4:¬c=m:=Ne.symm hcm;by_cases hok:zS_ (l.drop m) ep k
    · have hnk:=hnx hok;go_wp2_with fail;refine(jS_ hB ep k (by omega)).mono ?_;rintro e w2 (⟨_,v2,rfl,ho2,hc2⟩|⟨hno,_⟩);rotate_left
      · exact absurd hok hno
      obtain⟨A2,c2,rfl,_⟩:=zr_ ho2;have how:=zk_ hown hc2;have hrw:=hrows.keep hc2;have hx1:=hQ_ (show k+1<=maxLen by unfold maxLen;omega);have hx2:=hQ_ (show(k+1)*24<=140737488355328 by omega);have hx3:=hQ_ (show w.heap.size<=w2.heap.size from Nat.le_trans hcr.size hc2.size);go_wp2_with (
       at_builtin;refine zC_ rfl (.tmp 27) (.tmp 29) 96 rfl w.heap.size 39 i _ 24 Tryz.underlying96 hi hz hs1 hb qg_ (.slice Av k cv) k vs rfl (zk_ how ((Chg.refl _ _).alloc _)) (some ⟨w2.heap.size,0,none⟩) 1 1 [.slice A2 (zga (l.drop m)).length c2] rfl rfl (Src.of_all (zb_.new w2 39 [.slice A2 (zga (l.drop m)).length c2])) (fun u hu=>by simp at hu;rw[hu];rfl) hx1.out hx2.out (by simp;have:=hx3.out;omega) ?_;intro v4 w4 ho4 hg4 _);have hch4:Chg [] w w4:=((hcr.new hc2).alloc _).own (zk_ how ((Chg.refl _ _).alloc _)) (Nat.le_refl _) hg4;go_roundw;case rel =>
       refine⟨k+1,m+(16+zz_ (l.drop m) 8),_,_,hat.next hok,by go_num,ho4,?_,hch4⟩;exact((hrw.keep ((Chg.refl _ _).alloc _)).snoc (zZ_ (zk_ ho2 ((Chg.refl _ _).alloc _)) hcr.size)).grown (zk_ how ((Chg.refl _ _).alloc _)) hg4
      case measure=>simp[intOf];omega
    · go_wp2_with fail;refine(jS_ hB ep k (by omega)).mono ?_;rintro e w2 (⟨hyes,_⟩|⟨_,rfl,hc2⟩)
      · exact absurd hyes hok
      go_wp2_with fail;go_ret2;rw[g3_,hat.last hok];exact⟨_,vs,rfl,by rw[hat.len];exact zk_ hown hc2,hrows.keep hc2,hcr.new hc2⟩
end
end
section
open Go.RowKit
theorem zeO:(Tryz.prog.info? 5).map (·.size)=some 1:=by kernel_rfl
def zpP (b:List UInt8)(k:Nat):ChV:=⟨(v9_ (b.drop (2+k*66)):Nat),none,64,64,(b.drop (2+k*66+2)).take 64⟩
def vc_ (b:List UInt8)(k:Nat):List ChV:=(List.range k).map (zpP b)
theorem zfQ (b:List UInt8)(k:Nat):vc_ b (k+1)=vc_ b k++[zpP b k]:=by simp[vc_,List.range_succ]
theorem zjp (b:List UInt8)(k:Nat):(vc_ b k).length=k:=by simp[vc_]
def asC (l m:List ChV):Prop:=l.map zbI=m.map zbI/\∀(i:Nat)(a b:ChV),l[i]?=some a->m[i]?=some b->a.page=b.page/\a.bn=b.bn
theorem zoy:asC [] []:=⟨rfl,fun i a b h=>by simp at h⟩
theorem zmf {l m:List ChV}{a b:ChV}(h:asC l m)(hk:zbI a=zbI b)(hb:a.bn=b.bn):asC (l++[a]) (m++[b]):=by
 have hlen:l.length=m.length:=by have:=congrArg List.length h.1;simpa using this
 refine⟨by simp[h.1,hk],fun i x y hx hy=>?_⟩;rcases Nat.lt_trichotomy i l.length with hi|hi|hi
 · rw[List.getElem?_append_left hi]at hx;rw[List.getElem?_append_left (by omega)]at hy;exact h.2 i x y hx hy
 · subst hi;rw[List.getElem?_concat_length]at hx;rw[hlen,List.getElem?_concat_length]at hy;cases hx;cases hy;exact⟨by injection hk,hb⟩
 · rw[List.getElem?_eq_none (by simp;omega)]at hx;cases hx
theorem zby:∀{l m:List ChV}(_:l.length=m.length)(_:∀(i:Nat)(a b:ChV),l[i]?=some a->m[i]?=some b->a.page=b.page/\a.bn=b.bn)(last P:Int),yJ_ last P l=yJ_ last P m
  | [],[],_,_,_,_=>rfl
  | [],b::m,h,_,_,_=>by simp at h
  | a::l,[],h,_,_,_=>by simp at h
  | a::l,b::m,h,hx,last,P=>by
    obtain⟨h1,h2⟩:=hx 0 a b rfl rfl;unfold yJ_;rw[h1,h2,zby (by simpa using h) (fun i x y hi hj=>hx (i+1) x y (by simpa using hi) (by simpa using hj)) b.page P]
theorem ul_ {l m:List ChV}(h:asC l m)(P:Int):zF_ P l=zF_ P m:=by
 unfold zF_;rw[zby (by have:=congrArg List.length h.1;simpa using this) h.2]
def g9_ (b:List UInt8)(P:Int)(w:World)(e:Ending)(w':World):Prop :=
 (2<=b.length/\b.length=2+v9_ b*66/\zF_ P (vc_ b (v9_ b))=true/\∃v ls,e=.returned (.tuple #[v,.bool true])/\w'.ownsRow w.heap.size 123 2 v (v9_ b) (xV_ ls)/\(∀a∈ls,RMade w' w.heap.size a)/\ls.length=v9_ b/\asC ls (vc_ b (v9_ b))/\Chg [] w w') \/
 (¬(2<=b.length/\b.length=2+v9_ b*66/\zF_ P (vc_ b (v9_ b))=true)/\e=.returned (.tuple #[.slice none 0 0,.bool false])/\Chg [] w w')
def zjO (b:List UInt8)(P:Int)(w:World)(e:Ending)(w':World):Prop :=
 (2<=b.length/\b.length=2+v9_ b*66/\zF_ P (vc_ b (v9_ b))=true/\∃A c ls,e=.returned (.tuple #[.slice A (v9_ b) c,.bool true])/\Chs w' A ls/\ls.length=v9_ b/\asC ls (vc_ b (v9_ b))/\Chg [] w w') \/
 (¬(2<=b.length/\b.length=2+v9_ b*66/\zF_ P (vc_ b (v9_ b))=true)/\e=.returned (.tuple #[.slice none 0 0,.bool false])/\Chg [] w w')
theorem g9_.post {b:List UInt8}{P:Int}{w:World}{e:Ending}{w':World}(h:g9_ b P w e w'):zjO b P w e w':=by
 rcases h with⟨h1,h2,h3,v,ls,rfl,ho,hm,hl,ha,hc⟩|h
 · obtain⟨A,c,rfl,_,hch,_⟩:=jr_ ho (fun a ha=>(hm a ha).ok);exact .inl ⟨h1,h2,h3,A,c,ls,rfl,hch,hl,ha,hc⟩
 · exact .inr h
theorem zhA (l:List UInt8):v9_ l<65536:=by
 unfold v9_;have h1:=(l.getD 0 0).toNat_lt;have h2:=(l.getD 1 0).toNat_lt;omega
theorem zaQ (n:Nat)(hn:n<65536)(W:World):∃o:Array Value,o.size=n*2/\(Instr.makeSlice 88 (.int .i64 0) (.int .i64 (n:Int))).run Tryz.prog W=.ok (.slice (some ⟨W.heap.size,0,none⟩) 0 n) (W.alloc (.cells o 123)):=by
 obtain⟨i,hi,hz,hs1,hb⟩:=info_parts vv_;have h:=run_make (P:=Tryz.prog) W 88 123 i _ Tryz.underlying88 hi hz .i64 .i64 0 (n:Int) (by omega) (by omega) (by rw[hb];omega) (by omega);rw[hs1]at h;exact⟨_,size_madeCells _ _,by simpa using h⟩
def zpW (b:List UInt8)(w wr:World)(v:Value)(k:Nat):Prop :=
 ∃ls:List ChV,wr.ownsRow w.heap.size 123 2 v k (xV_ ls)/\(∀a∈ls,MadeCh wr w.heap.size a)/\asC ls (vc_ b k)/\Chg [] w wr
section
variable {w:World} {A:Option Addr} {n c:Nat}
theorem zja {b:List UInt8} (h:Bs w A n c b) (P:Int) :
    Calls Tryz.prog 117 #[.slice A n c,.int .i64 P] w (g9_ b P w):=by
 obtain⟨i0,hi,hz0,hz1,hz2⟩:=info_parts vv_;have hlen:=h.len;have hcap:=h.cap;have hmax:=h.max;have H:=hQ_ h;have HLN:=hQ_ hlen;clear h hlen;by_cases h2:n<2
 · have HNO:=hQ_ (show ¬(2<=b.length/\b.length=2+v9_ b*66/\zF_ P (vc_ b (v9_ b))=true) from fun h=>by have:=HLN.o;omega);have hd:decide ((n:Int)<2)=true:=(by simp;omega);go_enter Tryz.func117,Tryz.ntmps117;go_wp2_with fail;go_ret2;exact .inr ⟨HNO.o,rfl,Chg.refl _ _⟩
 · have hd:decide ((n:Int)<2)=false:=(by simp;omega);obtain⟨N,hN⟩:∃N,N=v9_ b:=⟨_,rfl⟩;have hN6:N<65536:=(by rw[hN];exact zhA b);have HN:=hQ_ hN;clear hN;go_enter Tryz.func117,Tryz.ntmps117;go_wp2_with fail;refine(zdT H.o (by omega)).mono ?_;rintro e w1 ⟨rfl,hc1⟩;rw[<-HN.o];have H1:=hQ_ (H.o.keep hc1);have HC1:=hQ_ hc1;clear hc1;by_cases h66:n=2+N*66
   · obtain⟨o,ho,hmk⟩:=zaQ N hN6 w1;have hnI:(n:Int)=2+(N:Int)*66:=(by omega);have hb1:((n:Int)==2+(N:Int)*66)=true:=(by simp;omega);have HO:=hQ_ ho;clear ho;have hmkp:=zhM;have hb2:(!((n:Int)==2+(N:Int)*66))=false:=(by rw[hb1];rfl);have hb3:((n:Int) != 2+(N:Int)*66)=false:=(by simp;omega);have H66:=hQ_ h66;clear hnI h66;go_wp2_with fail;have hown0:(w1.alloc (.cells o 123)).ownsRow w.heap.size 123 2 (.slice (some ⟨w1.heap.size,0,none⟩) 0 N) 0 (xV_ []) :=
      ⟨rfl,.inr ⟨_,_,o,rfl,HC1.o.size,heap_alloc_new w1 _,Nat.zero_le _,by unfold maxLen;omega,HO.o,by simp[xV_]⟩⟩;have hc2:Chg [] w (w1.alloc (.cells o 123)):=HC1.o.alloc _;go_loopw [7,8] (fun v i wr=>∃(k t:Nat),k<=N/\i=.int .i64 (t:Int)/\Hid (t=2+k*66)/\zpW b w wr v k) (fun _ i _=>n-(intOf i).toNat);(case atStart=>exact⟨0,2,Nat.zero_le _,rfl,hQ_ rfl,[],hown0,fun a ha=>by simp at ha,zoy,hc2⟩);case round =>
      obtain⟨k,t,hk,rfl,HT,ls,hown,hmade,has,hcr⟩:=hrel;have hwr:=hcr.size;have HM:=hQ_ hmade;have HAS:=hQ_ has;have HC:=hQ_ hcr;have HB:=hQ_ (H.o.keep hcr);clear hown0 hc2 hmade has hcr;by_cases hlt:k<N
      · have ht66:t+66<=n:=(by have:=HT.o;have:=H66.o;omega);have htI:(t:Int)<(n:Int):=(by omega);have htc:¬c=t:=(by omega);have htc2:¬c=t+2:=(by omega);obtain⟨ad,rfl,_,_⟩:=HB.o.src (by rw[zg_,HLN.o];omega);obtain⟨b0,o0,s0⟩:=ad;obtain rfl:s0=none:=HB.o.spot (by omega) _ rfl;have hcut2:=HB.o.cut (lo:=t+2) (hi:=n) (by omega) (Nat.le_refl _);have hcut1:=HB.o.cut (lo:=t) (hi:=n) (by omega) (Nat.le_refl _);rw[if_neg htc2,Option.map_some,zl_]at hcut2;rw[if_neg htc,Option.map_some,zl_]at hcut1;have e2:(b.drop (t+2)).take (n-(t+2))=b.drop (t+2):=List.take_of_length_le (by rw[List.length_drop,HLN.o];exact Nat.le_refl _);have e1:(b.drop t).take (n-t)=b.drop t:=List.take_of_length_le (by rw[List.length_drop,HLN.o];exact Nat.le_refl _);rw[e2]at hcut2;rw[e1]at hcut1;obtain⟨Y,hY⟩:∃Y,Y=(b.drop (t+2)).take 64:=⟨_,rfl⟩;have hYl:Y.length=64:=(by rw[hY,List.length_take,List.length_drop,HLN.o];omega);have hsY:Src wr (some ⟨b0,o0+(t+2),none⟩) (bts Y):=(by
         have:=(hcut2.take (m:=64) (by omega)).src;rwa[<-hY]at this);have HY:=hQ_ hY;have HCUT:=hQ_ hcut1;have hYn:=hQ_ (show(bts Y).length=Nat.min (n-(t+2)) 64 by rw[zg_,hYl];show 64=min _ _;omega);have hYf:=hQ_ (show 0+(bts Y).length<=(bts (zm_ 64)).length by rw[zg_,zg_,hYl,zE_];omega);have hYs:=hQ_ (show splice (bts (zm_ 64)) 0 (bts Y)=bts Y from xX_ _ _ (by rw[zg_,zg_,hYl,zE_]));have HYL:=hQ_ hYl;have HSY:=hQ_ (hsY.keep ((Chg.refl [] wr).alloc (.cells (bts (zm_ 64)).toArray 5)));have hsub:((t:Int)+2).toNat=t+2:=(by omega);clear hY hYl hsY hcut1 hcut2 e1 e2;go_wp2_with (
         (with_reducible refine z7_ rfl (.tmp 30) (.tmp 34) _ _ rfl 5 Tryz.underlying39 zeO (some ⟨wr.heap.size,0,none⟩) (some ⟨b0,o0+(t+2),none⟩) 64 64 (n-(t+2)) (c-(t+2)) rfl rfl wr.heap.size 0 5 (bts (zm_ 64)) (bts Y) (zb_.new wr _ _) hYn.out (fun _=>rfl) HSY.o hYf.out (yc_ _) ?_);intro w3 hW3 hc3;rw[hYs.out]at hW3);have hpg:=zhA (b.drop t);have HW3:=hQ_ hW3;have hcg:=(Chg.refl [] wr).alloc (.cells (bts (zm_ 64)).toArray 5);have hc3':Chg [] wr w3:=hcg.then_ hc3 (fun i hm hlt=>by simp only[List.mem_cons,List.not_mem_nil,or_false]at hm;omega);have HC3:=hQ_ hc3';have hw3:=hc3'.size;clear hW3 hc3 hcg hc3';go_wp2_with fail;refine(zdT (HCUT.o.keep HC3.o) (by omega)).mono ?_;rintro e w4 ⟨rfl,hc4⟩;have hown4:=zR_ (zR_ hown HC3.o (by simp)) hc4 (by simp);have HM4:=hQ_ (show ∀a∈ls,MadeCh w4 w.heap.size a from fun a ha=>((HM.o a ha).chg HC3.o (by simp)).chg hc4 (by simp));have hnew:MadeCh w4 w.heap.size ⟨(v9_ (b.drop t):Nat),some ⟨wr.heap.size,0,none⟩,64,64,Y⟩:=⟨⟨_,rfl,hwr,HW3.o.keep hc4⟩,HYL.o,rfl,rfl,by simp only;omega⟩;have HNEW:=hQ_ hnew;have HC4:=hQ_ ((HC.o.new HC3.o).new hc4);have hw4:=hc4.size;obtain⟨X,hX⟩:∃X,X=xV_ ls:=⟨_,rfl⟩;rw[<-hX]at hown4;have HX:=hQ_ hX;obtain⟨pg,hpgq⟩:∃pg,pg=v9_ (b.drop t):=⟨_,rfl⟩;rw[<-hpgq];have HPG:=hQ_ hpgq;clear hX hc4 hnew hpgq hown;go_wp2_with (first
         | (at_builtin;refine wpList_append_own _ rfl (.tmp 36) (.tmp 43) _ rfl w.heap.size 123 i0 _ 2 32 Tryz.underlying88 hi hz0 hz1 hz2 rfl (by decide) _ k X rfl (zR_ hown4 ((Chg.refl [] w4).alloc _) (by simp)) ⟨w4.heap.size,0,none⟩ 1 1 [.int .i64 (pg:Int),.slice (some ⟨wr.heap.size,0,none⟩) 64 64] rfl rfl ?c1 ?c2 ?c3 ?c4 ?c5 ?_;(case c1=>exact zL_ _ _ _);(case c2=>simp[Value.oneCell']);(case c3=>simp only[maxLen];omega);(case c4=>omega);(case c5=>simp;omega);intro v' w6 hown' hg' _));have HAL6:=hQ_ (zR_ hown4 ((Chg.refl [] w4).alloc (.cells #[.int .i64 (pg:Int),.slice (some ⟨wr.heap.size,0,none⟩) 64 64] 123)) (by simp));go_roundw;case rel =>
         refine⟨k+1,t+66,by omega,by go_num,hQ_ (by have:=HT.o;omega),ls++[⟨(v9_ (b.drop t):Nat),some ⟨wr.heap.size,0,none⟩,64,64,Y⟩],?_,?_,?_,?_⟩
         · rw[ui_,kd_,<-HX.o,<-HPG.o];exact hown'
         · intro a ha;rcases List.mem_append.1 ha with h|h
           · exact((HM4.o a h).chg ((Chg.refl [] w4).alloc _) (by simp)).grown HAL6.o hg'
           · simp only[List.mem_cons,List.not_mem_nil,or_false]at h;subst h;exact(HNEW.o.chg ((Chg.refl [] w4).alloc _) (by simp)).grown HAL6.o hg'
         · rw[zfQ];refine zmf HAS.o ?_ rfl;unfold zbI zpP;rw[HY.o,HT.o]
         · exact vd_ (HC4.o.alloc _) hg' fun g hgg=>(HAL6.o.lt g hgg).1
        case measure=>simp[intOf];omega
      · obtain rfl:N=k:=(by omega);have htI:(n:Int)<=(t:Int):=(by have:=HT.o;have:=H66.o;omega);have HOWN:=hQ_ hown;obtain⟨A5,c5,rfl,hll,hch,hm5,hnc5,_⟩:=zom hown HM.o;have HLL:=hQ_ hll;have HCH:=hQ_ hch;clear hll hch hown;cases hr:zF_ P (vc_ b N) with
        | true =>
          have HR:=hQ_ hr;have hrr:zF_ P ls=true:=(by rw[ul_ HAS.o P,hr]);clear hr;go_wp2_with fail;refine(jP_ HCH.o HLL.o hm5 P).mono ?_;rintro e w7 ⟨rfl,hc7⟩;rw[hrr];clear hrr;go_wp2_with fail;go_ret2;refine .inl ⟨by have:=HLN.o;omega,by have:=HLN.o;have:=H66.o;have:=HN.o;omega,?_,_,ls,rfl,?_,fun a ha=>((HM.o a ha).rmade).chg hc7 (by simp),?_,?_,HC.o.new hc7⟩
          · rw[<-HN.o];exact HR.o
          · rw[<-HN.o];exact zR_ HOWN.o hc7 (by simp)
          · rw[<-HN.o];exact HLL.o
          · rw[<-HN.o];exact HAS.o
        | false =>
          have HR:=hQ_ hr;have hrr:zF_ P ls=false:=(by rw[ul_ HAS.o P,hr]);clear hr;go_wp2_with fail;refine(jP_ HCH.o HLL.o hm5 P).mono ?_;rintro e w7 ⟨rfl,hc7⟩;rw[hrr];clear hrr;go_wp2_with fail;go_ret2;refine .inr ⟨fun h=>?_,rfl,HC.o.new hc7⟩;have:=h.2.2;rw[<-HN.o,HR.o]at this;cases this
   · have HNO:=hQ_ (show ¬(2<=b.length/\b.length=2+v9_ b*66/\zF_ P (vc_ b (v9_ b))=true) from fun h=>by have:=HLN.o;have:=h.2.1;have:=HN.o;omega);have hb1:((n:Int)==2+(N:Int)*66)=false:=(by simp;omega);have hb2:(!((n:Int)==2+(N:Int)*66))=true:=(by rw[hb1];rfl);go_wp2_with fail;go_ret2;exact .inr ⟨HNO.o,rfl,HC1.o⟩
end
end
section
open Go.RowKit
def zaJ (P:Int)(b:List UInt8):Prop:=2<=b.length/\b.length=2+v9_ b*66/\zF_ P (vc_ b (v9_ b))=true
instance (P:Int) (b:List UInt8):Decidable (zaJ P b):=by unfold zaJ;exact inferInstance
def zac (b:List UInt8):List ChV:=vc_ b (v9_ b)
def zad (P:Int):List (List UInt8)->List (List ChV)×Nat
  | []=>([],0)
  | b::rs=>if zaJ P b then (zac b::(zad P rs).1,16+b.length+(zad P rs).2) else ([],0)
def lenS (rs:List (List UInt8)):Nat:=(rs.map fun b=>16+b.length).sum
theorem jR_ (P:Int):∀(rs:List (List UInt8))(k:Nat),k<=rs.length->(∀(j:Nat) b,j<k->rs[j]?=some b->zaJ P b)->(∀b,rs[k]?=some b->¬zaJ P b)->zad P rs=((rs.take k).map zac,lenS (rs.take k))
  | [],k,_,_,_=>by simp[zad,lenS]
  | b::rs,0,_,_,h=>by
    have:=h b rfl;simp[zad,this,lenS]
  | b::rs,k+1,hk,h1,h2=>by
    have hb:=h1 0 b (by omega) rfl;have ih:=jR_ P rs k (by simpa using hk) (fun j c hj hc=>h1 (j+1) c (by omega) (by simpa using hc)) (fun c hc=>h2 c (by simpa using hc));rw[zad,if_pos hb,ih];simp[lenS]
theorem zhT (rs:List (List UInt8))(k:Nat)(b:List UInt8)(h:rs[k]?=some b):lenS (rs.take (k+1))=lenS (rs.take k)+(16+b.length):=by
 obtain⟨hk,he⟩:=List.getElem?_eq_some_iff.1 h;unfold lenS;rw[List.take_succ_eq_append_getElem hk,List.map_append,List.sum_append,he];simp
theorem zhd (rs:List (List UInt8))(k:Nat)(b:List UInt8)(h:rs[k]?=some b):(rs.take (k+1)).map zac=(rs.take k).map zac++[zac b]:=by
 obtain⟨hk,he⟩:=List.getElem?_eq_some_iff.1 h;rw[List.take_succ_eq_append_getElem hk,List.map_append,he];rfl
theorem zde (b:List UInt8):(zac b).length=v9_ b:=zjp b _
def zbE (B:Nat)(w:World)(vs:List Value)(ms:List (List ChV)):Prop :=
 vs.length=ms.length/\∀(i:Nat)(v:Value)(m:List ChV),vs[i]?=some v->ms[i]?=some m->∃ls,w.ownsRow B 123 2 v m.length (xV_ ls)/\(∀a∈ls,RMade w B a)/\ls.length=m.length/\asC ls m
theorem zbE.nil (B:Nat)(w:World):zbE B w [] []:=⟨rfl,fun i v m hv=>by simp at hv⟩
theorem zbE.keep {B:Nat}{w w':World}{vs:List Value}{ms:List (List ChV)}(h:zbE B w vs ms)(hc:Chg [] w w'):zbE B w' vs ms :=
 ⟨h.1,fun i v m hv hm=>by obtain⟨ls,h1,h2,h3⟩:=h.2 i v m hv hm;exact⟨ls,zR_ h1 hc (by simp),fun a ha=>(h2 a ha).chg hc (by simp),h3⟩⟩
theorem zbE.snoc {B:Nat}{w:World}{vs:List Value}{ms:List (List ChV)}(h:zbE B w vs ms){v:Value}{m ls:List ChV}(h1:w.ownsRow B 123 2 v m.length (xV_ ls))(h2:∀a∈ls,RMade w B a)(h3:ls.length=m.length)(h4:asC ls m):zbE B w (vs++[v]) (ms++[m]):=by
 refine⟨by simp[h.1],fun i u x hu hx=>?_⟩;rcases Nat.lt_trichotomy i vs.length with hi|hi|hi
 · rw[List.getElem?_append_left hi]at hu;rw[List.getElem?_append_left (by rw[<-h.1];exact hi)]at hx;exact h.2 i u x hu hx
 · subst hi;rw[List.getElem?_concat_length]at hu;rw[h.1,List.getElem?_concat_length]at hx;cases hu;cases hx;exact⟨ls,h1,h2,h3,h4⟩
 · rw[List.getElem?_eq_none (by simp;omega)]at hu;cases hu
theorem zbY {w w':World}{B B2 n m k k2:Nat}{e e2:TypeId}{v v2:Value}{xs ys:List Value}(h:w.ownsRow B e k v n xs)(h2:w.ownsRow B2 e2 k2 v2 m ys)(hne:e≠e2)(hg:w.grownBy w' v2.ownBlock):w'.ownsRow B e k v n xs:=by
 refine⟨h.1,h.2.imp id ?_⟩;rintro⟨g,cap,cur,rfl,hb,hh,r⟩;exact⟨g,cap,cur,rfl,hb,(by
  have hW:w.heap[g]?=some (.cells cur.toList.toArray e (0,0)):=by simpa using hh
  have:=zn_ (show zb_ w g e cur.toList from hW) h2 hne hg;simpa[zb_] using this),r⟩
theorem RMade.grown2 {w w':World}{B0 B2 e2 k2 m:Nat}{v2:Value}{ys:List Value}{a:ChV}(h:RMade w B0 a)(h2:w.ownsRow B2 e2 k2 v2 m ys)(hne:5≠e2)(hg:w.grownBy w' v2.ownBlock):RMade w' B0 a:=by
 obtain⟨g,r,hg1,hB,hW,hr⟩:=h.b;exact { h with b:=⟨g,r,hg1,hB,zn_ hW h2 hne hg,hr⟩ }
theorem zbE.grown {B B2 m:Nat}{w w':World}{vs:List Value}{ms:List (List ChV)}(h:zbE B w vs ms){v2:Value}{ys:List Value}(h2:w.ownsRow B2 88 1 v2 m ys)(hg:w.grownBy w' v2.ownBlock):zbE B w' vs ms :=
 ⟨h.1,fun i v m hv hm=>by
  obtain⟨ls,h1,h2',h3⟩:=h.2 i v m hv hm;exact⟨ls,zbY h1 h2 (by decide) hg,fun a ha=>(h2' a ha).grown2 h2 (by decide) hg,h3⟩⟩
theorem RMade.more {w:World}{B0 B1:Nat}{a:ChV}(h:RMade w B0 a)(hB:B1<=B0):RMade w B1 a:=by
 obtain⟨g,r,hg,hb,hW⟩:=h.b;exact { h with b:=⟨g,r,hg,Nat.le_trans hB hb,hW⟩ }
theorem qP_ {w:World}{B B' n k:Nat}{e:TypeId}{v:Value}{xs:List Value}(h:w.ownsRow B e k v n xs)(hB:B'<=B):w.ownsRow B' e k v n xs:=by
 refine⟨h.1,h.2.imp id ?_⟩;rintro⟨g,cap,cur,rfl,hb,r⟩;exact⟨g,cap,cur,rfl,Nat.le_trans hB hb,r⟩
theorem zbE.more {B B':Nat}{w:World}{vs:List Value}{ms:List (List ChV)}(h:zbE B w vs ms)(hB:B'<=B):zbE B' w vs ms :=
 ⟨h.1,fun i v m hv hm=>by obtain⟨ls,h1,h2,h3⟩:=h.2 i v m hv hm;exact⟨ls,qP_ h1 hB,fun a ha=>(h2 a ha).more hB,h3⟩⟩
def zoG (w:World)(x:List (List ChV)×Nat)(e:Ending)(w':World):Prop :=
 ∃v vs,e=.returned (.tuple #[v,.int .i64 (x.2:Int)])/\w'.ownsRow w.heap.size 88 1 v x.1.length vs/\zbE w.heap.size w' vs x.1/\Chg [] w w'
theorem zaW (l:List UInt8)(ep:Nat):∀k,(itS l ep k).1.length<=k/\∀r∈(itS l ep k).1,r.length<=l.length
  | 0=>⟨Nat.le_refl _,fun r hr=>by simp[itS]at hr⟩
  | k+1=>by
    obtain⟨h1,h2⟩:=zaW l ep k;show(stepS l ep (itS l ep k)).1.length<=k+1/\∀r∈(stepS l ep (itS l ep k)).1,r.length<=l.length;by_cases h:zS_ (l.drop (itS l ep k).2) ep (itS l ep k).1.length
    · rw[zap h];refine⟨by simp;omega,fun r hr=>?_⟩;rcases List.mem_append.1 hr with h3|h3
      · exact h2 r h3
      · simp only[List.mem_cons,List.not_mem_nil,or_false]at h3;subst h3;unfold zga;rw[List.length_take,List.length_drop,List.length_drop];omega
    · rw[zcY h];exact⟨by omega,h2⟩
theorem zbX (l:List UInt8)(ep:Nat):(scanS l ep).1.length<=l.length+1/\∀r∈(scanS l ep).1,r.length<=l.length:=zaW l ep _
theorem zfk (s:St)(L P E:Int):(zbH s L P E).length<=4096:=by
 unfold zbH;split
 · rename_i h;have:=zj_.1 h;unfold xL_;rw[List.length_take];omega
 · simp
noncomputable def recsS (s:St) (L P:Int) (ep:Nat):List (List ChV)×Nat:=zad P (scanS (zbH s L P ep) ep).1
def zkB (B:Nat)(x:List (List UInt8)×Nat):yI_:=fun v W=>∃v1 vs,v=.tuple #[v1,.int .i64 (x.2:Int)]/\W.ownsRow B 39 1 v1 x.1.length vs/\Rows B W vs x.1
theorem ua_ (B:Nat)(x:List (List UInt8)×Nat):zQ_ (Chg []) (zkB B x):=fun _ _ _ ⟨v1,vs,h1,h2,h3⟩ hc=>⟨v1,vs,h1,zk_ h2 hc,h3.keep hc⟩
theorem zlp:(Tryz.prog.info? 88).map (fun i=>(i.zero,i.size,i.bytes))=some (some (.slice none 0 0),1,24):=by kernel_rfl
end
section
open Go.RowKit
structure SK where
  p:Nat
  bL:Nat
  bS:Nat
  bW:Nat
  g:Nat
  gN:Nat
  ex:List Nat
structure SV where
  L:Nat
  P:Nat
  E:Nat
  pages:List (List UInt8)
  named:List Bool
  used:Nat
  seq:Nat
def SK.D (k:SK):List Nat:=k.p::k.bL::k.bS::k.bW::k.g::k.gN::k.ex
def uI_ (T:List Nat)(w:World)(v:Value)(ps:List (List UInt8)):Prop :=
 ∃A c us,v=.slice A ps.length c/\ps.length<=c/\Src w A us/\us.length=ps.length/\(∀ad,A=some ad->ad.spot=none/\ad.block∉T)/\∀(i:Nat) u l,us[i]?=some u->ps[i]?=some l->∃A' n' c',u=.slice A' n' c'/\Bs w A' n' c' l/\∀ad,A'=some ad->ad.block∉T
theorem zgI {w w':World}{A:Option Addr}{xs:List Value}{T:List Nat}(h:Src w A xs)(hc:Chg T w w')(hA:∀ad,A=some ad->ad.block∉T):Src w' A xs:=h.chg hc fun _ ad e=>hA ad e
theorem zpR {w w':World}{A:Option Addr}{n c:Nat}{l:List UInt8}{T:List Nat}(h:Bs w A n c l)(hc:Chg T w w')(hA:∀ad,A=some ad->ad.block∉T):Bs w' A n c l:={ h with src:=zgI h.src hc hA }
theorem uI_.chg {T T':List Nat}{w w':World}{v:Value}{ps:List (List UInt8)}(h:uI_ T w v ps)(hc:Chg T' w w')(hT:∀i∈T',i∈T):uI_ T w' v ps:=by
 obtain⟨A,c,us,e,h1,h2,h3,h4,h5⟩:=h;refine⟨A,c,us,e,h1,zgI h2 hc (fun ad e hm=>(h4 ad e).2 (hT _ hm)),h3,h4,fun i u l hu hl=>?_⟩;obtain⟨A',n',c',e',hB,hD⟩:=h5 i u l hu hl;exact⟨A',n',c',e',zpR hB hc (fun ad e hm=>hD ad e (hT _ hm)),hD⟩
theorem uI_.lists {T:List Nat}{w:World}{v:Value}{ps:List (List UInt8)}(h:uI_ T w v ps):∃A c us,v=.slice A ps.length c/\ps.length<=c/\Src w A us/\us.length=ps.length/\(∀ad,A=some ad->ad.spot=none)/\zfZ w us ps:=by
 obtain⟨A,c,us,e,h1,h2,h3,h4,h5⟩:=h;exact⟨A,c,us,e,h1,h2,h3,fun ad e=>(h4 ad e).1,h3,fun i u l hu hl=>by
  obtain⟨A',n',c',e',hB,_⟩:=h5 i u l hu hl;exact⟨A',n',c',e',hB⟩⟩
theorem uI_.of_fr {T:List Nat}{B:Nat}{w:World}{g n:Nat}{us:List Value}{ps:List (List UInt8)}(h:ShFr B w g n us ps n)(hg:B<=g)(hT:∀i∈T,i<B)(hps:∀l∈ps,l.length<=1000000):uI_ T w (.slice (some ⟨g,0,none⟩) n n) ps:=by
 have hpl:=h.lenP;refine⟨some ⟨g,0,none⟩,n,us,by rw[hpl],by omega,Src.of_all h.row,by rw[h.len,hpl],fun ad e=>by injection e with e;subst e;exact⟨rfl,fun hm=>by have:=hT _ hm;simp only at this;omega⟩,fun i u l hu hl=>?_⟩;have hi:i<n:=by rw[<-hpl];exact(List.getElem?_eq_some_iff.1 hl).1
 obtain⟨x,h1,h2,h3⟩:=h.at_ i hi l hl;rw[h1]at hu;injection hu with hu;subst hu;exact⟨_,_,_,rfl,Bs.of_all h2 (by have:=hps l (List.mem_of_getElem? hl);omega),fun ad e=>by injection e with e;subst e;exact fun hm=>by have:=hT _ hm;simp only at this;omega⟩
structure Sto (w:World) (k:SK) (s:St) (x:SV) (vP:Value):Prop where
  dsk:yx_ w k.p k.bL k.bS k.bW s
  rec_:zb_ w k.g 101 [.pointer (some ⟨k.p,0,none⟩),.int .i64 (x.L:Int),.int .i64 (x.P:Int),.int .u32 (x.E:Int),vP,.slice (some ⟨k.gN,0,none⟩) x.P x.P,.int .i64 (x.used:Int),.int .u32 (x.seq:Int)]
  pgs:uI_ k.D w vP x.pages
  nm:zb_ w k.gN 4 (bls x.named)
  ng:k.gN≠k.bW
  rt:zq_ (x.L:Int) (x.P:Int) (x.E:Int) s.V.length=true
  ep:x.E<4294967296
  pl:x.pages.length=x.P
  nl:x.named.length=x.P
  p64:∀l∈x.pages,l.length=64
  us:x.used<=4096
  sq:x.seq*18<=x.used
  exl:∀i∈k.ex,i<w.heap.size
def x8_ (N:List Bool)(ls:List ChV):List Bool:=ls.foldl (fun N a=>N.set a.page.toNat true) N
theorem vO_:∀(ls:List ChV)(N:List Bool),(x8_ N ls).length=N.length
  | [],_=>rfl
  | a::ls,N=>by show(x8_ (N.set _ _) ls).length=_;rw[vO_ ls,List.length_set]
theorem zfh (N:List Bool)(ls:List ChV)(j:Nat)(a:ChV)(h:ls[j]?=some a):x8_ N (ls.take (j+1))=(x8_ N (ls.take j)).set a.page.toNat true:=by
 obtain⟨hj,he⟩:=List.getElem?_eq_some_iff.1 h;unfold x8_;rw[List.take_succ_eq_append_getElem hj,List.foldl_append,he];rfl
def zY_ (x:SV)(ls:List ChV):SV:=⟨x.L,x.P,x.E,zX_ x.pages ls,x8_ x.named ls,x.used,x.seq⟩
def InP (P:Nat)(ls:List ChV):Prop:=∀a∈ls,0<=a.page/\a.page<(P:Int)/\a.B.length=64
def zei (w:World)(k:SK)(s:St)(x:SV)(ls:List ChV)(e:Ending)(w':World):Prop:=e=.returned (.tuple #[])/\(∃v,Sto w' k s (zY_ x ls) v)/\Chg [k.g,k.gN] w w'
theorem qo_:∀(ls:List ChV)(ps:List (List UInt8)),(∀l∈ps,l.length=64)->(∀a∈ls,a.B.length=64)->∀l∈zX_ ps ls,l.length=64
  | [],_,h,_=>h
  | a :: ls,ps,h,ha=>by
    show ∀l∈zX_ (yV_ ps a) ls,l.length=64;refine qo_ ls _ (fun l hl=>?_) (fun b hb=>ha b (List.mem_cons_of_mem _ hb));unfold yV_ at hl;split at hl
    · rcases List.mem_or_eq_of_mem_set hl with h1|h1
      · exact h l h1
      · rw[h1];exact ha a List.mem_cons_self
    · exact h l hl
section
variable {w:World} {k:SK} {s:St} {x:SV} {vP:Value} {C:Option Addr} {m d:Nat} {ls:List ChV}
theorem Sto.lts (h:Sto w k s x vP):∀i∈k.D,i<w.heap.size:=fun i hi=>by
 simp only[SK.D,List.mem_cons]at hi;rcases hi with rfl|rfl|rfl|rfl|rfl|rfl|hi
 · exact(Dsk.rec_ h.dsk).lt
 · exact(Dsk.last h.dsk).lt
 · exact(Dsk.seen h.dsk).lt
 · exact(Dsk.wait h.dsk).lt
 · exact h.rec_.lt
 · exact h.nm.lt
 · exact h.exl i hi
theorem Sto.keep {w':World}(h:Sto w k s x vP)(hc:Chg [] w w'):Sto w' k s x vP :=
 { h with dsk:=Dsk.keep h.dsk hc,rec_:=h.rec_.keep hc,pgs:=h.pgs.chg hc (fun _ h=>by cases h),nm:=h.nm.keep hc,exl:=fun i hi=>Nat.lt_of_lt_of_le (h.exl i hi) hc.size }
end
end
section
open Go.RowKit
section
variable {w:World} {k:SK} {s:St} {x:SV} {vP:Value} {C:Option Addr} {m d:Nat} {ls:List ChV}
theorem zcV (h:Sto w k s x vP)(hC:Chs w C ls)(hm:ls.length=m)(hm1:m<=1000)(hin:InP x.P ls)(hCb:0<ls.length->∀ad,C=some ad->ad.block∉[k.g,k.gN]) :
    Calls Tryz.prog 76 #[.pointer (some ⟨k.g,0,none⟩),.slice C m d] w (zei w k s x ls):=by
 obtain⟨A,c,us,rfl,hcp,hsrc,hul,hsp,hli⟩:=h.pgs.lists;have hP64:x.P<=64:=by have:=zj_.1 h.rt;omega
 have hap:=zbz (d:=d) (c:=c) hsrc (fun _ ad e=>hsp ad e) hul (by rw[h.pl];omega) hli (fun l hl=>by have:=h.p64 l hl;omega) hC hm hm1 (fun a ha=>by have:=(hin a ha).2.2;omega);have HAP:=hQ_ hap;have H:=hQ_ h;have HCH:=hQ_ hC;have HLM:=hQ_ hm;have HIN:=hQ_ hin;have HCB:=hQ_ hCb;have e4:=h.rec_.cell 4;clear hap h hC hm hin hCb hsrc hul hsp hli hcp;go_enter Tryz.func76,Tryz.ntmps76;go_wp2_with fail;refine HAP.o.mono ?_;rintro e w2 ⟨gp,us2,rfl,hfr,hgp,hc2⟩;have HFR:=hQ_ (And.intro hfr hgp);have HC2:=hQ_ hc2;have hr2:=H.o.rec_.keep hc2;have c4:=hr2.cell 4;have f4:=hr2.frozen 4;have HR2:=hQ_ hr2;obtain⟨n,hn⟩:∃n,n=(zX_ x.pages ls).length:=⟨_,rfl⟩;have HN:=hQ_ (show n=x.P from by rw[hn,yO_,H.o.pl]);rw[<-hn]at HFR⊢;clear e4 hfr hgp hc2 hr2 hn HAP;go_upto_region 1 with fail;have hR3:=hQ_ (HR2.o.set_ 4 (.slice (some ⟨gp,0,none⟩) n n));have HCH3:=hQ_ (show Chg [k.g] w2 (w2.setCell ⟨k.g,4,none⟩ (.slice (some ⟨gp,0,none⟩) n n)) from(Chg.refl [k.g] w2).setCell (p:=⟨k.g,4,none⟩) (fun _=>by simp) _);generalize w2.setCell ⟨k.g,4,none⟩ (.slice (some ⟨gp,0,none⟩) n n)=w3 at hR3 HCH3⊢;have HGN:=hQ_ (show k.g≠k.gN from fun e=>(H.o.rec_.ne_ H.o.nm (by decide)) e);have hN3:=hQ_ ((H.o.nm.keep HC2.o).chg HCH3.o (fun hm=>HGN.o (by simp only[List.mem_singleton]at hm;exact hm.symm)));go_wp2_with fail;go_loopw [17] (fun i wr=>∃j:Nat,i=.int .i64 (j:Int)/\j<=m/\Hid (zb_ wr k.gN 4 (bls (x8_ x.named (ls.take j))))/\Hid (Chg [k.gN] w3 wr)) (fun i _=>m-(intOf i).toNat);case atStart=>exact⟨0,rfl,Nat.zero_le _,hN3,hQ_ (Chg.refl _ _)⟩
 case round =>
  obtain⟨j,rfl,hj,HNr,HCr⟩:=hrel;have HRr:=hQ_ (hR3.out.chg HCr.o (fun hm=>HGN.o (by simpa using hm)));by_cases hlt:j<m
  · have hjI:(j:Int)<(m:Int):=(by omega);have hj0:(0:Int)<=(j:Int):=(by omega);have hjl:j<ls.length:=(by have:=HLM.o;omega);obtain⟨a,ha⟩:∃a,ls[j]?=some a:=⟨ls[j],List.getElem?_eq_getElem hjl⟩;obtain⟨gc,oc,rfl,hgc,hcc⟩:=HCH.o.cells (by omega);obtain⟨q0,q1⟩:=hcc j a ha;obtain⟨hp0,hp1,hp2⟩:=HIN.o a (List.mem_of_getElem? ha);have hcb:=HCB.o (by omega) _ rfl;have hbl:∀i,wr.cell? ⟨gc,i,none⟩=w.cell? ⟨gc,i,none⟩:=fun i=>(by
     refine World.cell?_of_block (w:=w) ?_;have h1:=HC2.o.block gc hgc (by simp);have h2:=HCH3.o.block gc (Nat.lt_of_lt_of_le hgc HC2.o.size) (fun hm=>hcb (by simp only[List.mem_singleton]at hm;simp[hm]));have h3:=HCr.o.block gc (Nat.lt_of_lt_of_le hgc (Nat.le_trans HC2.o.size HCH3.o.size)) (fun hm=>hcb (by simp only[List.mem_singleton]at hm;simp[hm]));rw[h3,h2,h1]);have k0:=(hbl _).trans q0;have k1:=(hbl _).trans q1;have HNX:=hQ_ (zfh x.named ls j a ha);have hNl:(x8_ x.named (ls.take j)).length=x.P:=(by rw[vO_,H.o.nl]);obtain⟨q,hq⟩:∃q:Nat,a.page=(q:Int):=⟨a.page.toNat,by omega⟩;rw[hq]at k0 hp1 HNX;rw[Int.toNat_natCast]at HNX;generalize x8_ x.named (ls.take j)=Nj at HNr HNX hNl;have hqP:q<x.P:=(by omega);have hold:=HNr.o.cell q;rw[vW_ Nj q (by omega)]at hold;have hof:=HNr.o.frozen q;generalize Nj[q]'(by omega)=ob at hold;have hqI:(q:Int)<(x.P:Int):=(by omega);have hqI0:(0:Int)<=(q:Int):=(by omega);clear hcc q0 q1 hbl ha hp0 hp1 hp2 hq hcb hjl;go_upto_region 4 with fail;have hX:=zb_.new wr 123 [.int .i64 (q:Int),.slice a.bA a.bn a.bc];have hal:=(Chg.refl [] wr).alloc (.cells #[.int .i64 (q:Int),.slice a.bA a.bn a.bc] 123);have hN4:=HNr.o.keep hal;have hR4:=HRr.o.keep hal;have HC4:=hQ_ (HCr.o.new hal);generalize wr.heap.size=gx at hX⊢;generalize wr.alloc (.cells #[.int .i64 (q:Int),.slice a.bA a.bn a.bc] 123)=w4 at hX hN4 hR4 HC4⊢;have HN4:=hQ_ hN4;have x0:=hX.cell 0;have d5:=hR4.cell 5;have dold:=hN4.cell q;have dfr:=hN4.frozen q;simp only[List.getElem?_cons_zero,List.getElem?_cons_succ,List.set_cons_zero,List.set_cons_succ]at d5;rw[vW_ Nj q (by omega)]at dold;clear hX hal hN4 hR4 k0 k1 hold hof;go_region;have hNs:=HN4.o.drew.set_ q (.bool true);rw[gZ_]at hNs;have HN5:=hQ_ hNs;have HC5:=hQ_ (show Chg [k.gN] w3 (w4.drew.setCell ⟨k.gN,q,none⟩ (.bool true)) from(HC4.o.drew).setCell (p:=⟨k.gN,q,none⟩) (fun _=>by simp) _);clear hNs;go_wp2_with fail;go_roundw;(case rel=>exact⟨j+1,by go_num,by omega,hQ_ (by rw[HNX.o];exact HN5.o),HC5⟩);case measure=>simp[intOf];omega
  · obtain rfl:m=j:=(by omega);have hjI:¬(m:Int)<(m:Int):=(by omega);have HP:=hQ_ (show zei w k s x ls (.returned (.tuple #[])) wr from by
     have hc:Chg [k.g,k.gN] w wr:=((HC2.o.sub (T':=[k.g,k.gN]) (fun _ h=>by cases h)).trans (znf HCH3.o)).trans (znf HCr.o);have hlt:=H.o.lts;have ht:ls.take m=ls:=List.take_of_length_le (by rw[HLM.o];exact Nat.le_refl _);have hN:=HNr.o;rw[ht]at hN;have hdsk:yx_ wr k.p k.bL k.bS k.bW s:=Dsk.away H.o.dsk hc
       (by
         simp only[List.mem_cons,List.not_mem_nil,or_false];rintro(e|e)
         · exact((Dsk.rec_ H.o.dsk).ne_ H.o.rec_ (by decide)) e
         · exact((Dsk.rec_ H.o.dsk).ne_ H.o.nm (by decide)) e)
       (by
         simp only[List.mem_cons,List.not_mem_nil,or_false];rintro(e|e)
         · exact((Dsk.last H.o.dsk).ne_ H.o.rec_ (by decide)) e
         · exact((Dsk.last H.o.dsk).ne_ H.o.nm (by decide)) e)
       (by
         simp only[List.mem_cons,List.not_mem_nil,or_false];rintro(e|e)
         · exact((Dsk.seen H.o.dsk).ne_ H.o.rec_ (by decide)) e
         · exact((Dsk.seen H.o.dsk).ne_ H.o.nm (by decide)) e)
       (by
         simp only[List.mem_cons,List.not_mem_nil,or_false];rintro(e|e)
         · exact((Dsk.wait H.o.dsk).ne_ H.o.rec_ (by decide)) e
         · exact H.o.ng e.symm);have h64:=qo_ ls x.pages H.o.p64 (fun a ha=>(HIN.o a ha).2.2);have hpg:=uI_.of_fr (T:=k.D) HFR.o.1 HFR.o.2 hlt (fun l hl=>by have:=h64 l hl;omega);refine⟨rfl,⟨.slice (some ⟨gp,0,none⟩) n n,?_⟩,hc⟩;exact { dsk:=hdsk,rec_:=HRr.o,pgs:=(hpg.chg HCH3.o (by simp[SK.D])).chg HCr.o (by simp[SK.D]),nm:=hN,ng:=H.o.ng,rt:=H.o.rt,ep:=H.o.ep,pl:=by show(zX_ x.pages ls).length=_;rw[yO_,H.o.pl];rfl,nl:=by show(x8_ x.named ls).length=_;rw[vO_,H.o.nl];rfl,p64:=h64,us:=H.o.us,sq:=H.o.sq,exl:=fun i hi=>Nat.lt_of_lt_of_le (H.o.exl i hi) hc.size });go_wp2_with fail
    go_end0
    exact HP.o
end
end
section
open Go.RowKit
def zmT (a:ChV):Prop:=zoF a/\a.B.length=64
theorem g1_ (k:Nat):(be2 k).length=2:=rfl
theorem zdv (k:Nat)(h:k<65536)(x:List UInt8):v9_ (be2 k++x)=k:=by
 show(UInt8.ofNat (k/256)).toNat*256+(UInt8.ofNat k).toNat=k;rw[UInt8.toNat_ofNat',UInt8.toNat_ofNat'];omega
theorem zjt {a:ChV}(h:zmT a):(chB a).length=66:=by unfold chB;rw[List.length_append,g1_,h.2]
theorem zdY:∀{l:List ChV},(∀a∈l,zmT a)->(qx_ l).length=l.length*66
  | [],_=>rfl
  | a::l,h=>by
    rw[qx_,List.length_append,zjt (h a (List.mem_cons_self ..)),zdY (fun b hb=>h b (List.mem_cons_of_mem _ hb)),List.length_cons];omega
theorem zbr:∀{l:List ChV},(∀a∈l,zmT a)->∀k,k<=l.length->(qx_ l).drop (k*66)=qx_ (l.drop k)
  | l,_,0,_=>by simp
  | [],_,k+1,h=>by simp at h
  | a::l,h,k+1,hk=>by
    rw[qx_,show(k+1)*66=(chB a).length+k*66 by rw[zjt (h a (List.mem_cons_self ..))];omega,<-List.drop_drop,List.drop_left,List.drop_succ_cons];exact zbr (fun b hb=>h b (List.mem_cons_of_mem _ hb)) k (by simpa using hk)
section
variable {l:List ChV}
theorem zed (hn:l.length<65536):v9_ (zD_ l)=l.length:=zdv _ hn _
theorem uk_ (h:∀a∈l,zmT a):(zD_ l).length=2+l.length*66:=by unfold zD_;rw[List.length_append,g1_,zdY h]
theorem zjz (h:∀a∈l,zmT a)(k:Nat)(a:ChV)(ha:l[k]?=some a):zbI (zpP (zD_ l) k)=zbI a:=by
 obtain⟨hk,rfl⟩:=List.getElem?_eq_some_iff.1 ha;have hp:=h _ (List.getElem_mem hk);have e0:(zD_ l).drop (2+k*66)=chB l[k]++qx_ (l.drop (k+1)):=by
  unfold zD_;rw[<-List.drop_drop,List.drop_left' (g1_ _),zbr h k (by omega),List.drop_eq_getElem_cons hk];rfl
 have e1:(zD_ l).drop (2+k*66+2)=l[k].B++qx_ (l.drop (k+1)):=by
  rw[<-List.drop_drop,e0];unfold chB;rw[List.append_assoc,List.drop_left' (g1_ _)]
 unfold zbI zpP;rw[e0,e1];unfold chB;rw[List.append_assoc,zdv _ (by have:=hp.1;have:=this.2.1;have:=hp.1.1;omega),List.take_left' hp.2];have:=hp.1.1;simp only[Prod.mk.injEq,and_true];omega
theorem zjA (h:∀a∈l,zmT a)(hn:l.length<65536):asC (vc_ (zD_ l) (v9_ (zD_ l))) l:=by
 rw[zed hn];refine⟨?_,fun i a b ha hb=>?_⟩
 · apply List.ext_getElem?;intro i;simp only[List.getElem?_map,vc_];rcases Nat.lt_or_ge i l.length with hi|hi
   · rw[List.getElem?_range hi,List.getElem?_eq_getElem hi];simp only[Option.map_some];rw[zjz h i _ (List.getElem?_eq_getElem hi)]
   · rw[List.getElem?_eq_none (by simpa using hi),List.getElem?_eq_none hi];rfl
 · have hi:=(List.getElem?_eq_some_iff.1 hb).1;simp[vc_,List.getElem?_range hi]at ha;subst ha;have:=zjz h i b hb;exact⟨by injection this,((h b (List.mem_of_getElem? hb)).1.2.2).symm⟩
end
end
section
open Go.RowKit
section
variable {P0:Program} {T:Turns} {w0:World} {a0:Act} {ops:List Oper} {Q:Exit->Act->World->Prop} {F:Said} {k:Nat} {rest:List Oper}
  {d:Option Tmp} {ty:TypeId} {pos:String} {af:Array Go.Edge} {g:Option (Nat×Bool)}
def zoR (B:Nat)(ls:List (List UInt8)):yI_:=fun v W=>∃vs,W.ownsRow B 39 1 v ls.length vs/\Rows B W vs ls
theorem zay {B B':Nat}{w:World}{vs:List Value}{rs:List (List UInt8)}(h:Rows B w vs rs)(hB:B'<=B):Rows B' w vs rs:=⟨h.1,fun i v l hv hl=>zZ_ (h.2 i v l hv hl) hB⟩
theorem va_ (B:Nat)(ls:List (List UInt8)):zQ_ (Chg []) (zoR B ls):=fun _ _ _ ⟨vs,h2,h3⟩ hc=>⟨vs,zk_ h2 hc,h3.keep hc⟩
theorem zfw {t:Tmp}{B:Nat}{x:List (List UInt8)×Nat}(hT:T.Ok)(hk:zQ_ T.R (zoR B x.1))(hf:T.soft.contains k=true\/zQ_ T.H (zoR B x.1))(hs:vt_ F t=some (zkB B x))
    (hg:zy_ ops F true ⟨d,.extract (.tmp t) 0,ty,pos,af,g⟩) (h:Flow P0 T w0 a0 ops Q ((d,zoR B x.1)::F) (k+1) rest) :
    Flow P0 T w0 a0 ops Q F k (⟨d,.extract (.tmp t) 0,ty,pos,af,g⟩::rest):=by
 refine flow_op _ hk hf hg (fun ev W he hW hf=>?_) h;have hf1:z5_ a0 F (.tmp t) (ev (.tmp t)) W:=hf.1;simp only[z5_,hs]at hf1;obtain⟨v1,vs,e1,h1,h2⟩:=hf1;have:(execOp ev ⟨d,.extract (.tmp t) 0,ty,pos,af,g⟩).run P0 W=.ok (.value v1) W:=by go_simp
 rw[this];exact⟨hT.by_refl k W,vs,h1,h2⟩
theorem zfv {t:Tmp}{B:Nat}{x:List (List UInt8)×Nat}(hT:T.Ok)(hs:vt_ F t=some (zkB B x))
    (hg:zy_ ops F true ⟨d,.extract (.tmp t) 1,ty,pos,af,g⟩) (h:Flow P0 T w0 a0 ops Q ((d,isV (.int .i64 (x.2:Int)))::F) (k+1) rest) :
    Flow P0 T w0 a0 ops Q F k (⟨d,.extract (.tmp t) 1,ty,pos,af,g⟩::rest):=by
 refine flow_op _ (zc_ _) (.inr (zc_ _)) hg (fun ev W he hW hf=>?_) h;have hf1:z5_ a0 F (.tmp t) (ev (.tmp t)) W:=hf.1;simp only[z5_,hs]at hf1;obtain⟨v1,vs,e1,h1,h2⟩:=hf1;have:(execOp ev ⟨d,.extract (.tmp t) 1,ty,pos,af,g⟩).run P0 W=.ok (.value (.int .i64 (x.2:Int))) W:=by go_simp
 rw[this];exact⟨hT.by_refl k W,rfl⟩
end
theorem zhU:∀(rs:List (List UInt8))(N:Nat),(∀r∈rs,r.length<=N)->lenS rs<=rs.length*(16+N)
  | [],N,_=>by simp[lenS]
  | r::rs,N,h=>by
    have h1:=h r (by simp);have h2:=zhU rs N (fun x hx=>h x (by simp[hx]));have e:lenS (r::rs)=16+r.length+lenS rs:=(by simp[lenS]);rw[e,List.length_cons,Nat.add_mul];omega
theorem zjv:(Value.slice none 0 0).cells.size=1:=rfl
section
variable {w:World} {p bL bS bW:Nat} {s:St}
theorem znw (h:yx_ w p bL bS bW s)(L P:Int)(ep:Nat) :
    Calls Tryz.prog 75 #[.pointer (some ⟨p,0,none⟩),zB_ L P (ep:Int)] w (zoG w (recsS s L P ep)):=by
 obtain⟨i,hi,hz,hs1,hb⟩:=info_parts zlp;have hr0:zB_ L P (ep:Int)=.agg #[.int .i64 L,.int .i64 P,.int .u32 (ep:Int)]:=rfl;have H:=hQ_ h;clear h;rw[hr0];go_enter Tryz.func75,Tryz.ntmps75;go_wp2_with fail;have hR:=zb_.new w 82 [.int .i64 L,.int .i64 P,.int .u32 (ep:Int)];have hc1:Chg [] w (w.alloc (.cells #[.int .i64 L,.int .i64 P,.int .u32 (ep:Int)] 82)):=(Chg.refl [] w).alloc _;obtain⟨g,hg⟩:∃g,g=w.heap.size:=⟨_,rfl⟩;rw[<-hg]at hR⊢;generalize w.alloc (.cells #[.int .i64 L,.int .i64 P,.int .u32 (ep:Int)] 82)=w1 at hc1 hR⊢;clear hg;have hld:=fun (W:World)(hW:Chg [] w1.drew W)=>zp_ (hR.drew.keep hW);have kd:∀W,Chg [] w1.drew W->yx_ W p bL bS bW s:=fun W hW=>(Dsk.keep H.o hc1.drew).keep hW;obtain⟨lg,hlg⟩:∃lg,lg=zbH s L P ep:=⟨_,rfl⟩;obtain⟨X,hX⟩:∃X,X=scanS lg ep:=⟨_,rfl⟩;have hll:lg.length<=4096:=by rw[hlg];exact zfk s L P ep
 have hXs:=zbX lg ep;rw[<-hX]at hXs;have HRS:=hQ_ (show recsS s L P ep=zad P X.1 by unfold recsS;rw[<-hlg,<-hX]);have hwz:w1.drew.heap.size=w1.heap.size:=rfl;refine wp_flow (by kernel_rfl) yl_ za_ (by kernel_rfl) ?_;refine flow_move_out za_ rfl rfl rfl ?_;refine flow1h (r:=zB_ L P ep) za_ rfl (.out rfl rfl) rfl (fun ev W he hW e1=>by obtain⟨c0,c1,c2,_,_,_⟩:=hld W hW;go_simp) ?_;refine flow_calld (ji_ w1.drew.heap.size 5 (bts lg)) (yh_ _ _ _) (.inr (yh_ _ _ _)) (by kernel_rfl) rfl (.cons (.inn rfl) (.cons (.inn rfl) .nil)) (fun W hW=>(zeX (kd W hW) L P ep).mono ?_) ?_
 · rintro e w' ⟨v,rfl,ho,hc⟩;rw[<-hlg]at ho;exact⟨_,rfl,hc,by rw[ji_,zg_];exact zZ_ ho hW.size⟩
 refine flow1 (r:=.pointer (some ⟨g,2,none⟩)) za_ rfl (.out rfl rfl) rfl (fun ev W he e1=>by go_simp) ?_;refine flow1h (r:=.int .u32 (ep:Int)) za_ rfl (.inn rfl) rfl (fun ev W he hW e1=>by obtain⟨c0,c1,c2,_,_,_⟩:=hld W hW;go_simp) ?_;refine flow_call (zkB w1.drew.heap.size X) (ua_ _ _) (.inr (ua_ _ _)) (by kernel_rfl) rfl (fun ev W he hW hf=>?_) ?_
 · have h1:(ji_ w1.drew.heap.size 5 (bts lg)) (ev (.tmp 17)) W:=hf.1;have h2:ev (.tmp 19)=.int .u32 (ep:Int):=hf.2.1;rw[ji_,zg_]at h1;obtain⟨A,c,e1,hB,_⟩:=Bs.of_own h1;show Calls _ _ #[ev (.tmp 17),ev (.tmp 19)] W _;rw[e1,h2];refine(zkz hB ep (by omega)).mono ?_;rintro e w' ⟨v,vs,rfl,ho,hr,hc⟩;rw[<-hX]at ho hr⊢;exact⟨_,rfl,hc,v,vs,rfl,zZ_ ho hW.size,zay hr hW.size⟩
 refine zP_ za_ rfl (ua_ _ _) (.inr (ua_ _ _)) rfl ?_;refine zfw za_ (va_ _ _) (.inr (va_ _ _)) rfl rfl ?_;refine zfv za_ rfl rfl ?_;refine flow_assign za_ rfl (va_ _ _) (.inr (va_ _ _)) rfl ?_;refine flow_assign za_ rfl (zc_ _) (.inr (zc_ _)) rfl ?_;intro vs W hW hF;obtain⟨rs,ho,hrows⟩:=hF 6 _ rfl rfl;have e7:vs 7=.int .i64 (X.2:Int):=hF 7 _ rfl rfl;generalize hFv:vs 6=Fv at ho;simp only[zV_,Act.put,List.setIfInBounds_toArray,List.set_cons_zero,List.set_cons_succ,e7,hFv];obtain⟨Y,z⟩:=X;simp only at ho hrows HRS hXs⊢;obtain⟨n,hn⟩:∃n,n=Y.length:=⟨_,rfl⟩;rw[<-hn]at ho hXs;have HN:=hQ_ hn;obtain⟨A6,c6,rfl,hl6,_,hs6,hp6⟩:=zr_ ho;have HCW:=hQ_ (hc1.new (jC_ hW));have HRW:=hQ_ (hR.drew.keep hW);have HS6:=hQ_ hs6;have HP6:=hQ_ hp6;have HROW:=hQ_ hrows;have HYL:=hQ_ hXs.2;have hn4:n<=4097:=by omega
 have HL6:=hQ_ hl6;have HLG:=hQ_ hll;clear hW hF hld hR hc1 kd e7 hFv hs6 hp6 hrows ho hXs hlg hX hn hl6 hwz hll;go_wp2_with fail;go_loopw [8,9,25] (fun v a i wr=>∃k:Nat,k<=n/\i=.int .i64 (k:Int)/\(∃m:Nat,a=.int .i64 (m:Int)/\Hid (m=lenS (Y.take k)))/\(∃vs,wr.ownsRow W.heap.size 88 1 v k vs/\Hid (zbE W.heap.size wr vs ((Y.take k).map zac)))/\Hid (∀(j:Nat) b,j<k->Y[j]?=some b->zaJ P b)/\Hid (Chg [] W wr)) (fun _ _ i _=>n-(intOf i).toNat);case atStart=>exact⟨0,Nat.zero_le _,rfl,⟨0,rfl,hQ_ rfl⟩,⟨[],vN_ _ _ _,hQ_ (by rw[List.take_zero];exact zbE.nil _ _)⟩,hQ_ (fun j b hj=>absurd hj (by omega)),hQ_ (Chg.refl _ _)⟩
 case round =>
  obtain⟨k,hk,rfl,⟨m,rfl,HM⟩,⟨vs,hown,HRC⟩,HOK,HCr⟩:=hrel;obtain⟨Av,cv,rfl,hvl,hvc,_⟩:=zr_ hown;have HCa:=hQ_ (HCW.o.new HCr.o);by_cases hlt:k<n
  · have hkI:(k:Int)<(n:Int):=(by omega);have HS:=hQ_ ((HS6.o).keep HCr.o);obtain⟨ad,rfl,_,hcell⟩:=HS.o (by rw[HL6.o];omega);obtain⟨b6,o6,s6⟩:=ad;obtain rfl:s6=none:=(HP6.o _ rfl).1;have hkl:k<rs.length:=(by rw[HL6.o];exact hlt);have hkY:k<Y.length:=(by rw[<-HN.o];exact hlt);have hc:=hcell k rs[k] (List.getElem?_eq_getElem hkl);have hfr:=HROW.o.2 k _ _ (List.getElem?_eq_getElem hkl) (List.getElem?_eq_getElem hkY);have hyl:=HYL.o _ (List.getElem_mem hkY);have hYk:=hQ_ (List.getElem?_eq_getElem hkY);generalize Y[k]=b at hfr hyl hYk;generalize rs[k]=fv at hc hfr;obtain⟨Ab,cb,rfl,hB,_⟩:=Bs.of_own (zk_ hfr HCr.o);rw[zl_]at hc;obtain⟨c0,c1,c2,_,_,_⟩:=zp_ (HRW.o.keep HCr.o);obtain⟨q,hq⟩:∃q,q=b.length:=⟨_,rfl⟩;rw[<-hq]at hB hyl hc;have HB:=hQ_ hB;have HQ:=hQ_ hq;have HLN:=hQ_ (zhT Y k b hYk.out);have HMN:=hQ_ (zhd Y k b hYk.out);have hq5:q<=4096:=(by have:=HLG.o;omega);clear hfr hB hq hcell hyl;go_wp2_with fail;refine(zja HB.o P).mono ?_;rintro e w2 (⟨h1,h2,h3,v2,ls,rfl,ho2,hm2,hl2,ha2,hc2⟩|⟨hno,rfl,hc2⟩)
    · have HOKb:=hQ_ (show zaJ P b from⟨h1,h2,h3⟩);have how:=zk_ hown hc2;have HOV:=hQ_ (show w2.ownsRow W.heap.size 123 2 v2 (zac b).length (xV_ ls) by rw[zde];exact qP_ ho2 HCr.o.size);have HM2:=hQ_ (show ∀a∈ls,RMade w2 W.heap.size a from fun a ha=>(hm2 a ha).more HCr.o.size);have HL2:=hQ_ (show ls.length=(zac b).length by rw[zde];exact hl2);have HA2:=hQ_ (show asC ls (zac b) from ha2);have HC2:=hQ_ hc2;have hc2c:=zd_ c0 hc2;have hx1:=hQ_ (show k+1<=maxLen by unfold maxLen;omega);have hx2:=hQ_ (show(k+1)*24<=140737488355328 by omega);have hx3:=hQ_ (show W.heap.size<=w2.heap.size from Nat.le_trans HCr.o.size hc2.size);have hm4:m<=17000000:=(by
       have h:=zhU (Y.take k) 4096 (fun r hr=>Nat.le_trans (HYL.o r (List.mem_of_mem_take hr)) HLG.o);rw[List.length_take]at h;have:=HM.o;have h5:min k Y.length*(16+4096)<=4097*4112:=Nat.mul_le_mul (by omega) (by omega);omega);clear h1 h2 h3 ho2 hm2 hl2 ha2 hc2 c0 c1 c2 hown hc2c;obtain⟨A2,q2,rfl,_⟩:∃A2 q2,v2=.slice A2 (zac b).length q2/\True:=(by
       rcases HOV.o.2 with⟨e,h0⟩|⟨g,cap,cur,e,_⟩
       · exact⟨_,_,by rw[e,h0],trivial⟩
       · exact⟨_,_,e,trivial⟩);obtain⟨z2,hz2⟩:∃z,z=(zac b).length:=⟨_,rfl⟩;rw[<-hz2]at HOV HL2⊢;have HZ2:=hQ_ hz2;clear hz2;go_wp2_with (
       at_builtin;refine zC_ rfl (.tmp 38) (.tmp 40) 144 rfl W.heap.size 88 i _ 24 Tryz.underlying144 hi hz hs1 hb zjv (.slice Av k cv) k vs rfl (zk_ how ((Chg.refl _ _).alloc _)) (some ⟨w2.heap.size,0,none⟩) 1 1 [.slice A2 z2 q2] rfl rfl (Src.of_all (zb_.new w2 88 [.slice A2 z2 q2])) (fun u hu=>by simp at hu;rw[hu];rfl) hx1.out hx2.out (by simp;have:=hx3.out;omega) ?_;intro v4 w4 ho4 hg4 _);have hal:Chg [] w2 (w2.alloc (.cells #[.slice A2 z2 q2] 88)):=(Chg.refl [] w2).alloc _;go_roundw;case rel =>
       refine⟨k+1,by omega,by go_num,⟨m+(16+q),by go_num,hQ_ (by rw[HLN.o,HM.o,HQ.o])⟩,⟨_,ho4,hQ_ ?_⟩,hQ_ (fun j c hj hcx=>?_),hQ_ (((HCr.o.new HC2.o).alloc _).own (zk_ how hal) ?_ hg4)⟩
       · rw[HMN.o];refine((HRC.o.keep HC2.o).keep hal |>.snoc ?_ (fun a ha=>(HM2.o a ha).chg hal (by simp)) ?_ HA2.o).grown (zk_ how hal) hg4
         · rw[<-HZ2.o];exact zR_ HOV.o hal (by simp)
         · rw[<-HZ2.o];exact HL2.o
       · rcases Nat.lt_or_ge j k with h|h
         · exact HOK.o j c h hcx
         · obtain rfl:j=k:=(by omega);rw[hYk.out]at hcx;cases hcx;exact HOKb.o
       · exact Nat.le_refl _
      case measure=>simp[intOf];omega
    · have HNO:=hQ_ hno;have HC2:=hQ_ hc2;have how:=zk_ hown hc2;clear hno hc2 c0 c1 c2;go_wp2_with fail;go_ret2;rw[HRS.o,jR_ P Y k (Nat.le_of_lt hkY) HOK.o (fun c hc=>by rw[hYk.out]at hc;cases hc;exact HNO.o),<-HM.o];exact⟨_,vs,rfl,by simpa[(Nat.le_of_lt hkY)] using zZ_ how HCW.o.size,(HRC.o.keep HC2.o).more HCW.o.size,HCa.o.new HC2.o⟩
  · have hkI:¬(k:Int)<(n:Int):=(by omega);have hkn:k=Y.length:=(by rw[<-HN.o];omega);have HKN:=hQ_ hkn;clear hkn;go_wp2_with fail;go_ret2;rw[HRS.o,jR_ P Y k (by rw[HKN.o];exact Nat.le_refl _) HOK.o (fun c hc=>by rw[List.getElem?_eq_none (by rw[HKN.o];exact Nat.le_refl _)]at hc;cases hc),<-HM.o];exact⟨_,vs,rfl,by simpa[HKN.o] using zZ_ hown HCW.o.size,HRC.o.more HCW.o.size,HCa.o⟩
end
end
section
open Go.RowKit
section
variable (ep sq:Nat) (r m:List UInt8)
theorem q6_ (he:ep<4294967296)(hs:sq<4294967296)(hr:r.length<4294967296) :
    zz_ (zT_ ep sq r++m) ((0:Nat):Int)=ep/\zz_ (zT_ ep sq r++m) ((4:Nat):Int)=sq/\zz_ (zT_ ep sq r++m) ((8:Nat):Int)=r.length /\
    zz_ (zT_ ep sq r++m) ((12+r.length:Nat):Int)=kh_ (xR_ ep sq r)/\(zT_ ep sq r++m).take (12+r.length)=xR_ ep sq r:=by
 have hm:r.length%4294967296=r.length:=Nat.mod_eq_of_lt hr;refine⟨?_,?_,?_,?_,?_⟩
 · have e:zT_ ep sq r++m=[]++(be4 ep++(be4 sq++be4 (r.length%4294967296)++r++be4 (kh_ (xR_ ep sq r))++m)):=(by
    simp only[zT_,xR_,List.append_assoc,List.nil_append]);rw[e];exact y5_ _ _ ep he _ rfl
 · have e:zT_ ep sq r++m=be4 ep++(be4 sq++(be4 (r.length%4294967296)++r++be4 (kh_ (xR_ ep sq r))++m)):=(by
    simp only[zT_,xR_,List.append_assoc]);rw[e];exact y5_ _ _ sq hs _ rfl
 · have e:zT_ ep sq r++m=(be4 ep++be4 sq)++(be4 (r.length%4294967296)++(r++be4 (kh_ (xR_ ep sq r))++m)):=(by
    simp only[zT_,xR_,List.append_assoc]);rw[e,hm];exact y5_ _ _ _ hr _ rfl
 · have e:zT_ ep sq r++m=xR_ ep sq r++(be4 (kh_ (xR_ ep sq r))++m):=(by
    simp only[zT_,List.append_assoc]);rw[e];exact y5_ _ _ _ (gk_ _) _ (by rw[qa_])
 · have e:zT_ ep sq r++m=xR_ ep sq r++(be4 (kh_ (xR_ ep sq r))++m):=(by
    simp only[zT_,List.append_assoc]);rw[e];exact List.take_left' (qa_ _ _ _)
theorem zdL (he:ep<4294967296)(hs:sq<4294967296)(hr:r.length<4294967296):zS_ (zT_ ep sq r++m) ep sq:=by
 obtain⟨h0,h4,h8,h12,ht⟩:=q6_ ep sq r m he hs hr;have e8:zz_ (zT_ ep sq r++m) 8=r.length:=h8;refine⟨by rw[List.length_append,yM_];omega,h0,h4,?_,?_⟩
 · rw[e8,List.length_append,yM_];omega
 · rw[e8,h12,ht]
theorem zbe (he:ep<4294967296)(hs:sq<4294967296)(hr:r.length<4294967296):zz_ (zT_ ep sq r++m) 8=r.length:=(q6_ ep sq r m he hs hr).2.2.1
theorem ziA (he:ep<4294967296)(hs:sq<4294967296)(hr:r.length<4294967296):zga (zT_ ep sq r++m)=r:=by
 unfold zga;rw[zbe ep sq r m he hs hr];have e:zT_ ep sq r++m=(be4 ep++be4 sq++be4 (r.length%4294967296))++(r++(be4 (kh_ (xR_ ep sq r))++m)):=by
  simp only[zT_,xR_,List.append_assoc]
 rw[e,List.drop_left' (by simp only[List.length_append,vY_]),List.take_left' rfl]
end
end
section
open Go.RowKit
def jG_:List UInt8:=[85,78,73,84]
def yB_ (t p:Nat):List UInt8:=jG_++be4 t++be4 p++zm_ 52
theorem uZ_ (t p:Nat):(yB_ t p).length=64:=rfl
def k1_ (l:List UInt8):Prop:=zz_ l 4<=2048/\zz_ l 8<=64/\l=yB_ (zz_ l 4) (zz_ l 8)
theorem znO (t p:Nat)(ht:t<=2048)(hp:p<=64):zz_ (yB_ t p) 4=t/\zz_ (yB_ t p) 8=p/\k1_ (yB_ t p):=by
 have e1:zz_ (yB_ t p) 4=t:=by
  have:yB_ t p=jG_++(be4 t++(be4 p++zm_ 52)):=by simp only[yB_,List.append_assoc]
  rw[this];exact y5_ _ _ t (by omega) _ rfl
 have e2:zz_ (yB_ t p) 8=p:=by
  have:yB_ t p=(jG_++be4 t)++(be4 p++zm_ 52):=by simp only[yB_,List.append_assoc]
  rw[this];exact y5_ _ _ p (by omega) _ rfl
 exact⟨e1,e2,by rw[e1];exact ht,by rw[e2];exact hp,by rw[e1,e2]⟩
theorem zlW:bts jG_=[.int .u8 85,.int .u8 78,.int .u8 73,.int .u8 84]:=rfl
section
variable {w:World}
theorem zdy (t p:Nat)(ht:t<=2147483647)(hp:p<=2147483647) :
    Calls Tryz.prog 58 #[.int .i64 (t:Int),.int .i64 (p:Int)] w (xE_ w (yB_ t p)):=by
 obtain⟨i0,hi,hz,hs1,hb1⟩:=info_parts yC_;have et:(t:Int)%4294967296=(t:Int):=by omega
 have ep:(p:Int)%4294967296=(p:Int):=by omega
 have kc:=zpm w rfl;go_enter Tryz.func58,Tryz.ntmps58;go_wp2_with fail;clear kc;have hM:=zeb w 5 jG_ (4,5) (by simp[jG_]);rw[zlW]at hM;have hc1:Chg [] w (w.alloc (.cells #[.int .u8 85,.int .u8 78,.int .u8 73,.int .u8 84] 5 (4,5))):=(Chg.refl [] w).alloc _;generalize w.alloc (.cells #[.int .u8 85,.int .u8 78,.int .u8 73,.int .u8 84] 5 (4,5))=w1 at hc1 hM⊢;generalize w.heap.size=g0 at hM⊢;have HC1:=hQ_ hc1;have HM:=hQ_ hM;clear hc1 hM;have hM4:Bs w1 (some ⟨g0,0,none⟩) 4 4 jG_:=HM.o;refine(zeZ hM4 t (by omega) (by omega)).mono ?_;rintro e w2 ⟨v2,rfl,ho2,hc2⟩;have hl2:(jG_++be4 t).length=8:=rfl;rw[hl2]at ho2;obtain⟨A2,c2,rfl,hB2,_⟩:=Bs.of_own ho2;have HB2:=hQ_ hB2;have HC2:=hQ_ (HC1.o.new hc2);clear hM4 HM hl2 ho2 hB2 hc2;go_wp2_with fail;refine(zeZ HB2.o p (by omega) (by omega)).mono ?_;rintro e w5 ⟨v5,rfl,ho5,hc5⟩;have hl5:(jG_++be4 t++be4 p).length=12:=rfl;rw[hl5]at ho5;have hsz:=HC2.o.size;have HRL:=hQ_ (show yB_ t p=(jG_++be4 t++be4 p)++zm_ 52 from rfl);generalize jG_++be4 t++be4 p=Z at ho5 HRL;obtain⟨g,r,rfl,hbg,_,_⟩:=jX_ ho5 (by omega);obtain⟨g',cap',w6,hr,ho6,hg6,hor⟩:=xh_ (P:=Tryz.prog) w5 w2.heap.size 39 3 39 5 i0 _ 1 .i64 Tryz.underlying39 Tryz.underlying3 hi hz hs1 hb1 rfl rfl g 12 (12+r.length) (bts Z) ho5 52 (by unfold maxLen;omega) (by omega) hc5.size;have hc6:Chg [] w2 w6:=hc5.own ho5 (Nat.le_refl _) hg6;have HR:=hQ_ hr;have HO:=hQ_ ho6;have HC6:=hQ_ (HC2.o.new hc6);clear hr ho6 hg6 hor hc6 ho5 hc5 hl5;go_wp2_with (at_builtin;refine Lib.wpList_append_run w5 rfl (.tmp 15) (.tmp 18) 39 3 rfl _ _ rfl rfl _ _ HR.o ?_);go_ret;refine⟨_,rfl,?_,HC6.o⟩;have e1:(yB_ t p).length=12+52:=uZ_ t p;have e2:bts (yB_ t p)=bts Z++List.replicate 52 (.int .u8 0):=by rw[HRL.o,qi_,yT_]
 rw[e1,e2];exact zZ_ HO.o hsz
def zjK (l:List UInt8)(w:World)(e:Ending)(w':World):Prop :=
 (k1_ l/\e=.returned (.tuple #[.int .i64 ((zz_ l 4:Nat):Int),.int .i64 ((zz_ l 8:Nat):Int),.bool true])/\Chg [] w w') \/
 (¬k1_ l/\e=.returned (.tuple #[.int .i64 0,.int .i64 0,.bool false])/\Chg [] w w')
theorem zeR {A:Option Addr}{n c:Nat}{l:List UInt8}(h:Bs w A n c l):Calls Tryz.prog 126 #[.slice A n c] w (zjK l w):=by
 have H:=hQ_ h;have h4:=xj_ l 4;have h8:=xj_ l 8;clear h;go_enter Tryz.func126,Tryz.ntmps126;go_wp2_with fail;refine(uF_ H.o 4 (by omega)).mono ?_;rintro e w' ⟨rfl,rfl⟩;go_wp2_with fail;refine(uF_ H.o 8 (by omega)).mono ?_;rintro e w' ⟨rfl,rfl⟩;have HM:=hQ_ (show k1_ l↔(zz_ l 4<=2048/\zz_ l 8<=64/\l=yB_ (zz_ l 4) (zz_ l 8)) from Iff.rfl);obtain⟨t,ht⟩:∃t,t=zz_ l 4:=⟨_,rfl⟩;obtain⟨p,hp⟩:∃p,p=zz_ l 8:=⟨_,rfl⟩;rw[<-ht,<-hp]at HM⊢;rw[<-ht]at h4;rw[<-hp]at h8;have HT:=hQ_ ht;have HP:=hQ_ hp;clear ht hp;by_cases ha:2048<t
 · have HNO:=hQ_ (show ¬k1_ l from fun h=>by have:=(HM.o.1 h).1;omega);have haI:(2048:Int)<(t:Int):=(by omega);go_wp2_with fail;go_ret3;exact .inr ⟨HNO.o,rfl,Chg.refl _ _⟩
 · have haI:¬(2048:Int)<(t:Int):=(by omega);by_cases hb:64<p
   · have HNO:=hQ_ (show ¬k1_ l from fun h=>by have:=(HM.o.1 h).2.1;omega);have hbI:(64:Int)<(p:Int):=(by omega);go_wp2_with fail;go_ret3;exact .inr ⟨HNO.o,rfl,Chg.refl _ _⟩
   · have hbI:¬(64:Int)<(p:Int):=(by omega);go_wp2_with fail;refine(zdy t p (by omega) (by omega)).mono ?_;rintro e w2 ⟨v2,rfl,ho2,hc2⟩;obtain⟨A2,c2,rfl,hB2,_⟩:=Bs.of_own ho2;have HB2:=hQ_ hB2;have HC2:=hQ_ hc2;clear ho2 hB2 hc2;go_wp2_with fail;refine(kM_ (H.o.keep HC2.o) HB2.o).mono ?_;rintro e w' ⟨rfl,rfl⟩;by_cases heq:l=yB_ t p
     · have hde:decide (l=yB_ t p)=true:=decide_eq_true heq;rw[hde];have HY:=hQ_ (HM.o.2 ⟨by omega,by omega,heq⟩);clear hde heq;go_wp2_with fail;go_ret3;exact .inl ⟨HY.o,by rw[<-HT.o,<-HP.o];rfl,HC2.o⟩
     · have hde:decide (l=yB_ t p)=false:=decide_eq_false heq;rw[hde];have HY:=hQ_ (show ¬k1_ l from fun h=>heq (HM.o.1 h).2.2);clear hde heq;go_wp2_with fail;go_ret3;exact .inr ⟨HY.o,rfl,HC2.o⟩
end
end
section
open Go.RowKit
open Go.Lib (decDigits encodeRune)
def zs_ (n:Nat):Nat:=(n+63)/64
def pgT (T:List UInt8)(i:Nat):List UInt8:=(T.drop (i*64)).take 64++zm_ (64-((T.drop (i*64)).take 64).length)
def plT (T:List UInt8):Nat->List (Nat×List UInt8)
  | 0=>[]
  | k+1=>plT T k++[(1+k,pgT T k)]
def plM (f:Nat):Nat->List (Nat×List UInt8)
  | 0=>[]
  | k+1=>plM f k++[(f+k,zm_ 64)]
def qB_ (T:List UInt8)(p:Nat):List (Nat×List UInt8):=[(0,yB_ T.length p)]++plT T (zs_ T.length)++plM (1+zs_ T.length) p
theorem vr_ (T:List UInt8):∀k,(plT T k).length=k
  | 0=>rfl
  | k+1=>by rw[plT,List.length_append,vr_ T k];rfl
theorem ku_ (f:Nat):∀k,(plM f k).length=k
  | 0=>rfl
  | k+1=>by rw[plM,List.length_append,ku_ f k];rfl
theorem xo_ (T:List UInt8)(p:Nat):(qB_ T p).length=1+zs_ T.length+p:=by
 unfold qB_;rw[List.length_append,List.length_append,vr_,ku_];rfl
theorem zho (T:List UInt8)(i:Nat):(pgT T i).length=64:=by
 unfold pgT;rw[List.length_append,zE_,List.length_take];omega
theorem zmu (T:List UInt8):∀k i,i<k->(plT T k)[i]?=some (1+i,pgT T i)
  | 0,i,h=>by omega
  | k+1,i,h=>by
    rw[plT];rcases Nat.lt_or_ge i k with hk|hk
    · rw[List.getElem?_append_left (by rw[vr_];exact hk)];exact zmu T k i hk
    · obtain rfl:i=k:=(by omega);rw[List.getElem?_append_right (by rw[vr_];exact Nat.le_refl _),vr_,Nat.sub_self];rfl
theorem zmv (f:Nat):∀k i,i<k->(plM f k)[i]?=some (f+i,zm_ 64)
  | 0,i,h=>by omega
  | k+1,i,h=>by
    rw[plM];rcases Nat.lt_or_ge i k with hk|hk
    · rw[List.getElem?_append_left (by rw[ku_];exact hk)];exact zmv f k i hk
    · obtain rfl:i=k:=(by omega);rw[List.getElem?_append_right (by rw[ku_];exact Nat.le_refl _),ku_,Nat.sub_self];rfl
theorem zcc (T:List UInt8)(p i:Nat)(h:i<1+zs_ T.length+p):∃b,(qB_ T p)[i]?=some (i,b)/\b.length=64:=by
 unfold qB_;by_cases h0:i=0
 · subst h0;exact⟨_,rfl,uZ_ _ _⟩
 · by_cases h1:i<1+zs_ T.length
   · rw[List.getElem?_append_left (by rw[List.length_append,vr_];exact h1),List.getElem?_append_right (by show 1<=i;omega)];rw[show i - [(0,yB_ T.length p)].length=i-1 from rfl,zmu T _ _ (by omega)];exact⟨_,by rw[show 1+(i-1)=i from by omega],zho _ _⟩
   · rw[List.getElem?_append_right (by rw[List.length_append,vr_];show 1+_<=i;omega),List.length_append,vr_];rw[show i-([(0,yB_ T.length p)].length+zs_ T.length)=i-(1+zs_ T.length) from rfl,zmv _ _ _ (by omega)];exact⟨_,by rw[show 1+zs_ T.length+(i-(1+zs_ T.length))=i from by omega],by rw[zE_]⟩
theorem zlX (s:List UInt8)(n:Nat):(bts s).take n=bts (s.take n):=by unfold bts;rw[List.map_take]
theorem gp_ {P:Program}(w:World)(dT sT ty elem:TypeId)(g dLen dCap:Nat)(s:List UInt8)(cs:List Value)(t:TypeId)
    (hu:P.underlying dT=some (.slice elem)) (hs:(P.info? elem).map (·.size)=some 1) (hW:zb_ w g t cs) (hl:cs.length=dLen) :
    ∃w',(Builtin.copy_ #[dT,sT] ty #[.slice (some ⟨g,0,none⟩) dLen dCap,.string (zi_ s)]).run P w=.ok (goInt (Nat.min s.length dLen)) w'/\zb_ w' g t (bts (s.take dLen)++cs.drop (s.take dLen).length)/\Chg [g] w w':=by
 have hsz:=zJ_ s;have hvl:(bts (s.take dLen)).length=Nat.min s.length dLen:=by rw[zg_,List.length_take,Nat.min_comm]
 have hm1:Nat.min s.length dLen<=dLen:=Nat.min_le_right _ _;have hst:=run_storeCells_at (P:=P) g 0 t (bts (s.take dLen)) 0 cs.toArray w hW (by rw[hvl];simp;omega) (yc_ _);have htk:List.take (Nat.min s.length dLen) (List.map (fun b:UInt8=>Value.int IntKind.u8 (b.toNat:Int)) (zi_ s).data.toList)=bts (s.take dLen):=by
  rw[show(zi_ s).data.toList=s from by simp[zi_]];show List.take _ (bts s)=_;rw[zlX];congr 1;rw[List.take_eq_take_iff];show min (min s.length dLen) s.length=min dLen s.length;omega
 simp only[Nat.add_zero,List.take_zero,List.nil_append,Nat.zero_add]at hst;refine⟨w.setRow g (bts (s.take dLen)++cs.drop (s.take dLen).length).toArray,?_,?_,?_⟩
 · cases hq:P.info? elem with
   | none=>simp[hq]at hs
   | some i =>
     simp[Builtin.copy_,run_underlying hu,Builtin.lenOf,Builtin.firstCells,sizeOf,typeInfo,hq,hsz];rw[htk,hst];simp[Result.andThen,zg_]
 · exact setRow_heap w g _ _ t (0,0) hW
 · exact⟨rfl,rfl,rfl,by rw[setRow_size];exact Nat.le_refl _,fun k _ hk=>setRow_other w g k _ (by simpa using hk)⟩
end
section
open Go.RowKit
def zfX (W:World)(pg ms:Int)(A:Option Addr)(n c:Nat)(T:List UInt8)(E:Int):Prop :=
 ∀w,Chg [] W w->vF_ w.heap.size w->Calls Tryz.prog 10 #[.agg #[.int .i64 pg,.int .i64 ms,.slice A n c]] w (yr_ T E w)
theorem zfX.keep {W W':World}{pg ms:Int}{A:Option Addr}{n c:Nat}{T:List UInt8}{E:Int}(h:zfX W pg ms A n c T E)(hc:Chg [] W W'):zfX W' pg ms A n c T E:=fun w k hp=>h w (hc.trans k) hp
theorem zfX.of_fnr {W:World}{pg ms:Int}{A:Option Addr}{n c:Nat}{l:List FnV}(h:Fnr W A n c l)(hsm:∀f∈l,f.code.size<=9223372036854775807):zfX W pg ms A n c (zH_ pg ms l).1 (zH_ pg ms l).2:=fun _ hc hp=>zai (h.keep hc) hsm hp
def xf_ (T:List UInt8)(E ms:Int):Int:=if E=0 then 1+(zs_ T.length:Int)+ms else 0
section
variable {w:World}
theorem qV_ (n:Nat)(hn:n<=1000000)(w:World):Calls Tryz.prog 118 #[.int .i64 (n:Int)] w fun e w'=>e=.returned (.int .i64 ((zs_ n:Nat):Int))/\w'=w:=by
 have HH:=hQ_ (show((zs_ n:Nat):Int)=((n:Int)+64-1)/64 from by unfold zs_;omega);go_enter Tryz.func118,Tryz.ntmps118;go_wp2_with fail;go_ret;exact⟨congrArg (fun z:Int=>Ending.returned (Value.int .i64 z)) HH.o.symm,rfl⟩
theorem uB_ (T:List UInt8)(hn:T.length<=1000000)(w:World):Calls Tryz.prog 78 #[.string (zi_ T)] w fun e w'=>e=.returned (.int .i64 ((zs_ T.length:Nat):Int))/\w'=w:=by
 have HL:=hQ_ (qV_ T.length hn w);have hsz:=zJ_ T;go_enter Tryz.func78,Tryz.ntmps78;go_wp2_with (
  go_at_call 118;refine HL.o.mono ?_;rintro e w2 ⟨rfl,rfl⟩);go_ret;exact⟨rfl,rfl⟩
variable {pg ms:Int} {A:Option Addr} {n c:Nat} {E:Int} {T:List UInt8}
theorem qT_ (hT:zfX w pg ms A n c T E)(hTl:T.length<=2048)(hms:E=0->0<=ms/\ms<=64)(hP:vF_ w.heap.size w):Calls Tryz.prog 77 #[.agg #[.int .i64 pg,.int .i64 ms,.slice A n c]] w fun e w'=>e=.returned (.int .i64 (xf_ T E ms))/\Chg [] w w':=by
 have HT:=hQ_ hT;have HP:=hQ_ hP;obtain⟨N,hN⟩:∃N,N=xf_ T E ms:=⟨_,rfl⟩;rw[<-hN];have HN:=hQ_ hN;clear hT hP hN;unfold zfX yr_ at HT;go_enter Tryz.func77,Tryz.ntmps77;go_upto_region 1 with fail;have hN:=zb_.new w 25 [.int .i64 pg,.int .i64 ms,.slice A n c];have hal:=(Chg.refl [] w).alloc (.cells #[.int .i64 pg,.int .i64 ms,.slice A n c] 25);have HU1:=hQ_ hN;have HC1:=hQ_ hal;clear hN hal;generalize w.heap.size=gu at HU1⊢;generalize w.alloc (.cells #[.int .i64 pg,.int .i64 ms,.slice A n c] 25)=w1 at HU1 HC1⊢;have u0:=HU1.o.cell 0;have u1:=HU1.o.cell 1;have u2:=HU1.o.cell 2;by_cases hE:E=0
 · subst hE;have hN1:N=1+(zs_ T.length:Int)+ms:=(by rw[HN.o];unfold xf_;rw[if_pos rfl]);have HPG:=hQ_ (fun (W:World)=>uB_ T (by omega) W);have hh:zs_ T.length<=33:=(by unfold zs_;omega);obtain⟨h,hh2⟩:∃h,h=zs_ T.length:=⟨_,rfl⟩;rw[<-hh2]at HPG hN1 hh;obtain⟨hm0,hm1⟩:=hms rfl;generalize zi_ T=S at HT HPG;clear hh2 HN hTl hms;have HN1:=hQ_ hN1;clear hN1;go_upto_region 4 with(
    go_at_call 10;refine(HT.o _ HC1.o (HP.o.here HC1.o)).mono ?_;rintro e w2 ⟨rfl,hc2⟩;have HC2:=hQ_ (HC1.o.trans hc2);have HU2:=hQ_ (HU1.o.keep hc2);clear hc2);clear u0 u1 u2;have HHW:=hQ_ (fun (W:World)(h:Chg [] w2.drew W)=>(show Chg [] w2 W from(Chg.refl [] w2).drew.trans h));have HW1:=hQ_ (show IntKind.i64.wrap (1+(h:Int))=1+(h:Int) from IntWalk.i64_in _ (by omega));have HW2:=hQ_ (show IntKind.i64.wrap (1+(h:Int)+ms)=N from by rw[HN1.o];exact IntWalk.i64_in _ (by omega));refine wp_flow (by kernel_rfl) yl_ za_ (by kernel_rfl) ?_;refine flow_move_out za_ rfl rfl rfl ?_;refine zw_ (.int .i64 (h:Int)) (by kernel_rfl) rfl (.cons (.inn rfl) .nil) (fun W hW=>(HPG.o W).mono ?_) ?_
   · rintro e w' ⟨rfl,rfl⟩;rw[xJ_];exact⟨rfl,Chg.refl _ _⟩
   refine flow2 (r:=.int .i64 (1+(h:Int))) za_ rfl (.const _) (.inn rfl) rfl (fun ev W he e1 e2=>by have q:=HW1.o;go_simp) ?_;refine flow1 (r:=.pointer (some ⟨gu,1,none⟩)) za_ rfl (.out rfl rfl) rfl (fun ev W he e1=>by go_simp) ?_;refine flow1h (r:=.int .i64 ms) za_ rfl (.inn rfl) rfl (fun ev W he hW e1=>by
    have hk:=HU2.o.keep (HHW.o W hW);have q1:=hk.cell 1;clear hW hk;go_simp) ?_;refine flow2 (r:=.int .i64 N) za_ rfl (.inn rfl) (.inn rfl) rfl (fun ev W he e1 e2=>by have q:=HW2.o;go_simp) ?_;refine flow_assign za_ rfl (zc_ _) (.inr (zc_ _)) rfl ?_;intro vs W hW hF;have e2:vs 2=.int .i64 N:=hF 2 _ rfl rfl;have HCW:=hQ_ (HC2.o.trans (HHW.o W hW));simp only[zV_,Act.put,List.setIfInBounds_toArray,List.set_cons_zero,List.set_cons_succ];rw[e2];clear hF hW e2;obtain⟨wz,hwz⟩:∃wz:World,wz=W:=⟨_,rfl⟩;rw[<-hwz]at HCW⊢;clear hwz;go_wp2_with fail;go_ret;exact⟨rfl,HCW.o⟩
 · obtain rfl:N=0:=(by rw[HN.o];unfold xf_;rw[if_neg hE]);have hd:(E==0)=false:=(by simpa using hE);clear hE HN hms;go_wp2_with (
    go_at_call 10;refine(HT.o _ HC1.o (HP.o.here HC1.o)).mono ?_;rintro e w2 ⟨rfl,hc2⟩;have HC2:=hQ_ (HC1.o.trans hc2);clear hc2);go_ret;exact⟨rfl,HC2.o⟩
end
end
section
open Go.RowKit Go.ChangeShapes Go.WideShapes Go.Deep
theorem zeF {α:Type}{l:List α}(h:l.length=3):∃a b c,l=[a,b,c]:=by
 match l,h with
 | [a,b,c],_=>exact⟨a,b,c,rfl⟩
end
section
open Go.RowKit
theorem zeK (l:List UInt8)(k:Nat):(zi_ l).extract k (zi_ l).size=zi_ (l.drop k):=by
 apply ByteArray.ext;simp[zi_,ByteArray.extract,ByteArray.copySlice,ByteArray.size];exact List.take_of_length_le (by simp)
end
section
open Go.RowKit
abbrev zaS : List (String × DataW Unit) := [("math/bits.deBruijn32tab", Rows.laid_math_bits_deBruijn32tab), ("math/bits.deBruijn64tab", Rows.laid_math_bits_deBruijn64tab), ("internal/strconv.uint64pow10", Rows.laid_internal_strconv_uint64pow10)]
theorem zdQ (os:Os)(args:Array Value):laidMetH Tryz.prog zaS ((World.doorLaid Tryz.prog 400 os).forCall (fun _ _=>0) ⟨#[],args,[]⟩).memory :=
 laidMetH_of_parts3 (fuel:=8) (laidMet_of_run' 8 (by kernel_rfl) (by kernel_rfl)) (by kernel_rfl) (by kernel_rfl)
theorem zkU:(Rows.laid_internal_strconv_uint64pow10:DataW Unit)=Lib.tabData .u64 Lib.pow10Tab:=by rfl
theorem zmt {W:World}(h:laidMetH Tryz.prog zaS W):vF_ W.heap.size W:=by
 rw[MakeChecks.laidMetH_plain _ _ _ (by kernel_rfl)]at h;have h3:=laidMet.tail (laidMet.tail h);rw[zkU]at h3;exact Lib.tabBelow_of_tabIs (Lib.tabIs_of_head (g:=1) (t:=255) (e:=226) (n:=20) (by kernel_rfl) (by kernel_rfl) Tryz.underlying255 Tryz.underlying226 (by kernel_rfl) (by kernel_rfl) h3)
end
end Go.Proofs.YtcbcfcdmdedefaaGreatDoor
