import Derived.Test.YtcbcfcdmdedefaaGreatDoorZHQ18
import Derived.Shelf.Bytes.SlJoin
import Derived.ProofKit
namespace Go.Proofs
open Go.Shelf
def Tryz.laysSlJ14_ren:Go.Shelf.Ren:=⟨fun|14=>87|15=>128|n=>n,fun|26=>96|22=>39|3=>3|4=>4|0=>0|9=>9|20=>20|5=>5|n=>n,fun|n=>n⟩
theorem Tryz.laysSlJ14:Go.Proofs.SlLaysJ.n14 Tryz.prog Tryz.laysSlJ14_ren:={
  mixed:=by kernel_rfl
  f14:=Tryz.func87.trans (congrArg some (by kernel_rfl))
  f15:=Tryz.func128.trans (congrArg some (by kernel_rfl))
  t0:=Tryz.underlying0
  a0:=Tryz.isAgg0
  z0:=Tryz.sizeOf0
  v0:=Tryz.zeroValue0
  t3:=Tryz.underlying3
  a3:=Tryz.isAgg3
  z3:=Tryz.sizeOf3
  v3:=Tryz.zeroValue3
  t4:=Tryz.underlying4
  a4:=Tryz.isAgg4
  z4:=Tryz.sizeOf4
  v4:=Tryz.zeroValue4
  t9:=Tryz.underlying9
  a9:=Tryz.isAgg9
  z9:=Tryz.sizeOf9
  v9:=Tryz.zeroValue9
  t20:=Tryz.underlying20
  a20:=Tryz.isAgg20
  z20:=Tryz.sizeOf20
  v20:=Tryz.zeroValue20
  t22:=Tryz.underlying39
  a22:=Tryz.isAgg39
  z22:=Tryz.sizeOf39
  v22:=Tryz.zeroValue39
  t26:=Tryz.underlying96
  a26:=Tryz.isAgg96
  z26:=Tryz.sizeOf96
  v26:=Tryz.zeroValue96
  t5:=Tryz.underlying5
  z5:=Tryz.sizeOf5
  i5:=by kernel_rfl }
open Go.RowKit Go.Lib in
theorem Tryz.bytes_Join_many (b o n c:Nat)(vs:List Value)(ls:List (List UInt8))(sv:Value)(sep:List UInt8)(w:World)(hn:ls.length=n)(h2:2<=n)(hP:Lib.PartsAt w ⟨b,o,none⟩ vs ls)(hcap:n<=c)(hS:Lib.HoldsBytes w sv sep)(hn47:n<=140737488355328)(hlen:Lib.lens ls+sep.length*(n-1)<=140737488355328) :
    Calls Tryz.prog 87 #[.slice (some ⟨b,o,none⟩) n c,sv] w fun e w'=>∃v',e=.returned v'/\Lib.FreshBytes w.heap.size w' v' (Lib.join ls sep)/\Below w.heap.size w w':=Any.bytes_Join_many Tryz.laysSlJ14 b o n c vs ls sv sep w hn h2 hP hcap hS hn47 hlen
open Go.RowKit Go.Lib in
theorem Tryz.bytes_Join_none (p:Option Addr)(c:Nat)(sv:Value)(w:World) :
    Calls Tryz.prog 87 #[.slice p 0 c,sv] w fun e w'=>e=.returned (.slice (some ⟨w.heap.size,0,none⟩) 0 0)/\w'=w.alloc (.cells #[] 5):=Any.bytes_Join_none Tryz.laysSlJ14 p c sv w
open Go.RowKit Go.Lib in
theorem Tryz.bytes_Join_one (b o c:Nat)(ad0:Addr)(c0:Nat)(l0:List UInt8)(sv:Value)(w:World)(hcell:w.cell? ⟨b,o,none⟩=some (.slice (some ad0) l0.length c0))(hc:∀(i:Nat) x,l0[i]?=some x->w.cell? (ad0.add i)=some (.int .u8 (x.toNat:Int)))(h0:0<l0.length)(hs:l0.length<=140737488355328) :
    Calls Tryz.prog 87 #[.slice (some ⟨b,o,none⟩) 1 c,sv] w fun e w'=>∃v',e=.returned v'/\Lib.FreshBytes w.heap.size w' v' l0/\Below w.heap.size w w':=Any.bytes_Join_one Tryz.laysSlJ14 b o c ad0 c0 l0 sv w hcell hc h0 hs
end Go.Proofs
set_option maxRecDepth 100000
set_option maxHeartbeats 16000000
namespace Go.Proofs.YtcbcfcdmdedefaaGreatDoor
section
open Go.RowKit
def jE_:List UInt8:=[85,78,73,84]
def yE_ (t p:Nat):List UInt8:=jE_++be4 t++be4 p++zm_ 52
theorem u0_ (t p:Nat):(yE_ t p).length=64:=rfl
def uu_ (l:List UInt8):Prop:=zz_ l 4<=2048/\zz_ l 8<=64/\l=yE_ (zz_ l 4) (zz_ l 8)
theorem znU (t p:Nat)(ht:t<=2048)(hp:p<=64):zz_ (yE_ t p) 4=t/\zz_ (yE_ t p) 8=p/\uu_ (yE_ t p):=by
 have e1:zz_ (yE_ t p) 4=t:=by
  have:yE_ t p=jE_++(be4 t++(be4 p++zm_ 52)):=by simp only[yE_,List.append_assoc]
  rw[this];exact y5_ _ _ t (by omega) _ rfl
 have e2:zz_ (yE_ t p) 8=p:=by
  have:yE_ t p=(jE_++be4 t)++(be4 p++zm_ 52):=by simp only[yE_,List.append_assoc]
  rw[this];exact y5_ _ _ p (by omega) _ rfl
 exact⟨e1,e2,by rw[e1];exact ht,by rw[e2];exact hp,by rw[e1,e2]⟩
theorem zlR:bts jE_=[.int .u8 85,.int .u8 78,.int .u8 73,.int .u8 84]:=rfl
section
variable {w:World}
theorem zdF (t p:Nat)(ht:t<=2147483647)(hp:p<=2147483647) :
    Calls Tryz.prog 58 #[.int .i64 (t:Int),.int .i64 (p:Int)] w (xH_ w (yE_ t p)):=by
 obtain⟨i0,hi,hz,hs1,hb1⟩:=info_parts yF_;have et:(t:Int)%4294967296=(t:Int):=by omega
 have ep:(p:Int)%4294967296=(p:Int):=by omega
 have kc:=zpw w rfl;go_enter Tryz.func58,Tryz.ntmps58;go_wp2_with fail;clear kc;have hM:=zek w 5 jE_ (4,5) (by simp[jE_]);rw[zlR]at hM;have hc1:Chg [] w (w.alloc (.cells #[.int .u8 85,.int .u8 78,.int .u8 73,.int .u8 84] 5 (4,5))):=(Chg.refl [] w).alloc _;generalize w.alloc (.cells #[.int .u8 85,.int .u8 78,.int .u8 73,.int .u8 84] 5 (4,5))=w1 at hc1 hM⊢;generalize w.heap.size=g0 at hM⊢;have HC1:=hQ_ hc1;have HM:=hQ_ hM;clear hc1 hM;have hM4:Bs w1 (some ⟨g0,0,none⟩) 4 4 jE_:=HM.o;refine(zfc hM4 t (by omega) (by omega)).mono ?_;rintro e w2 ⟨v2,rfl,ho2,hc2⟩;have hl2:(jE_++be4 t).length=8:=rfl;rw[hl2]at ho2;obtain⟨A2,c2,rfl,hB2,_⟩:=Bs.of_own ho2;have HB2:=hQ_ hB2;have HC2:=hQ_ (HC1.o.new hc2);clear hM4 HM hl2 ho2 hB2 hc2;go_wp2_with fail;refine(zfc HB2.o p (by omega) (by omega)).mono ?_;rintro e w5 ⟨v5,rfl,ho5,hc5⟩;have hl5:(jE_++be4 t++be4 p).length=12:=rfl;rw[hl5]at ho5;have hsz:=HC2.o.size;have HRL:=hQ_ (show yE_ t p=(jE_++be4 t++be4 p)++zm_ 52 from rfl);generalize jE_++be4 t++be4 p=Z at ho5 HRL;obtain⟨g,r,rfl,hbg,_,_⟩:=jU_ ho5 (by omega);obtain⟨g',cap',w6,hr,ho6,hg6,hor⟩:=xh_ (P:=Tryz.prog) w5 w2.heap.size 39 3 39 5 i0 _ 1 .i64 Tryz.underlying39 Tryz.underlying3 hi hz hs1 hb1 rfl rfl g 12 (12+r.length) (bts Z) ho5 52 (by unfold maxLen;omega) (by omega) hc5.size;have hc6:Chg [] w2 w6:=hc5.own ho5 (Nat.le_refl _) hg6;have HR:=hQ_ hr;have HO:=hQ_ ho6;have HC6:=hQ_ (HC2.o.new hc6);clear hr ho6 hg6 hor hc6 ho5 hc5 hl5;go_wp2_with (at_builtin;refine Lib.wpList_append_run w5 rfl (.tmp 15) (.tmp 18) 39 3 rfl _ _ rfl rfl _ _ HR.o ?_);go_ret;refine⟨_,rfl,?_,HC6.o⟩;have e1:(yE_ t p).length=12+52:=u0_ t p;have e2:bts (yE_ t p)=bts Z++List.replicate 52 (.int .u8 0):=by rw[HRL.o,qk_,yV_]
 rw[e1,e2];exact z0_ HO.o hsz
def zjG (l:List UInt8)(w:World)(e:Ending)(w':World):Prop :=
 (uu_ l/\e=.returned (.tuple #[.int .i64 ((zz_ l 4:Nat):Int),.int .i64 ((zz_ l 8:Nat):Int),.bool true])/\Chg [] w w') \/
 (¬uu_ l/\e=.returned (.tuple #[.int .i64 0,.int .i64 0,.bool false])/\Chg [] w w')
theorem zeV {A:Option Addr}{n c:Nat}{l:List UInt8}(h:Bs w A n c l):Calls Tryz.prog 126 #[.slice A n c] w (zjG l w):=by
 have H:=hQ_ h;have h4:=xk_ l 4;have h8:=xk_ l 8;clear h;go_enter Tryz.func126,Tryz.ntmps126;go_wp2_with fail;refine(uH_ H.o 4 (by omega)).mono ?_;rintro e w' ⟨rfl,rfl⟩;go_wp2_with fail;refine(uH_ H.o 8 (by omega)).mono ?_;rintro e w' ⟨rfl,rfl⟩;have HM:=hQ_ (show uu_ l↔(zz_ l 4<=2048/\zz_ l 8<=64/\l=yE_ (zz_ l 4) (zz_ l 8)) from Iff.rfl);obtain⟨t,ht⟩:∃t,t=zz_ l 4:=⟨_,rfl⟩;obtain⟨p,hp⟩:∃p,p=zz_ l 8:=⟨_,rfl⟩;rw[<-ht,<-hp]at HM⊢;rw[<-ht]at h4;rw[<-hp]at h8;have HT:=hQ_ ht;have HP:=hQ_ hp;clear ht hp;by_cases ha:2048<t
 · have HNO:=hQ_ (show ¬uu_ l from fun h=>by have:=(HM.o.1 h).1;omega);have haI:(2048:Int)<(t:Int):=(by omega);go_wp2_with fail;go_ret3;exact .inr ⟨HNO.o,rfl,Chg.refl _ _⟩
 · have haI:¬(2048:Int)<(t:Int):=(by omega);by_cases hb:64<p
   · have HNO:=hQ_ (show ¬uu_ l from fun h=>by have:=(HM.o.1 h).2.1;omega);have hbI:(64:Int)<(p:Int):=(by omega);go_wp2_with fail;go_ret3;exact .inr ⟨HNO.o,rfl,Chg.refl _ _⟩
   · have hbI:¬(64:Int)<(p:Int):=(by omega);go_wp2_with fail;refine(zdF t p (by omega) (by omega)).mono ?_;rintro e w2 ⟨v2,rfl,ho2,hc2⟩;obtain⟨A2,c2,rfl,hB2,_⟩:=Bs.of_own ho2;have HB2:=hQ_ hB2;have HC2:=hQ_ hc2;clear ho2 hB2 hc2;go_wp2_with fail;refine(kR_ (H.o.keep HC2.o) HB2.o).mono ?_;rintro e w' ⟨rfl,rfl⟩;by_cases heq:l=yE_ t p
     · have hde:decide (l=yE_ t p)=true:=decide_eq_true heq;rw[hde];have HY:=hQ_ (HM.o.2 ⟨by omega,by omega,heq⟩);clear hde heq;go_wp2_with fail;go_ret3;exact .inl ⟨HY.o,by rw[<-HT.o,<-HP.o];rfl,HC2.o⟩
     · have hde:decide (l=yE_ t p)=false:=decide_eq_false heq;rw[hde];have HY:=hQ_ (show ¬uu_ l from fun h=>heq (HM.o.1 h).2.2);clear hde heq;go_wp2_with fail;go_ret3;exact .inr ⟨HY.o,rfl,HC2.o⟩
end
end
section
open Go.RowKit
open Go.Lib (decDigits encodeRune)
def zs_ (n:Nat):Nat:=(n+63)/64
def pgT (T:List UInt8)(i:Nat):List UInt8:=(T.drop (i*64)).take 64++zm_ (64-((T.drop (i*64)).take 64).length)
def plT (T:List UInt8):Nat->List (Nat×List UInt8)
  | 0=>[]
  | k+1=>plT T k++[(1+k,pgT T k)]
def plM (f:Nat):Nat->List (Nat×List UInt8)
  | 0=>[]
  | k+1=>plM f k++[(f+k,zm_ 64)]
def qD_ (T:List UInt8)(p:Nat):List (Nat×List UInt8):=[(0,yE_ T.length p)]++plT T (zs_ T.length)++plM (1+zs_ T.length) p
theorem vu_ (T:List UInt8):∀k,(plT T k).length=k
  | 0=>rfl
  | k+1=>by rw[plT,List.length_append,vu_ T k];rfl
theorem kx_ (f:Nat):∀k,(plM f k).length=k
  | 0=>rfl
  | k+1=>by rw[plM,List.length_append,kx_ f k];rfl
theorem xp_ (T:List UInt8)(p:Nat):(qD_ T p).length=1+zs_ T.length+p:=by
 unfold qD_;rw[List.length_append,List.length_append,vu_,kx_];rfl
theorem zhr (T:List UInt8)(i:Nat):(pgT T i).length=64:=by
 unfold pgT;rw[List.length_append,zE_,List.length_take];omega
theorem zmo (T:List UInt8):∀k i,i<k->(plT T k)[i]?=some (1+i,pgT T i)
  | 0,i,h=>by omega
  | k+1,i,h=>by
    rw[plT];rcases Nat.lt_or_ge i k with hk|hk
    · rw[List.getElem?_append_left (by rw[vu_];exact hk)];exact zmo T k i hk
    · obtain rfl:i=k:=(by omega);rw[List.getElem?_append_right (by rw[vu_];exact Nat.le_refl _),vu_,Nat.sub_self];rfl
theorem zmp (f:Nat):∀k i,i<k->(plM f k)[i]?=some (f+i,zm_ 64)
  | 0,i,h=>by omega
  | k+1,i,h=>by
    rw[plM];rcases Nat.lt_or_ge i k with hk|hk
    · rw[List.getElem?_append_left (by rw[kx_];exact hk)];exact zmp f k i hk
    · obtain rfl:i=k:=(by omega);rw[List.getElem?_append_right (by rw[kx_];exact Nat.le_refl _),kx_,Nat.sub_self];rfl
theorem zci (T:List UInt8)(p i:Nat)(h:i<1+zs_ T.length+p):∃b,(qD_ T p)[i]?=some (i,b)/\b.length=64:=by
 unfold qD_;by_cases h0:i=0
 · subst h0;exact⟨_,rfl,u0_ _ _⟩
 · by_cases h1:i<1+zs_ T.length
   · rw[List.getElem?_append_left (by rw[List.length_append,vu_];exact h1),List.getElem?_append_right (by show 1<=i;omega)];rw[show i - [(0,yE_ T.length p)].length=i-1 from rfl,zmo T _ _ (by omega)];exact⟨_,by rw[show 1+(i-1)=i from by omega],zhr _ _⟩
   · rw[List.getElem?_append_right (by rw[List.length_append,vu_];show 1+_<=i;omega),List.length_append,vu_];rw[show i-([(0,yE_ T.length p)].length+zs_ T.length)=i-(1+zs_ T.length) from rfl,zmp _ _ _ (by omega)];exact⟨_,by rw[show 1+zs_ T.length+(i-(1+zs_ T.length))=i from by omega],by rw[zE_]⟩
theorem zlS (s:List UInt8)(n:Nat):(bts s).take n=bts (s.take n):=by unfold bts;rw[List.map_take]
theorem gt_ {P:Program}(w:World)(dT sT ty elem:TypeId)(g dLen dCap:Nat)(s:List UInt8)(cs:List Value)(t:TypeId)
    (hu:P.underlying dT=some (.slice elem)) (hs:(P.info? elem).map (·.size)=some 1) (hW:zb_ w g t cs) (hl:cs.length=dLen) :
    ∃w',(Builtin.copy_ #[dT,sT] ty #[.slice (some ⟨g,0,none⟩) dLen dCap,.string (zj_ s)]).run P w=.ok (goInt (Nat.min s.length dLen)) w'/\zb_ w' g t (bts (s.take dLen)++cs.drop (s.take dLen).length)/\Chg [g] w w':=by
 have hsz:=zL_ s;have hvl:(bts (s.take dLen)).length=Nat.min s.length dLen:=by rw[zg_,List.length_take,Nat.min_comm]
 have hm1:Nat.min s.length dLen<=dLen:=Nat.min_le_right _ _;have hst:=run_storeCells_at (P:=P) g 0 t (bts (s.take dLen)) 0 cs.toArray w hW (by rw[hvl];simp;omega) (yd_ _);have htk:List.take (Nat.min s.length dLen) (List.map (fun b:UInt8=>Value.int IntKind.u8 (b.toNat:Int)) (zj_ s).data.toList)=bts (s.take dLen):=by
  rw[show(zj_ s).data.toList=s from by simp[zj_]];show List.take _ (bts s)=_;rw[zlS];congr 1;rw[List.take_eq_take_iff];show min (min s.length dLen) s.length=min dLen s.length;omega
 simp only[Nat.add_zero,List.take_zero,List.nil_append,Nat.zero_add]at hst;refine⟨w.setRow g (bts (s.take dLen)++cs.drop (s.take dLen).length).toArray,?_,?_,?_⟩
 · cases hq:P.info? elem with
   | none=>simp[hq]at hs
   | some i =>
     simp[Builtin.copy_,run_underlying hu,Builtin.lenOf,Builtin.firstCells,sizeOf,typeInfo,hq,hsz];rw[htk,hst];simp[Result.andThen,zg_]
 · exact setRow_heap w g _ _ t (0,0) hW
 · exact⟨rfl,rfl,rfl,by rw[setRow_size];exact Nat.le_refl _,fun k _ hk=>setRow_other w g k _ (by simpa using hk)⟩
end
section
open Go.RowKit
def zgf (W:World)(pg ms:Int)(A:Option Addr)(n c:Nat)(T:List UInt8)(E:Int):Prop :=
 ∀w,Chg [] W w->vG_ w.heap.size w->Calls Tryz.prog 10 #[.agg #[.int .i64 pg,.int .i64 ms,.slice A n c]] w (yt_ T E w)
theorem zgf.keep {W W':World}{pg ms:Int}{A:Option Addr}{n c:Nat}{T:List UInt8}{E:Int}(h:zgf W pg ms A n c T E)(hc:Chg [] W W'):zgf W' pg ms A n c T E:=fun w k hp=>h w (hc.trans k) hp
theorem zgf.of_fnr {W:World}{pg ms:Int}{A:Option Addr}{n c:Nat}{l:List FnV}(h:Fnr W A n c l)(hsm:∀f∈l,f.code.size<=9223372036854775807):zgf W pg ms A n c (zI_ pg ms l).1 (zI_ pg ms l).2:=fun _ hc hp=>zan (h.keep hc) hsm hp
def xj_ (T:List UInt8)(E ms:Int):Int:=if E=0 then 1+(zs_ T.length:Int)+ms else 0
section
variable {w:World}
theorem qY_ (n:Nat)(hn:n<=1000000)(w:World):Calls Tryz.prog 118 #[.int .i64 (n:Int)] w fun e w'=>e=.returned (.int .i64 ((zs_ n:Nat):Int))/\w'=w:=by
 have HH:=hQ_ (show((zs_ n:Nat):Int)=((n:Int)+64-1)/64 from by unfold zs_;omega);go_enter Tryz.func118,Tryz.ntmps118;go_wp2_with fail;go_ret;exact⟨congrArg (fun z:Int=>Ending.returned (Value.int .i64 z)) HH.o.symm,rfl⟩
theorem uD_ (T:List UInt8)(hn:T.length<=1000000)(w:World):Calls Tryz.prog 78 #[.string (zj_ T)] w fun e w'=>e=.returned (.int .i64 ((zs_ T.length:Nat):Int))/\w'=w:=by
 have HL:=hQ_ (qY_ T.length hn w);have hsz:=zL_ T;go_enter Tryz.func78,Tryz.ntmps78;go_wp2_with (
  go_at_call 118;refine HL.o.mono ?_;rintro e w2 ⟨rfl,rfl⟩);go_ret;exact⟨rfl,rfl⟩
variable {pg ms:Int} {A:Option Addr} {n c:Nat} {E:Int} {T:List UInt8}
theorem qW_ (hT:zgf w pg ms A n c T E)(hTl:T.length<=2048)(hms:E=0->0<=ms/\ms<=64)(hP:vG_ w.heap.size w):Calls Tryz.prog 77 #[.agg #[.int .i64 pg,.int .i64 ms,.slice A n c]] w fun e w'=>e=.returned (.int .i64 (xj_ T E ms))/\Chg [] w w':=by
 have HT:=hQ_ hT;have HP:=hQ_ hP;obtain⟨N,hN⟩:∃N,N=xj_ T E ms:=⟨_,rfl⟩;rw[<-hN];have HN:=hQ_ hN;clear hT hP hN;unfold zgf yt_ at HT;go_enter Tryz.func77,Tryz.ntmps77;go_upto_region 1 with fail;have hN:=zb_.new w 25 [.int .i64 pg,.int .i64 ms,.slice A n c];have hal:=(Chg.refl [] w).alloc (.cells #[.int .i64 pg,.int .i64 ms,.slice A n c] 25);have HU1:=hQ_ hN;have HC1:=hQ_ hal;clear hN hal;generalize w.heap.size=gu at HU1⊢;generalize w.alloc (.cells #[.int .i64 pg,.int .i64 ms,.slice A n c] 25)=w1 at HU1 HC1⊢;have u0:=HU1.o.cell 0;have u1:=HU1.o.cell 1;have u2:=HU1.o.cell 2;by_cases hE:E=0
 · subst hE;have hN1:N=1+(zs_ T.length:Int)+ms:=(by rw[HN.o];unfold xj_;rw[if_pos rfl]);have HPG:=hQ_ (fun (W:World)=>uD_ T (by omega) W);have hh:zs_ T.length<=33:=(by unfold zs_;omega);obtain⟨h,hh2⟩:∃h,h=zs_ T.length:=⟨_,rfl⟩;rw[<-hh2]at HPG hN1 hh;obtain⟨hm0,hm1⟩:=hms rfl;generalize zj_ T=S at HT HPG;clear hh2 HN hTl hms;have HN1:=hQ_ hN1;clear hN1;go_upto_region 4 with(
    go_at_call 10;refine(HT.o _ HC1.o (HP.o.here HC1.o)).mono ?_;rintro e w2 ⟨rfl,hc2⟩;have HC2:=hQ_ (HC1.o.trans hc2);have HU2:=hQ_ (HU1.o.keep hc2);clear hc2);clear u0 u1 u2;have HHW:=hQ_ (fun (W:World)(h:Chg [] w2.drew W)=>(show Chg [] w2 W from(Chg.refl [] w2).drew.trans h));have HW1:=hQ_ (show IntKind.i64.wrap (1+(h:Int))=1+(h:Int) from IntWalk.i64_in _ (by omega));have HW2:=hQ_ (show IntKind.i64.wrap (1+(h:Int)+ms)=N from by rw[HN1.o];exact IntWalk.i64_in _ (by omega));refine wp_flow (by kernel_rfl) yn_ za_ (by kernel_rfl) ?_;refine flow_move_out za_ rfl rfl rfl ?_;refine zw_ (.int .i64 (h:Int)) (by kernel_rfl) rfl (.cons (.inn rfl) .nil) (fun W hW=>(HPG.o W).mono ?_) ?_
   · rintro e w' ⟨rfl,rfl⟩;rw[xM_];exact⟨rfl,Chg.refl _ _⟩
   refine flow2 (r:=.int .i64 (1+(h:Int))) za_ rfl (.const _) (.inn rfl) rfl (fun ev W he e1 e2=>by have q:=HW1.o;go_simp) ?_;refine flow1 (r:=.pointer (some ⟨gu,1,none⟩)) za_ rfl (.out rfl rfl) rfl (fun ev W he e1=>by go_simp) ?_;refine flow1h (r:=.int .i64 ms) za_ rfl (.inn rfl) rfl (fun ev W he hW e1=>by
    have hk:=HU2.o.keep (HHW.o W hW);have q1:=hk.cell 1;clear hW hk;go_simp) ?_;refine flow2 (r:=.int .i64 N) za_ rfl (.inn rfl) (.inn rfl) rfl (fun ev W he e1 e2=>by have q:=HW2.o;go_simp) ?_;refine flow_assign za_ rfl (zc_ _) (.inr (zc_ _)) rfl ?_;intro vs W hW hF;have e2:vs 2=.int .i64 N:=hF 2 _ rfl rfl;have HCW:=hQ_ (HC2.o.trans (HHW.o W hW));simp only[zW_,Act.put,List.setIfInBounds_toArray,List.set_cons_zero,List.set_cons_succ];rw[e2];clear hF hW e2;obtain⟨wz,hwz⟩:∃wz:World,wz=W:=⟨_,rfl⟩;rw[<-hwz]at HCW⊢;clear hwz;go_wp2_with fail;go_ret;exact⟨rfl,HCW.o⟩
 · obtain rfl:N=0:=(by rw[HN.o];unfold xj_;rw[if_neg hE]);have hd:(E==0)=false:=(by simpa using hE);clear hE HN hms;go_wp2_with (
    go_at_call 10;refine(HT.o _ HC1.o (HP.o.here HC1.o)).mono ?_;rintro e w2 ⟨rfl,hc2⟩;have HC2:=hQ_ (HC1.o.trans hc2);clear hc2);go_ret;exact⟨rfl,HC2.o⟩
end
end
section
open Go.RowKit
def k8_ (w:World)(cs:List (Nat×List UInt8))(r:Int)(e:Ending)(w':World):Prop :=
 ∃v ls,e=.returned (.tuple #[v,.int .i64 r])/\w'.ownsRow w.heap.size 123 2 v ls.length (xY_ ls)/\(∀a∈ls,RMade w' w.heap.size a)/\qx_ ls cs/\Chg [] w w'
theorem k8_.no {w w':World}{r:Int}(hc:Chg [] w w'):k8_ w [] r (.returned (.tuple #[.slice none 0 0,.int .i64 r])) w':=⟨_,[],rfl,World.ownsRow_nil _ _ _ _,by simp,rfl,hc⟩
def gv_ (T:List UInt8)(E pg ms pages:Int):List (Nat×List UInt8)×Int :=
 if E≠0 then ([],E) else if pages<xj_ T E ms\/64<pages then ([],25) else (qD_ T pg.toNat,0)
theorem zey (m n:Nat):(bts (zm_ m)).drop n=bts (zm_ (m-n)):=by
 unfold bts zm_;rw[List.map_replicate,List.drop_replicate,List.map_replicate]
theorem zgI {P:Program}{ops:Array Oper}{rest:List Oper}{o:Oper}{a:Act}{w w':World}{Q:Exit->Act->World->Prop}{v u x:Value}(hgd:o.guard=none)(d s:Operand)(t t':TypeId)
    (ho:o.op=.call { callee:=.builtin .copy,args:=#[d,s],argTypes:=#[t,t'] }) (hd:a.eval d=v) (hs:a.eval s=u) (hr:(Builtin.copy_ #[t,t'] o.type #[v,u]).run P w=.ok x w') (h:wpList P ops Q rest (a.put o.dst x) w'):wpList P ops Q (o::rest) a w:=by
      refine wpList_plain hgd fun _ hK=>?_;unfold Oper.wp execOp;simp only[ho,resolve,invoke,builtin,Sem.run_bind,Sem.run_pure,Result.andThen_ok,List.map_toArray,List.map_cons,List.map_nil,hd,hs,hr];exact hK _ _ h
theorem RMade.moreP {w:World}{B0 B1:Nat}{a:ChV}(h:RMade w B0 a)(hB:B1<=B0):RMade w B1 a:=by
 obtain⟨g,r,hg,hb,hW⟩:=h.b;exact { h with b:=⟨g,r,hg,Nat.le_trans hB hb,hW⟩ }
theorem zfg (w:World)(B:Nat)(hB:B<=w.heap.size)(a:ChV):(w.alloc (.cells #[.int .i64 a.page,.slice a.bA a.bn a.bc] 123)).ownsRow B 123 2 (.slice (some ⟨w.heap.size,0,none⟩) 1 1) 1 (xY_ [a]) :=
 ⟨by simp[xY_,chC],.inr ⟨w.heap.size,1,#[.int .i64 a.page,.slice a.bA a.bn a.bc],rfl,hB,heap_alloc_new w _,Nat.le_refl _,by unfold maxLen;omega,by simp,by simp[xY_,chC]⟩⟩
theorem zhR (W:World):(Instr.makeSlice 39 (.int .i64 64) (.int .i64 64)).run Tryz.prog W=.ok (.slice (some ⟨W.heap.size,0,none⟩) 64 64) (W.alloc (.cells (bts (zm_ 64)).toArray 5)):=j1_ 64 (by omega) W
section
variable {w:World} {pg ms:Int} {A:Option Addr} {n c:Nat} {E:Int} {T:List UInt8}
theorem zhp (hT:zgf w pg ms A n c T E) (hTl:T.length<=2048) (hms:E=0->0<=pg/\pg<=ms/\ms<=64) (pages:Int) (hP:vG_ w.heap.size w):Calls Tryz.prog 42 #[.agg #[.int .i64 pg,.int .i64 ms,.slice A n c],.int .i64 pages] w (k8_ w (gv_ T E pg ms pages).1 (gv_ T E pg ms pages).2):=by
 obtain⟨i0,hi,hz0,hz1,hz2⟩:=info_parts vy_;have HT:=hQ_ hT;have HP:=hQ_ hP;have HND:=hQ_ (fun (W:World)(hc:Chg [] w W)(hp:vG_ W.heap.size W)=>qW_ (hT.keep hc) hTl (fun h=>⟨by have:=hms h;omega,(hms h).2.2⟩) hp);have HNO:=hQ_ (show ∀(r:Int)(wr:World),gv_ T E pg ms pages=([],r)->Chg [] w wr->k8_ w (gv_ T E pg ms pages).1 (gv_ T E pg ms pages).2 (.returned (.tuple #[.slice none 0 0,.int .i64 r])) wr from fun r wr h hc=>by rw[h];exact k8_.no hc);have HYES:=hQ_ (show ∀(v:Value)(ls:List ChV)(wr:World)(B:Nat),gv_ T E pg ms pages=(qD_ T pg.toNat,0)->w.heap.size<=B->wr.ownsRow B 123 2 v ls.length (xY_ ls)->(∀a∈ls,RMade wr B a)->qx_ ls (qD_ T pg.toNat)->Chg [] w wr->k8_ w (gv_ T E pg ms pages).1 (gv_ T E pg ms pages).2 (.returned (.tuple #[v,.int .i64 0])) wr from fun v ls wr B h hB h1 h2 h3 h4=>by rw[h];exact⟨v,ls,rfl,uT_ h1 hB,fun a ha=>(h2 a ha).moreP hB,h3,h4⟩);have HDEF:=hQ_ (show gv_ T E pg ms pages=if E≠0 then ([],E) else if pages<xj_ T E ms\/64<pages then ([],25) else (qD_ T pg.toNat,0) from rfl);clear hT hP;generalize gv_ T E pg ms pages=RP at HNO HYES HDEF⊢;generalize k8_ w RP.1 RP.2=PO at HNO HYES⊢;unfold zgf yt_ at HT;go_enter Tryz.func42,Tryz.ntmps42;go_upto_region 1 with fail;have hN:=zb_.new w 25 [.int .i64 pg,.int .i64 ms,.slice A n c];have hal:=(Chg.refl [] w).alloc (.cells #[.int .i64 pg,.int .i64 ms,.slice A n c] 25);have HU1:=hQ_ hN;have HC1:=hQ_ hal;clear hN hal;have HGW:=hQ_ (Nat.le_refl w.heap.size);obtain⟨gu,hgu⟩:∃gu,gu=w.heap.size:=⟨_,rfl⟩;rw[<-hgu]at HU1⊢;clear hgu;generalize w.alloc (.cells #[.int .i64 pg,.int .i64 ms,.slice A n c] 25)=w1 at HU1 HC1⊢;have u0:=HU1.o.cell 0;have u1:=HU1.o.cell 1;have u2:=HU1.o.cell 2;by_cases hE:E=0
 · subst hE;obtain⟨hp0,hpm,hm1⟩:=hms rfl;obtain⟨p,rfl⟩:∃p:Nat,pg=(p:Int):=⟨pg.toNat,by omega⟩;have hp64:p<=64:=(by omega);have hnz:xj_ T 0 ms=1+(zs_ T.length:Int)+ms:=(by unfold xj_;rw[if_pos rfl]);by_cases hbad:pages<xj_ T 0 ms\/64<pages
   · have HR:=hQ_ (show RP=([],25) from by rw[HDEF.o,if_neg (by simp),if_pos hbad]);generalize xj_ T 0 ms=N at HND hbad;clear hnz HDEF hTl hms;generalize zj_ T=S at HT;by_cases hb1:pages<N
     · clear hbad;go_wp2_with (first
        | (go_at_call 10;refine(HT.o _ HC1.o (HP.o.here HC1.o)).mono ?_;rintro e w2 ⟨rfl,hc2⟩;have HC2:=hQ_ (HC1.o.trans hc2);have HU2:=hQ_ (HU1.o.keep hc2);have v0:=HU2.o.cell 0;have v1:=HU2.o.cell 1;have v2:=HU2.o.cell 2;clear hc2)
        | (go_at_call 77;refine(HND.o _ HC2.o (HP.o.here HC2.o)).mono ?_;rintro e w3 ⟨rfl,hc3⟩;have HC3:=hQ_ (HC2.o.trans hc3);clear hc3));exact HNO.o 25 _ HR.o HC3.o
     · have hb2:64<pages:=(by omega);clear hbad;go_wp2_with (first
        | (go_at_call 10;refine(HT.o _ HC1.o (HP.o.here HC1.o)).mono ?_;rintro e w2 ⟨rfl,hc2⟩;have HC2:=hQ_ (HC1.o.trans hc2);have HU2:=hQ_ (HU1.o.keep hc2);have v0:=HU2.o.cell 0;have v1:=HU2.o.cell 1;have v2:=HU2.o.cell 2;clear hc2)
        | (go_at_call 77;refine(HND.o _ HC2.o (HP.o.here HC2.o)).mono ?_;rintro e w3 ⟨rfl,hc3⟩;have HC3:=hQ_ (HC2.o.trans hc3);clear hc3));exact HNO.o 25 _ HR.o HC3.o
   · have HR:=hQ_ (show RP=(qD_ T p,0) from by rw[HDEF.o,if_neg (by simp),if_neg hbad];rfl);obtain⟨hb1,hb2⟩:¬pages<xj_ T 0 ms/\¬64<pages:=(by omega);obtain⟨h,hh⟩:∃h,h=zs_ T.length:=⟨_,rfl⟩;have hh33:h<=33:=(by rw[hh];unfold zs_;omega);have HPG:=hQ_ (fun (W:World)=>uD_ T (by omega) W);have HCS:=hQ_ (show qD_ T p=[(0,yE_ T.length p)]++plT T h++plM (1+h) p from by rw[hh];rfl);have HHT:=hQ_ (show T.length<=h*64/\(0<h->(h-1)*64<=T.length) from by rw[hh];unfold zs_;omega);rw[<-hh]at HPG;clear hh hbad HDEF hnz hms;generalize xj_ T 0 ms=N at HND hb1;have HMT:=hQ_ (fun (W:World)=>zdF (w:=W) T.length p (by omega) (by omega));have hsz:(zj_ T).size=T.length:=zL_ T;obtain⟨S,hS⟩:∃S,S=zj_ T:=⟨_,rfl⟩;rw[<-hS]at HT hsz HPG;have HS:=hQ_ hS;clear hS;obtain⟨nT,hnT⟩:∃nT,nT=T.length:=⟨_,rfl⟩;have HNT:=hQ_ hnT;rw[<-hnT]at hsz hTl HMT HCS HHT;clear hnT
     -- the Meta
     go_upto_region 7 with(first
      | (go_at_call 10;refine(HT.o _ HC1.o (HP.o.here HC1.o)).mono ?_;rintro e w2 ⟨rfl,hc2⟩;have HC2:=hQ_ (HC1.o.trans hc2);have HU2:=hQ_ (HU1.o.keep hc2);have v0:=HU2.o.cell 0;have v1:=HU2.o.cell 1;have v2:=HU2.o.cell 2;clear hc2)
      | (go_at_call 77;refine(HND.o _ HC2.o (HP.o.here HC2.o)).mono ?_;rintro e w3 ⟨rfl,hc3⟩;have HC3:=hQ_ (HC2.o.trans hc3);have HU3:=hQ_ (HU2.o.keep hc3);have x0:=HU3.o.cell 0;clear hc3)
      | (go_at_call 58;refine(HMT.o _).mono ?_;rintro e w4 ⟨v4,rfl,ho4,hc4⟩;rw[u0_]at ho4;obtain⟨g4,r4,rfl,hg4,hW4,hm4⟩:=jU_ ho4 (by omega);have HW4:=hQ_ hW4;have HM4:=hQ_ hm4;have HG4:=hQ_ (Nat.le_trans HC3.o.size hg4);have HC4:=hQ_ (HC3.o.trans hc4);have HU4:=hQ_ (HU3.o.keep hc4);clear hc4 ho4 hW4 hm4 hg4));clear u0 u1 u2 v0 v1 v2 x0;obtain⟨c4,hc4⟩:∃c4,c4=64+r4.length:=⟨_,rfl⟩;have HC4C:=hQ_ hc4;rw[<-hc4]at HM4⊢;clear hc4;have hal:=(Chg.refl [] w4).alloc (.cells #[.int .i64 0,.slice (some ⟨g4,0,none⟩) 64 c4] 123);have HOA:=hQ_ (zfg w4 w.heap.size HC4.o.size ⟨0,some ⟨g4,0,none⟩,64,c4,yE_ nT p⟩);have HRA:=hQ_ (show ∀a∈[(⟨0,some ⟨g4,0,none⟩,64,c4,yE_ nT p⟩:ChV)],RMade (w4.alloc (.cells #[.int .i64 0,.slice (some ⟨g4,0,none⟩) 64 c4] 123)) w.heap.size a from fun a ha=>by
      rw[List.mem_singleton]at ha;subst ha;have hm:=HM4.o;unfold maxLen at hm;exact⟨⟨g4,r4,rfl,HG4.o,HW4.o.keep hal,HC4C.o,by rw[<-HC4C.o];exact hm⟩,u0_ _ _,rfl,by simp only;omega⟩);have HU5:=hQ_ (HU4.o.keep hal);have HC5:=hQ_ (HC4.o.trans hal);clear hal;generalize w4.heap.size=g5 at HOA⊢;generalize w4.alloc (.cells #[.int .i64 0,.slice (some ⟨g4,0,none⟩) 64 c4] 123)=w5 at HOA HRA HU5 HC5⊢;have HS0:=hQ_ (show qx_ [(⟨0,some ⟨g4,0,none⟩,64,c4,yE_ nT p⟩:ChV)] ([(0,yE_ nT p)]++plT T 0) from rfl);generalize [(⟨0,some ⟨g4,0,none⟩,64,c4,yE_ nT p⟩:ChV)]=ls0 at HOA HRA HS0;have hl0:ls0.length=1:=(by have:=HS0.o.len;simpa[plT] using this);have HL0:=hQ_ hl0;clear hl0 HW4 HM4 HG4 HC4C HC4 HU4 HC3 HC2 HU2 HU3;go_wp2_with (
      go_at_call 78;refine(HPG.o _).mono ?_;rintro e wq ⟨rfl,rfl⟩);go_loopw [8,38] (fun v i wr=>∃(k:Nat)(ls:List ChV)(A':Option Addr)(c':Nat),k<=h/\i=.int .i64 (k:Int)/\v=.slice A' (1+k) c'/\Hid (ls.length=1+k)/\Hid (wr.ownsRow w.heap.size 123 2 (.slice A' (1+k) c') (1+k) (xY_ ls))/\Hid (∀a∈ls,RMade wr w.heap.size a)/\Hid (qx_ ls ([(0,yE_ nT p)]++plT T k))/\Hid (zb_ wr gu 25 [.int .i64 (p:Int),.int .i64 ms,.slice A n c])/\Hid (Chg [] w wr)) (fun _ i _=>h-(intOf i).toNat);(case atStart=>exact⟨0,ls0,some ⟨g5,0,none⟩,1,by omega,rfl,rfl,HL0,HOA,HRA,HS0,HU5,HC5⟩);case round =>
      clear HOA HRA HS0 HU5 HC5 HL0;obtain⟨k,ls,A',c',hk,rfl,rfl,HLS,HOR,HRR,HSR,HUR,HCr⟩:=hrel;by_cases hkh:k<h
      · have hkI:(k:Int)<(h:Int):=(by omega);have hk64:k*64<=S.size:=(by
         have h1:=HHT.o.2 (by omega);have h2:k*64<=(h-1)*64:=Nat.mul_le_mul_right 64 (by omega);omega);have hex:S.extract (k*64) nT=zj_ (T.drop (k*64)):=(by rw[<-hsz,HS.o];exact zeP T (k*64));have HEX:=hQ_ hex;have hN:=zb_.new wr 5 (bts (zm_ 64));have hal:=(Chg.refl [] wr).alloc (.cells (bts (zm_ 64)).toArray 5);obtain⟨w6,hcp,hW6,hc6⟩:=gt_ (P:=Tryz.prog) (wr.alloc (.cells (bts (zm_ 64)).toArray 5)) 39 9 3 5 wr.heap.size 64 64 (T.drop (k*64)) _ 5 Tryz.underlying39 xB_ hN (by rw[zg_,zE_]);have HCP:=hQ_ hcp;have hc6':Chg [] wr w6:=hal.then_ hc6 (fun i hi hlt=>by rw[List.mem_singleton]at hi;subst hi;exact absurd hlt (Nat.lt_irrefl _));have HW6:=hQ_ (show zb_ w6 wr.heap.size 5 (bts (pgT T k)) from by
         have e:bts (pgT T k)=bts ((T.drop (k*64)).take 64)++(bts (zm_ 64)).drop ((T.drop (k*64)).take 64).length:=(by
          unfold pgT;rw[qk_,zey]);rw[e];exact hW6);have HB5:=hQ_ (HCr.o.size);have HC6:=hQ_ hc6';have HA6:=hQ_ hal;clear hN hal hcp hW6 hc6 hc6';obtain⟨g6,hg6⟩:∃g6,g6=wr.heap.size:=⟨_,rfl⟩;have hmk:(Instr.makeSlice 39 (.int .i64 64) (.int .i64 64)).run Tryz.prog wr=.ok (.slice (some ⟨g6,0,none⟩) 64 64) (wr.alloc (.cells (bts (zm_ 64)).toArray 5)):=(by rw[hg6];exact zhR wr);rw[<-hg6]at HW6 HB5 HCP;clear hg6;generalize wr.alloc (.cells (bts (zm_ 64)).toArray 5)=w55 at hmk HCP HA6;have HR6:=hQ_ (show ∀a∈ls,RMade w6 w.heap.size a from fun a ha=>(HRR.o a ha).chg HC6.o (by simp));have HO6:=hQ_ (zS_ HOR.o HC6.o (by simp));have HU6:=hQ_ (HUR.o.keep HC6.o);have HC7:=hQ_ (HCr.o.trans HC6.o);have hws:w.heap.size<=w6.heap.size:=HC7.o.size;have HALX:=hQ_ ((Chg.refl [] w6).alloc (.cells #[.int .i64 (1+(k:Int)),.slice (some ⟨g6,0,none⟩) 64 64] 123));have HOX:=hQ_ (zS_ HO6.o HALX.o (by simp));have hcpf:=HCP.o;rw[<-HEX.o]at hcpf;have HCPF:=hQ_ hcpf;clear hcpf;go_wp2_with (first
         | (with_reducible refine zgI (v:=.slice (some ⟨g6,0,none⟩) 64 64) (u:=.string (S.extract (k*64) nT)) rfl (.tmp 42) (.tmp 46) 39 9 rfl rfl rfl HCPF.o ?_)
         | (at_builtin;refine wpList_append_own _ rfl (.tmp 48) (.tmp 53) _ rfl w.heap.size 123 i0 _ 2 32 Tryz.underlying88 hi hz0 hz1 hz2 rfl (by decide) (.slice A' (1+k) c') (1+k) (xY_ ls) rfl HOX.o ⟨w6.heap.size,0,none⟩ 1 1 [.int .i64 (1+(k:Int)),.slice (some ⟨g6,0,none⟩) 64 64] rfl rfl ?c1 ?c2 ?c3 ?c4 ?c5 ?_;(case c1=>exact zK_ _ _ _);(case c2=>simp[Value.oneCell']);(case c3=>simp only[maxLen];omega);(case c4=>omega);(case c5=>simp;omega);intro v' w8 hown' hg' _));obtain⟨A8,c8,rfl,_⟩:=zh_ hown';have HO8:=hQ_ hown';have HU8:=hQ_ (zn_ (HU6.o.keep HALX.o) HOX.o (by decide) hg');have HC8:=hQ_ (xD_ (HC7.o.trans HALX.o) hg' (fun g hg=>(HOX.o.lt g hg).1));have HR8:=hQ_ (show ∀a∈ls++[(⟨((1+k:Nat):Int),some ⟨g6,0,none⟩,64,64,pgT T k⟩:ChV)],RMade w8 w.heap.size a from fun a ha=>by
         rcases List.mem_append.1 ha with h|h
         · exact((HR6.o a h).chg HALX.o (by simp)).grown HOX.o hg'
         · simp only[List.mem_cons,List.not_mem_nil,or_false]at h;subst h;exact((MadeCh.rmade ⟨⟨g6,rfl,HB5.o,HW6.o⟩,zhr _ _,rfl,rfl,by simp only;omega⟩).chg HALX.o (by simp)).grown HOX.o hg');clear hown' hg';go_roundw;case rel =>
         refine⟨k+1,ls++[(⟨((1+k:Nat):Int),some ⟨g6,0,none⟩,64,64,pgT T k⟩:ChV)],A8,c8,by omega,by go_num,rfl,hQ_ (by rw[List.length_append,HLS.o];rfl),hQ_ ?_,HR8,hQ_ ?_,HU8,HC8⟩
         · rw[ui_,kg_];have:=HO8.o;rw[show(1:Int)+(k:Int)=((1+k:Nat):Int) by omega]at this;exact this
         · rw[plT,<-List.append_assoc];exact HSR.o.snoc (a:=⟨((1+k:Nat):Int),some ⟨g6,0,none⟩,64,64,pgT T k⟩) rfl
        case measure=>simp[intOf];omega
      · have hkI:¬(k:Int)<(h:Int):=(by omega);obtain rfl:h=k:=(by omega);have u0:=HUR.o.cell 0;clear hkI hkh hk;go_wp2_with (
         go_at_call 78;refine(HPG.o _).mono ?_;rintro e wq ⟨rfl,rfl⟩);clear u0;obtain⟨q1,hq1⟩:∃q1,q1=1+h:=⟨_,rfl⟩;have HQ1:=hQ_ hq1;rw[<-hq1]at HLS HOR⊢;clear hq1;have HSR2:=hQ_ (show qx_ ls ([(0,yE_ nT p)]++plT T h++plM (1+h) 0) from by have:=HSR.o;simpa[plM] using this);go_loopw [8,61] (fun v i wr=>∃(j:Nat)(ls:List ChV)(A':Option Addr)(c':Nat),j<=p/\i=.int .i64 (j:Int)/\v=.slice A' (q1+j) c'/\Hid (ls.length=q1+j)/\Hid (wr.ownsRow w.heap.size 123 2 (.slice A' (q1+j) c') (q1+j) (xY_ ls))/\Hid (∀a∈ls,RMade wr w.heap.size a)/\Hid (qx_ ls ([(0,yE_ nT p)]++plT T h++plM (1+h) j))/\Hid (Chg [] w wr)) (fun _ i _=>p-(intOf i).toNat);(case atStart=>exact⟨0,ls,A',c',by omega,rfl,rfl,HLS,HOR,HRR,HSR2,HCr⟩);case round =>
         clear HLS HOR HRR HSR HSR2 HCr HUR;obtain⟨j,ls,A',c',hj,rfl,rfl,HLS,HOR,HRR,HSR,HCr⟩:=hrel;by_cases hjp:j<p
         · have hjI:(j:Int)<(p:Int):=(by omega);have hq34:q1<=34:=(by have:=HQ1.o;omega);have hN:=zb_.new wr 5 (bts (zm_ 64));have hal:=(Chg.refl [] wr).alloc (.cells (bts (zm_ 64)).toArray 5);have hmk0:=zhR wr;obtain⟨g6,hg6⟩:∃g6,g6=wr.heap.size:=⟨_,rfl⟩;have HB5:=hQ_ (HCr.o.size);rw[<-hg6]at hN hmk0 HB5;clear hg6;obtain⟨w6,hw6⟩:∃w6,w6=wr.alloc (.cells (bts (zm_ 64)).toArray 5):=⟨_,rfl⟩;rw[<-hw6]at hN hal hmk0;have HW6:=hQ_ hN;have HC6:=hQ_ hal;clear hN hal hw6;have HR6:=hQ_ (show ∀a∈ls,RMade w6 w.heap.size a from fun a ha=>(HRR.o a ha).chg HC6.o (by simp));have HO6:=hQ_ (zS_ HOR.o HC6.o (by simp));have HC7:=hQ_ (HCr.o.trans HC6.o);have hws:w.heap.size<=w6.heap.size:=HC7.o.size;have HALX:=hQ_ ((Chg.refl [] w6).alloc (.cells #[.int .i64 (1+(h:Int)+(j:Int)),.slice (some ⟨g6,0,none⟩) 64 64] 123));have HOX:=hQ_ (zS_ HO6.o HALX.o (by simp));go_wp2_with (first
            | (at_builtin;refine wpList_append_own _ rfl (.tmp 64) (.tmp 70) _ rfl w.heap.size 123 i0 _ 2 32 Tryz.underlying88 hi hz0 hz1 hz2 rfl (by decide) (.slice A' (q1+j) c') (q1+j) (xY_ ls) rfl HOX.o ⟨w6.heap.size,0,none⟩ 1 1 [.int .i64 (1+(h:Int)+(j:Int)),.slice (some ⟨g6,0,none⟩) 64 64] rfl rfl ?c1 ?c2 ?c3 ?c4 ?c5 ?_;(case c1=>exact zK_ _ _ _);(case c2=>simp[Value.oneCell']);(case c3=>simp only[maxLen];omega);(case c4=>omega);(case c5=>simp;omega);intro v' w8 hown' hg' _));obtain⟨A8,c8,rfl,_⟩:=zh_ hown';have HO8:=hQ_ hown';have HC8:=hQ_ (xD_ (HC7.o.trans HALX.o) hg' (fun g hg=>(HOX.o.lt g hg).1));have HR8:=hQ_ (show ∀a∈ls++[(⟨((1+h+j:Nat):Int),some ⟨g6,0,none⟩,64,64,zm_ 64⟩:ChV)],RMade w8 w.heap.size a from fun a ha=>by
            rcases List.mem_append.1 ha with h|h
            · exact((HR6.o a h).chg HALX.o (by simp)).grown HOX.o hg'
            · simp only[List.mem_cons,List.not_mem_nil,or_false]at h;subst h;exact((MadeCh.rmade ⟨⟨g6,rfl,HB5.o,HW6.o⟩,by rw[zE_],rfl,rfl,by simp only;omega⟩).chg HALX.o (by simp)).grown HOX.o hg');clear hown' hg';go_roundw;case rel =>
            refine⟨j+1,ls++[(⟨((1+h+j:Nat):Int),some ⟨g6,0,none⟩,64,64,zm_ 64⟩:ChV)],A8,c8,by omega,by go_num,rfl,hQ_ (by rw[List.length_append,HLS.o];rfl),hQ_ ?_,HR8,hQ_ ?_,HC8⟩
            · rw[ui_,kg_];have:=HO8.o;rw[show(1:Int)+(h:Int)+(j:Int)=((1+h+j:Nat):Int) by omega]at this;exact this
            · rw[plM,<-List.append_assoc];exact HSR.o.snoc (a:=⟨((1+h+j:Nat):Int),some ⟨g6,0,none⟩,64,64,zm_ 64⟩) rfl
           case measure=>simp[intOf];omega
         · have hjI:¬(j:Int)<(p:Int):=(by omega);obtain rfl:p=j:=(by omega);have HF:=hQ_ (HYES.o (.slice A' (q1+p) c') ls wr w.heap.size (by rw[HR.o];rfl) (Nat.le_refl _) (by rw[HLS.o];exact HOR.o) HRR.o (by
            show qx_ ls (qD_ T p);rw[HCS.o];exact HSR.o) HCr.o);go_wp2_with fail;exact HF.o
 · have hd:(E==0)=false:=(by simpa using hE);have HR:=hQ_ (show RP=([],E) from by rw[HDEF.o,if_pos hE]);generalize zj_ T=S at HT;clear hE HDEF hms hTl;go_wp2_with (
    go_at_call 10;refine(HT.o _ HC1.o (HP.o.here HC1.o)).mono ?_;rintro e w2 ⟨rfl,hc2⟩;have HC2:=hQ_ (HC1.o.trans hc2);clear hc2);exact HNO.o E _ HR.o HC2.o
end
end
section
open Go.RowKit
theorem yH_ {fn:Func}{p a b c:Tmp}{ty:TypeId}(h:fn.results=#[.cell p ty,.tmp a,.tmp b,.tmp c])(tmps:Array Value)(w:World)(g:Nat)(t:TypeId)(cs:List Value)(fs:Array Field)
    (hp:tmps.getD p undef=.pointer (some ⟨g,0,none⟩)) (hg:zb_ w g t cs) (hu:Tryz.prog.underlying ty=some (.struct fs)) (hi:(Tryz.prog.info? ty).map (·.size)=some cs.toArray.size) :
    (results fn tmps).run Tryz.prog w=.ok (.tuple #[.agg cs.toArray,tmps.getD a undef,tmps.getD b undef,tmps.getD c undef]) w:=by
      have hp':tmps[p]?.getD undef=.pointer (some ⟨g,0,none⟩):=(by simpa using hp);unfold results;simp[h,hp',asAddr,run_loadVar_row w g t ty cs.toArray (0,0) (.struct fs) hg hu rfl hi]
end
section
open Go.RowKit
structure Pgs (W:World) (A:Option Addr) (n c:Nat) (ys:List Value) (zs:List (List UInt8)):Prop where
  len:ys.length=n
  src:Src W A ys
  ls:zgd W ys zs
  cap:n<=c
  max:c<=9223372036854775807
  spot:0<n->∀ad,A=some ad->ad.spot=none
theorem Pgs.keep {W W':World}{A:Option Addr}{n c:Nat}{ys:List Value}{zs:List (List UInt8)}(h:Pgs W A n c ys zs)(hc:Chg [] W W'):Pgs W' A n c ys zs:=⟨h.len,h.src.keep hc,h.ls.keep hc,h.cap,h.max,h.spot⟩
theorem Pgs.zlen {W:World}{A:Option Addr}{n c:Nat}{ys:List Value}{zs:List (List UInt8)}(h:Pgs W A n c ys zs):zs.length=n:=by rw[<-h.ls.1,h.len]
theorem Pgs.form {W:World}{A:Option Addr}{n c:Nat}{ys:List Value}{zs:List (List UInt8)}(h:Pgs W A n c ys zs)(hn:0<n):∃b o,A=some ⟨b,o,none⟩/\b<W.heap.size/\∀i y,ys[i]?=some y->W.cell? ⟨b,o+i,none⟩=some y:=by
 obtain⟨⟨b,o,s⟩,e,hb,hx⟩:=h.src (by rw[h.len];exact hn);obtain rfl:s=none:=h.spot hn _ e;refine⟨b,o,e,hb,fun i y hy=>?_⟩;have:=hx i y hy;rwa[zl_]at this
theorem Pgs.at_ {W:World}{A:Option Addr}{n c i:Nat}{ys:List Value}{zs:List (List UInt8)}{z:List UInt8}(h:Pgs W A n c ys zs)(hz:zs[i]?=some z):∃y B m d,ys[i]?=some y/\y=.slice B m d/\Bs W B m d z:=by
 have hi:i<ys.length:=by rw[h.ls.1];exact(List.getElem?_eq_some_iff.1 hz).1
 obtain⟨B,m,d,e,hB⟩:=h.ls.2 i ys[i] z (List.getElem?_eq_getElem hi) hz;exact⟨_,B,m,d,List.getElem?_eq_getElem hi,e,hB⟩
theorem Pgs.part {W:World}{b o n c:Nat}{ys:List Value}{zs:List (List UInt8)}(h:Pgs W (some ⟨b,o,none⟩) n c ys zs){lo k:Nat}(hk:lo+k<=n)(hn:0<n):Pgs W (some ⟨b,o+lo,none⟩) k (c-lo) ((ys.drop lo).take k) ((zs.drop lo).take k):=by
 have hl:=h.len;have hc:=h.cap;have hm:=h.max;obtain⟨b',o',e,hb,hx⟩:=h.form hn;injection e with e;injection e with e1 e2;subst e1;subst e2;refine⟨by rw[List.length_take,List.length_drop];omega,fun _=>⟨_,rfl,hb,fun i y hy=>?_⟩,⟨by rw[List.length_take,List.length_take,List.length_drop,List.length_drop,h.ls.1],fun i v X hv hX=>?_⟩,by omega,by omega,fun _ ad e=>by injection e with e;subst e;rfl⟩
 · rw[zl_];rw[List.getElem?_take]at hy;split at hy
   · rw[List.getElem?_drop]at hy;have:=hx (lo+i) y hy;rw[show o+lo+i=o+(lo+i) from by omega];exact this
   · cases hy
 · rw[List.getElem?_take]at hv hX;split at hv
   · rename_i hik;rw[if_pos hik]at hX;rw[List.getElem?_drop]at hv hX;exact h.ls.2 (lo+i) v X hv hX
   · cases hv
theorem Pgs.cut {W:World}{A:Option Addr}{n c:Nat}{ys:List Value}{zs:List (List UInt8)}(h:Pgs W A n c ys zs){lo k:Nat}(hk:lo+k<=n):Pgs W (if c=lo then A else A.map (·.add lo)) k (c-lo) ((ys.drop lo).take k) ((zs.drop lo).take k):=by
 have hc:=h.cap;have hm:=h.max;rcases Nat.eq_zero_or_pos k with h0|h0
 · subst h0;exact⟨by simp,fun hp=>absurd hp (by simp),⟨by simp,fun i v X hv=>by simp at hv⟩,by omega,by omega,fun hp=>absurd hp (by omega)⟩
 · obtain⟨b,o,rfl,_,_⟩:=h.form (by omega);rw[if_neg (by omega),Option.map_some,zl_];exact h.part hk (by omega)
theorem zfo (ls:List (List UInt8)):Lib.join ls []=ls.flatten:=by
 cases ls with
 | nil=>rfl
 | cons x r =>
   rw[Lib.join_cons];unfold Lib.joinTail;simp
theorem zcr (zs:List (List UInt8))(h:∀z∈zs,z.length=64):Lib.lens zs=64*zs.length/\zs.flatten.length=64*zs.length:=by
 induction zs with
 | nil=>exact⟨rfl,rfl⟩
 | cons z zs ih =>
   have hz:=h z (by simp);obtain⟨h1,h2⟩:=ih (fun x hx=>h x (by simp[hx]));refine⟨?_,?_⟩
   · have:Lib.lens (z::zs)=z.length+Lib.lens zs:=Lib.lens_cons z zs;rw[this,hz,h1,List.length_cons];omega
   · rw[List.flatten_cons,List.length_append,hz,h2,List.length_cons];omega
theorem zlU {W:World}{A:Option Addr}{n c:Nat}{l:List UInt8}(h:Bs W A n c l):Lib.HoldsBytes W (.slice A n c) l:=by
 refine⟨A,c,by rw[h.len],fun e=>?_,fun a e i x hx=>?_⟩
 · cases l with
   | nil=>rfl
   | cons b l =>
     obtain⟨ad,e2,_⟩:=h.src (by simp[bts]);rw[e]at e2;cases e2
 · have hil:=(List.getElem?_eq_some_iff.1 hx).1;obtain⟨ad,e2,_,hc⟩:=h.src (by rw[zg_];omega);rw[e]at e2;injection e2 with e2;subst e2;exact hc i _ (by unfold bts;rw[List.getElem?_map,hx];rfl)
theorem zly {B:Nat}{W:World}{v:Value}{l:List UInt8}(h:Lib.FreshBytes B W v l)(hW:∀g cap,v=.slice (some ⟨g,0,none⟩) l.length cap->0<cap->g<W.heap.size):∃g c,v=.slice (some ⟨g,0,none⟩) l.length c/\B<=g/\Bs W (some ⟨g,0,none⟩) l.length c l:=by
 obtain⟨g,cap,zs,rfl,hB,hlc,hcm,hzl,hr,hb,hcell,_⟩:=h;refine⟨g,cap,rfl,hB,rfl,fun hp=>?_,hlc,by unfold maxLen at hcm;omega,fun _ ad e=>by injection e with e;subst e;rfl⟩;rw[zg_]at hp;refine⟨_,rfl,hW g cap rfl (by omega),fun j u hj=>?_⟩;rw[zl_,Nat.zero_add];have hjl:j<l.length:=by have:=(List.getElem?_eq_some_iff.1 hj).1;rwa[zg_]at this
 rw[hcell j (by omega)];have h2:(Lib.bytesOf (zs.take l.length))[j]?=some (UInt8.ofNat (zs.getD j 0).toNat):=by
  unfold Lib.bytesOf;rw[List.getElem?_map,List.getElem?_take,if_pos hjl,List.getElem?_eq_getElem (by omega),Option.map_some,List.getD_eq_getElem?_getD,List.getElem?_eq_getElem (by omega),Option.getD_some]
 rw[hb]at h2;unfold bts at hj;rw[List.getElem?_map,h2,Option.map_some]at hj;rw[<-hj];have hm:=hr (zs.getD j 0) (by rw[List.getD_eq_getElem?_getD,List.getElem?_eq_getElem (by omega),Option.getD_some];exact List.getElem_mem _);unfold B8;have e3:((UInt8.ofNat (zs.getD j 0).toNat).toNat:Int)=zs.getD j 0:=by
  rw[UInt8.toNat_ofNat'];omega
 rw[e3]
def zmM (l:List UInt8)(w:World)(e:Ending)(w':World):Prop:=∃A c,e=.returned (.slice A l.length c)/\Bs w' A l.length c l/\Chg [] w w'/\(∀ad,A=some ad->w.heap.size<=ad.block)
theorem zlx {W:World}{g:Nat}{x:Value}(h:W.cell? ⟨g,0,none⟩=some x):g<W.heap.size:=by
 unfold World.cell? at h;rcases Nat.lt_or_ge g W.heap.size with hlt|hge
 · exact hlt
 · simp only[Array.getElem?_eq_none hge]at h;cases h
theorem qX_ {w:World}{A:Option Addr}{n c:Nat}{ys:List Value}{zs:List (List UInt8)}(h:Pgs w A n c ys zs)(h64:∀z∈zs,z.length=64)(hn:n<=100000):Calls Tryz.prog 87 #[.slice A n c,.slice none 0 0] w (zmM zs.flatten w):=by
 have hzl:=h.zlen;obtain⟨hl1,hl2⟩:=zcr zs h64;have hfr:∀{B:Nat}{w':World}{v:Value}{l:List UInt8},Lib.FreshBytes B w' v l->∃g c,v=.slice (some ⟨g,0,none⟩) l.length c/\B<=g/\Bs w' (some ⟨g,0,none⟩) l.length c l:=fun hf=>zly hf (fun g cap e hc0=>by
  obtain⟨g',cap',zs',e',_,_,_,_,_,_,hcell,_⟩:=hf;rw[e]at e';injection e' with e1 _ e2;injection e1 with e1;injection e1 with e1;subst e1;subst e2;exact zlx (hcell 0 hc0));rcases Nat.lt_or_ge n 2 with h2|h2
 · rcases Nat.lt_or_ge n 1 with h1|h1
   · obtain rfl:n=0:=(by omega);obtain rfl:zs=[]:=List.length_eq_zero_iff.1 hzl;refine(Tryz.bytes_Join_none A c (.slice none 0 0) w).mono ?_;rintro e w' ⟨rfl,rfl⟩;exact⟨_,_,rfl,⟨rfl,fun hp=>absurd hp (by simp[bts]),Nat.le_refl _,by omega,fun h0=>absurd h0 (by omega)⟩,(Chg.refl [] w).alloc _,fun ad e=>by injection e with e;subst e;exact Nat.le_refl _⟩
   · obtain rfl:n=1:=(by omega);obtain⟨z,rfl⟩:=List.length_eq_one_iff.1 hzl;obtain⟨b,o,rfl,_,hx⟩:=h.form (by omega);obtain⟨y,B,m,d,hy,rfl,hB⟩:=h.at_ (i:=0) (z:=z) rfl;have hz64:=h64 z (by simp);have hm:m=z.length:=hB.len.symm;subst hm;obtain⟨ad,rfl,_,hc⟩:=hB.src (by rw[zg_];omega);have hc0:=hx 0 _ hy;rw[Nat.add_zero]at hc0;refine(Tryz.bytes_Join_one b o c ad d z (.slice none 0 0) w hc0 (fun i x hxi=>hc i _ (by unfold bts;rw[List.getElem?_map,hxi];rfl)) (by omega) (by omega)).mono ?_;rintro e w' ⟨v',rfl,hf,hbel⟩;obtain⟨g,c',rfl,hgB,hbs⟩:=hfr hf;rw[show[z].flatten=z from by simp];exact⟨_,_,rfl,hbs,Chg.of_below hbel,fun ad e=>by injection e with e;subst e;exact hgB⟩
 · obtain⟨b,o,rfl,_,hx⟩:=h.form (by omega);have hP:Lib.PartsAt w ⟨b,o,none⟩ ys zs:=⟨h.ls.1,fun i v hv=>by rw[zl_];exact hx i v hv,fun i v l hv hl=>by
    obtain⟨B,m,d,e,hB⟩:=h.ls.2 i v l hv hl;rw[e];exact zlU hB⟩;have hS:Lib.HoldsBytes w (.slice none 0 0) []:=⟨none,0,rfl,fun _=>rfl,fun a e=>by cases e⟩;refine(Tryz.bytes_Join_many b o n c ys zs (.slice none 0 0) [] w hzl h2 hP h.cap hS (by omega) (by rw[hl1,hzl];simp;omega)).mono ?_;rintro e w' ⟨v',rfl,hf,hbel⟩;rw[zfo]at hf;obtain⟨g,c',rfl,hgB,hbs⟩:=hfr hf;exact⟨_,_,rfl,hbs,Chg.of_below hbel,fun ad e=>by injection e with e;subst e;exact hgB⟩
end
section
open Go.RowKit
def xv_ (zs:List (List UInt8))(T:List UInt8)(p:Nat):Prop :=
 (∀z∈zs,z.length=64)/\∃z r,zs=z::r/\uu_ z/\zz_ z 8=p/\1+zs_ (zz_ z 4)<=zs.length/\T=((r.take (zs_ (zz_ z 4))).flatten).take (zz_ z 4)/\(∀b∈((r.take (zs_ (zz_ z 4))).flatten).drop (zz_ z 4),b=0)
def zbK (zs:List (List UInt8))(w:World)(e:Ending)(w':World):Prop :=
 (∃T p,xv_ zs T p/\e=.returned (.tuple #[.string (zj_ T),.int .i64 ((p:Nat):Int),.bool true])/\Chg [] w w') \/
 ((¬∃T p,xv_ zs T p)/\e=.returned (.tuple #[.string ⟨#[]⟩,.int .i64 0,.bool false])/\Chg [] w w')
theorem zbD {x:UInt8}:((x.toNat:Int)=0)↔x=0:=by
 constructor
 · intro h;apply UInt8.toNat_inj.1;have:x.toNat=0:=(by omega);rw[this];rfl
 · intro h;subst h;rfl
section
variable {w:World} {A:Option Addr} {n c:Nat} {ys:List Value} {zs:List (List UInt8)}
theorem zfd (h:Pgs w A n c ys zs) (hn:n<=100000):Calls Tryz.prog 85 #[.slice A n c] w (zbK zs w):=by
 have HPG:=hQ_ h;have HZL:=hQ_ h.zlen;have hcap:=h.cap;have HNO:=hQ_ (show ∀w',(¬∃T p,xv_ zs T p)->Chg [] w w'->zbK zs w (.returned (.tuple #[.string ⟨#[]⟩,.int .i64 0,.bool false])) w' from fun w' h1 hc=>.inr ⟨h1,rfl,hc⟩);have HYES:=hQ_ (show ∀w' (T:List UInt8) (p:Nat),xv_ zs T p->Chg [] w w'->zbK zs w (.returned (.tuple #[.string (zj_ T),.int .i64 ((p:Nat):Int),.bool true])) w' from fun w' T p h1 hc=>.inl ⟨T,p,h1,rfl,hc⟩);generalize zbK zs w=PO at HNO HYES⊢;clear h;go_enter Tryz.func85,Tryz.ntmps85;go_wp2_with fail;go_loopw [15] (fun i wr=>∃k:Nat,i=.int .i64 (k:Int)/\k<=n/\Hid (∀z∈zs.take k,z.length=64)/\wr=w) (fun i _=>n-(intOf i).toNat);case atStart=>exact⟨0,rfl,by omega,hQ_ (by simp),rfl⟩
 case round =>
  obtain⟨k,rfl,hk,HZ,hwr⟩:=hrel;subst hwr;by_cases hkn:k<n
  · have hkI:(k:Int)<(n:Int):=(by omega);obtain⟨z,hz⟩:∃z,zs[k]?=some z:=⟨zs[k]'(by rw[HZL.o];exact hkn),by simp⟩;obtain⟨y,B,m,d,hy,rfl,hB⟩:=HPG.o.at_ hz;obtain⟨b,o,rfl,_,hx⟩:=HPG.o.form (by omega);have y0:=hx k _ hy;have HM:=hQ_ hB.len;clear hx hy hB;by_cases hm:m=64
    · subst hm;go_wp2_with fail;go_roundw;case rel=>exact⟨k+1,by go_num,by omega,hQ_ (fun x hx=>by
       rw[List.take_add_one,hz]at hx;rcases List.mem_append.1 hx with hx|hx
       · exact HZ.o x hx
       · simp at hx;subst hx;exact HM.o),by first|rfl|trivial⟩
      case measure=>simp[intOf];omega
    · have hmI:¬(m:Int)=64:=(by omega);have hmd:((m:Int)==64)=false:=(by simpa using hmI);have HN:=hQ_ (show ¬∃T p,xv_ zs T p from fun ⟨T,p,h1,_⟩=>hm (by rw[<-HM.o];exact h1 z (List.mem_of_getElem? hz)));go_wp2_with fail;go_ret3;exact HNO.o _ HN.o (Chg.refl [] _)
  · have hkI:¬(k:Int)<(n:Int):=(by omega);obtain rfl:n=k:=(by omega);have H64:=hQ_ (show ∀z∈zs,z.length=64 from fun z hz=>HZ.o z (by rw[List.take_of_length_le (by rw[HZL.o];exact Nat.le_refl _)];exact hz));clear HZ hkI hkn hk;by_cases hn0:n=0
    · subst hn0;have HN:=hQ_ (show ¬∃T p,xv_ zs T p from fun ⟨T,p,_,z,r,hz,_⟩=>by have:=HZL.o;rw[hz]at this;simp at this);go_wp2_with fail;go_ret3;exact HNO.o _ HN.o (Chg.refl [] _)
    · have hnI:¬(n:Int)=0:=(by omega);have hnd:((n:Int)==0)=false:=(by simpa using hnI);have hnp:(0:Int)<(n:Int):=(by omega);obtain⟨z,r,hzr⟩:∃z r,zs=z::r:=(by
       cases hc:zs with
       | nil=>have:=HZL.o;rw[hc]at this;simp at this;omega
       | cons z r=>exact⟨z,r,rfl⟩);obtain⟨y,B,m,d,hy,rfl,hB⟩:=HPG.o.at_ (i:=0) (z:=z) (by rw[hzr];rfl);obtain⟨b,o,rfl,_,hx⟩:=HPG.o.form (by omega);have y0:=hx 0 _ hy;rw[Nat.add_zero]at y0;have HSR:=hQ_ (zeV hB);have HZR:=hQ_ hzr;clear hx hy hB hzr;go_upto_region 10 with(
       go_at_call 126;refine HSR.o.mono ?_;intro e w2 hq;have HQ:=hQ_ hq;rcases hq with⟨hm,rfl,hc2⟩|⟨hm,rfl,hc2⟩)
      · have HMT:=hQ_ hm;have HC2:=hQ_ hc2;have hp64:=hm.2.1;have ht:=hm.1;clear hm hc2 HQ HSR y0;obtain⟨t,htt⟩:∃t,t=zz_ z 4:=⟨_,rfl⟩;obtain⟨p,hpp⟩:∃p,p=zz_ z 8:=⟨_,rfl⟩;rw[<-htt]at ht⊢;rw[<-hpp]at hp64⊢;have HTT:=hQ_ htt;have HPP:=hQ_ hpp;clear htt hpp;have HHD:=hQ_ (fun (W:World)=>qY_ t (by omega) W);obtain⟨q,hq⟩:∃q,q=zs_ t:=⟨_,rfl⟩;rw[<-hq]at HHD;have hq33:q<=32:=(by rw[hq];unfold zs_;omega);have HTQ:=hQ_ (show t<=q*64/\(q=0->t=0) from by rw[hq];unfold zs_;omega);have HQQ:=hQ_ hq;clear hq;have HDEC:=hQ_ (show ∀T p',xv_ zs T p'↔(p=p'/\1+q<=n/\T=((r.take q).flatten).take t/\(∀b∈((r.take q).flatten).drop t,b=0)) from fun T p'=>by
         constructor
         · rintro⟨_,z',r',e1,h2,h3,h4,h5,h6⟩;rw[HZR.o]at e1;injection e1 with e1 e2;subst e1;subst e2;rw[<-HTT.o,<-HQQ.o]at h4 h5 h6;exact⟨by rw[HPP.o];exact h3,by rw[<-HZL.o];exact h4,h5,h6⟩
         · rintro⟨h3,h4,h5,h6⟩;refine⟨H64.o,z,r,HZR.o,HMT.o,by rw[<-HPP.o];exact h3,?_,?_,?_⟩
           · rw[<-HTT.o,<-HQQ.o,HZL.o];exact h4
           · rw[<-HTT.o,<-HQQ.o];exact h5
           · rw[<-HTT.o,<-HQQ.o];exact h6);by_cases hqn:1+q<=n
        · have hqnI:¬(n:Int)<1+(q:Int):=(by omega);have hFL:((r.take q).flatten).length=64*q:=(by
           have h1:=(zcr (r.take q) (fun x hx=>H64.o x (by rw[HZR.o];exact List.mem_cons_of_mem _ (List.mem_of_mem_take hx)))).2;rw[h1,List.length_take];have h2:zs.length=r.length+1:=(by rw[HZR.o];rfl);have:=HZL.o;omega);have HPT:=hQ_ ((HPG.o.keep HC2.o).part (lo:=1) (k:=q) (by omega) (by omega));have hJ:=fun (W:World)(hc:Chg [] w2 W)=>qX_ (HPT.o.keep hc) (fun x hx=>H64.o x (by rw[HZR.o];exact List.mem_cons_of_mem _ (List.mem_of_mem_take (List.mem_of_mem_drop (i:=0) (by simpa[HZR.o] using hx))))) (by omega);have HJ:=hQ_ hJ;clear hJ;rw[show(zs.drop 1).take q=r.take q from by rw[HZR.o];rfl]at HJ;unfold zmM at HJ;obtain⟨FL,hFLe⟩:∃FL,FL=(r.take q).flatten:=⟨_,rfl⟩;rw[<-hFLe]at HJ hFL;have HFQ:=hQ_ (show(r.take q).flatten=FL from hFLe.symm);clear hFLe HPT;rw[hFL]at HJ;have hq0c:1+q<=c:=(by omega);by_cases hq0:q=0
          · subst hq0;obtain rfl:t=0:=HTQ.o.2 rfl;have HJ0:=hQ_ (fun (W:World) (A:Option Addr) (c:Nat)=>(Tryz.bytes_Join_none A c (.slice none 0 0) W).mono (R':=fun e w'=>∃A' c',e=.returned (.slice A' 0 c')/\Chg [] W w') (by
             rintro e w' ⟨rfl,rfl⟩;exact⟨_,_,rfl,(Chg.refl [] W).alloc _⟩));obtain rfl:FL=[]:=List.length_eq_zero_iff.1 hFL;have HY:=hQ_ (show xv_ zs [] p from(HDEC.o _ _).2 ⟨rfl,hqn,by rw[HFQ.o];rfl,fun x hx=>by rw[HFQ.o]at hx;simp at hx⟩);clear HJ hFL hqnI;have hst:=fun (A:Option Addr)(c:Nat)(W:World)=>zdi (P:=Tryz.prog) 39 5 9 Tryz.underlying39 Tryz.underlying5 Tryz.underlying9 A c W;by_cases hc1:c=1
            · subst hc1;go_wp2_with (first
               | (go_at_call 118;refine(HHD.o _).mono ?_;rintro e wh ⟨rfl,rfl⟩)
               | (go_at_call 87;refine(HJ0.o _ _ _).mono ?_;rintro e w3 ⟨A3,c3,rfl,hc3⟩;have HCQ:=hQ_ (HC2.o.trans hc3);clear hc3));all_goals
                go_loopw [54] (fun i wr=>i=.int .i64 0/\wr=w3) (fun _ _=>0);(case atStart=>exact⟨rfl,rfl⟩);case round =>
                 obtain⟨rfl,rfl⟩:=hrel;go_wp2_with fail;go_ret3;exact HYES.o _ _ _ HY.o HCQ.o
            · have hc1I:¬(c:Int)=1:=(by omega);go_wp2_with (first
               | (go_at_call 118;refine(HHD.o _).mono ?_;rintro e wh ⟨rfl,rfl⟩)
               | (go_at_call 87;refine(HJ0.o _ _ _).mono ?_;rintro e w3 ⟨A3,c3,rfl,hc3⟩;have HCQ:=hQ_ (HC2.o.trans hc3);clear hc3));all_goals
                go_loopw [54] (fun i wr=>i=.int .i64 0/\wr=w3) (fun _ _=>0);(case atStart=>exact⟨rfl,rfl⟩);case round =>
                 obtain⟨rfl,rfl⟩:=hrel;go_wp2_with fail;go_ret3;exact HYES.o _ _ _ HY.o HCQ.o
          · have hc1:¬c=1:=(by omega);have hqc:q<=c-1:=(by omega);go_upto_region 13 with(first
             | (go_at_call 118;refine(HHD.o _).mono ?_;rintro e wh ⟨rfl,rfl⟩)
             | (go_at_call 87;refine(HJ.o _ (Chg.refl [] _)).mono ?_;rintro e w3 ⟨A3,c3,rfl,hB3,hc3,_⟩;have HB3:=hQ_ hB3;have HCQ:=hQ_ (HC2.o.trans hc3);clear hc3 hB3));obtain⟨g3,o3,rfl⟩:∃g o,A3=some ⟨g,o,none⟩:=(by
             obtain⟨⟨g,o,s⟩,e,_,_⟩:=HB3.o.src (by rw[zg_,hFL];omega);obtain rfl:s=none:=HB3.o.spot (by omega) _ e;exact⟨g,o,e⟩);have hc3:=HB3.o.cap;have htq:=HTQ.o.1;have hcut:=HB3.o.cut (lo:=t) (hi:=64*q) (by omega) (Nat.le_refl _);have HBT:=hQ_ (HB3.o.take (m:=t) (by omega));rw[List.take_of_length_le (by rw[List.length_drop,hFL];exact Nat.le_refl _)]at hcut;obtain⟨m2,hm2⟩:∃m2,m2=64*q-t:=⟨_,rfl⟩;rw[<-hm2]at hcut;have HM2:=hQ_ hm2;obtain⟨q64,hq64⟩:∃q64,q64=64*q:=⟨_,rfl⟩;have HQ64:=hQ_ hq64;rw[<-hq64]at HB3 hc3 hm2⊢;have htq2:t<=q64:=(by omega);have hm2b:m2<=2048:=(by omega);have hmI:(q64:Int)-(t:Int)=(m2:Int):=(by omega);have htqI:(t:Int)<=(q64:Int):=(by omega);have htcI:(t:Int)<=(c3:Int):=(by omega);clear hq64;by_cases hct:c3=t
            · have hct':t=c3:=hct.symm;have hm0:m2=0:=(by omega);have hqe:q64=c3:=(by omega);clear hmI htqI htcI hm2 hct;subst hct';subst hqe;rw[if_pos rfl]at hcut;have HBC:=hQ_ hcut;clear hcut;subst hm0;have HY:=hQ_ (show xv_ zs (FL.take q64) p from(HDEC.o _ _).2 ⟨rfl,hqn,by rw[HFQ.o],fun x hx=>by rw[HFQ.o,List.length_eq_zero_iff.1 HBC.o.len]at hx;simp at hx⟩);have hst:=(HBT.o).str (P:=Tryz.prog) 39 5 9 Tryz.underlying39 Tryz.underlying5 Tryz.underlying9;go_wp2_with fail;go_loopw [54] (fun i wr=>i=.int .i64 0/\wr=w3) (fun _ _=>0);(case atStart=>exact⟨rfl,rfl⟩);case round =>
               obtain⟨rfl,rfl⟩:=hrel;go_wp2_with fail;go_ret3;exact HYES.o _ _ _ HY.o HCQ.o
            · rw [if_neg hct,Option.map_some,zl_]at hcut;have HBC:=hQ_ hcut;have hctI:¬(c3:Int)=(t:Int):=(by omega);clear hcut;go_wp2_with fail;go_loopw [54] (fun i wr=>∃k:Nat,i=.int .i64 (k:Int)/\k<=m2/\Hid (∀x∈(FL.drop t).take k,x=0)/\wr=w3) (fun i _=>m2-(intOf i).toNat);(case atStart=>exact⟨0,rfl,by omega,hQ_ (by simp),rfl⟩);case round =>
               obtain⟨k,rfl,hk,HZZ,hwr⟩:=hrel;subst hwr;by_cases hkm:k<m2
               · have hkI:(k:Int)<(m2:Int):=(by omega);obtain⟨x,hx⟩:∃x,(FL.drop t)[k]?=some x:=⟨(FL.drop t)[k]'(by rw[HBC.o.len];exact hkm),by simp⟩;have y1:=(show wr.cell? ⟨g3,o3+t+k,none⟩=some (.int .u8 (x.toNat:Int)) from by
                  obtain⟨ad,e,_,hcc⟩:=HBC.o.src (by rw[zg_,HBC.o.len];omega);injection e with e;subst e;have:=hcc k (B8 x) (by unfold bts;rw[List.getElem?_map,hx];rfl);rwa[zl_]at this);by_cases hx0:x=0
                 · have hxI:(x.toNat:Int)=0:=zbD.2 hx0;rw[hxI]at y1;have HX:=hQ_ hx;have HX0:=hQ_ hx0;clear hxI hx hx0;go_wp2_with fail;go_roundw;case rel=>exact⟨k+1,by go_num,by omega,hQ_ (fun u hu=>by
                    rw[List.take_add_one,HX.o]at hu;rcases List.mem_append.1 hu with hu|hu
                    · exact HZZ.o u hu
                    · simp at hu;rw[hu];exact HX0.o),by first|rfl|trivial⟩
                   case measure=>simp[intOf];omega
                 · have hxI:¬(x.toNat:Int)=0:=fun h=>hx0 (zbD.1 h);have hxd:((x.toNat:Int)==0)=false:=(by simpa using hxI);have HN:=hQ_ (show ¬∃T p,xv_ zs T p from fun ⟨T,p',h⟩=>hx0 (((HDEC.o T p').1 h).2.2.2 x (List.mem_of_getElem? (by rw[HFQ.o];exact hx))));obtain⟨xi,hxi⟩:∃xi,xi=(x.toNat:Int):=⟨_,rfl⟩;rw[<-hxi]at y1 hxI hxd;clear hx hx0 hxi;go_wp2_with fail;go_ret3;exact HNO.o _ HN.o HCQ.o
               · have hkI:¬(k:Int)<(m2:Int):=(by omega);have HY:=hQ_ (show xv_ zs (FL.take t) p from(HDEC.o _ _).2 ⟨rfl,hqn,by rw[HFQ.o],fun x hx=>HZZ.o x (by rw[List.take_of_length_le (by rw[HBC.o.len];omega)];rw[HFQ.o]at hx;exact hx)⟩);have hst:=(HBT.o).str (P:=Tryz.prog) 39 5 9 Tryz.underlying39 Tryz.underlying5 Tryz.underlying9;clear hkm hk;go_wp2_with fail;go_ret3;exact HYES.o _ _ _ HY.o HCQ.o
        · have hqnI:(n:Int)<1+(q:Int):=(by omega);have HN:=hQ_ (show ¬∃T p,xv_ zs T p from fun ⟨T,p',h⟩=>hqn ((HDEC.o T p').1 h).2.1);go_wp2_with (
           go_at_call 118;refine(HHD.o _).mono ?_;rintro e w3 ⟨rfl,rfl⟩);go_ret3;exact HNO.o _ HN.o HC2.o
      · have HN:=hQ_ (show ¬∃T p,xv_ zs T p from fun ⟨T,p,_,z',r',hz,h1,_⟩=>by
         rw[HZR.o]at hz;injection hz with e1 e2;subst e1;exact hm h1);have HC2:=hQ_ hc2;clear hm hc2 HQ HSR;go_wp2_with fail;go_ret3;exact HNO.o _ HN.o HC2.o
end
end
end Go.Proofs.YtcbcfcdmdedefaaGreatDoor
namespace Go.Proofs.YtcbcfcdmdedefaaGreatDoor.join
def zax:List Char:=[104,97,114,110,101,115,115,32,54,98,50,53,56,55,98,49,100,100,48,56,99,49,100,48,102,100,54,52,100,50,57,54,53,55,100,50,55,100,53,99,56,54,50,101,98,49,49,48,98,53,48,50,99,101,54,98,48,56,100,57,101,55,49,49,57,97,102,55,51,55,97,102,32,99,117,116,32,97,116,32,101,110,103,114,97,109,47,101,110,103,114,97,109,116,111,112,46,84,111,112,69,109,112,116,105,101,115,32,101,110,103,114,97,109,47,101,110,103,114,97,109,116,111,112,46,84,111,112,65,108,111,110,101,32,101,110,103,114,97,109,47,101,110,103,114,97,109,108,97,119,50,49,46,72,111,115,116,84,121,112,101,115,32,101,110,103,114,97,109,47,101,110,103,114,97,109,108,97,119,50,49,46,72,111,115,116,81,117,105,101,116].map Char.ofNat
theorem zpn:Tryz.prog.initOrder=String.ofList zax:=by kernel_rfl
theorem znX:Tryz.prog.initOrder.toList=zax:=by rw[zpn];exact String.toList_ofList
theorem zgm : behindMainWord (wordsSigns zax) = "cut".toList :: (behindMainWord (wordsSigns zax)).tail := by kernel_rfl
theorem zog:Tryz.prog.laysLater=false:=by kernel_rfl
theorem zoi:Tryz.prog.bearsReflect=false:=by kernel_rfl
theorem zoh:Tryz.prog.doorFits []=true:=by kernel_rfl
theorem zmi (r : List (List Char)) : stripLifts liftWords ("cut".toList :: r) = ([], "cut".toList :: r) := by rfl
theorem j_enter:Tryz.prog.mayEnter=true:=by
 unfold Program.mayEnter;rw[znX,zgm];generalize (behindMainWord (wordsSigns zax)).tail=r;simp only[zmi,zog,zoi,zoh];rfl
end Go.Proofs.YtcbcfcdmdedefaaGreatDoor.join
namespace Go.Proofs.YtcbcfcdmdedefaaGreatDoor.join
theorem zlb {P : Program} {L : List Char} {r : List (List Char)} (h1 : P.initOrder.toList = L) (h2 : behindMainWord (wordsSigns L) = "cut".toList :: r) : P.headLifts = [] := by
 unfold Program.headLifts;rw[h1,h2];simp only[zmi];rfl
theorem zlA {P : Program} {L : List Char} {r : List (List Char)} (h1 : P.initOrder.toList = L) (h2 : behindMainWord (wordsSigns L) = "cut".toList :: r) : P.liftsFinal = false := by
 unfold Program.liftsFinal;rw[zlb h1 h2,h1,h2];rfl
theorem znV {P : Program} {L : List Char} {r : List (List Char)} (h1 : P.initOrder.toList = L) (h2 : behindMainWord (wordsSigns L) = "cut".toList :: r) : P.make = some .cut := by
 unfold Program.make;rw[h1,h2];rfl
theorem j_lifts:Tryz.prog.liftsFinal=false:=zlA znX zgm
theorem j_make:Tryz.prog.make=some .cut:=znV znX zgm
end Go.Proofs.YtcbcfcdmdedefaaGreatDoor.join
