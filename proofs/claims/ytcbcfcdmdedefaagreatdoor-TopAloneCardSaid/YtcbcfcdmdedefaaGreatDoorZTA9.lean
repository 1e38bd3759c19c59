import Derived.Test.YtcbcfcdmdedefaaGreatDoorZTA8
set_option maxRecDepth 100000
set_option maxHeartbeats 16000000
namespace Go.Proofs.YtcbcfcdmdedefaaGreatDoor
section
open Go.RowKit
section
variable {w:World} {p bL bS bW:Nat} {L S:List UInt8} {V:List Bool}
theorem zjZ (h:Dsk w p bL bS bW L S V)(i:Int)(A:Option Addr)(n c:Nat)(hi:i<0\/(V.length:Int)<=i\/n≠64) :
    Calls Tryz.prog 70 #[.pointer (some ⟨p,0,none⟩),.int .i64 i,.slice A n c] w fun e w'=>e=.returned (.bool false)/\w=w':=by
 by_cases hok:0<=i/\i<V.length
 · obtain⟨h0,h1⟩:=hok;have hd:((n:Int) != 64)=true:=(by simp;omega);clear hi;go_enter Tryz.func70,Tryz.ntmps70;go_wp2_with (go_at_call 108;refine(zcu h i h0 h1).mono ?_;rintro e w' ⟨rfl,rfl⟩);go_ret;exact⟨rfl,rfl⟩
 · have h2:i<0\/(V.length:Int)<=i:=(by omega);clear hi hok;go_enter Tryz.func70,Tryz.ntmps70;go_wp2_with (go_at_call 108;refine(zmD h i h2).mono ?_;rintro e w' ⟨rfl,rfl⟩);go_ret;exact⟨rfl,rfl⟩
theorem zgf {w2:World}{k:Nat}{x:List UInt8}(h:Dsk w p bL bS bW L S V)(hk:k<V.length)(hx:x.length=64)(HC:Chg [bS] w w2)(HG:zb_ w2 bS 5 (splice (bts S) (k*64) (bts x))) :
    Dsk (w2.setCell ⟨bW,k,none⟩ (.bool true)) p bL bS bW L (splice S (k*64) x) (V.set k true)/\Chg [bS,bW] w (w2.setCell ⟨bW,k,none⟩ (.bool true)):=by
 have s1:64*(k+1)<=S.length:=by have:=h.lenS;omega
 have eS:(splice S (k*64) x).length=S.length:=length_splice _ _ _ (by omega);rw[vh_]at HG;have d0:=h.rec_.ne_ h.seen (by decide);have d1:=h.rec_.ne_ h.wait (by decide);have d2:=h.last.ne_ h.wait (by decide);have d3:=h.seen.ne_ h.wait (by decide);have V2:=h.wait.chg HC (by simpa using fun e=>d3 e.symm);have hw:zb_ (w2.setCell ⟨bW,k,none⟩ (.bool true)) bW 4 (bls (V.set k true)):=by
  have:=V2.set_ k (.bool true);rwa[gZ_]at this
 refine⟨⟨?_,(h.last.chg HC (by simpa using h.ne)).far d2 _,HG.far d3 _,hw,by rw[List.length_set];exact h.lenL,by rw[eS,List.length_set];exact h.lenS,by rw[List.length_set];exact h.pos,by rw[List.length_set];exact h.le,h.ne⟩,?_⟩
 · rw[eS,List.length_set];exact(h.rec_.chg HC (by simpa using d0)).far d1 _
 · exact(HC.sub (T':=[bS,bW]) (by simp)).setCell (by simp) _
theorem uK_ (h:Dsk w p bL bS bW L S V)(k:Nat)(hk:k<V.length){A:Option Addr}{c:Nat}{x:List UInt8}(hx:x.length=64)(hs:Src w A (bts x)) :
    Calls Tryz.prog 70 #[.pointer (some ⟨p,0,none⟩),.int .i64 (k:Int),.slice A 64 c] w fun e w'=>e=.returned (.bool true) /\
      Dsk w' p bL bS bW L (splice S (k*64) x) (V.set k true)/\Chg [bS,bW] w w':=by
 have c1:=h.rec_.cell 1;have hS:=h.lenS;have hv:=h.le;have s1:64*(k+1)<=S.length:=by omega
 have s2:S.length<=1000000:=by omega
 clear hS;have hfit:k*64+(bts x).length<=(bts S).length:=by rw[zg_,zg_];omega
 have Hn:=hQ_ (show(bts x).length=Nat.min 64 64 by rw[zg_,hx];rfl);have Hx:=hQ_ hx;have b1:=yc_ x;have n2:=hQ_ (show p∉[bS] by simpa using h.rec_.ne_ h.seen (by decide));have n3:=hQ_ (show bW∉[bS] by simpa using h.wait.ne_ h.seen (by decide));obtain⟨Y,hY⟩:∃Y,Y=bts x:=⟨_,rfl⟩;have HY:=hQ_ hY;rw[<-hY]at hfit Hn b1 hs;clear hx hY;go_enter Tryz.func70,Tryz.ntmps70;go_wp2_with (first
  | (go_at_call 108;refine(zcu h _ (by omega) (by omega)).mono ?_;rintro e w' ⟨rfl,rfl⟩)
  | (go_at_call 109;refine(vx_ k s1 (Nat.le_refl _) s2).mono ?_;rintro e w' ⟨rfl,rfl⟩)
  | ((with_reducible refine z7_ rfl (.tmp 21) (.tmp 22) _ _ rfl 5 Tryz.underlying39 xz_ (some ⟨bS,k*64,none⟩) A 64 (S.length-k*64) 64 c rfl rfl bS (k*64) 5 (bts S) Y h.seen Hn.o (fun _=>rfl) hs hfit b1 ?_);intro w2 HG HC;have R2:=h.rec_.chg HC n2.out;have V2:=h.wait.chg HC n3.out;have c2:=R2.cell 2;have c4:=(V2.cell k).trans (vW_ V k hk);have c5:=V2.frozen k));go_ret;rw[HY.o]at HG;exact⟨rfl,zgf h hk Hx.o HC HG⟩
theorem znx (h:Dsk w p bL bS bW L S V)(i:Int)(hi:i<0\/(V.length:Int)<=i) :
    Calls Tryz.prog 112 #[.pointer (some ⟨p,0,none⟩),.int .i64 i] w fun e w'=>e=.returned (.tuple #[.slice none 0 0,.bool false])/\w=w':=by
 go_enter Tryz.func112,Tryz.ntmps112;go_wp2_with (go_at_call 108;refine(zmD h i hi).mono ?_;rintro e w' ⟨rfl,rfl⟩);go_ret2;exact⟨rfl,rfl⟩
theorem jg_ (h:Dsk w p bL bS bW L S V)(k:Nat)(hk:k<V.length) :
    Calls Tryz.prog 112 #[.pointer (some ⟨p,0,none⟩),.int .i64 (k:Int)] w fun e w'=>e=.returned (.tuple #[.slice (some ⟨w.heap.size,0,none⟩) 64 64,.bool true]) /\
      zb_ w' w.heap.size 5 (bts ((S.drop (k*64)).take 64))/\Chg [] w w':=by
 have c1:=h.rec_.cell 1;have hS:=h.lenS;have hv:=h.le;have s1:64*(k+1)<=S.length:=by omega
 have s2:S.length<=1000000:=by omega
 clear hS;have hl:(bts ((S.drop (k*64)).take 64)).length=64:=by rw[zg_,List.length_take,List.length_drop];omega
 have Hl:=hQ_ hl;have hsr:Src w (some ⟨bS,k*64,none⟩) (bts ((S.drop (k*64)).take 64)):=by rw[<-zjx];exact Src.of_whole h.seen _ _
 have b1:=yc_ ((S.drop (k*64)).take 64);obtain⟨Y,hY⟩:∃Y,Y=bts ((S.drop (k*64)).take 64):=⟨_,rfl⟩;rw[<-hY]at Hl hsr b1;rw[<-hY];clear hl hY;go_enter Tryz.func112,Tryz.ntmps112;go_wp2_with (first
  | (go_at_call 108;refine(zcu h _ (by omega) (by omega)).mono ?_;rintro e w' ⟨rfl,rfl⟩)
  | (go_at_call 109;refine(vx_ k s1 (Nat.le_refl _) s2).mono ?_;rintro e w' ⟨rfl,rfl⟩)
  | (go_at_call 69;refine(qb_ Hl.o hsr b1 (by omega)).mono ?_;rintro e w2 ⟨rfl,HB,HC⟩));go_ret2;exact⟨rfl,HB,HC⟩
end
end
section
open Go.RowKit
def hdr (a b c:Nat):Nat->List UInt8
  | 0=>k9_
  | 1=>k9_++be4 a
  | 2=>k9_++be4 a++be4 b
  | _=>xq_ a b c
def zqc (a b c:Nat):Nat->Nat
  | 0=>a
  | 1=>b
  | _=>c
theorem zlt (a b c k:Nat)(hk:k<3):hdr a b c (k+1)=hdr a b c k++be4 (zqc a b c k):=by
 match k,hk with
 | 0,_=>rfl
 | 1,_=>rfl
 | 2,_=>rfl
theorem znW (a b c k:Nat)(hk:k<=3):(hdr a b c k).length=4+k*4:=by
 match k,hk with
 | 0,_=>rfl
 | 1,_=>rfl
 | 2,_=>rfl
 | 3,_=>rfl
theorem znH (a b c k:Nat)(ha:a<4294967296)(hb:b<4294967296)(hc:c<4294967296):zqc a b c k<4294967296:=by
 match k with
 | 0=>exact ha
 | 1=>exact hb
 | _+2=>exact hc
theorem zhw (a b c k:Nat)(hk:k<3):([.int .u32 (a:Int),.int .u32 (b:Int),.int .u32 (c:Int)]:List Value)[k]?=some (.int .u32 (zqc a b c k:Int)):=by
 match k,hk with
 | 0,_=>rfl
 | 1,_=>rfl
 | 2,_=>rfl
theorem zlY:bts k9_=[.int .u8 69,.int .u8 78,.int .u8 71,.int .u8 49]:=rfl
theorem zoX:Tryz.prog.underlying 3=some (.int .i64):=Tryz.underlying3
section
variable {w:World}
theorem uT_ (a b c:Nat)(ha:a<=2147483647)(hb:b<=2147483647)(hc:c<4294967296) :
    Calls Tryz.prog 72 #[zB_ a b c] w (xE_ w (z3_ a b c)):=by
 obtain⟨i0,hi,hz,hs1,hb1⟩:=info_parts yC_;have ea:(a:Int)%4294967296=(a:Int):=by omega
 have eb:(b:Int)%4294967296=(b:Int):=by omega
 unfold zB_;have hz1:(w.alloc (.cells #[.int .i64 (a:Int),.int .i64 (b:Int),.int .u32 (c:Int)] 82)).heap.size=w.heap.size+1:=by simp
 have kc:=zpm (w.alloc (.cells #[.int .i64 (a:Int),.int .i64 (b:Int),.int .u32 (c:Int)] 82)) hz1;go_enter Tryz.func72,Tryz.ntmps72;go_wp2_with fail;clear kc;clear hz1;have hc1:Chg [] w (w.alloc (.cells #[.int .i64 (a:Int),.int .i64 (b:Int),.int .u32 (c:Int)] 82)):=(Chg.refl [] w).alloc _;have hz1:(w.alloc (.cells #[.int .i64 (a:Int),.int .i64 (b:Int),.int .u32 (c:Int)] 82)).heap.size=w.heap.size+1:=by simp
 generalize w.alloc (.cells #[.int .i64 (a:Int),.int .i64 (b:Int),.int .u32 (c:Int)] 82)=w1 at hz1 hc1⊢;have hM:=zeb w1 5 k9_ (4,5) (by simp[k9_]);rw[zlY,hz1]at hM;have hc2:Chg [] w (w1.alloc (.cells #[.int .u8 69,.int .u8 78,.int .u8 71,.int .u8 49] 5 (4,5))):=hc1.alloc _;have hz2:(w1.alloc (.cells #[.int .u8 69,.int .u8 78,.int .u8 71,.int .u8 49] 5 (4,5))).heap.size=w.heap.size+1+1:=by simp;omega
 generalize w1.alloc (.cells #[.int .u8 69,.int .u8 78,.int .u8 71,.int .u8 49] 5 (4,5))=w2 at hz2 hc2 hM⊢;have hN:=zb_.new w2 56 [.int .u32 (a:Int),.int .u32 (b:Int),.int .u32 (c:Int)];rw[hz2]at hN;have hM3:=hM.keep ((Chg.refl [] w2).alloc (.cells #[.int .u32 (a:Int),.int .u32 (b:Int),.int .u32 (c:Int)] 56));have hc3:=hc2.alloc (.cells #[.int .u32 (a:Int),.int .u32 (b:Int),.int .u32 (c:Int)] 56);generalize w2.alloc (.cells #[.int .u32 (a:Int),.int .u32 (b:Int),.int .u32 (c:Int)] 56)=w3 at hN hM3 hc3⊢;clear hM hz1 hz2 hc1 hc2 ea eb;go_loopw [3,18] (fun t i wr=>∃k:Nat,k<=3/\i=.int .i64 (k:Int)/\(∃A cc,t=.slice A (4+k*4) cc/\Bs wr A (4+k*4) cc (hdr a b c k))/\zb_ wr (w.heap.size+1+1) 56 [.int .u32 (a:Int),.int .u32 (b:Int),.int .u32 (c:Int)]/\Chg [] w wr) (fun _ i _=>3-(intOf i).toNat);case atStart=>exact⟨0,by omega,rfl,⟨_,_,rfl,hM3⟩,hN,hc3⟩
 case round =>
  obtain⟨k,hk,rfl,⟨A,cc,rfl,hB⟩,hW,hcr⟩:=hrel;have HB:=hQ_ hB;have HC:=hQ_ hcr;have HW:=hQ_ hW;clear hM3 hN hc3;by_cases hlt:k<3
  · have c0:=(hW.cell k).trans (zhw a b c k hlt);have hlti:=znH a b c k (by omega) (by omega) hc;have HNX:=hQ_ (zlt a b c k hlt);clear hB hcr hW;generalize zqc a b c k=q at c0 hlti HNX;have hkI:(k:Int)<3:=(by omega);have hk0:(0:Int)<=(k:Int):=(by omega);go_wp2_with fail;refine(zeZ HB.o q hlti (by omega)).mono ?_;rintro e w4 ⟨v4,rfl,ho4,hc4⟩;have hl4:(hdr a b c k++be4 q).length=4+(k+1)*4:=(by rw[<-HNX.o,znW a b c (k+1) (by omega)]);rw[hl4]at ho4;obtain⟨A4,c4,rfl,hB4,_⟩:=Bs.of_own ho4;have HB4:=hQ_ hB4;have HC4:=hQ_ (HC.o.new hc4);have HW4:=hQ_ (HW.o.keep hc4);clear hl4 ho4 hB4 hc4 c0;go_wp2_with fail;go_roundw;(case rel=>exact⟨k+1,by omega,by go_num,⟨A4,c4,rfl,by rw[HNX.o];exact HB4.o⟩,HW4.o,HC4.o⟩);case measure=>simp[intOf];omega
  · have hk3:k=3:=(by omega);subst hk3;have hB16:Bs wr A 16 cc (xq_ a b c):=HB.o;have HB16:=hQ_ hB16;clear hB hcr hW hB16;go_wp2_with fail;refine(zgu HB16.o).mono ?_;rintro e w' ⟨rfl,rfl⟩;go_wp2_with fail;refine(zeZ HB16.o (kh_ (xq_ a b c)) (gk_ _) (by omega)).mono ?_;rintro e w5 ⟨v5,rfl,ho5,hc5⟩;have hl5:(xq_ a b c++be4 (kh_ (xq_ a b c))).length=20:=rfl;rw[hl5]at ho5;have HC5:=hQ_ (HC.o.new hc5);have hsz:=HC.o.size;have HRL:=hQ_ (show z3_ a b c=(xq_ a b c++be4 (kh_ (xq_ a b c)))++zm_ 44 from rfl);generalize xq_ a b c++be4 (kh_ (xq_ a b c))=Z at ho5 HRL;obtain⟨g,r,rfl,hbg,_,_⟩:=jX_ ho5 (by omega);obtain⟨g',cap',w6,hr,ho6,hg6,hor⟩:=xh_ (P:=Tryz.prog) w5 wr.heap.size 39 3 39 5 i0 _ 1 .i64 Tryz.underlying39 zoX hi hz hs1 hb1 rfl rfl g 20 (20+r.length) (bts Z) ho5 44 (by unfold maxLen;omega) (by omega) hc5.size;have hc6:Chg [] wr w6:=hc5.own ho5 (Nat.le_refl _) hg6;have HR:=hQ_ hr;have HO:=hQ_ ho6;have HC6:=hQ_ (HC.o.new hc6);clear hr ho6 hg6 hor hc6 ho5 hc5 hl5;go_wp2_with (at_builtin;refine Lib.wpList_append_run w5 rfl (.tmp 30) (.tmp 33) 39 3 rfl _ _ rfl rfl _ _ HR.o ?_);go_ret;refine⟨_,rfl,?_,HC6.o⟩;have e1:(z3_ a b c).length=20+44:=x3_ a b c;have e2:bts (z3_ a b c)=bts Z++List.replicate 44 (.int .u8 0):=(by rw[HRL.o,qi_,yT_]);rw[e1,e2];exact zZ_ HO.o hsz
end
end
section
open Go.RowKit
def flA (s:St):St:=St.flush s s.V.length
theorem zI_ (s:St):(flA s).V.length=s.V.length:=zbj s _
theorem vI_ (s:St)(k:Nat)(x:List UInt8):(s.write k x).V.length=s.V.length:=by simp[St.write]
def wipeN (s:St)(a:Nat):Nat->St
  | 0=>s
  | k+1=>(wipeN s a k).write (a+k) (zm_ 64)
theorem zW_ (s:St)(a:Nat):∀k,(wipeN s a k).V.length=s.V.length
  | 0=>rfl
  | k+1=>by rw[wipeN,vI_,zW_ s a k]
def putR (s:St)(L P E:Nat):St:=flA (s.write (E%2) (z3_ L P E))
theorem zdi (s:St)(L P E:Nat):(putR s L P E).V.length=s.V.length:=by rw[putR,zI_,vI_]
def fmt (s:St)(L P:Nat):St:=putR (flA (wipeN (flA (wipeN s 0 2)) 2 (L+P))) L P 1
theorem kH_ (s:St)(L P:Nat):(fmt s L P).V.length=s.V.length:=by rw[fmt,zdi,zI_,zW_,zI_,zW_]
def zes (w:World)(p bL bS bW:Nat)(s:St)(e:Ending)(w':World):Prop:=e=.returned (.tuple #[])/\yx_ w' p bL bS bW s/\Chg [bL,bS,bW] w w'
def dkT (T:List Nat)(hard soft:List Nat):Turns:=⟨Chg [],Chg T,hard,soft⟩
theorem zdS {T hard soft:List Nat}:(dkT T hard soft).Ok:=⟨Chg.refl [],fun _ _ h=>h.sub (fun _ h=>by cases h),fun _ _ _ h k=>h.trans k⟩
theorem dk_by {T hard soft:List Nat}(k:Nat){W W':World}(h:Chg [] W W'):(dkT T hard soft).by_ k W W':=by
 unfold Turns.by_;split
 · exact h.sub (fun _ h=>by cases h)
 · exact h
theorem gQ_ {T hard soft:List Nat}{k:Nat}(hk:hard.contains k=true){W W':World}(h:Chg T W W'):(dkT T hard soft).by_ k W W':=by
 unfold Turns.by_;rw[if_pos (show(dkT T hard soft).hard.contains k=true from hk)];exact h
theorem jd_ {W W':World}(h:Star (Chg []) W W'):Chg [] W W':=h.fold (Chg.refl []) fun _ _ _ h k=>h.trans k
def dskF (p bL bS bW:Nat)(s:St):yI_:=fun v W=>v=.bool true/\yx_ W p bL bS bW s
theorem zia {p bL bS bW:Nat}{s:St}:zQ_ (Chg []) (dskF p bL bS bW s):=fun _ _ _ h hc=>⟨h.1,Dsk.keep h.2 hc⟩
section
variable {w:World} {p bL bS bW:Nat} {s:St}
theorem zlb (w:World):(Instr.makeSlice 39 (.int .i64 64) (.int .i64 64)).run Tryz.prog w=.ok (.slice (some ⟨w.heap.size,0,none⟩) 64 64) (w.alloc (.cells (bts (zm_ 64)).toArray 5)):=by
 obtain⟨i,hi,hz,hs,hb⟩:=info_parts yC_;have:=x0_ (P:=Tryz.prog) 39 5 i _ rfl Tryz.underlying39 hi hz hs 64 (by rw[hb];omega) (by omega) w;rw[show bts (zm_ 64)=List.replicate 64 (.int .u8 0) from by simp[bts,zm_];rfl];exact this
theorem znf {T T':List Nat}{a b:World}(h:Chg T a b)(hs:∀i∈T,i∈T':=by simp):Chg T' a b:=h.sub hs
theorem zcS (h:yx_ w p bL bS bW s)(a b:Nat)(hab:a<=b)(hb:b<=s.V.length) :
    Calls Tryz.prog 39 #[.pointer (some ⟨p,0,none⟩),.int .i64 (a:Int),.int .i64 (b:Int)] w (zes w p bL bS bW (flA (wipeN s a (b-a)))):=by
 have hle:=Dsk.le h;go_enter Tryz.func39,Tryz.ntmps39;go_wp2_with fail;go_loopw [6] (fun i wr=>∃m:Nat,a<=m/\m<=b/\i=.int .i64 (m:Int)/\Hid (yx_ wr p bL bS bW (wipeN s a (m-a)))/\Hid (Chg [bL,bS,bW] w wr)) (fun i _=>b-(intOf i).toNat);case atStart=>exact⟨a,Nat.le_refl _,hab,rfl,hQ_ (by rw[Nat.sub_self];exact h),hQ_ (Chg.refl _ _)⟩
 case round =>
  obtain⟨k,hka,hk,rfl,hdk,hck⟩:=hrel;by_cases hlt:k<b
  · have hI:(k:Int)<(b:Int):=(by omega);have hmk:=zlb wr;go_wp2_with fail;have hal:=(Chg.refl [] wr).alloc (.cells (bts (zm_ 64)).toArray 5);have hW:=zb_.new wr 5 (bts (zm_ 64));refine(uK_ (hdk.out.keep hal) k (by show k<(wipeN s a (k-a)).V.length;rw[zW_];omega) (zE_ 64) (Src.of_all hW)).mono ?_;rintro e w2 ⟨rfl,hd2,hc2⟩;have HD2:=hQ_ (show yx_ w2 p bL bS bW (wipeN s a (k+1-a)) from by
     rw[show k+1-a=(k-a)+1 by omega,wipeN,show a+(k-a)=k by omega];exact hd2);have HC2:=hQ_ (show Chg [bL,bS,bW] w w2 from(hck.out.new hal).trans (znf hc2));clear hal hW hd2 hc2 hmk;go_wp2_with fail;go_roundw;(case rel=>exact⟨k+1,by omega,by omega,by go_num,HD2,HC2⟩);case measure=>simp[intOf];omega
  · obtain rfl:b=k:=(by omega);have hI:¬(b:Int)<(b:Int):=(by omega);go_wp2_with fail;refine(u8_ hdk.out).mono ?_;rintro e w2 ⟨rfl,hd2,hc2⟩;have HP:=hQ_ (show yx_ w2 p bL bS bW (flA (wipeN s a (b-a)))/\Chg [bL,bS,bW] w w2 from⟨hd2,hck.out.trans hc2⟩);clear hd2 hc2;go_wp2_with fail
    go_end0
    exact⟨rfl,HP.o.1,HP.o.2⟩
theorem jU_ (h:yx_ w p bL bS bW s)(L P E:Nat)(hL:L<=2147483647)(hP:P<=2147483647)(hE:E<4294967296)(h2:2<=s.V.length) :
    Calls Tryz.prog 40 #[.pointer (some ⟨p,0,none⟩),zB_ L P E] w (zes w p bL bS bW (putR s L P E)):=by
 have hr0:zB_ L P E=.agg #[.int .i64 (L:Int),.int .i64 (P:Int),.int .u32 (E:Int)]:=rfl;rw[hr0];go_enter Tryz.func40,Tryz.ntmps40;go_upto_region 1 with fail;have hR:=zb_.new w 82 [.int .i64 (L:Int),.int .i64 (P:Int),.int .u32 (E:Int)];have hal:=(Chg.refl [] w).alloc (.cells #[.int .i64 (L:Int),.int .i64 (P:Int),.int .u32 (E:Int)] 82);have HD:=hQ_ (h.keep hal);have HC:=hQ_ hal;obtain⟨gr,hgr⟩:∃g,g=w.heap.size:=⟨_,rfl⟩;rw[<-hgr]at hR⊢;generalize w.alloc (.cells #[.int .i64 (L:Int),.int .i64 (P:Int),.int .u32 (E:Int)] 82)=w1 at hR HD HC⊢;have hC0:=(Chg.refl [] w1).drew.sub (T':=[bL,bS,bW]) (fun _ h=>by cases h);have r0:=hR.cell 0;have r1:=hR.cell 1;have r2:=hR.cell 2;have hmod:((E:Int)).tmod 2=((E%2:Nat):Int):=by rw[Int.tmod_eq_emod_of_nonneg (by omega)];omega
 have hm2:E%2<2:=Nat.mod_lt _ (by omega);generalize hq:E%2=q at hmod hm2⊢;have HQ:=hQ_ hq;clear hq;have HR:=hQ_ hR;have HLT:=hQ_ (show w.heap.size<=gr/\bL<w.heap.size/\bS<w.heap.size/\bW<w.heap.size from⟨by omega,(Dsk.last h).lt,(Dsk.seen h).lt,(Dsk.wait h).lt⟩);have hwq:IntKind.i64.wrap (q:Int)=(q:Int):=by rw[IntKind.wrap_i64];omega
 clear r0 r1 r2 hgr;have hgT:gr∉[bL,bS,bW]:=fun hm=>by have h1:=HLT.o;simp only[List.mem_cons,List.not_mem_nil,or_false]at hm;omega
 have TOK:=zdS (T:=[bL,bS,bW]) (hard:=[7]) (soft:=[6,7]);refine wp_flow (by kernel_rfl) (dkT [bL,bS,bW] [7] [6,7]) TOK (by kernel_rfl) ?_;refine flow_move_out TOK rfl rfl rfl ?_;refine flow1 (r:=.pointer (some ⟨gr,2,none⟩)) TOK rfl (.out rfl rfl) rfl (fun ev W he e1=>by go_simp) ?_;refine flow1h (r:=.int .u32 (E:Int)) TOK rfl (.inn rfl) rfl (fun ev W he hW e1=>by have r2:=(HR.o.chg (hC0.then_ hW (fun _ h _=>h)) hgT).cell 2;clear hW;go_simp) ?_;refine flow2 (r:=.int .u32 (q:Int)) TOK rfl (.inn rfl) (.const _) rfl (fun ev W he e1 e2=>by go_simp) ?_;refine flow1 (r:=.int .i64 (q:Int)) TOK rfl (.inn rfl) rfl (fun ev W he e1=>by go_simp) ?_;refine flow1h (r:=zB_ L P E) TOK rfl (.out rfl rfl) rfl (fun ev W he hW e1=>by have hx:=HR.o.chg (hC0.then_ hW (fun _ h _=>h)) hgT;have r0:=hx.cell 0;have r1:=hx.cell 1;have r2:=hx.cell 2;clear hW hx;unfold zB_;go_simp) ?_;refine flow_calld (ji_ 0 5 (bts (z3_ L P E))) (yh_ _ _ _) (.inl rfl) (by kernel_rfl) rfl (.cons (.inn rfl) .nil) (fun W hW=>(uT_ L P E (by omega) (by omega) hE).mono ?_) ?_
 · rintro e w' ⟨v,rfl,ho,hc⟩;exact⟨v,rfl,dk_by _ hc,by unfold ji_;rw[zg_];exact zZ_ ho (Nat.zero_le _)⟩
 refine vb_ (dskF p bL bS bW (s.write q (z3_ L P E))) zia (.inl rfl) rfl rfl (fun ev W he hW hfs=>?_) ?_
 · have hc0:Chg [] w1 W:=(Chg.refl [] w1).drew.new (jd_ hW);rw[vo_ he (by kernel_rfl)];obtain⟨_,f1,f2,f3,_⟩:=hfs;have e1:ev (.tmp 4)=.pointer (some ⟨p,0,none⟩):=f1;have e2:ev (.tmp 8)=.int .i64 (q:Int):=f2;have f3':ji_ 0 5 (bts (z3_ L P E)) (ev (.tmp 10)) W:=f3;unfold ji_ at f3';rw[zg_,x3_]at f3';obtain⟨Av,cv,e3,_,_,hs3,_⟩:=zr_ f3';rw[show Array.map ev #[.tmp 4,.tmp 8,.tmp 10]=#[ev (.tmp 4),ev (.tmp 8),ev (.tmp 10)] by simp];unfold yA_;simp only;rw[e1,e2,e3];refine(uK_ (HD.o.keep hc0) q (by omega) (x3_ L P E) hs3).mono ?_;rintro e w3 ⟨rfl,hd3,hc3⟩;exact⟨_,rfl,gQ_ rfl (hc3.sub (by simp)),rfl,hd3⟩
 intro vs W hW hF;have hd:dskF p bL bS bW (s.write q (z3_ L P E)) (vs 11) W:=hF 11 _ rfl rfl;have HD3:=hQ_ hd.2;have e11:=hd.1;have HC3:=hQ_ (show Chg [bL,bS,bW] w W from((HC.o.sub (T':=[bL,bS,bW]) (fun _ h=>by cases h)).trans hC0).trans hW);simp only[zV_,Act.put,List.setIfInBounds_toArray,List.set_cons_zero,List.set_cons_succ];rw[e11];clear hF hW hd e11 TOK hC0;obtain⟨w3,hw3⟩:∃w3:World,w3=W:=⟨_,rfl⟩;rw[<-hw3]at HD3 HC3⊢;clear hw3;go_wp2_with fail;refine(u8_ HD3.o).mono ?_;rintro e w4 ⟨rfl,hd4,hc4⟩;have HP:=hQ_ (show yx_ w4 p bL bS bW (putR s L P E)/\Chg [bL,bS,bW] w w4 from⟨by unfold putR flA;rw[HQ.o];exact hd4,HC3.o.trans hc4⟩);clear hd4 hc4;go_wp2_with fail
 go_end0
 exact⟨rfl,HP.o.1,HP.o.2⟩
end
end
section
open Go.RowKit
def zbH (s:St)(L P E:Int):List UInt8:=if zq_ L P E s.V.length=true then xL_ s L.toNat else []
section
variable {w:World} {p bL bS bW:Nat} {s:St}
theorem zaH (h:yx_ w p bL bS bW s)(L P E:Int) :
    Calls Tryz.prog 122 #[.pointer (some ⟨p,0,none⟩),zB_ L P E] w (yd_ (zq_ L P E s.V.length) w):=by
 have hr0:zB_ L P E=.agg #[.int .i64 L,.int .i64 P,.int .u32 E]:=rfl;rw[hr0];go_enter Tryz.func122,Tryz.ntmps122;go_wp2_with fail;have hR:=zb_.new w 82 [.int .i64 L,.int .i64 P,.int .u32 E];have hc1:Chg [] w (w.alloc (.cells #[.int .i64 L,.int .i64 P,.int .u32 E] 82)):=(Chg.refl [] w).alloc _;obtain⟨g,hg⟩:∃g,g=w.heap.size:=⟨_,rfl⟩;rw[<-hg]at hR⊢;generalize w.alloc (.cells #[.int .i64 L,.int .i64 P,.int .u32 E] 82)=w1 at hc1 hR⊢;clear hg;have hld:=fun (W:World)(hW:Chg [] w1.drew W)=>zp_ (hR.drew.keep hW);have kd:∀W,Chg [] w1.drew W->yx_ W p bL bS bW s:=fun W hW=>(Dsk.keep h hc1.drew).keep hW;refine wp_flow (by kernel_rfl) yl_ za_ (by kernel_rfl) ?_;refine flow_move_out za_ rfl rfl rfl ?_;refine flow2 (r:=.bool true) za_ rfl (.inn rfl) (.const _) rfl (fun ev W he e1 e2=>by go_simp) ?_;refine zP_ za_ rfl (zc_ _) (.inr (zc_ _)) rfl ?_;refine flow1h (r:=zB_ L P E) za_ rfl (.out rfl rfl) rfl (fun ev W he hW e1=>by obtain⟨c0,c1,c2,_,_,_⟩:=hld W hW;go_simp) ?_;refine flow_move_out za_ rfl rfl rfl ?_;refine zw_ (.int .i64 (s.V.length:Int)) (by kernel_rfl) rfl (.cons (.inn rfl) .nil) (fun W hW=>(xP_ (kd W hW)).mono ?_) ?_
 · rintro e w' ⟨rfl,rfl⟩;exact⟨rfl,Chg.refl _ _⟩
 refine zw_ (.bool (zq_ L P E s.V.length)) (by kernel_rfl) rfl (.cons (.inn rfl) (.cons (.inn rfl) .nil)) (fun W hW=>(yb_ _ _ _ _).mono ?_) ?_
 · rintro e w' ⟨rfl,hc⟩;exact⟨rfl,hc⟩
 refine xs_ za_ rfl rfl rfl ?_;refine flow_assign za_ rfl (zc_ _) (.inr (zc_ _)) rfl ?_;intro vs W hW hF;have e4:vs 4=.bool (zq_ L P E s.V.length):=hF 4 _ rfl rfl;simp only[zV_,Act.put,List.setIfInBounds_toArray,List.set_cons_zero,List.set_cons_succ,e4];have HCW:=hQ_ (hc1.new (jC_ hW));clear hW hF hld hR hc1 kd e4;go_wp2_with fail;go_ret;exact⟨rfl,HCW.o⟩
theorem zeX (h:yx_ w p bL bS bW s)(L P E:Int) :
    Calls Tryz.prog 116 #[.pointer (some ⟨p,0,none⟩),zB_ L P E] w (xE_ w (zbH s L P E)):=by
 obtain⟨iu,hui,huz,hus,hub⟩:=info_parts yC_;have hr0:zB_ L P E=.agg #[.int .i64 L,.int .i64 P,.int .u32 E]:=rfl;have H:=hQ_ h;clear h;rw[hr0];go_enter Tryz.func116,Tryz.ntmps116;go_wp2_with fail;have hR:=zb_.new w 82 [.int .i64 L,.int .i64 P,.int .u32 E];have hc1:Chg [] w (w.alloc (.cells #[.int .i64 L,.int .i64 P,.int .u32 E] 82)):=(Chg.refl [] w).alloc _;obtain⟨g,hg⟩:∃g,g=w.heap.size:=⟨_,rfl⟩;rw[<-hg]at hR⊢;generalize w.alloc (.cells #[.int .i64 L,.int .i64 P,.int .u32 E] 82)=w1 at hc1 hR⊢;clear hg;obtain⟨c0,c1,c2,_,_,_⟩:=zp_ hR;go_wp2_with fail;refine(zaH (Dsk.keep H.o hc1) L P E).mono ?_;rintro e w2 ⟨rfl,hc2⟩;have HC2:=hQ_ (hc1.new hc2);have HR2:=hQ_ (hR.keep hc2);clear hc1 hc2 hR c0 c1 c2;cases hrr:zq_ L P E s.V.length with
 | false =>
   have HF:=hQ_ (show zbH s L P E=[] by unfold zbH;rw[if_neg (by rw[hrr];simp)]);go_wp2_with fail;go_ret;rw[HF.o];exact⟨_,rfl,vN_ _ _ _,HC2.o⟩
 | true =>
   have hrt:=zj_.1 hrr;obtain⟨l,rfl⟩:=Int.eq_ofNat_of_zero_le (show 0<=L by omega);have hl1:1<=l:=(by omega);have hl64:l<=64:=(by omega);have hlV:2+l<=s.V.length:=(by omega);have HF:=hQ_ (show zbH s l P E=xL_ s l by unfold zbH;rw[if_pos hrr,Int.toNat_natCast]);have HS:=hQ_ H.o.lenS;obtain⟨N,hN⟩:∃N,N=l*64:=⟨_,rfl⟩;have hNm:=hQ_ hN;have hN4:N<=4096:=(by omega);have hmk:∀W:World,(Instr.makeSlice 39 (.int .i64 0) (.int .i64 (N:Int))).run Tryz.prog W=.ok (.slice (some ⟨W.heap.size,0,none⟩) 0 N) (W.alloc (.cells (bts (zm_ N)).toArray 5)):=(by
    intro W;rw[yT_];exact x1_ (P:=Tryz.prog) 39 5 iu _ rfl Tryz.underlying39 hui huz hus N (by rw[hub];omega) (by omega) W);have hsz:ux_ (l:Int)=(N:Int):=(by unfold ux_;rw[if_neg (by omega),hN];omega);obtain⟨c0,c1,c2,_,_,_⟩:=zp_ HR2.o;clear hN hrt;go_wp2_with fail;refine(je_ (l:Int) P E (by omega)).mono ?_;rintro e w3 ⟨rfl,hc3⟩;rw[hsz];have HC3:=hQ_ (HC2.o.new hc3);have HR3:=hQ_ (HR2.o.keep hc3);clear hc3 c0 c1 c2 hsz;obtain⟨c0,c1,c2,_,_,_⟩:=zp_ HR3.o;have d0:=zd_ c0 ((Chg.refl [] w3).alloc (.cells (bts (zm_ N)).toArray 5));go_wp2_with fail;have hW:=zb_.new w3 5 (bts (zm_ N));have hal:Chg [] w3 (w3.alloc (.cells (bts (zm_ N)).toArray 5)):=(Chg.refl [] w3).alloc _;have ho0:(w3.alloc (.cells (bts (zm_ N)).toArray 5)).ownsRow w3.heap.size 5 1 (.slice (some ⟨w3.heap.size,0,none⟩) 0 N) 0 []:=(by
    have:=z0_ (B:=w3.heap.size) (n:=0) (c:=N) hW (Nat.le_refl _) (by rw[zg_,zE_]) (by omega) (by unfold maxLen;omega);simpa using this);have HAL:=hQ_ hal;have HR4:=hQ_ (HR3.o.keep hal);have HC4:=hQ_ (HC3.o.new hal);generalize w3.alloc (.cells (bts (zm_ N)).toArray 5)=w4 at ho0 HR4 HC4 HAL⊢;obtain⟨B3,hB3⟩:∃B,B=w3.heap.size:=⟨_,rfl⟩;rw[<-hB3]at ho0⊢;have HB3:=hQ_ (show B3<=w4.heap.size/\w.heap.size<=B3 by rw[hB3];exact⟨HAL.o.size,HC3.o.size⟩);clear hW hal hB3 c0 c1 c2 d0 HAL hmk;go_loopw [5,18] (fun v i wr=>∃k:Nat,k<=l/\i=.int .i64 (k:Int)/\(∃n,Hid (n=k*64)/\wr.ownsRow B3 5 1 v n (bts (xL_ s k)))/\Hid (B3<=wr.heap.size)/\Hid (Chg [] w wr)) (fun _ i _=>l-(intOf i).toNat);(case atStart=>exact⟨0,by omega,rfl,⟨0,hQ_ rfl,by unfold xL_;simpa[bts] using ho0⟩,hQ_ HB3.o.1,HC4⟩);case round =>
    obtain⟨k,hk,rfl,⟨n,Hn,hown⟩,HBr,HCr⟩:=hrel;obtain⟨Av,cv,rfl,hvl,hvc,_⟩:=zr_ hown;by_cases hlt:k<l
    · have hkI:(k:Int)<(l:Int):=(by omega);obtain⟨q,hq⟩:∃q:Nat,(2:Int)+(k:Int)=(q:Int):=⟨2+k,by omega⟩;have HQ:=hQ_ (show q=2+k by omega);have hqV:q<s.V.length:=(by omega);go_wp2_with fail;refine(jg_ (Dsk.keep H.o HCr.o) q hqV).mono ?_;rintro e w5 ⟨rfl,hW5,hc5⟩;have hl5:((s.S.drop (q*64)).take 64).length=64:=(by rw[List.length_take,List.length_drop,HS.o];omega);have HNX:=hQ_ (show xL_ s (k+1)=xL_ s k++(s.S.drop (q*64)).take 64 by rw[u0_,HQ.o]);have HS5:=hQ_ (Src.of_all hW5);have hx1:=hQ_ (show(bts ((s.S.drop (q*64)).take 64)).length=64 by rw[zg_,hl5]);have how:=zk_ hown hc5;have hn4:n<=4096:=(by rw[Hn.o];omega);have hx2:=hQ_ (show n+64<=maxLen by unfold maxLen;omega);have hx3:=hQ_ (show(n+64)*1<=140737488355328 by omega);have hx4:=hQ_ (show B3<=w5.heap.size by have:=HBr.o;have:=hc5.size;omega);have HC5:=hQ_ (HCr.o.new hc5);have h1:=yc_ ((s.S.drop (q*64)).take 64);generalize (s.S.drop (q*64)).take 64=Z at hW5 HNX HS5 hx1 h1;obtain⟨g5,hg5⟩:∃g,g=wr.heap.size:=⟨_,rfl⟩;rw[<-hg5]at HS5⊢;clear hg5 hW5 hl5 hc5 hown;go_wp2_with (
       at_builtin;refine zC_ rfl (.tmp 28) (.tmp 29) 39 rfl B3 5 iu _ 1 Tryz.underlying39 hui huz hus hub uj_ (.slice Av n cv) n (bts (xL_ s k)) rfl how (some ⟨g5,0,none⟩) 64 64 (bts Z) rfl hx1.out HS5.o h1 hx2.out hx3.out hx4.out ?_;intro v6 w6 ho6 hg6 _);have hc6:=HC5.o.own how HB3.o.2 hg6;go_roundw;(case rel=>exact⟨k+1,by omega,by go_num,⟨n+64,hQ_ (by rw[Hn.o];omega),by rw[HNX.o,qi_];exact ho6⟩,hQ_ (Nat.le_trans hx4.out hg6.size),hQ_ hc6⟩);case measure=>simp[intOf];omega
    · have hkI:¬(k:Int)<(l:Int):=(by omega);have HK:=hQ_ (show k=l by omega);have HLen:=hQ_ (show(xL_ s l).length=n by rw[zld (by rw[HS.o];omega),Hn.o,HK.o]);clear hlt hk;go_wp2_with fail;go_ret;rw[HF.o];refine⟨_,rfl,?_,HCr.o⟩;rw[HLen.o,<-HK.o];exact zZ_ hown HB3.o.2
def zlS (s:St)(L P E at_:Int)(n:Nat):Prop:=zq_ L P E s.V.length=true/\0<=at_/\at_<=L*64/\(n:Int)<=L*64-at_
def zoM (w:World)(p bL bS bW:Nat)(s:St)(L P E at_:Int)(l:List UInt8)(e:Ending)(w':World):Prop :=
 (zlS s L P E at_ l.length/\e=.returned (.bool true)/\yx_ w' p bL bS bW (apS s (128+at_.toNat) l)/\Chg [bS,bW] w w') \/
 (¬zlS s L P E at_ l.length/\e=.returned (.bool false)/\Chg [] w w')
theorem zfU (h:yx_ w p bL bS bW s) (L P E at_:Int) (hL0:-9223372036854775808<=at_) (hL1:at_<=9223372036854775807) {A:Option Addr} {n c:Nat} {l:List UInt8} (hx:Bs w A n c l) (hA:0<n->∀ad,A=some ad->ad.block≠bS/\ad.block≠bW) :
    Calls Tryz.prog 83 #[.pointer (some ⟨p,0,none⟩),zB_ L P E,.int .i64 at_,.slice A n c] w (zoM w p bL bS bW s L P E at_ l):=by
 have hr0:zB_ L P E=.agg #[.int .i64 L,.int .i64 P,.int .u32 E]:=rfl;have H:=hQ_ h;have HX:=hQ_ hx;have hln:=hx.len;have HA:=hQ_ hA;have hnm:=hx.le;clear h hx hA;rw[hr0];go_enter Tryz.func83,Tryz.ntmps83;go_wp2_with fail;have hR:=zb_.new w 82 [.int .i64 L,.int .i64 P,.int .u32 E];have hc1:Chg [] w (w.alloc (.cells #[.int .i64 L,.int .i64 P,.int .u32 E] 82)):=(Chg.refl [] w).alloc _;obtain⟨g,hg⟩:∃g,g=w.heap.size:=⟨_,rfl⟩;rw[<-hg]at hR⊢;generalize w.alloc (.cells #[.int .i64 L,.int .i64 P,.int .u32 E] 82)=w1 at hc1 hR⊢;clear hg;obtain⟨c0,c1,c2,_,_,_⟩:=zp_ hR;go_wp2_with fail;refine(zaH (Dsk.keep H.o hc1) L P E).mono ?_;rintro e w2 ⟨rfl,hc2⟩;have HC2:=hQ_ (hc1.new hc2);have HR2:=hQ_ (hR.keep hc2);clear hc1 hc2 hR c0 c1 c2;have HLN:=hQ_ hln;clear hln;cases hrr:zq_ L P E s.V.length with
 | false =>
   have HF:=hQ_ (show ¬zlS s L P E at_ l.length from fun h=>by have:=h.1;rw[hrr]at this;cases this);go_wp2_with fail;go_ret;exact .inr ⟨HF.o,rfl,HC2.o⟩
 | true =>
   have hrt:=zj_.1 hrr;have hl1:1<=L:=hrt.1;have hl64:L<=64:=hrt.2.1;have hlV:=hQ_ (show 2+L+P<=s.V.length/\1<=P from⟨hrt.2.2.2.2.1,hrt.2.2.1⟩);have HCA:=hQ_ (show zlS s L P E at_ l.length↔(0<=at_/\at_<=L*64/\(n:Int)<=L*64-at_) by unfold zlS;rw[hrr,HLN.o];simp);have hsz:ux_ L=L*64:=(by unfold ux_;rw[if_neg (by omega)]);clear hrt;by_cases ha0:at_<0
   · have HF:=hQ_ (show ¬zlS s L P E at_ l.length from fun h=>by have:=(HCA.o.1 h).1;omega);go_wp2_with fail;go_ret;exact .inr ⟨HF.o,rfl,HC2.o⟩
   obtain⟨a,rfl⟩:=Int.eq_ofNat_of_zero_le (show 0<=at_ by omega);have ha0':¬((a:Int)<0):=ha0;clear ha0 hL0;obtain⟨c0,c1,c2,_,_,_⟩:=zp_ HR2.o;go_wp2_with fail;refine(je_ L P E (by omega)).mono ?_;rintro e w3 ⟨rfl,hc3⟩;rw[hsz];have HC3:=hQ_ (HC2.o.new hc3);have HR3:=hQ_ (HR2.o.keep hc3);clear hc3 c0 c1 c2;obtain⟨N,hN,hN4⟩:∃N:Nat,L*64=(N:Int)/\N<=4096:=⟨(L*64).toNat,by omega,by omega⟩;rw[hN];rw[hN]at hsz HCA;have HNN:=hQ_ hN;clear hN;by_cases ha1:(N:Int)<(a:Int)
   · have HF:=hQ_ (show ¬zlS s L P E a l.length from fun h=>by have:=(HCA.o.1 h).2.1;omega);go_wp2_with fail;go_ret;exact .inr ⟨HF.o,rfl,HC3.o⟩
   have haN:a<=N:=(by omega);obtain⟨c0,c1,c2,_,_,_⟩:=zp_ HR3.o;go_wp2_with fail;refine(je_ L P E (by omega)).mono ?_;rintro e w4 ⟨rfl,hc4⟩;rw[hsz];have HC4:=hQ_ (HC3.o.new hc4);clear hc4 c0 c1 c2 hsz;by_cases hn1:(N:Int)-(a:Int)<(n:Int)
   · have HF:=hQ_ (show ¬zlS s L P E a l.length from fun h=>by have:=(HCA.o.1 h).2.2;omega);go_wp2_with fail;go_ret;exact .inr ⟨HF.o,rfl,HC4.o⟩
   have hnN:a+n<=N:=(by omega);have HY:=hQ_ (HCA.o.2 ⟨by omega,by omega,by omega⟩);have HDs:=hQ_ (show 128+N<=s.S.length/\s.S.length=64*s.V.length by have:=H.o.lenS;have:=hlV.out;have:=HNN.o;omega);have h0:apS s (128+a) (l.take 0)=s:=(by rw[List.take_zero];exact zoz s _ (by have:=HDs.o;omega));have HD4:Hid (yx_ w4 p bL bS bW (apS s (128+a) (l.take 0))):=hQ_ (by rw[h0];exact Dsk.keep H.o HC4.o);have HX4:Hid (Bs w4 A (n-0) c (l.drop 0)):=hQ_ (HX.o.keep HC4.o);have HC4':=hQ_ (HC4.o.sub (T':=[bS,bW]) (by simp));have hlt4:=hQ_ (show bS<w4.heap.size/\bW<w4.heap.size by have hd:Dsk w4 p bL bS bW _ _ _:=HD4.o;exact⟨hd.seen.lt,hd.wait.lt⟩);have hd1:decide ((a:Int)<0)=false:=decide_eq_false (by omega);have hd2:decide ((N:Int)<(a:Int))=false:=decide_eq_false (by omega);have hd3:decide (N<a)=false:=decide_eq_false (by omega);have hd4:decide ((N:Int)-(a:Int)<(n:Int))=false:=decide_eq_false (by omega);clear h0 haN;go_wp2_with fail;go_loopw [2,3] (fun v b wr=>∃k:Nat,k<=n/\v=.int .i64 ((a+k:Nat):Int)/\(∃A' c',b=.slice A' (n-k) c'/\Hid (Bs wr A' (n-k) c' (l.drop k))/\Hid (0<n->∀ad,A'=some ad->ad.block≠bS/\ad.block≠bW))/\Hid (yx_ wr p bL bS bW (apS s (128+a) (l.take k)))/\Hid (Chg [bS,bW] w wr)) (fun v _ _=>a+n-(intOf v).toNat);(case atStart=>exact⟨0,by omega,rfl,⟨_,_,rfl,HX4,HA⟩,HD4,HC4'⟩);case round =>
    obtain⟨k,hk,rfl,⟨A',c',rfl,HXk,HAk⟩,HDk,HCk⟩:=hrel;clear HD4 HX4 HC4';by_cases hlt:k<n
    · obtain⟨m,hm,hm0⟩:∃m,m=n-k/\0<m:=⟨_,rfl,by omega⟩;rw[<-hm]at HXk⊢;have HM:=hQ_ hm;have hm0I:(0:Int)<(m:Int):=(by omega);have hm5:m<=4096:=(by omega);obtain⟨ad,rfl,_,_⟩:=HXk.o.src (by rw[zg_,HXk.o.len];omega);obtain⟨bb,oo,sb⟩:=ad;obtain rfl:sb=none:=HXk.o.spot hm0 _ rfl;obtain⟨x,hx,hxN⟩:∃x,x=a+k/\x<4096:=⟨_,rfl,by omega⟩;rw[<-hx];have HXe:=hQ_ hx;obtain⟨q0,hq0⟩:∃q0,q0=x/64:=⟨_,rfl⟩;obtain⟨f,hf,hf64⟩:∃f,f=x%64/\f<64:=⟨_,rfl,Nat.mod_lt _ (by omega)⟩;have hdiv:(x:Int).tdiv 64=(q0:Int):=(by rw[Int.tdiv_eq_ediv_of_nonneg (by omega)];omega);have hmod:(x:Int).tmod 64=(f:Int):=(by rw[Int.tmod_eq_emod_of_nonneg (by omega)];omega);obtain⟨q,hq⟩:∃q:Nat,(2:Int)+(q0:Int)=(q:Int):=⟨2+q0,by omega⟩;have HQ:=hQ_ (show q*64+f=128+a+k by omega);have hqV:q<(apS s (128+a) (l.take k)).V.length:=(by rw[zbA];have:=HDs.o;omega);have hq063:q0<=63:=(by omega);clear hq0 hf hm hx;go_wp2_with fail;refine(jg_ HDk.o q hqV).mono ?_;rintro e w5 ⟨rfl,hW5,hc5⟩;have hSl:(apS s (128+a) (l.take k)).S.length=s.S.length:=xu_ _ _ _ (by rw[List.length_take];have:=HDs.o;have:=HLN.o;omega);have hl5:(((apS s (128+a) (l.take k)).S.drop (q*64)).take 64).length=64:=(by rw[List.length_take,List.length_drop,hSl];rw[zbA]at hqV;have:=HDs.o;omega);obtain⟨n',hn',hn'1,hn'2,hn'3⟩:∃n',n'=min m (64-f)/\n'<=m/\f+n'<=64/\0<n':=⟨_,rfl,by omega,by omega,by omega⟩;have hHl:128+a+l.length<=s.S.length:=(by have:=HDs.o;have:=HLN.o;omega);have HSA:=hQ_ (zkw (S:=s.S) (b:=l) (a:=128+a) (k:=k) (m:=n') (q:=q) (f:=f) hHl (by rw[HLN.o];have:=HM.o;omega) HQ.o hn'2 (by rw[zbA]at hqV;have:=HDs.o;omega));have HST:=hQ_ (zmg (s:=s) (a:=128+a) (b:=l) (k:=k) (k':=k+n') (q:=q) HDs.o.2 hHl (by omega) (by rw[HLN.o];have:=HM.o;omega) (by have:=HQ.o;omega) (by have:=HQ.o;omega) (by have:=HQ.o;omega) rfl);have hcl:=hQ_ (show(bts ((l.drop k).take n')).length=n' by rw[zg_,List.length_take,List.length_drop,HLN.o];have:=HM.o;omega);have hff:f+(bts ((l.drop k).take n')).length<=(bts (((apS s (128+a) (l.take k)).S.drop (q*64)).take 64)).length:=(by rw[zg_,zg_,hl5,List.length_take];omega);have hs5:Src w5 (some ⟨bb,oo,none⟩) (bts ((l.drop k).take n')):=(by have:=((HXk.o.keep hc5).take (m:=n') hn'1).src;exact this);have h1:=yc_ ((l.drop k).take n');have hspl:=hQ_ (show splice (bts (((apS s (128+a) (l.take k)).S.drop (q*64)).take 64)) f (bts ((l.drop k).take n'))=bts (((splice s.S (128+a) (l.take (k+n'))).drop (q*64)).take 64) by rw[vh_,<-HSA.o];rfl);have hxl:=hQ_ (show(((splice s.S (128+a) (l.take (k+n'))).drop (q*64)).take 64).length=64 by rw[List.length_take,List.length_drop,xu_ _ _ _ (by rw[List.length_take];have:=HLN.o;have:=HM.o;omega)];rw[zbA]at hqV;have:=HDs.o;omega);have HDk5:=hQ_ (Dsk.keep HDk.o hc5);have HXk5:=hQ_ (HXk.o.keep hc5);have HCk5:=hQ_ (HCk.o.trans (hc5.sub (by simp)));have HW5:=hW5;generalize bts (((apS s (128+a) (l.take k)).S.drop (q*64)).take 64)=Y5 at HW5 hff hspl;generalize bts ((l.drop k).take n')=Z5 at hcl hff hs5 h1 hspl;obtain⟨g5,hg5⟩:∃g,g=wr.heap.size:=⟨_,rfl⟩;rw[<-hg5]at HW5⊢;have HG5:=hQ_ hg5;have hz5:=hQ_ (show wr.heap.size<w5.heap.size from hg5 ▸ HW5.lt);have hc64:¬(64:Nat)=f:=(by omega);clear hg5 hW5 hc5 hSl hl5 HSA;have hcl2:=hQ_ (show Z5.length=Nat.min m (64-f) by rw[hcl.out,hn']);have HN':=hQ_ hn';clear hn';go_wp2_with (
       (with_reducible refine z7_ rfl (.tmp 53) (.tmp 54) _ _ rfl 5 Tryz.underlying39 xz_ (some ⟨g5,f,none⟩) (some ⟨bb,oo,none⟩) (64-f) (64-f) m c' rfl rfl g5 f 5 Y5 Z5 HW5 hcl2.out (fun _=>rfl) hs5 hff h1 ?_);intro w6 HG6 HC6);rw[hspl.out]at HG6;have hd5:Dsk w5 p bL bS bW _ _ _:=HDk5.o;have hne:p≠g5/\bL≠g5/\bS≠g5/\bW≠g5:=(by
       have hd:Dsk wr p bL bS bW _ _ _:=HDk.o;have h1:=hd.rec_.lt;have h2:=hd.last.lt;have h3:=hd.seen.lt;have h4:=hd.wait.lt;have:=HG5.o;exact⟨by omega,by omega,by omega,by omega⟩);have HD6:Hid (yx_ w6 p bL bS bW (apS s (128+a) (l.take k))):=hQ_ (hd5.away HC6 (by simp;exact hne.1) (by simp;exact hne.2.1) (by simp;exact hne.2.2.1) (by simp;exact hne.2.2.2));have hbg:bb≠g5:=(by
       obtain⟨ad,e,hb,_⟩:=HXk.o.src (by rw[zg_,HXk.o.len];exact hm0);injection e with e;have:=HG5.o;rw[<-e]at hb;have hb':bb<wr.heap.size:=hb;omega);have HX6:=hQ_ (show Bs w6 (some ⟨bb,oo,none⟩) m c' (l.drop k) from⟨HXk5.o.len,HXk5.o.src.chg HC6 (fun _ ad e=>by injection e with e;subst e;simp;exact hbg),HXk5.o.cap,HXk5.o.max,HXk5.o.spot⟩);have HC6':=hQ_ (show Chg [bS,bW] w w6 from HCk5.o.then_ HC6 fun i hi hlt=>by
       simp only[List.mem_cons,List.not_mem_nil,or_false]at hi;have h1:=HG5.o;have h2:=HCk.o.size;omega);have hs6:=hQ_ (Src.of_all HG6);have hZl:(Z5.length:Int)=(n':Int):=(by rw[hcl.out]);rw[hZl];clear hd5 hne hbg HG6 HC6 hs5 hff h1 hspl HW5 hZl HDk5 HXk5 HCk5;refine(uK_ HD6.o q hqV hxl.out hs6.out).mono ?_;rintro e w7 ⟨rfl,hD7,hc7⟩;have HD7:Hid (yx_ w7 p bL bS bW (apS s (128+a) (l.take (k+n')))):=hQ_ (by rw[<-HST.o];exact hD7);have HC7:=hQ_ (HC6'.out.trans hc7);have HX7:=hQ_ (show Bs w7 (some ⟨bb,oo,none⟩) m c' (l.drop k) from⟨HX6.o.len,HX6.o.src.chg hc7 (fun _ ad e=>by have:=HAk.o (by omega) ad e;exact not2' this.1 this.2),HX6.o.cap,HX6.o.max,HX6.o.spot⟩);have hcut:=HX7.o.cut (lo:=n') (hi:=m) hn'1 (Nat.le_refl _);rw[show((l.drop k).drop n').take (m-n')=(l.drop k).drop n' from List.take_of_length_le (by rw[List.length_drop,HX7.o.len];exact Nat.le_refl _)]at hcut;have hcap':=HX7.o.cap;have hmc:¬c'<m:=(by omega);have hmc2:¬m<n':=(by omega);have hmI:(n':Int)<=(m:Int):=(by omega);have hwx:IntKind.i64.wrap ((x:Int)+(n':Int))=(x:Int)+(n':Int):=(by simp[IntKind.wrap,IntKind.signed,IntKind.bits];omega);clear hD7 hc7 hqV;by_cases hcc:c'=n'
      · rw[if_pos hcc]at hcut;have HXc:=hQ_ hcut;clear hcut;go_wp2_with fail;refine wp_flow (by kernel_rfl) yl_ za_ (by kernel_rfl) ?_;refine flow_move_out za_ rfl rfl rfl ?_;refine flow_move_out za_ rfl rfl rfl ?_;refine flow2 (r:=.int .i64 ((x+n':Nat):Int)) za_ rfl (.inn rfl) (.inn rfl) rfl (fun ev W he e1 e2=>by go_simp) ?_;refine flow_move_out za_ rfl rfl rfl ?_;refine flow_move_out za_ rfl rfl rfl ?_;refine u9_ (r:=.slice (some ⟨bb,oo,none⟩) (m-n') (c'-n')) za_ (.inn rfl) (.inn rfl) (fun ev W he e1 e2=>by go_simp) rfl ?_;refine flow_assign za_ rfl (zc_ _) (.inr (zc_ _)) rfl ?_;refine flow_assign za_ rfl (zc_ _) (.inr (zc_ _)) rfl ?_;intro vs W hW hF;have e2:vs 2=.int .i64 ((x+n':Nat):Int):=hF 2 _ rfl rfl;have e3:vs 3=.slice (some ⟨bb,oo,none⟩) (m-n') (c'-n'):=hF 3 _ rfl rfl;simp only[zV_,Act.put,List.setIfInBounds_toArray,List.set_cons_zero,List.set_cons_succ,e2,e3];have HCW:=hQ_ (jC_ hW);clear hW hF e2 e3;go_wp2_with fail;go_roundw;case rel =>
         have hc:=HM.o;refine⟨k+n',by omega,by rw[HXe.o,Nat.add_assoc],⟨_,_,by rw[show n-(k+n')=m-n' by omega],hQ_ ?_,hQ_ ?_⟩,hQ_ (Dsk.keep HD7.o HCW.o),hQ_ (HC7.o.trans (HCW.o.sub (by simp)))⟩
         · have:=HXc.o.keep HCW.o;rw[List.drop_drop]at this;rw[show n-(k+n')=m-n' by omega];exact this
         · intro h0 ad e;injection e with e;subst e;exact HAk.o h0 ⟨bb,oo,none⟩ rfl
        case measure=>have:=HM.o;have:=HXe.o;simp[intOf];omega
      · rw[if_neg hcc,Option.map_some,zl_]at hcut;have HXc:=hQ_ hcut;clear hcut;go_wp2_with fail;refine wp_flow (by kernel_rfl) yl_ za_ (by kernel_rfl) ?_;refine flow_move_out za_ rfl rfl rfl ?_;refine flow_move_out za_ rfl rfl rfl ?_;refine flow2 (r:=.int .i64 ((x+n':Nat):Int)) za_ rfl (.inn rfl) (.inn rfl) rfl (fun ev W he e1 e2=>by go_simp) ?_;refine flow_move_out za_ rfl rfl rfl ?_;refine flow_move_out za_ rfl rfl rfl ?_;refine u9_ (r:=.slice (some ⟨bb,oo+n',none⟩) (m-n') (c'-n')) za_ (.inn rfl) (.inn rfl) (fun ev W he e1 e2=>by go_simp) rfl ?_;refine flow_assign za_ rfl (zc_ _) (.inr (zc_ _)) rfl ?_;refine flow_assign za_ rfl (zc_ _) (.inr (zc_ _)) rfl ?_;intro vs W hW hF;have e2:vs 2=.int .i64 ((x+n':Nat):Int):=hF 2 _ rfl rfl;have e3:vs 3=.slice (some ⟨bb,oo+n',none⟩) (m-n') (c'-n'):=hF 3 _ rfl rfl;simp only[zV_,Act.put,List.setIfInBounds_toArray,List.set_cons_zero,List.set_cons_succ,e2,e3];have HCW:=hQ_ (jC_ hW);clear hW hF e2 e3;go_wp2_with fail;go_roundw;case rel =>
         have hc:=HM.o;refine⟨k+n',by omega,by rw[HXe.o,Nat.add_assoc],⟨_,_,by rw[show n-(k+n')=m-n' by omega],hQ_ ?_,hQ_ ?_⟩,hQ_ (Dsk.keep HD7.o HCW.o),hQ_ (HC7.o.trans (HCW.o.sub (by simp)))⟩
         · have:=HXc.o.keep HCW.o;rw[List.drop_drop]at this;rw[show n-(k+n')=m-n' by omega];exact this
         · intro h0 ad e;injection e with e;subst e;exact HAk.o h0 ⟨bb,oo,none⟩ rfl
        case measure=>have:=HM.o;have:=HXe.o;simp[intOf];omega
    · have hk0:¬(0:Int)<((n-k:Nat):Int):=(by omega);have HK:=hQ_ (show l.take k=l from List.take_of_length_le (by rw[HLN.o];omega));obtain⟨m,hm⟩:∃m,m=n-k:=⟨_,rfl⟩;rw[<-hm]at hk0⊢;clear hm hlt;go_wp2_with fail;go_ret;refine .inl ⟨HY.o,rfl,?_,HCk.o⟩;have:=HDk.o;rw[HK.o]at this;rw[Int.toNat_natCast];exact this
end
end
section
open Go.RowKit
structure Rm (B:Nat) (w w':World):Prop where
  os:w'.os=w.os
  tape:w'.tape=w.tape
  output:w'.output=w.output
  size:w.heap.size<=w'.heap.size
  block:∀k,k<w.heap.size->w'.heap[k]?=w.heap[k]?\/(B<=k/\∃t fz fz',w.heap[k]?=some (.cells (bts k9_).toArray t fz)/\w'.heap[k]?=some (.cells (bts k9_).toArray t fz'))
section
variable {T:Turns} {w0:World} {a0:Act} {ops:List Oper} {Q:Exit->Act->World->Prop} {F:Said} {k:Nat} {rest:List Oper}
  {d:Option Tmp} {ty:TypeId} {pos:String} {af:Array Go.Edge} {g:Option (Nat×Bool)} {B:Nat}
end
end
section
open Go.RowKit
def zjJ (l:List UInt8)(w:World)(e:Ending)(w':World):Prop :=
 (vD_ l/\e=.returned (.tuple #[zB_ (zz_ l 4:Nat) (zz_ l 8:Nat) (zz_ l 12:Nat),.bool true])/\Chg [] w w') \/
 (¬vD_ l/\e=.returned (.tuple #[zB_ 0 0 0,.bool false])/\Chg [] w w')
theorem vp_ {w W:World}{g:Nat}{x y z:Value}(hc:Chg [] w W)(hg:w.heap.size<=g)(h:zb_ W g 82 [x,y,z])(a b c:Value) :
    zb_ (((W.setCell ⟨g,0,none⟩ a).setCell ⟨g,1,none⟩ b).setCell ⟨g,2,none⟩ c) g 82 [a,b,c]/\Chg [] w (((W.setCell ⟨g,0,none⟩ a).setCell ⟨g,1,none⟩ b).setCell ⟨g,2,none⟩ c):=by
 have hx:∀o:Nat,(⟨g,o,none⟩:Addr).block<w.heap.size->(⟨g,o,none⟩:Addr).block∈([]:List Nat):=fun o h=>absurd h (by simp only;omega);exact⟨((h.set_ 0 a).set_ 1 b).set_ 2 c,((hc.setCell (hx 0) _).setCell (hx 1) _).setCell (hx 2) _⟩
section
variable {w:World} {A:Option Addr} {n c:Nat} {l:List UInt8}
theorem zaz (h:Bs w A n c l):Calls Tryz.prog 113 #[.slice A n c] w (zjJ l w):=by
 have H:=hQ_ h;have h4:=xj_ l 4;have h8:=xj_ l 8;have h12:=xj_ l 12;clear h;go_enter Tryz.func113,Tryz.ntmps113;go_wp2_with fail;have hc1:Chg [] w (w.alloc (.cells #[.int .i64 0,.int .i64 0,.int .u32 0] 82)):=(Chg.refl [] w).alloc _;have hR:=zb_.new w 82 [.int .i64 0,.int .i64 0,.int .u32 0];obtain⟨g,hg⟩:∃g,g=w.heap.size:=⟨_,rfl⟩;rw[<-hg]at hR⊢;generalize w.alloc (.cells #[.int .i64 0,.int .i64 0,.int .u32 0] 82)=w1 at hc1 hR⊢;have hwg:w.heap.size<=g:=by omega
 clear hg;refine(uF_ (H.o.keep hc1) 4 (by omega)).mono ?_;rintro e w' ⟨rfl,rfl⟩;go_wp2_with fail;refine(uF_ (H.o.keep hc1) 8 (by omega)).mono ?_;rintro e w' ⟨rfl,rfl⟩;have HC1:=hQ_ hc1;have HR:=hQ_ hR;by_cases hab:2147483647<zz_ l 4\/2147483647<zz_ l 8
 · have HNO:=hQ_ (show ¬vD_ l from fun h=>by have:=h.1;have:=h.2.1;omega);obtain⟨c0,c1,c2,f0,f1,f2⟩:=zp_ hR;clear hR hc1;rcases hab with ha|ha
   · have hd:decide ((2147483647:Int)<((zz_ l 4:Nat):Int))=true:=(by simp;omega);go_wp2_with fail;obtain⟨hS,hCS⟩:=vp_ HC1.o hwg HR.o (.int .i64 0) (.int .i64 0) (.int .u32 0);generalize ((w1.setCell ⟨g,0,none⟩ (.int .i64 0)).setCell ⟨g,1,none⟩ (.int .i64 0)).setCell ⟨g,2,none⟩ (.int .u32 0)=w9 at hS hCS⊢;obtain⟨k0,k1,k2,_,_,_⟩:=zp_ hS;exact bodyPost_ret (v:=.tuple #[zB_ 0 0 0,.bool false]) (by simp[results,Tryz.results113,go_sem,zB_,k0,k1,k2]) rfl (.inr ⟨HNO.o,rfl,hCS⟩)
   · by_cases ha4:2147483647<zz_ l 4
     · have hd:decide ((2147483647:Int)<((zz_ l 4:Nat):Int))=true:=(by simp;omega);go_wp2_with fail;obtain⟨hS,hCS⟩:=vp_ HC1.o hwg HR.o (.int .i64 0) (.int .i64 0) (.int .u32 0);generalize ((w1.setCell ⟨g,0,none⟩ (.int .i64 0)).setCell ⟨g,1,none⟩ (.int .i64 0)).setCell ⟨g,2,none⟩ (.int .u32 0)=w9 at hS hCS⊢;obtain⟨k0,k1,k2,_,_,_⟩:=zp_ hS;exact bodyPost_ret (v:=.tuple #[zB_ 0 0 0,.bool false]) (by simp[results,Tryz.results113,go_sem,zB_,k0,k1,k2]) rfl (.inr ⟨HNO.o,rfl,hCS⟩)
     · have hd:decide ((2147483647:Int)<((zz_ l 4:Nat):Int))=false:=(by simp;omega);have hd2:decide ((2147483647:Int)<((zz_ l 8:Nat):Int))=true:=(by simp;omega);go_wp2_with fail;obtain⟨hS,hCS⟩:=vp_ HC1.o hwg HR.o (.int .i64 0) (.int .i64 0) (.int .u32 0);generalize ((w1.setCell ⟨g,0,none⟩ (.int .i64 0)).setCell ⟨g,1,none⟩ (.int .i64 0)).setCell ⟨g,2,none⟩ (.int .u32 0)=w9 at hS hCS⊢;obtain⟨k0,k1,k2,_,_,_⟩:=zp_ hS;exact bodyPost_ret (v:=.tuple #[zB_ 0 0 0,.bool false]) (by simp[results,Tryz.results113,go_sem,zB_,k0,k1,k2]) rfl (.inr ⟨HNO.o,rfl,hCS⟩)
 · have hd:decide ((2147483647:Int)<((zz_ l 4:Nat):Int))=false:=(by simp;omega);have hd2:decide ((2147483647:Int)<((zz_ l 8:Nat):Int))=false:=(by simp;omega);have hle4:zz_ l 4<=2147483647:=(by omega);have hle8:zz_ l 8<=2147483647:=(by omega);have HI:=hQ_ (show vD_ l↔l=z3_ (zz_ l 4) (zz_ l 8) (zz_ l 12) from⟨fun h=>h.2.2,fun h=>⟨hle4,hle8,h⟩⟩);have m4:IntKind.i64.wrap ((zz_ l 4:Nat):Int)=((zz_ l 4:Nat):Int):=IntWalk.i64_in _ (by omega);have m8:IntKind.i64.wrap ((zz_ l 8:Nat):Int)=((zz_ l 8:Nat):Int):=IntWalk.i64_in _ (by omega);clear hab;generalize hq4:zz_ l 4=a at *;generalize hq8:zz_ l 8=b at *;generalize hq12:zz_ l 12=d at *;have HQ:=hQ_ (And.intro hq4 (And.intro hq8 hq12));clear hq4 hq8 hq12 hR hc1;go_wp2_with fail;refine(uF_ (H.o.keep HC1.o) 12 (by omega)).mono ?_;rintro e w' ⟨rfl,rfl⟩;rw[HQ.o.2.2];go_wp2_with fail;have hN:=zb_.new w1 82 [.int .i64 (a:Int),.int .i64 (b:Int),.int .u32 (d:Int)];have hc2:Chg [] w (w1.alloc (.cells #[.int .i64 (a:Int),.int .i64 (b:Int),.int .u32 (d:Int)] 82)):=HC1.o.alloc _;have hR2:=HR.o.keep ((Chg.refl [] w1).alloc (.cells #[.int .i64 (a:Int),.int .i64 (b:Int),.int .u32 (d:Int)] 82));generalize w1.alloc (.cells #[.int .i64 (a:Int),.int .i64 (b:Int),.int .u32 (d:Int)] 82)=w2 at hN hc2 hR2⊢;generalize w1.heap.size=g6 at hN⊢;refine(uT_ a b d hle4 hle8 h12).mono ?_;rintro e w3 ⟨v3,rfl,ho3,hc3⟩;obtain⟨A3,c3,rfl,hB3,_⟩:=Bs.of_own ho3;rw[x3_]at hB3⊢;have HC3:=hQ_ (hc2.new hc3);have HR3:=hQ_ (hR2.keep hc3);have hN3:=hN.keep hc3;have HB3:=hQ_ hB3;clear hN hc2 hR2 ho3 hc3 hB3;go_wp2_with fail;refine(kM_ (H.o.keep HC3.o) HB3.o).mono ?_;rintro e w' ⟨rfl,rfl⟩;obtain⟨c0,c1,c2,f0,f1,f2⟩:=zp_ HR3.o;obtain⟨e0,e1,e2,_,_,_⟩:=zp_ hN3;clear hN3;by_cases hl:l=z3_ a b d
   · have HYES:=hQ_ (HI.o.2 hl);have hdl:decide (l=z3_ a b d)=true:=(by simpa using hl);rw[hdl];clear hdl hl;go_wp2_with fail;obtain⟨hS,hCS⟩:=vp_ HC3.o hwg HR3.o (.int .i64 (a:Int)) (.int .i64 (b:Int)) (.int .u32 (d:Int));generalize ((w3.setCell ⟨g,0,none⟩ (.int .i64 (a:Int))).setCell ⟨g,1,none⟩ (.int .i64 (b:Int))).setCell ⟨g,2,none⟩ (.int .u32 (d:Int))=w9 at hS hCS⊢;obtain⟨k0,k1,k2,_,_,_⟩:=zp_ hS;exact bodyPost_ret (v:=.tuple #[zB_ a b d,.bool true]) (by simp[results,Tryz.results113,go_sem,zB_,k0,k1,k2]) rfl (.inl ⟨HYES.o,by rw[HQ.o.1,HQ.o.2.1,HQ.o.2.2],hCS⟩)
   · have HNO:=hQ_ (fun h=>hl (HI.o.1 h));have hdl:decide (l=z3_ a b d)=false:=(by simpa using hl);rw[hdl];clear hdl hl;go_wp2_with fail;obtain⟨hS,hCS⟩:=vp_ HC3.o hwg HR3.o (.int .i64 0) (.int .i64 0) (.int .u32 0);generalize ((w3.setCell ⟨g,0,none⟩ (.int .i64 0)).setCell ⟨g,1,none⟩ (.int .i64 0)).setCell ⟨g,2,none⟩ (.int .u32 0)=w9 at hS hCS⊢;obtain⟨k0,k1,k2,_,_,_⟩:=zp_ hS;exact bodyPost_ret (v:=.tuple #[zB_ 0 0 0,.bool false]) (by simp[results,Tryz.results113,go_sem,zB_,k0,k1,k2]) rfl (.inr ⟨HNO.o,rfl,hCS⟩)
end
end
section
open Go.RowKit
open Go.Lib
def rl (l:List UInt8):List Nat:=vC_ ⟨l.toArray⟩
theorem zmM (a b:List UInt8):(⟨(a++b).toArray⟩:ByteArray)=⟨a.toArray⟩++⟨b.toArray⟩:=by
 apply ByteArray.ext;simp
theorem xB_ (a:List UInt8):(⟨a.toArray⟩:ByteArray).size=a.length:=by
 show a.toArray.size=_;simp
theorem yN_ (a:List UInt8)(i:Nat):(⟨a.toArray⟩:ByteArray).get! i=a.getD i 0:=by
 show a.toArray[i]! = _;simp[List.getD,getElem!_def];cases a[i]?<;>rfl
theorem zgW (c t:List UInt8)(r:Nat)(hc:0<c.length)(hd:Utf8.decode ⟨(c++t).toArray⟩ 0=(r,c.length)):rl (c++t)=r::rl t:=by
 unfold rl vC_;rw[xB_,List.length_append];obtain⟨k,hk⟩:∃k,c.length=k+1:=⟨c.length-1,by omega⟩;rw[show c.length+t.length=(k+t.length)+1 from by omega,zN_,if_pos (by rw[xB_,List.length_append];omega),hd];have h2:=uR_ ⟨c.toArray⟩ ⟨t.toArray⟩ (k+t.length) 0;rw[xB_,<-zmM]at h2;simp only[Nat.zero_add,Nat.add_zero]at h2⊢;rw[h2,xB_,kW_ _ t.length (k+t.length) 0 (by rw[xB_];omega) (by omega)]
theorem zca (b:UInt8)(hb:b.toNat<128)(t:List UInt8):rl (b::t)=b.toNat::rl t:=by
 refine zgW [b] t b.toNat (by simp) ?_;rw[decode_at,yN_];unfold decodeN;show(if b.toNat<128 then _ else _)=_;rw[if_pos hb];rfl
def okR (r:Int):Prop:=(0<=r/\r<55296)\/(57343<r/\r<=1114111)
theorem zgr (z:Int)(h0:0<=z)(h:z<256):(z.toNat.toUInt8).toNat=z.toNat:=by
 have:z.toNat<256:=by omega
 simp;omega
theorem zjc (r:Int)(hr:okR r)(t:List UInt8):Utf8.decode ⟨(encodeRune r++t).toArray⟩ 0=(r.toNat,(encodeRune r).length):=by
 have hc:(0<=r/\r<=127)\/(128<=r/\r<=2047)\/((2048<=r/\r<55296)\/(57343<r/\r<=65535))\/(65536<=r/\r<=1114111):=by unfold okR at hr;omega
 unfold encodeRune;rcases hc with h|h|h|h
 · rw[encodeRuneZ_one h.1 h.2];have e0:=zgr r h.1 (by omega);rw[decode_at,xB_,yN_,yN_,yN_,yN_];simp only[List.map_cons,List.map_nil,List.cons_append,List.nil_append,List.getD_cons_zero,List.getD_cons_succ,List.length_cons,List.length_nil,Nat.zero_add];rw[e0];unfold decodeN;rw[if_pos (by omega)]
 · rw[encodeRuneZ_two h.1 h.2];have e0:=zgr (192+r/64) (by omega) (by omega);have e1:=zgr (128+r%64) (by omega) (by omega);rw[decode_at,xB_,yN_,yN_,yN_,yN_];simp only[List.map_cons,List.map_nil,List.cons_append,List.nil_append,List.getD_cons_zero,List.getD_cons_succ,List.length_cons,List.length_nil,Nat.zero_add];rw[e0,e1];unfold decodeN;rw[if_neg (by omega),if_pos (by omega),if_pos (by omega)];apply Prod.ext
   · simp only;omega
   · rfl
 · rw[encodeRuneZ_three h];have e0:=zgr (224+r/4096) (by omega) (by omega);have e1:=zgr (128+r/64%64) (by omega) (by omega);have e2:=zgr (128+r%64) (by omega) (by omega);rw[decode_at,xB_,yN_,yN_,yN_,yN_];simp only[List.map_cons,List.map_nil,List.cons_append,List.nil_append,List.getD_cons_zero,List.getD_cons_succ,List.length_cons,List.length_nil,Nat.zero_add];rw[e0,e1,e2];unfold decodeN;rw[if_neg (by omega),if_neg (by omega),if_pos (by omega),if_pos (by omega)];apply Prod.ext
   · simp only;omega
   · rfl
 · rw[encodeRuneZ_four h.1 h.2];have e0:=zgr (240+r/262144) (by omega) (by omega);have e1:=zgr (128+r/4096%64) (by omega) (by omega);have e2:=zgr (128+r/64%64) (by omega) (by omega);have e3:=zgr (128+r%64) (by omega) (by omega);rw[decode_at,xB_,yN_,yN_,yN_,yN_];simp only[List.map_cons,List.map_nil,List.cons_append,List.nil_append,List.getD_cons_zero,List.getD_cons_succ,List.length_cons,List.length_nil,Nat.zero_add];rw[e0,e1,e2,e3];unfold decodeN;rw[if_neg (by omega),if_neg (by omega),if_neg (by omega),if_pos (by omega),if_pos (by omega)];apply Prod.ext
   · simp only;omega
   · rfl
theorem zcE (r:Int):1<=(encodeRune r).length:=by
 unfold encodeRune;rw[List.length_map];exact(encodeRuneZ_length r).1
theorem zgX (r:Int)(hr:okR r)(t:List UInt8):rl (encodeRune r++t)=r.toNat::rl t :=
 zgW _ t r.toNat (by have:=zcE r;omega) (zjc r hr t)
def txB:Bool->List TkV->List UInt8
  | _,[]=>[]
  | nb,t::l =>
    if t.sign=48 then (if nb then [32] else [])++(decDigits t.n.toNat++txB true l)
    else if yf_ t.sign=true then (if yo_ t.name=true then encodeRune t.sign++(encodeRune t.name++txB false l) else txB nb l)
    else if yg_ t.sign=true then encodeRune t.sign++txB false l
    else txB nb l
def txN:Bool->List TkV->Bool
  | nb,[]=>nb
  | nb,t::l =>
    if t.sign=48 then txN true l
    else if yf_ t.sign=true then (if yo_ t.name=true then txN false l else txN nb l)
    else if yg_ t.sign=true then txN false l
    else txN nb l
theorem jI_:∀(a b:List TkV)(nb:Bool),txB nb (a++b)=txB nb a++txB (txN nb a) b
  | [],b,nb=>rfl
  | t::a,b,nb=>by
    rw[List.cons_append,txB,txB,txN]
    repeat' split
    all_goals simp only[List.append_assoc,jI_ a b]
def zej (t:TkV):Prop :=
 (t.sign=48/\0<=t.n/\t.n<=9223372036854775807/\t.name=0) \/
 (yf_ t.sign=true/\t.n=0/\yo_ t.name=true) \/
 (t.sign≠48/\yf_ t.sign=false/\yg_ t.sign=true/\t.n=0/\t.name=0)
def zoI:GPh->Prop
  | .idle=>True
  | .num m=>m<=9223372036854775807
  | .wait q=>yf_ (q:Int)=true
theorem vs_ {r:Int}(h:yo_ r=true):okR r/\r≠65533/\(97<=r):=by
 unfold yo_ at h;unfold okR;simp at h;omega
theorem xg_ {r:Int}(h:yg_ r=true):okR r/\r≠65533/\33<=r/\¬(48<=r/\r<=57):=by
 unfold yg_ at h;unfold okR;simp only[Bool.or_eq_true,Bool.and_eq_true,decide_eq_true_eq,List.any_eq_true,beq_iff_eq]at h;rcases h with(h|h)|⟨x,hx,e⟩
 · omega
 · omega
 · have:x=43\/x=45\/x=42\/x=47\/x=37\/x=38\/x=124\/x=94\/x=60\/x=61\/x=33\/x=46\/x=44\/x=64\/x=36\/x=35\/x=63\/x=58\/x=59\/x=91\/x=93\/x=126\/x=171\/x=187\/x=169\/x=174\/x=164\/x=161\/x=955\/x=960:=(by
    simpa[zbW] using hx);omega
theorem xA_ {r:Int}(h:yf_ r=true):yg_ r=true/\r≠48:=by
 unfold yf_ at h;simp at h;rcases h with rfl|rfl
 · exact⟨by decide,by decide⟩
 · exact⟨by decide,by decide⟩
theorem zbb {bs ys':List TkV}{ph':GPh}{r:Nat}(h:ym_ bs r=some (ys',ph'))(hb:∀t∈bs,zej t):(∀t∈ys',zej t)/\zoI ph':=by
 unfold ym_ at h;split at h
 · injection h with h;injection h with h1 h2;subst h1;subst h2;exact⟨hb,trivial⟩
 · split at h
   · rename_i hk;split at h
     · rename_i hn;injection h with h;injection h with h1 h2;subst h1;subst h2;exact⟨hb,hn⟩
     · rename_i hn;injection h with h;injection h with h1 h2;subst h1;subst h2;refine⟨fun t ht=>?_,trivial⟩;rcases List.mem_append.1 ht with ht|ht
       · exact hb t ht
       · rw[List.mem_singleton]at ht;subst ht;have:=xg_ hk;exact .inr (.inr ⟨by simp only;omega,by simpa using hn,hk,rfl,rfl⟩)
   · cases h
theorem zbc {bs ys':List TkV}{ph':GPh}{m x:Nat}(h:yy_ bs m x=some (ys',ph'))(hx:x<=9)(hb:∀t∈bs,zej t):(∀t∈ys',zej t)/\zoI ph':=by
 unfold yy_ at h;split at h
 · cases h
 · injection h with h;injection h with h1 h2;subst h1;subst h2;exact⟨hb,by show m*10+x<=_;omega⟩
theorem zdH {ys ys':List TkV}{ph ph':GPh}{r:Nat}(h:zO_ ys ph r=some (ys',ph'))(hb:∀t∈ys,zej t)(hp:zoI ph):(∀t∈ys',zej t)/\zoI ph':=by
 cases ph with
 | wait q =>
   rw[zO_]at h;split at h
   · rename_i hn;injection h with h;injection h with h1 h2;subst h1;subst h2;refine⟨fun t ht=>?_,trivial⟩;rcases List.mem_append.1 ht with ht|ht
     · exact hb t ht
     · rw[List.mem_singleton]at ht;subst ht;exact .inr (.inl ⟨hp,rfl,hn⟩)
   · cases h
 | num m =>
   rw[zO_]at h;split at h
   · exact zbc h (by omega) hb
   · refine zbb h (fun t ht=>?_);rcases List.mem_append.1 ht with ht|ht
     · exact hb t ht
     · rw[List.mem_singleton]at ht;subst ht;exact .inl ⟨rfl,by simp only;omega,by have:m<=9223372036854775807:=hp;simp only;omega,rfl⟩
 | idle =>
   rw[zO_]at h;split at h
   · exact zbc h (by omega) hb
   · exact zbb h hb
theorem zcB:∀(rs:List Nat){ys ts:List TkV}{ph:GPh},ut_ rs ys ph=some ts->(∀t∈ys,zej t)->zoI ph->∀t∈ts,zej t
  | [],ys,ts,ph,h,hb,hp=>by
    rw[ut_]at h;cases ph with
    | idle=>rw[zdK]at h;injection h with h;subst h;exact hb
    | num m =>
      rw[zdK]at h;injection h with h;subst h;intro t ht;rcases List.mem_append.1 ht with ht|ht
      · exact hb t ht
      · rw[List.mem_singleton]at ht;subst ht;exact .inl ⟨rfl,by simp only;omega,by have:m<=9223372036854775807:=hp;simp only;omega,rfl⟩
    | wait q=>cases h
  | r :: rs,ys,ts,ph,h,hb,hp=>by
    rw[ut_]at h;cases hq:zO_ ys ph r with
    | none=>rw[hq]at h;cases h
    | some q =>
      rw[hq]at h;obtain⟨a,b⟩:=zdH (ys':=q.1) (ph':=q.2) hq hb hp;exact zcB rs h a b
theorem zmI:∀(n:Nat)(t:List UInt8),rl (decDigits n++t)=(decDigits n).map UInt8.toNat++rl t:=by
 intro n
 induction n using Nat.strongRecOn with
 | _ n ih =>
   intro t;by_cases h:n<10
   · rw[decDigits_one h];have e:(UInt8.ofNat (48+n)).toNat=48+n:=(by simp;omega);exact zca _ (by rw[e];omega) t
   · rw[decDigits,dif_neg h,List.append_assoc,ih (n/10) (by omega),List.map_append,List.append_assoc];have e:(UInt8.ofNat (48+n%10)).toNat=48+n%10:=(by simp;omega);rw[show[UInt8.ofNat (48+n%10)]++t=UInt8.ofNat (48+n%10)::t from rfl,zca _ (by rw[e];omega) t];rfl
theorem zoj:∀(n:Nat)(P:List TkV),n<=9223372036854775807->gSt ((decDigits n).map UInt8.toNat) P .idle=some (P,.num n):=by
 intro n
 induction n using Nat.strongRecOn with
 | _ n ih =>
   intro P hn;by_cases h:n<10
   · rw[decDigits_one h];have e:(UInt8.ofNat (48+n)).toNat=48+n:=(by simp;omega);rw[List.map_cons,List.map_nil,e,gSt,zO_,if_pos (by omega),yy_,if_neg (by omega)];simp only[gSt];congr 3;omega
   · rw[decDigits,dif_neg h,List.map_append,zcA,ih (n/10) (by omega) P (by omega)];have e:(UInt8.ofNat (48+n%10)).toNat=48+n%10:=(by simp;omega);rw[List.map_cons,List.map_nil,e];simp only[Option.bind_some];rw[gSt,zO_,if_pos (by omega),yy_,if_neg (by omega)];simp only[gSt];congr 3;omega
theorem jm_ (r:Nat)(rs:List Nat)(ys:List TkV)(ph:GPh):gSt (r::rs) ys ph=(zO_ ys ph r).bind fun q=>gSt rs q.1 q.2:=by
 rw[gSt];cases zO_ ys ph r<;>rfl
theorem gg_:∀(l:List TkV) (t:List UInt8) (ys P:List TkV) (ph:GPh),(∀x∈l,zej x)->zdK ys ph=some P ->
    ∃rs ys' ph',rl (txB (xl_ ph) l++t)=rs++rl t/\gSt rs ys ph=some (ys',ph')/\zdK ys' ph'=some (P++l)
  | [],t,ys,P,ph,_,he=>⟨[],ys,ph,rfl,rfl,by simpa using he⟩
  | x :: l,t,ys,P,ph,hok,he=>by
    have hx:=hok x (by simp);have hl:∀y∈l,zej y:=fun y hy=>hok y (by simp[hy]);have app:∀y:TkV,P++x::l=(P++[x])++l:=fun y=>(by simp);rcases hx with⟨h1,h2,h3,h4⟩|⟨h1,h2,h3⟩|⟨h0,h1,h2,h3,h4⟩
    · obtain⟨n,hn⟩:∃n:Nat,x.n=(n:Int):=⟨x.n.toNat,by omega⟩;have hxe:x=⟨48,(n:Int),0⟩:=(by
       cases x;simp only at h1 hn h4;rw[h1,hn,h4]);subst hxe;have hn2:n<=9223372036854775807:=(by simp only at h3;omega);obtain⟨rs,ys',ph',e1,e2,e3⟩:=gg_ l t P (P++[⟨48,(n:Int),0⟩]) (.num n) hl rfl;have hcn:xl_ (.num n)=true:=rfl;rw[hcn]at e1;have key:gSt ((decDigits n).map UInt8.toNat++rs) P .idle=some (ys',ph'):=(by
       rw[zcA,zoj n P hn2];exact e2);rw[app ⟨0,0,0⟩];have hb:txB (xl_ ph) (⟨48,(n:Int),0⟩::l)=(if xl_ ph then [32] else [])++(decDigits n++txB true l):=(by
       rw[txB,if_pos rfl];simp);rw[hb];cases ph with
      | idle =>
        rw[zdK]at he;injection he with he;subst he;refine⟨_,ys',ph',?_,key,e3⟩;show rl ([]++(decDigits n++txB true l)++t)=_;rw[List.nil_append,List.append_assoc,zmI,e1,List.append_assoc]
      | num m =>
        rw[zdK]at he;injection he with he;refine⟨32::((decDigits n).map UInt8.toNat++rs),ys',ph',?_,?_,e3⟩
        · show rl ([32]++(decDigits n++txB true l)++t)=_;rw[List.append_assoc,show[(32:UInt8)]++(decDigits n++txB true l++t)=32::(decDigits n++txB true l++t) from rfl,zca 32 (by decide),List.append_assoc,zmI,e1];simp
        · rw[jm_,zO_,if_neg (by omega),he,ym_,if_pos rfl];exact key
      | wait q=>cases he
    · obtain⟨hk,h48⟩:=xA_ h1;obtain⟨ho,_,hge,hnd⟩:=xg_ hk;obtain⟨ho2,_,hge2⟩:=vs_ h3;obtain⟨q,hq⟩:∃q:Nat,x.sign=(q:Int):=⟨x.sign.toNat,by omega⟩;obtain⟨z,hz⟩:∃z:Nat,x.name=(z:Int):=⟨x.name.toNat,by omega⟩;have hxe:x=⟨(q:Int),0,(z:Int)⟩:=(by cases x;simp_all);subst hxe;simp only at h1 h3 hk h48 ho hge hnd ho2 hge2;obtain⟨rs,ys',ph',e1,e2,e3⟩:=gg_ l t (P++[⟨(q:Int),0,(z:Int)⟩]) (P++[⟨(q:Int),0,(z:Int)⟩]) .idle hl rfl;have hcn:xl_ .idle=false:=rfl;rw[hcn]at e1;refine⟨q::z::rs,ys',ph',?_,?_,by rw[app ⟨0,0,0⟩];exact e3⟩
      · rw[txB,if_neg h48,if_pos h1,if_pos h3,List.append_assoc,List.append_assoc,zgX _ ho,zgX _ ho2,e1];rfl
      · rw[jm_,q4_ he q (by omega),ym_,if_neg (by omega),if_pos hk,if_pos h1];simp only[Option.bind_some];rw[jm_,zO_,if_pos h3];exact e2
    · obtain⟨ho,_,hge,hnd⟩:=xg_ h2;obtain⟨q,hq⟩:∃q:Nat,x.sign=(q:Int):=⟨x.sign.toNat,by omega⟩;have hxe:x=⟨(q:Int),0,0⟩:=(by cases x;simp_all);subst hxe;simp only at h0 h1 h2 ho hge hnd;obtain⟨rs,ys',ph',e1,e2,e3⟩:=gg_ l t (P++[⟨(q:Int),0,0⟩]) (P++[⟨(q:Int),0,0⟩]) .idle hl rfl;have hcn:xl_ .idle=false:=rfl;rw[hcn]at e1;refine⟨q::rs,ys',ph',?_,?_,by rw[app ⟨0,0,0⟩];exact e3⟩
      · rw[txB,if_neg h0,if_neg (by rw[h1];decide),if_pos h2,List.append_assoc,zgX _ ho,e1];rfl
      · rw[jm_,q4_ he q (by omega),ym_,if_neg (by omega),if_pos h2,if_neg (by rw[h1];decide)];exact e2
theorem zoV (l:List TkV)(h:∀x∈l,zej x):ut_ (rl (txB false l)) [] .idle=some l:=by
 obtain⟨rs,ys',ph',e1,e2,e3⟩:=gg_ l [] [] [] .idle h rfl;have hn:rl []=[]:=rfl;rw[List.append_nil,hn,List.append_nil]at e1;rw[show txB false l=txB (xl_ .idle) l from rfl,e1,ziw,e2];exact e3
theorem jH_:∀(a b:List TkV)(nb:Bool),txN nb (a++b)=txN (txN nb a) b
  | [],b,nb=>rfl
  | t::a,b,nb=>by
    rw[List.cons_append,txN,txN]
    repeat' split
    all_goals exact jH_ a b _
def bb (b:Bool):Nat:=if b then 1 else 0
def pot (ys:List TkV):GPh->Nat
  | .idle=>(txB false ys).length+bb (txN false ys)
  | .num m=>(txB false ys).length+bb (txN false ys)+(decDigits m).length
  | .wait q=>(txB false ys).length+(encodeRune (q:Int)).length
theorem zhk (ys:List TkV)(m:Nat):(txB false (ys++[⟨48,(m:Int),0⟩])).length=pot ys (.num m)/\txN false (ys++[⟨48,(m:Int),0⟩])=true:=by
 rw[jI_,jH_,List.length_append];have e:txB (txN false ys) [⟨48,(m:Int),0⟩]=(if txN false ys then [32] else [])++(decDigits m++[]):=by
  rw[txB,if_pos rfl];simp only[Int.toNat_natCast];rfl
 have e2:txN (txN false ys) [⟨48,(m:Int),0⟩]=true:=by
  rw[txN,if_pos rfl];rfl
 rw[e,e2,pot];refine⟨?_,rfl⟩;cases txN false ys<;>simp[bb]<;>omega
theorem zok (m x:Nat)(hx:x<=9):(decDigits (m*10+x)).length<=(decDigits m).length+1:=by
 by_cases h:m*10+x<10
 · rw[decDigits_one h];simp
 · rw[decDigits,dif_neg h,List.length_append,show(m*10+x)/10=m from by omega];simp
theorem zfs {bs ys':List TkV}{ph':GPh}{r:Nat}(h:ym_ bs r=some (ys',ph'))(hw:¬(48<=r/\r<=57)):pot ys' ph'<=pot bs .idle+(encodeRune (r:Int)).length:=by
 unfold ym_ at h;split at h
 · injection h with h;injection h with h1 h2;subst h1;subst h2;omega
 · split at h
   · rename_i hk;split at h
     · injection h with h;injection h with h1 h2;subst h1;subst h2;simp only[pot];omega
     · rename_i hn;injection h with h;injection h with h1 h2;subst h1;subst h2;simp only[pot];have hn':¬yf_ (r:Int)=true:=hn;rw[jI_,jH_,List.length_append,txB,txN,if_neg (by simp only;omega),if_neg hn',if_pos hk,if_neg (by simp only;omega),if_neg hn',if_pos hk,txB,txN];simp[bb];try omega
   · cases h
theorem zit {ys ys':List TkV}{ph ph':GPh}{r:Nat}(h:zO_ ys ph r=some (ys',ph'))(hp:zoI ph):pot ys' ph'<=pot ys ph+(encodeRune (r:Int)).length/\(r:Int)≠65533:=by
 have he:=zcE (r:Int);have ho:∀bs,ym_ bs r=some (ys',ph')->(r:Int)≠65533:=fun bs h=>by
  unfold ym_ at h;split at h
  · omega
  · split at h
    · rename_i hk;exact(xg_ hk).2.1
    · cases h
 cases ph with
 | wait q =>
   rw[zO_]at h;split at h
   · rename_i hn;injection h with h;injection h with h1 h2;subst h1;subst h2;refine⟨?_,(vs_ hn).2.1⟩;have hq:yf_ (q:Int)=true:=hp;have h48:=(xA_ hq).2;simp only[pot];rw[jI_,jH_,List.length_append,txB,txN,if_neg h48,if_pos hq,if_pos hn,if_neg h48,if_pos hq,if_pos hn,txB,txN];simp[bb];omega
   · cases h
 | num m =>
   rw[zO_]at h;split at h
   · rename_i hd;refine⟨?_,by omega⟩;unfold yy_ at h;split at h
     · cases h
     · injection h with h;injection h with h1 h2;subst h1;subst h2;have:=zok m (r-48) (by omega);simp only[pot];omega
   · rename_i hd;refine⟨?_,ho _ h⟩;unfold ym_ at h;obtain⟨k1,k2⟩:=zhk ys m;split at h
     · injection h with h;injection h with h1 h2;subst h1;subst h2;have e:pot (ys++[⟨48,(m:Int),0⟩]) .idle=(txB false (ys++[⟨48,(m:Int),0⟩])).length+bb (txN false (ys++[⟨48,(m:Int),0⟩])):=rfl;rw[e,k1,k2];simp[bb];try omega
     · split at h
       · rename_i hk;split at h
         · injection h with h;injection h with h1 h2;subst h1;subst h2;rw[<-k1];simp only[pot];omega
         · rename_i hn;have hn':¬yf_ (r:Int)=true:=hn;injection h with h;injection h with h1 h2;subst h1;subst h2;rw[<-k1];have e:∀zs:List TkV,pot zs .idle=(txB false zs).length+bb (txN false zs):=fun _=>rfl;rw[e,jI_ _ [⟨(r:Int),0,0⟩],jH_ _ [⟨(r:Int),0,0⟩],List.length_append,txB,txN,if_neg (by simp only;omega),if_neg hn',if_pos hk,if_neg (by simp only;omega),if_neg hn',if_pos hk,txB,txN];simp[bb];try omega
       · cases h
 | idle =>
   rw[zO_]at h;split at h
   · rename_i hd;refine⟨?_,by omega⟩;unfold yy_ at h;split at h
     · cases h
     · injection h with h;injection h with h1 h2;subst h1;subst h2;have e1:(decDigits (0*10+(r-48))).length=1:=(by rw[decDigits_one (by omega)];rfl);simp only[pot];omega
   · rename_i hd;exact⟨zfs h hd,ho _ h⟩
def zne:List Nat->Nat
  | []=>0
  | r::rs=>(encodeRune (r:Int)).length+zne rs
theorem zdI:∀(rs:List Nat){ys ts:List TkV}{ph:GPh},ut_ rs ys ph=some ts->(∀t∈ys,zej t)->zoI ph->(txB false ts).length<=pot ys ph+zne rs/\∀r∈rs,(r:Int)≠65533
  | [],ys,ts,ph,h,hb,hp=>by
    refine⟨?_,fun r hr=>by simp at hr⟩;rw[ut_]at h;cases ph with
    | idle=>rw[zdK]at h;injection h with h;subst h;simp only[pot];omega
    | num m=>rw[zdK]at h;injection h with h;subst h;rw[(zhk ys m).1];omega
    | wait q=>cases h
  | r :: rs,ys,ts,ph,h,hb,hp=>by
    rw[ut_]at h;cases hq:zO_ ys ph r with
    | none=>rw[hq]at h;cases h
    | some q =>
      rw[hq]at h;obtain⟨a,b⟩:=zdH (ys':=q.1) (ph':=q.2) hq hb hp;obtain⟨c,d⟩:=zit (ys':=q.1) (ph':=q.2) hq hp;obtain⟨e,f⟩:=zdI rs h a b;refine⟨by rw[zne];omega,fun x hx=>?_⟩;rcases List.mem_cons.1 hx with rfl|hx
      · exact d
      · exact f x hx
theorem zfL (s:ByteArray)(p:Nat)(h:p<s.size)(hr:(Utf8.decode s p).1≠65533):(encodeRune ((Utf8.decode s p).1:Int)).length=(Utf8.decode s p).2/\p+(Utf8.decode s p).2<=s.size:=by
 have hd:Utf8.decode s p=decodeL (s.data.toList.drop p):=by
  unfold decodeL;have e:s=⟨(s.data.toList.take p).toArray⟩++⟨(s.data.toList.drop p).toArray⟩:=by
   rw[<-zmM,List.take_append_drop]
  have hl:(⟨(s.data.toList.take p).toArray⟩:ByteArray).size=p:=by
   rw[xB_,List.length_take];have:s.data.toList.length=s.size:=rfl;omega
  have:=k3_ ⟨(s.data.toList.take p).toArray⟩ ⟨(s.data.toList.drop p).toArray⟩ 0;rw[<-e,hl,Nat.add_zero]at this;exact this
 have hlen:s.data.toList.length=s.size:=rfl;have hne:s.data.toList.drop p≠[]:=by
  intro hh;have:=congrArg List.length hh;rw[List.length_drop,List.length_nil]at this;omega
 have hle:p+(Utf8.decode s p).2<=s.size:=by
  rw[decode_at];have:=decodeN_le_n' (s.size-p) (s.get! p).toNat (s.get! (p+1)).toNat (s.get! (p+2)).toNat (s.get! (p+3)).toNat (by omega);omega
 refine⟨?_,hle⟩;have hk:=encode_decode (s.data.toList.drop p) hne (fun hh=>by rw[<-hd]at hh;exact hr hh.1);rw[<-hd]at hk;rw[hk,List.length_take,List.length_drop];omega
theorem zgz (s:ByteArray):∀(f p:Nat),p<=s.size->(∀r∈zN_ s f p,(r:Int)≠65533)->zne (zN_ s f p)<=s.size-p
  | 0,p,_,_=>by rw[zN_,zne];omega
  | f+1,p,hp,h=>by
    rw[zN_]at h⊢;by_cases hlt:p<s.size
    · rw[if_pos hlt]at h⊢;obtain⟨a,b⟩:=zfL s p hlt (fun e=>h _ (List.mem_cons_self ..) (by rw[e];rfl));have:=zgz s f (p+(Utf8.decode s p).2) b (fun r hr=>h r (by simp[hr]));have hw:=vK_ s p hlt;rw[zne,a];omega
    · rw[if_neg hlt,zne];omega
theorem zoW {s:ByteArray}{ts:List TkV}(h:ut_ (vC_ s) [] .idle=some ts):(txB false ts).length<=s.size:=by
 obtain⟨a,b⟩:=zdI _ h (fun t ht=>by simp at ht) trivial;have c:=zgz s s.size 0 (by omega) b;have e:pot [] .idle=0:=rfl;unfold vC_ at a;omega
end
section
open Go.RowKit
open Go.Lib (decDigits encodeRune)
def vF_ (B : Nat) (w : World) : Prop := Lib.TabBelow Tryz.prog B w "internal/strconv.uint64pow10" .u64 Lib.pow10Tab
theorem vF_.on {B:Nat}{w w':World}(h:vF_ B w)(hb:Below B w w'):vF_ B w':=Lib.TabBelow.on h hb
theorem vF_.keep {B:Nat}{w w':World}(h:vF_ B w)(hB:B<=w.heap.size)(hc:Chg [] w w'):vF_ B w':=h.on (hc.below0.mono hB)
theorem vF_.less {B B':Nat}{w:World}(h:vF_ B w)(hB:B<=B'):vF_ B' w:=fun w' hb=>h w' (hb.mono hB)
theorem yq_ (l:List UInt8):bts l=Lib.byteCells l:=by
 unfold bts Lib.byteCells;rfl
abbrev u8T:List TypeId:=[5]
def zmP (B:Nat)(w:World)(out:List UInt8)(e:Ending)(w':World):Prop :=
 ∃v' n',e=.returned v'/\n'=out.length/\w'.ownsRow B 5 1 v' n' (bts out)/\Fr B u8T w w'
theorem qm_ {B n:Nat}{v:Value}{out:List UInt8}{w:World}(r:Int)(hr:-2147483648<=r/\r<=2147483647)(ho:w.ownsRow B 5 1 v n (bts out))(hn:n=out.length)(hB:B<=w.heap.size)(hm:out.length<=1000000) :
    Calls Tryz.prog 31 #[v,.int .i32 r] w (zmP B w (out++encodeRune r)):=by
 subst hn;refine(Tryz.utf8_AppendRune_plain B v out.length (bts out) r hr.1 hr.2 w ho (by omega) hB).mono ?_;rintro e w' ⟨v',rfl,ho',o,hg⟩;have hl:(Lib.runeCells r).length=(encodeRune r).length:=Lib.runeCells_length r;refine⟨v',(out++encodeRune r).length,rfl,rfl,?_,?_⟩
 · rw[List.length_append,<-hl,yq_,Lib.byteCells_append,Lib.byteCells_encodeRune,<-yq_];exact ho'
 · exact((Fr.of_chg ((Chg.refl [] w).alloc o)).grown (zk_ ho ((Chg.refl [] w).alloc o)) (Nat.le_refl _) (by simp) hg)
theorem zeh {B n:Nat}{v:Value}{out:List UInt8}{w:World}(m:Nat)(hm:m<=9223372036854775807)(hP:vF_ B w)(ho:w.ownsRow B 5 1 v n (bts out))(hn:n=out.length)(hB:B<=w.heap.size)(hl:out.length<=1000000) :
    Calls Tryz.prog 65 #[v,.int .i64 (m:Int),.int .i64 10] w (zmP B w (out++decDigits m)):=by
 subst hn;refine(Tryz.strconv_AppendInt_10 B out.length (m:Int) (by omega) (by omega) v (bts out) w ho hB (by omega) hP).mono ?_;rintro e w' ⟨v',rfl,ho',hb,hk⟩;rw[Lib.itoa_nonneg]at ho';refine⟨v',(out++decDigits m).length,rfl,rfl,?_,?_⟩
 · rw[List.length_append,yq_,Lib.byteCells_append,<-yq_];exact ho'
 · refine⟨hb.os,hb.tape,hb.output,hb.size,fun k hlt hc=>?_⟩;rcases hc with h|h
   · exact hb.block k h
   · have e:w.heap[k]?=some (w.heap[k]):=Array.getElem?_eq_getElem hlt;rw[e];refine hk k _ e (by simp) (fun c fz hh=>?_);exact h c 5 fz (by rw[e,hh]) (by simp)
structure TkRng (t:TkV):Prop where
  sign:-2147483648<=t.sign/\t.sign<=2147483647
  n:-9223372036854775808<=t.n/\t.n<=9223372036854775807
  name:-2147483648<=t.name/\t.name<=2147483647
def zjH (o:List UInt8)(w:World)(e:Ending)(w':World):Prop:=e=.returned (.string (zi_ o))/\Chg [] w w'
theorem zaj (nb:Bool)(t:TkV)(l:List TkV)(h:t.sign=48):txB nb (t::l)=(if nb then [32] else [])++(decDigits t.n.toNat++txB true l):=by rw[txB,if_pos h]
theorem qy_ (nb:Bool)(t:TkV)(l:List TkV)(h:t.sign≠48)(h1:yf_ t.sign=true)(h2:yo_ t.name=true):txB nb (t::l)=encodeRune t.sign++(encodeRune t.name++txB false l):=by rw[txB,if_neg h,if_pos h1,if_pos h2]
theorem gh_ (nb:Bool)(t:TkV)(l:List TkV)(h:t.sign≠48)(h1:yf_ t.sign=true)(h2:yo_ t.name=false):txB nb (t::l)=txB nb l:=by rw[txB,if_neg h,if_pos h1,if_neg (by rw[h2];decide)]
theorem qz_ (nb:Bool)(t:TkV)(l:List TkV)(h:t.sign≠48)(h1:yf_ t.sign=false)(h2:yg_ t.sign=true):txB nb (t::l)=encodeRune t.sign++txB false l:=by rw[txB,if_neg h,if_neg (by rw[h1];decide),if_pos h2]
theorem zak (nb:Bool)(t:TkV)(l:List TkV)(h:t.sign≠48)(h1:yf_ t.sign=false)(h2:yg_ t.sign=false):txB nb (t::l)=txB nb l:=by rw[txB,if_neg h,if_neg (by rw[h1];decide),if_neg (by rw[h2];decide)]
theorem kJ_ (r:Int):(encodeRune r).length<=4:=by
 unfold encodeRune;rw[List.length_map];exact(Lib.encodeRuneZ_length r).2
theorem zpN (m:Nat)(h:m<=9223372036854775807):(decDigits m).length<=19:=by
 have key:∀(k m:Nat),m<10^(k+1)->(decDigits m).length<=k+1:=by
  intro k
  induction k with
  | zero=>intro m hm;rw[Lib.decDigits_one (by omega)];simp
  | succ k ih =>
    intro m hm;by_cases h10:m<10
    · rw[Lib.decDigits_one h10];simp
    · rw[decDigits,dif_neg h10,List.length_append];have:=ih (m/10) (by rw[Nat.pow_succ]at hm;omega);simp;omega
 exact key 18 m (by omega)
section
variable {w:World} {A:Option Addr} {n c:Nat} {l:List TkV}
theorem zip (hT:Tks w A n c l) (hr:∀t∈l,TkRng t) (hn:n<=1000) (hP:vF_ w.heap.size w):Calls Tryz.prog 32 #[.slice A n c] w (zjH (txB false l) w):=by
 obtain⟨i0,hi0,hz0,hz1,hz2⟩:=info_parts j6_;have HT:=hQ_ hT;have HR:=hQ_ hr;have HP:=hQ_ hP;have HNL:=hQ_ hT.len;clear hT hr hP;go_enter Tryz.func32,Tryz.ntmps32;go_wp2_with fail;go_loopw [3,4,9] (fun v b i wr=>∃(k:Nat)(nb:Bool)(out:List UInt8)(no:Nat),i=.int .i64 (k:Int)/\b=.bool nb/\k<=n/\Hid (no=out.length)/\no<=25*k/\Hid (wr.ownsRow w.heap.size 5 1 v no (bts out))/\Hid (out++txB nb (l.drop k)=txB false l)/\Hid (Chg [] w wr)) (fun _ _ i _=>n-(intOf i).toNat);case atStart=>exact⟨0,false,[],0,rfl,rfl,by omega,hQ_ rfl,by omega,hQ_ (World.ownsRow_nil _ _ _ _),hQ_ rfl,hQ_ (Chg.refl [] _)⟩
 case round =>
  obtain⟨k,nb,out,no,rfl,rfl,hk,HNO,hno,HO,HX,HC⟩:=hrel;by_cases hkn:k<n
  · have hkI:(k:Int)<(n:Int):=(by omega);obtain⟨t,htk⟩:∃t,l[k]?=some t:=⟨l[k]'(by rw[HNL.o];exact hkn),by simp⟩;have htr:=HR.o t (List.mem_of_getElem? htk);obtain⟨fb,fo,rfl,hfbl,e0,e1,e2⟩:=(HT.o.keep HC.o).cell htk;have HD:=hQ_ (show l.drop k=t::l.drop (k+1) from List.drop_eq_getElem?_toList_append.trans (by rw[htk];rfl));have HS:=hQ_ (show out++txB nb (t::l.drop (k+1))=txB false l from by rw[<-HD.o];exact HX.o);clear htk;obtain⟨ts,tn,tm⟩:=t;have hts:=htr.sign;have htn:=htr.n;have htm:=htr.name;simp only at e0 e1 e2 hts htn htm;clear htr;have hnum:=hQ_ hno;go_upto_region 7 with fail;have hX:=zb_.new wr 132 [.int .i32 ts,.int .i64 tn,.int .i32 tm];have hc2:=(Chg.refl [] wr).alloc (.cells #[.int .i32 ts,.int .i64 tn,.int .i32 tm] 132);have HX2:=hQ_ hX;have HC2:=hQ_ hc2;have HO2:=hQ_ (zk_ HO.o hc2);have HB2:=hQ_ (show w.heap.size<=(wr.alloc (.cells #[.int .i32 ts,.int .i64 tn,.int .i32 tm] 132)).heap.size from Nat.le_trans HC.o.size hc2.size);generalize wr.heap.size=gx at HX2⊢;generalize wr.alloc (.cells #[.int .i32 ts,.int .i64 tn,.int .i32 tm] 132)=w3 at HX2 HC2 HO2 HB2⊢;clear hX e0 e1 e2 hfbl hc2;have x0:=HX2.o.cell 0;have x1:=HX2.o.cell 1;have x2:=HX2.o.cell 2;have HF3:=hQ_ (show Fr w.heap.size u8T w w3 from Fr.of_chg (HC.o.new HC2.o));have HPW:=hQ_ (fun (W:World) (h:Fr w.heap.size u8T w W)=>HP.o.keep (Nat.le_refl _) (h.chg (Nat.le_refl _)));have HKX:=hQ_ (fun (W:World) (h:Fr w.heap.size u8T w3 W)=>h.whole HX2.o (by decide));by_cases h48:ts=48
    · subst h48;obtain⟨m,hmax,hm⟩:∃m:Nat,max tn 0=(m:Int)/\m=tn.toNat:=⟨tn.toNat,by omega,rfl⟩;have HM:=hQ_ hm;have HMB:=hQ_ (show m<=9223372036854775807 by omega);have HMC:=hQ_ (zpN m (by omega));clear hm;have HNX:=hQ_ (fun (o:List UInt8) (h:o=out++((if nb then [32] else [])++decDigits m))=>show o++txB true (l.drop (k+1))=txB false l from by
       rw[h,<-HS.o,zaj _ _ _ rfl,HM.o];simp only[List.append_assoc]);cases nb with
      | true =>
        go_wp2_with (first
         | (at_builtin;refine wpList_append_own _ rfl (.tmp 22) (.tmp 23) _ rfl w.heap.size 5 i0 _ 1 1 Tryz.underlying39 hi0 hz0 hz1 hz2 rfl (by decide) u3 no (bts out) rfl (zk_ HO2.o ((Chg.refl [] w3).alloc _)) ⟨w3.heap.size,0,none⟩ 1 1 [.int .u8 32] rfl rfl (zL_ _ _ _) (by simp[Value.oneCell']) (by simp only[maxLen];omega) (by omega) (by have:=HB2.o;simp;omega) ?_;intro v6 w6 ho6 hg6 _;have HF6:=hQ_ ((Fr.of_chg (B:=w.heap.size) (TS:=u8T) ((Chg.refl [] w3).alloc (.cells #[.int .u8 32] 5))).grown (zk_ HO2.o ((Chg.refl [] w3).alloc _)) (Nat.le_refl _) (by simp) hg6);have HO6:=hQ_ (show w6.ownsRow w.heap.size 5 1 v6 (no+1) (bts (out++[32])) from by rw[yq_,Lib.byteCells_append,<-yq_];exact ho6);have y0:=(HKX.o w6 HF6.o).cell 0;have y1:=(HKX.o w6 HF6.o).cell 1;clear ho6 hg6)
         | (go_at_call 65;refine(zeh m HMB.o (HPW.o _ (HF3.o.trans HF6.o)) HO6.o (by rw[List.length_append,<-HNO.o];rfl) (Nat.le_trans HB2.o HF6.o.size) (by rw[List.length_append,<-HNO.o];simp;omega)).mono ?_;rintro e w7 ⟨v7,n7,rfl,hn7,ho7,hf7⟩;have HF7:=hQ_ (HF6.o.trans hf7);have HO7:=hQ_ ho7;have HN7:=hQ_ hn7;have hn7b:n7<=25*(k+1):=(by rw[hn7,List.length_append,List.length_append,<-HNO.o];have:=HMC.o;simp;omega);have z0:=(HKX.o w7 HF7.o).cell 0;clear hn7 ho7 hf7));go_roundw;(case rel=>exact⟨k+1,true,_,n7,by go_num,rfl,by omega,HN7,hn7b,HO7,hQ_ (HNX.o _ (by simp)),hQ_ ((HF3.o.trans HF7.o).chg (Nat.le_refl _))⟩);case measure=>simp[intOf];omega
      | false =>
        go_wp2_with (
         go_at_call 65;refine(zeh m HMB.o (HPW.o _ HF3.o) HO2.o HNO.o HB2.o (by rw[<-HNO.o];omega)).mono ?_;rintro e w7 ⟨v7,n7,rfl,hn7,ho7,hf7⟩;have HF7:=hQ_ hf7;have HO7:=hQ_ ho7;have HN7:=hQ_ hn7;have hn7b:n7<=25*(k+1):=(by rw[hn7,List.length_append,<-HNO.o];have:=HMC.o;omega);have z0:=(HKX.o w7 HF7.o).cell 0;clear hn7 ho7 hf7);go_roundw;(case rel=>exact⟨k+1,true,_,n7,by go_num,rfl,by omega,HN7,hn7b,HO7,hQ_ (HNX.o _ (by simp)),hQ_ ((HF3.o.trans HF7.o).chg (Nat.le_refl _))⟩);case measure=>simp[intOf];omega
    · have h48d:(ts==48)=false:=(by simpa using h48);have HKN:=hQ_ (kG_ ts w3);have HNA:=hQ_ (fun W=>zaL ts W);have HNB:=hQ_ (fun W=>u5_ tm W);have HSK:=hQ_ (fun (h:txB nb (⟨ts,tn,tm⟩::l.drop (k+1))=txB nb (l.drop (k+1)))=>show out++txB nb (l.drop (k+1))=txB false l from by rw[<-h];exact HS.o);by_cases hkw:yg_ ts=true
      · rw [hkw]at HKN;by_cases hnm:yf_ ts=true
        · rw [hnm]at HNA;by_cases hnb:yo_ tm=true
          · rw[hnb]at HNB;have HNX:=hQ_ (fun (o:List UInt8) (h:o=out++(encodeRune ts++encodeRune tm))=>show o++txB false (l.drop (k+1))=txB false l from by
             rw[h,<-HS.o,qy_ _ _ _ h48 hnm hnb];simp only[List.append_assoc]);clear hkw hnm hnb;go_wp2_with (first
             | (go_at_call 66;refine HKN.o.mono ?_;rintro e w5 ⟨rfl,hc5⟩;have HF5:=hQ_ (Fr.of_chg (B:=w.heap.size) (TS:=u8T) hc5);have HO5:=hQ_ (zk_ HO2.o hc5);have y0:=(HKX.o w5 HF5.o).cell 0;have y2:=(HKX.o w5 HF5.o).cell 2;clear hc5)
             | (go_at_call 67;refine(HNA.o _).mono ?_;rintro e w8 ⟨rfl,rfl⟩)
             | (go_at_call 60;refine(HNB.o _).mono ?_;rintro e w8 ⟨rfl,rfl⟩));have hnn:=HNO.o;have HLN:=hQ_ (show no+4+4<=25*(k+1)/\no<=25000 from⟨by have:=hnum.out;omega,by have:=hnum.out;omega⟩);clear hnn;have HF5d:=hQ_ (show Fr w.heap.size u8T w3 w5.drew from HF5.o.trans (Fr.of_chg (Chg.refl [] w5).drew));have TOK:=zpp (B:=w.heap.size) (TS:=u8T) (hard:=[3,6]) (soft:=[3,6,7]);refine wp_flow (by kernel_rfl) (frT w.heap.size u8T [3,6] [3,6,7]) TOK (by kernel_rfl) ?_;refine flow_move_out TOK rfl rfl rfl ?_;refine flow1 (r:=.pointer (some ⟨gx,0,none⟩)) TOK rfl (.out rfl rfl) rfl (fun ev W he e1=>by go_simp) ?_;refine flow1h (r:=.int .i32 ts) TOK rfl (.inn rfl) rfl (fun ev W he hW e1=>by have r0:=(HKX.o W (HF5d.o.trans hW)).cell 0;clear hW;go_simp) ?_;refine vb_ (ji_ w.heap.size 5 (bts (out++encodeRune ts))) (yh_ _ _ _) (.inl rfl) rfl rfl (fun ev W he hW hfs=>?_) ?_
            · have hc0:Chg [] w5 W:=(Chg.refl [] w5).drew.trans (znZ hW);rw[vo_ he (by kernel_rfl)];obtain⟨_,f1,f2,_⟩:=hfs;have e1:ev (.tmp 50)=u3:=f1;have e2:ev (.tmp 52)=.int .i32 ts:=f2;rw[show Array.map ev #[.tmp 50,.tmp 52]=#[ev (.tmp 50),ev (.tmp 52)] by simp];unfold yA_;simp only;rw[e1,e2];refine(qm_ ts hts (zk_ HO5.o hc0) HNO.o (Nat.le_trans (Nat.le_trans HB2.o HF5.o.size) hc0.size) (by have:=HLN.o;rw[<-HNO.o];omega)).mono ?_;rintro e w7 ⟨v7,n7,rfl,hn7,ho7,hf7⟩;exact⟨v7,rfl,ziC rfl hf7,by unfold ji_;rw[zg_,<-hn7];exact ho7⟩
            refine flow1 (r:=.pointer (some ⟨gx,2,none⟩)) TOK rfl (.out rfl rfl) rfl (fun ev W he e1=>by go_simp) ?_;refine flow1h (r:=.int .i32 tm) TOK rfl (.inn rfl) rfl (fun ev W he hW e1=>by have r0:=(HKX.o W (HF5d.o.trans hW)).cell 2;clear hW;go_simp) ?_;refine flow_call (ji_ w.heap.size 5 (bts (out++encodeRune ts++encodeRune tm))) (yh_ _ _ _) (.inl rfl) (by kernel_rfl) rfl (fun ev W he hW hfs=>?_) ?_
            · obtain⟨f1,f2,_⟩:=hfs;have e2:ev (.tmp 55)=.int .i32 tm:=f2;have f3:ji_ w.heap.size 5 (bts (out++encodeRune ts)) (ev (.tmp 53)) W:=f1;unfold ji_ at f3;rw[show(List.map ev [.tmp 53,.tmp 55]).toArray=#[ev (.tmp 53),ev (.tmp 55)] by simp,e2];refine(qm_ tm htm f3 (by rw[zg_]) (Nat.le_trans (Nat.le_trans HB2.o HF5.o.size) hW.size) (by have:=HLN.o;have:=kJ_ ts;rw[List.length_append,<-HNO.o];omega)).mono ?_;rintro e w7 ⟨v7,n7,rfl,hn7,ho7,hf7⟩;exact⟨v7,rfl,ziC rfl hf7,by unfold ji_;rw[zg_,<-hn7];exact ho7⟩
            refine flow_assign TOK rfl (yh_ _ _ _) (.inl rfl) rfl ?_;intro vs W hW hF;have hd:ji_ w.heap.size 5 (bts (out++encodeRune ts++encodeRune tm)) (vs 3) W:=hF 3 _ rfl rfl;have HO9:=hQ_ hd;have HF9:=hQ_ (show Fr w.heap.size u8T w3 W from HF5d.o.trans hW);simp only[zV_,Act.put,List.setIfInBounds_toArray,List.set_cons_zero,List.set_cons_succ];clear hF hW hd TOK;obtain⟨w9,hw9⟩:∃w9:World,w9=W:=⟨_,rfl⟩;rw[<-hw9]at HO9 HF9⊢;clear hw9;obtain⟨n9,hn9⟩:∃n9,n9=(out++encodeRune ts++encodeRune tm).length:=⟨_,rfl⟩;have HO8:=hQ_ (show w9.ownsRow w.heap.size 5 1 (vs 3) n9 (bts (out++encodeRune ts++encodeRune tm)) from by have:=HO9.o;unfold ji_ at this;rwa[zg_,<-hn9]at this);have hn9b:n9<=25*(k+1):=(by have:=HLN.o;have:=kJ_ ts;have:=kJ_ tm;rw[hn9,List.length_append,List.length_append,<-HNO.o];omega);have HN9:=hQ_ hn9;have s0:=(HKX.o w9 HF9.o).cell 0;clear hn9;generalize vs 3=v3 at HO8⊢;clear HO9;go_wp2_with fail;go_roundw;(case rel=>exact⟨k+1,false,_,n9,by go_num,rfl,by omega,HN9,hn9b,HO8,hQ_ (HNX.o _ (by simp only[List.append_assoc])),hQ_ ((HF3.o.trans HF9.o).chg (Nat.le_refl _))⟩);case measure=>simp[intOf];omega
          · have hnbf:yo_ tm=false:=(by simpa using hnb);rw[hnbf]at HNB;have HS2:=hQ_ (HSK.o (gh_ nb ⟨ts,tn,tm⟩ _ h48 hnm hnbf));clear hkw hnm hnb hnbf;go_wp2_with (first
             | (go_at_call 66;refine HKN.o.mono ?_;rintro e w5 ⟨rfl,hc5⟩;have HF5:=hQ_ (Fr.of_chg (B:=w.heap.size) (TS:=u8T) hc5);have HO5:=hQ_ (zk_ HO2.o hc5);have HC5:=hQ_ (HC.o.new (HC2.o.new hc5));have y0:=(HKX.o w5 HF5.o).cell 0;have y2:=(HKX.o w5 HF5.o).cell 2;clear hc5)
             | (go_at_call 67;refine(HNA.o _).mono ?_;rintro e w8 ⟨rfl,rfl⟩)
             | (go_at_call 60;refine(HNB.o _).mono ?_;rintro e w8 ⟨rfl,rfl⟩));go_roundw;(case rel=>exact⟨k+1,nb,out,no,by go_num,rfl,by omega,HNO,by omega,HO5,HS2,HC5⟩);case measure=>simp[intOf];omega
        · have hnmf:yf_ ts=false:=(by simpa using hnm);rw[hnmf]at HNA;have HNX:=hQ_ (fun (o:List UInt8)(h:o=out++encodeRune ts)=>show o++txB false (l.drop (k+1))=txB false l from by
           rw[h,<-HS.o,qz_ _ _ _ h48 hnmf hkw];simp only[List.append_assoc]);clear hkw hnm hnmf;have hlo:out.length<=25000:=(by rw[<-HNO.o];omega);go_wp2_with (first
           | (go_at_call 31;refine(qm_ ts hts HO5.o HNO.o (Nat.le_trans HB2.o HF5.o.size) (by omega)).mono ?_;rintro e w7 ⟨v7,n7,rfl,hn7,ho7,hf7⟩;have HF7:=hQ_ (HF5.o.trans hf7);have HO7:=hQ_ ho7;have HN7:=hQ_ hn7;have hn7b:n7<=25*(k+1):=(by have:=kJ_ ts;rw[hn7,List.length_append,<-HNO.o];omega);have z0:=(HKX.o w7 HF7.o).cell 0;clear hn7 ho7 hf7)
           | (go_at_call 66;refine HKN.o.mono ?_;rintro e w5 ⟨rfl,hc5⟩;have HF5:=hQ_ (Fr.of_chg (B:=w.heap.size) (TS:=u8T) hc5);have HO5:=hQ_ (zk_ HO2.o hc5);have HC5:=hQ_ (HC.o.new (HC2.o.new hc5));have y0:=(HKX.o w5 HF5.o).cell 0;have y2:=(HKX.o w5 HF5.o).cell 2;clear hc5)
           | (go_at_call 67;refine(HNA.o _).mono ?_;rintro e w8 ⟨rfl,rfl⟩)
           | (go_at_call 60;refine(HNB.o _).mono ?_;rintro e w8 ⟨rfl,rfl⟩));go_roundw;(case rel=>exact⟨k+1,false,_,n7,by go_num,rfl,by omega,HN7,hn7b,HO7,hQ_ (HNX.o _ rfl),hQ_ ((HF3.o.trans HF7.o).chg (Nat.le_refl _))⟩);case measure=>simp[intOf];omega
      · have hkf:yg_ ts=false:=(by simpa using hkw);have hnmf:yf_ ts=false:=by
         cases hh:yf_ ts with
         | false=>rfl
         | true=>exact absurd (xA_ hh).1 hkw
        rw[hkf]at HKN;have HS2:=hQ_ (HSK.o (zak nb ⟨ts,tn,tm⟩ _ h48 hnmf hkf));clear hkw hkf hnmf;go_wp2_with (first
         | (go_at_call 66;refine HKN.o.mono ?_;rintro e w5 ⟨rfl,hc5⟩;have HF5:=hQ_ (Fr.of_chg (B:=w.heap.size) (TS:=u8T) hc5);have HO5:=hQ_ (zk_ HO2.o hc5);have HC5:=hQ_ (HC.o.new (HC2.o.new hc5));have y0:=(HKX.o w5 HF5.o).cell 0;have y2:=(HKX.o w5 HF5.o).cell 2;clear hc5)
         | (go_at_call 67;refine(HNA.o _).mono ?_;rintro e w8 ⟨rfl,rfl⟩)
         | (go_at_call 60;refine(HNB.o _).mono ?_;rintro e w8 ⟨rfl,rfl⟩));go_roundw;(case rel=>exact⟨k+1,nb,out,no,by go_num,rfl,by omega,HNO,by omega,HO5,HS2,HC5⟩);case measure=>simp[intOf];omega
  · have hkI:¬(k:Int)<(n:Int):=(by omega);have HXE:=hQ_ (show out=txB false l from by
     have:=HX.o;rw[List.drop_eq_nil_of_le (by rw[HNL.o];omega),show txB nb []=[] from by cases nb<;>rfl,List.append_nil]at this;exact this);obtain⟨A3,c3,rfl,hbs,_⟩:=Bs.of_own HO.o;have HSTR:=hQ_ (hbs.str 39 5 9 Tryz.underlying39 Tryz.underlying5 Tryz.underlying9);have hstr:=HSTR.o;go_wp2_with fail;go_ret;exact⟨by rw[<-HXE.o];rfl,HC.o⟩
end
end
end Go.Proofs.YtcbcfcdmdedefaaGreatDoor
