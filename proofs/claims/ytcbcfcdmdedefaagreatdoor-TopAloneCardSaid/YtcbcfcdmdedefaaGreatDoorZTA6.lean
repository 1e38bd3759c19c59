import Derived.Test.YtcbcfcdmdedefaaGreatDoorZTA4
set_option maxRecDepth 100000
set_option maxHeartbeats 16000000
namespace Go.Proofs.YtcbcfcdmdedefaaGreatDoor
open Go.RowKit
theorem Src.chg {w w':World}{A:Option Addr}{xs:List Value}{T:List Nat}(h:Src w A xs)(hc:Chg T w w')(hA:0<xs.length->∀ad,A=some ad->ad.block∉T):Src w' A xs:=fun hp=>by
 obtain⟨ad,e,hb,hx⟩:=h hp;refine⟨ad,e,Nat.lt_of_lt_of_le hb hc.size,fun j v hj=>?_⟩;have:=hx j v hj;rw[<-this];have e2:(ad.add j).block=ad.block:=by unfold Addr.add;split<;>rfl
 refine World.cell?_of_block (w:=w) (hc.block _ ?_ ?_)
 · rw[e2];exact hb
 · rw[e2];exact hA hp ad e
structure St where
  L:List UInt8
  S:List UInt8
  V:List Bool
def St.write (s:St)(k:Nat)(x:List UInt8):St:=⟨s.L,splice s.S (k*64) x,s.V.set k true⟩
def yx_ (w:World)(p bL bS bW:Nat)(s:St):Prop:=Dsk w p bL bS bW s.L s.S s.V
def zaw (L S:List UInt8)(k cut:Nat):List UInt8:=splice L (k*64) ((S.drop (k*64)).take cut)
def zjT (L S:List UInt8)(k cut:Nat):List UInt8:=splice S (k*64+cut) ((L.drop (k*64+cut)).take (64-cut))
theorem zmy {S:List UInt8}{k cut:Nat}(s1:64*(k+1)<=S.length)(hc:cut<=64):(bts ((S.drop (k*64)).take cut)).length=Nat.min cut cut:=by
 rw[zg_,List.length_take,List.length_drop,show Nat.min cut cut=cut from Nat.min_self cut];omega
theorem gw_ {w:World}{S:List UInt8}{g t o cut:Nat}(h:zb_ w g t (bts S)):Src w (some ⟨g,o,none⟩) (bts ((S.drop o).take cut)):=by
 rw[<-zjx];exact Src.of_whole h o cut
theorem zdr {L S:List UInt8}{k cut:Nat}(l1:64*(k+1)<=L.length)(hc:cut<=64):k*64+(bts ((S.drop (k*64)).take cut)).length<=(bts L).length:=by
 rw[zg_,zg_,List.length_take,List.length_drop];omega
theorem zkv {L S:List UInt8}{k cut:Nat}(l1:64*(k+1)<=L.length)(hc:cut<=64):(zaw L S k cut).length=L.length:=by
 unfold zaw;rw[length_splice];rw[List.length_take,List.length_drop];omega
theorem zku {L S:List UInt8}{k cut:Nat}(s1:64*(k+1)<=S.length)(hc:cut<=64):(zjT L S k cut).length=S.length:=by
 unfold zjT;rw[length_splice];rw[List.length_take,List.length_drop];omega
theorem zav {L S:List UInt8}{k cut:Nat}(l1:64*(k+1)<=L.length)(s1:64*(k+1)<=S.length)(hc:cut<=64):(zaw L S k cut).drop (k*64+cut)=L.drop (k*64+cut):=by
 have e:((S.drop (k*64)).take cut).length=cut:=by rw[List.length_take,List.length_drop];omega
 unfold zaw splice;rw[e,<-List.append_assoc];rw[List.drop_append_of_le_length (by simp[e];omega)];rw[List.drop_of_length_le (by simp[e];omega)];simp
theorem znD {L S:List UInt8}{k cut:Nat}(l1:64*(k+1)<=L.length)(s1:64*(k+1)<=S.length)(hc:cut<=64):(bts (((zaw L S k cut).drop (k*64+cut)).take (64-cut))).length=Nat.min (64-cut) (64-cut):=by
 rw[zav l1 s1 hc,zg_,List.length_take,List.length_drop,show Nat.min (64-cut) (64-cut)=64-cut from Nat.min_self _];omega
theorem zhp {L S:List UInt8}{k cut:Nat}(s1:64*(k+1)<=S.length)(hc:cut<=64):k*64+cut+(bts (((zaw L S k cut).drop (k*64+cut)).take (64-cut))).length<=(bts S).length:=by
 rw[zg_,zg_,List.length_take,List.length_drop];omega
theorem ko_ {w w2 w3:World}{p bL bS bW nq k cut:Nat}{L S:List UInt8}{V:List Bool}(h:Dsk w p bL bS bW L S V)(hk:k<V.length)(hc:cut<=64)(HC:Chg [bL] (w.drewN nq).drew w2)(HC3:Chg [bS] w2.drew w3)
    (R3:zb_ w3 p 138 [.slice (some ⟨bL,0,none⟩) L.length L.length,.slice (some ⟨bS,0,none⟩) S.length S.length,.slice (some ⟨bW,0,none⟩) V.length V.length])
    (L3:zb_ w3 bL 5 (bts (zaw L S k cut))) (V3:zb_ w3 bW 4 (bls V)) (HG:zb_ w3 bS 5 (splice (bts S) (k*64+cut) (bts (((zaw L S k cut).drop (k*64+cut)).take (64-cut))))) :
    Ending.returned (.tuple #[])=Ending.returned (.tuple #[])/\Dsk (w3.setCell ⟨bW,k,none⟩ (.bool false)) p bL bS bW (zaw L S k cut) (zjT L S k cut) (V.set k false)/\Chg [bL,bS,bW] w (w3.setCell ⟨bW,k,none⟩ (.bool false)):=by
 have l1:64*(k+1)<=L.length:=by have:=h.lenL;omega
 have s1:64*(k+1)<=S.length:=by have:=h.lenS;omega
 have eL:=zkv (S:=S) l1 hc;have eS:=zku (L:=L) s1 hc;rw[vh_,zav l1 s1 hc]at HG;have d1:=h.rec_.ne_ h.wait (by decide);have d2:=h.last.ne_ h.wait (by decide);have d3:=h.seen.ne_ h.wait (by decide);have hw:zb_ (w3.setCell ⟨bW,k,none⟩ (.bool false)) bW 4 (bls (V.set k false)):=by
  have:=V3.set_ k (.bool false);rwa[gZ_]at this
 refine⟨rfl,⟨?_,L3.far d2 _,HG.far d3 _,hw,by rw[eL,List.length_set];exact h.lenL,by rw[eS,List.length_set];exact h.lenS,by rw[List.length_set];exact h.pos,by rw[List.length_set];exact h.le,h.ne⟩,?_⟩
 · rw[eL,eS,List.length_set];exact R3.far d1 _
 · have a1:Chg [bL,bS,bW] w w2:=((Chg.refl [bL,bS,bW] w).drewN nq).drew.trans (HC.sub (by simp));have a2:Chg [bL,bS,bW] w w3:=a1.drew.trans (HC3.sub (by simp));exact a2.setCell (by simp) _
section
variable {w:World} {p bL bS bW:Nat} {L S:List UInt8} {V:List Bool}
theorem zgN (h:Dsk w p bL bS bW L S V)(k cut:Nat)(hk:k<V.length)(h64:cut<64) :
    Calls Tryz.prog 110 #[.pointer (some ⟨p,0,none⟩),.int .i64 (k:Int),.int .i64 (cut:Int)] w fun e w'=>e=.returned (.tuple #[]) /\
      Dsk w' p bL bS bW (zaw L S k cut) (zjT L S k cut) (V.set k false)/\Chg [bL,bS,bW] w w':=by
 have hc:cut<=64:=by omega
 have c0:=h.rec_.cell 0;have c1:=h.rec_.cell 1;have c2:=h.rec_.cell 2;have hL:=h.lenL;have hS:=h.lenS;have hv:=h.le;have l1:64*(k+1)<=L.length:=by omega
 have l2:L.length<=1000000:=by omega
 have s1:64*(k+1)<=S.length:=by omega
 have s2:S.length<=1000000:=by omega
 clear hL hS;have n1:=hQ_ (show bS∉[bL] by simpa using fun e=>h.ne e.symm);have n2:=hQ_ (show p∉[bL] by simpa using h.rec_.ne_ h.last (by decide));have n3:=hQ_ (show bW∉[bL] by simpa using h.wait.ne_ h.last (by decide));have hci:(cut:Int)<=64:=by omega
 have m1:=hQ_ (show bL∉[bS] by simpa using h.ne);have m2:=hQ_ (show p∉[bS] by simpa using h.rec_.ne_ h.seen (by decide));have m3:=hQ_ (show bW∉[bS] by simpa using h.wait.ne_ h.seen (by decide));have e1:cut<=L.length-k*64:=by omega
 have e2:cut<=S.length-k*64:=by omega
 go_enter Tryz.func110,Tryz.ntmps110;go_wp2_with fail;go_quiet ((go_at_call 109;exact Calls.quiet_of_same ((vx_ k (by assumption) (Nat.le_refl _) (by assumption)).mono fun _ _ hh=>⟨hh.1,hh.2.symm⟩)));go_wp2_with fail;go_region_law (with_reducible refine vm_ rfl (.tmp 22) (.tmp 25) _ _ rfl 5 Tryz.underlying39 xz_ (some ⟨bL,k*64,none⟩) (some ⟨bS,k*64,none⟩) cut (L.length-k*64) cut (S.length-k*64) rfl rfl bL (k*64) 5 (bts L) (bts ((S.drop (k*64)).take cut)) ((h.last.drewN _).drew) (zmy s1 hc) (fun _=>rfl) (Src.drew (Src.drewN (gw_ h.seen) _)) (zdr l1 hc) (yc_ _) ?_;intro w2 HG HC);have S2:zb_ w2 bS 5 (bts S):=(h.seen.drewN _).drew.chg HC n1.out;have R2:=(h.rec_.drewN _).drew.chg HC n2.out;have V2:=(h.wait.drewN _).drew.chg HC n3.out;clear c0 c1 c2;have c2:=R2.cell 2;rw[vh_]at HG;have HL2:zb_ w2 bL 5 (bts (zaw L S k cut)):=HG;clear HG;have hne:¬(S.length-k*64=cut):=by omega
 have hne2:¬(L.length-k*64=cut):=by omega
 go_wp2_with fail;go_region_law (with_reducible refine vm_ rfl (.tmp 29) (.tmp 32) _ _ rfl 5 Tryz.underlying39 xz_ (some ⟨bS,k*64+cut,none⟩) (some ⟨bL,k*64+cut,none⟩) (64-cut) (S.length-k*64-cut) (64-cut) (L.length-k*64-cut) rfl rfl bS (k*64+cut) 5 (bts S) (bts (((zaw L S k cut).drop (k*64+cut)).take (64-cut))) (S2.drew) (znD l1 s1 hc) (fun _=>rfl) (Src.drew (gw_ HL2)) (zhp s1 hc) (yc_ _) ?_;intro w3 HG HC3);have L3:zb_ w3 bL 5 (bts (zaw L S k cut)):=HL2.drew.chg HC3 m1.out;have R3:=R2.drew.chg HC3 m2.out;have V3:=V2.drew.chg HC3 m3.out;clear c2;have c2:=R3.cell 2;have c4:=(V3.cell k).trans (vW_ V k hk);have c5:=V3.frozen k;go_wp2_with fail
 go_end0
 exact ko_ h hk hc HC HC3 R3 L3 V3 HG
end
section
variable {w:World} {p bL bS bW:Nat} {L S:List UInt8} {V:List Bool}
theorem zgO (h:Dsk w p bL bS bW L S V)(k:Nat)(hk:k<V.length) :
    Calls Tryz.prog 110 #[.pointer (some ⟨p,0,none⟩),.int .i64 (k:Int),.int .i64 64] w fun e w'=>e=.returned (.tuple #[]) /\
      Dsk w' p bL bS bW (zaw L S k 64) (zjT L S k 64) (V.set k false)/\Chg [bL,bS,bW] w w':=by
 have c0:=h.rec_.cell 0;have c1:=h.rec_.cell 1;have c2:=h.rec_.cell 2;have hL:=h.lenL;have hS:=h.lenS;have hv:=h.le;have hc:(64:Nat)<=64:=Nat.le_refl _;have l1:64*(k+1)<=L.length:=by omega
 have l2:L.length<=1000000:=by omega
 have s1:64*(k+1)<=S.length:=by omega
 have s2:S.length<=1000000:=by omega
 have hLS:=hQ_ (show L.length=S.length by omega);clear hL hS;have n1:=hQ_ (show bS∉[bL] by simpa using fun e=>h.ne e.symm);have n2:=hQ_ (show p∉[bL] by simpa using h.rec_.ne_ h.last (by decide));have n3:=hQ_ (show bW∉[bL] by simpa using h.wait.ne_ h.last (by decide));have m1:=hQ_ (show bL∉[bS] by simpa using h.ne);have m2:=hQ_ (show p∉[bS] by simpa using h.rec_.ne_ h.seen (by decide));have m3:=hQ_ (show bW∉[bS] by simpa using h.wait.ne_ h.seen (by decide));have e1:(64:Int)<=((L.length-k*64:Nat):Int):=by omega
 have e2:(64:Int)<=((S.length-k*64:Nat):Int):=by omega
 have hn0:=zmy s1 hc;have hf0:=zdr (S:=S) l1 hc;have hs0:=gw_ (o:=k*64) (cut:=64) h.seen;have hsp:=hQ_ (vh_ L ((S.drop (k*64)).take 64) (k*64));have hb1:=yc_ ((S.drop (k*64)).take 64);obtain⟨Y,hY⟩:∃Y,Y=bts ((S.drop (k*64)).take 64):=⟨_,rfl⟩;rw[<-hY]at hn0 hf0 hs0 hsp hb1;have Hn:=hQ_ hn0;clear hn0 hY;go_enter Tryz.func110,Tryz.ntmps110;go_wp2_with fail;go_quiet ((go_at_call 109;exact Calls.quiet_of_same ((vx_ k (by assumption) (Nat.le_refl _) (by assumption)).mono fun _ _ hh=>⟨hh.1,hh.2.symm⟩)));go_wp2_with fail;go_region_law (with_reducible refine vm_ rfl (.tmp 22) (.tmp 25) _ _ rfl 5 Tryz.underlying39 xz_ (some ⟨bL,k*64,none⟩) (some ⟨bS,k*64,none⟩) 64 (L.length-k*64) 64 (S.length-k*64) rfl rfl bL (k*64) 5 (bts L) Y ((h.last.drewN _).drew) Hn.o (fun _=>rfl) (Src.drew (Src.drewN hs0 _)) hf0 hb1 ?_;intro w2 HG HC);have S2:zb_ w2 bS 5 (bts S):=(h.seen.drewN _).drew.chg HC n1.out;have R2:=(h.rec_.drewN _).drew.chg HC n2.out;have V2:=(h.wait.drewN _).drew.chg HC n3.out;clear c0 c1 c2;have c2:=R2.cell 2;rw[hsp.out]at HG;have HL2:zb_ w2 bL 5 (bts (zaw L S k 64)):=HG;clear HG;have c4:=(V2.cell k).trans (vW_ V k hk);have c5:=V2.frozen k;by_cases hlast:S.length-k*64=64
 · have hlast2:L.length-k*64=64:=(by have:=hLS.out;omega);go_wp2_with fail;go_region_law (with_reducible refine up_ rfl (.tmp 29) (.tmp 32) _ _ rfl 5 Tryz.underlying39 xz_ _ _ 0 _ 0 _ rfl rfl rfl ?_);go_wp2_with fail
   go_end0
   exact ko_ h hk hc HC (Chg.refl _ _) R2.drew HL2.drew V2.drew (by simpa[splice,bts] using S2.drew)
 · have hlast2:¬(L.length-k*64=64):=(by have:=hLS.out;omega);go_wp2_with fail;go_region_law (with_reducible refine up_ rfl (.tmp 29) (.tmp 32) _ _ rfl 5 Tryz.underlying39 xz_ _ _ 0 _ 0 _ rfl rfl rfl ?_);go_wp2_with fail
   go_end0
   exact ko_ h hk hc HC (Chg.refl _ _) R2.drew HL2.drew V2.drew (by simpa[splice,bts] using S2.drew)
end
def St.settle (s:St)(k cut:Nat):St:=⟨zaw s.L s.S k cut,zjT s.L s.S k cut,s.V.set k false⟩
section
variable {w:World} {p bL bS bW:Nat} {L S:List UInt8} {V:List Bool}
theorem zeS (h:Dsk w p bL bS bW L S V)(k:Nat)(hk:k<V.length)(c:Int)(h0:0<=c)(h1:c<=64) :
    Calls Tryz.prog 110 #[.pointer (some ⟨p,0,none⟩),.int .i64 (k:Int),.int .i64 c] w fun e w'=>e=.returned (.tuple #[]) /\
      Dsk w' p bL bS bW (zaw L S k c.toNat) (zjT L S k c.toNat) (V.set k false)/\Chg [bL,bS,bW] w w':=by
 obtain⟨n,rfl⟩:=Int.eq_ofNat_of_zero_le h0;rw[Int.toNat_natCast];by_cases hn:n<64
 · exact zgN h k n hk hn
 · obtain rfl:n=64:=(by omega);rw[show((64:Nat):Int)=64 from rfl];exact zgO h k hk
end
def St.flush (s:St):Nat->St
  | 0=>s
  | i+1=>(St.flush s i).settle i 64
theorem zbj (s:St)(i:Nat):(s.flush i).V.length=s.V.length:=by
 induction i with
 | zero=>rfl
 | succ i ih=>simp[St.flush,St.settle,ih]
section
variable {w:World} {p bL bS bW:Nat} {L S:List UInt8} {V:List Bool}
theorem u8_ (h:Dsk w p bL bS bW L S V) :
    Calls Tryz.prog 71 #[.pointer (some ⟨p,0,none⟩)] w fun e w'=>e=.returned (.tuple #[])/\yx_ w' p bL bS bW (St.flush ⟨L,S,V⟩ V.length)/\Chg [bL,bS,bW] w w':=by
 have c2:=h.rec_.cell 2;have hle:=h.le;go_enter Tryz.func71,Tryz.ntmps71;go_wp2_with fail;go_loopw [8] (fun i wr=>∃k:Nat,k<=V.length/\i=.int .i64 (k:Int)/\yx_ wr p bL bS bW (St.flush ⟨L,S,V⟩ k)/\Chg [bL,bS,bW] w wr) (fun i _=>V.length-(intOf i).toNat);case atStart=>exact⟨0,Nat.zero_le _,rfl,h,Chg.refl _ _⟩
 case round =>
  obtain⟨k,hk,rfl,hdk,hck⟩:=hrel;by_cases hlt:k<V.length
  · have hlt3:k<(St.flush ⟨L,S,V⟩ k).V.length:=(by rw[zbj];exact hlt);have HE:=hQ_ (show(St.flush ⟨L,S,V⟩ (k+1))=(St.flush ⟨L,S,V⟩ k).settle k 64 from rfl);obtain⟨s2,hE2⟩:∃s2,s2=St.flush ⟨L,S,V⟩ (k+1):=⟨_,rfl⟩;rw[<-hE2]at HE;have hE2:=hQ_ hE2;generalize St.flush ⟨L,S,V⟩ k=s0 at HE hdk hlt3;go_wp2_with fail;refine(zeS hdk k hlt3 64 (by omega) (by omega)).mono ?_;rintro e w2 ⟨rfl,hd2,hc2⟩;have hd3:yx_ w2 p bL bS bW s2:=(by rw[HE.o];exact hd2);clear hd2;go_wp2_with fail;go_roundw;(case rel=>exact⟨k+1,by omega,by go_num,(hE2.out ▸ hd3),hck.trans hc2⟩);case measure=>simp[intOf];omega
  · have hkl:k=V.length:=(by omega);have hdl:yx_ wr p bL bS bW (St.flush ⟨L,S,V⟩ V.length):=hkl ▸ hdk;clear hkl;go_wp2_with fail
    go_end0
    exact⟨rfl,hdl,hck⟩
end
theorem ya_ {α:Type}(L m:List α)(o i:Nat)(h:o+m.length<=L.length):(splice L o m)[i]?=if o<=i/\i<o+m.length then m[i-o]? else L[i]?:=by
 have ht:(L.take o).length=o:=by rw[List.length_take];omega
 unfold splice;rcases Nat.lt_or_ge i o with h1|h1
 · rw[if_neg (by omega),List.getElem?_append_left (by omega),List.getElem?_take,if_pos h1]
 · rcases Nat.lt_or_ge i (o+m.length) with h2|h2
   · rw[if_pos ⟨h1,h2⟩,List.getElem?_append_right (by omega),ht,List.getElem?_append_left (by omega)]
   · rw[if_neg (by omega),List.getElem?_append_right (by omega),ht,List.getElem?_append_right (by omega),List.getElem?_drop];congr 1;omega
theorem xu_ {α:Type}(L m:List α)(o:Nat)(h:o+m.length<=L.length):(splice L o m).length=L.length:=by
 unfold splice;simp only[List.length_append,List.length_take,List.length_drop];omega
def tch (a n j:Nat):Bool:=decide (0<n/\j*64<a+n/\a<(j+1)*64)
def apS (s:St)(a:Nat)(b:List UInt8):St:=⟨s.L,splice s.S a b,(List.range s.V.length).map fun j=>s.V.getD j false||tch a b.length j⟩
theorem zoz (s:St)(a:Nat)(ha:a<=s.S.length):apS s a []=s:=by
 obtain⟨L,S,V⟩:=s;unfold apS;congr 1
 · apply List.ext_getElem?;intro i;rw[ya_ _ _ _ _ (by simpa using ha),if_neg (by simp)]
 · apply List.ext_getElem?;intro j;rw[List.getElem?_map];rcases Nat.lt_or_ge j V.length with h|h
   · rw[List.getElem?_range h,List.getElem?_eq_getElem h];simp[tch,List.getD,h]
   · rw[List.getElem?_eq_none (by simpa using h),List.getElem?_eq_none h];rfl
theorem zbA (s:St)(a:Nat)(b:List UInt8):(apS s a b).V.length=s.V.length:=by simp[apS]
theorem zmg {s:St} {a:Nat} {b:List UInt8} {k k' q:Nat} {x:List UInt8} (hl:s.S.length=64*s.V.length) (hb:a+b.length<=s.S.length) (hk:k<k') (hk':k'<=b.length) (h1:q*64<=a+k) (h2:a+k'<=(q+1)*64) (h3:a<(q+1)*64)
    (hx:x=((splice s.S a (b.take k')).drop (q*64)).take 64):(apS s a (b.take k)).write q x=apS s a (b.take k'):=by
      have lk:(b.take k).length=k:=(by rw[List.length_take];omega);have lk':(b.take k').length=k':=(by rw[List.length_take];omega);have hq:q<s.V.length:=(by omega);have hsl:(splice s.S a (b.take k')).length=s.S.length:=xu_ _ _ _ (by rw[lk'];omega);have hsk:(splice s.S a (b.take k)).length=s.S.length:=xu_ _ _ _ (by rw[lk];omega);have xl:x.length=64:=(by rw[hx,List.length_take,List.length_drop,hsl];omega);unfold St.write apS;congr 1
      · show splice (splice s.S a (b.take k)) (q*64) x=splice s.S a (b.take k');apply List.ext_getElem?;intro i;rw[ya_ _ _ _ _ (by rw[hsk,xl];omega),xl];by_cases hi:q*64<=i/\i<q*64+64
        · rw[if_pos hi,hx,List.getElem?_take,if_pos (by omega),List.getElem?_drop];congr 1;omega
        · rw[if_neg hi,ya_ _ _ _ _ (by rw[lk];omega),ya_ _ _ _ _ (by rw[lk'];omega),lk,lk'];by_cases h4:a<=i/\i<a+k
          · rw[if_pos h4,if_pos (by omega),List.getElem?_take,List.getElem?_take,if_pos (by omega),if_pos (by omega)]
          · rw[if_neg h4];by_cases h5:a<=i/\i<a+k'
            · omega
            · rw[if_neg h5]
      · apply List.ext_getElem?;intro j;rw[List.getElem?_set];simp only[List.getElem?_map,List.length_map,List.length_range];rcases Nat.lt_or_ge j s.V.length with hj|hj
        · rw [List.getElem?_range hj];simp only[Option.map_some];by_cases e:q=j
          · subst e;rw[if_pos rfl,if_pos hj];have:tch a (b.take k').length q=true:=decide_eq_true (by rw[lk'];omega);rw[this,Bool.or_true]
          · rw [if_neg e];have:tch a (b.take k).length j=tch a (b.take k').length j:=by
             unfold tch;rw[lk,lk'];congr 1;apply propext;constructor
             · rintro⟨_,_,_⟩;omega
             · rintro⟨_,_,_⟩;have:j≠q:=fun h=>e h.symm;rcases Nat.lt_or_ge j q with h|h
               · omega
               · omega
            rw[this]
        · rw[List.getElem?_eq_none (by simpa using hj)];simp only[Option.map_none];by_cases e:q=j
          · omega
          · rw[if_neg e]
theorem zkw {S b:List UInt8}{a k m q f:Nat}(hb:a+b.length<=S.length)(hk:k+m<=b.length)(hq:q*64+f=a+k)(hf:f+m<=64)(hS:(q+1)*64<=S.length) :
    splice (((splice S a (b.take k)).drop (q*64)).take 64) f ((b.drop k).take m)=((splice S a (b.take (k+m))).drop (q*64)).take 64:=by
 have lk:(b.take k).length=k:=by rw[List.length_take];omega
 have lk':(b.take (k+m)).length=k+m:=by rw[List.length_take];omega
 have lm:((b.drop k).take m).length=m:=by rw[List.length_take,List.length_drop];omega
 have hsk:(splice S a (b.take k)).length=S.length:=xu_ _ _ _ (by rw[lk];omega);have ls:(((splice S a (b.take k)).drop (q*64)).take 64).length=64:=by rw[List.length_take,List.length_drop,hsk];omega
 apply List.ext_getElem?;intro i;rw[ya_ _ _ _ _ (by rw[ls,lm];exact hf),lm];rcases Nat.lt_or_ge i 64 with hi|hi
 · have e1:∀Z:List UInt8,(Z.take 64)[i]?=Z[i]?:=fun Z=>(by rw[List.getElem?_take,if_pos hi]);rw[e1,e1,List.getElem?_drop,List.getElem?_drop,ya_ _ _ _ _ (by rw[lk];omega),ya_ _ _ _ _ (by rw[lk'];omega),lk,lk'];by_cases h1:f<=i/\i<f+m
   · rw[if_pos h1,if_pos (show a<=q*64+i/\q*64+i<a+(k+m) by omega),List.getElem?_take,List.getElem?_take,if_pos (show i-f<m by omega),if_pos (show q*64+i-a<k+m by omega),List.getElem?_drop];congr 1;omega
   · rw[if_neg h1];by_cases h2:a<=q*64+i/\q*64+i<a+k
     · rw[if_pos h2,if_pos (show a<=q*64+i/\q*64+i<a+(k+m) by omega),List.getElem?_take,List.getElem?_take,if_pos (by omega),if_pos (by omega)]
     · rw[if_neg h2,if_neg (show ¬(a<=q*64+i/\q*64+i<a+(k+m)) by omega)]
 · have e1:∀Z:List UInt8,(Z.take 64)[i]?=none:=fun Z=>(by rw[List.getElem?_take,if_neg (by omega)]);rw[if_neg (by omega),e1,e1]
def xL_ (s:St)(L:Nat):List UInt8:=(s.S.drop 128).take (L*64)
theorem u0_ (s:St)(k:Nat):xL_ s (k+1)=xL_ s k++(s.S.drop ((2+k)*64)).take 64:=by
 unfold xL_;rw[show(k+1)*64=k*64+64 by omega,List.take_add,List.drop_drop];congr 3;omega
theorem zld {s:St}{L:Nat}(h:128+L*64<=s.S.length):(xL_ s L).length=L*64:=by
 unfold xL_;rw[List.length_take,List.length_drop];omega
def xU_ (w:World)(l:List UInt8)(k most:Nat)(e:Ending)(w':World):Prop :=
 ∃p gC gD,e=.returned (.pointer (some ⟨p,0,none⟩))/\Mm w' p gC gD l [] (zK_ k) [] most/\w.heap.size<=p/\w.heap.size<=gC/\w.heap.size<=gD/\Chg [] w w'
section
variable {w:World}
theorem xU_.drew {l:List UInt8}{k most:Nat}{e:Ending}{w':World}(h:xU_ w l k most e w'):xU_ w l k most e w'.drew:=by
 obtain⟨p,gC,gD,he,hM,h1,h2,h3,hc⟩:=h;exact⟨p,gC,gD,he,hM.keep (Chg.refl [] w').drew,h1,h2,h3,hc.drew⟩
theorem zhD {W:World}{q gC gD k most n:Nat}{l:List UInt8}(hq:q=W.heap.size)(hC:zb_ W gC 5 (bts l))(hD:zb_ W gD 4 (bls (zK_ k)))(hn:l.length=n)(hl:n=64*k)(h1:k<=most)(h2:most<=64)
    (hc:Chg [] w W) (b1:w.heap.size<=gC) (b2:w.heap.size<=gD) :
    xU_ w l k most (.returned (.pointer (some ⟨q,0,none⟩))) (W.alloc (.cells #[.slice (some ⟨gC,0,none⟩) n n,.int .i64 (most:Int),.slice (some ⟨gD,0,none⟩) k k] 105)):=by
 subst hq hn;have hk:∀o,Chg [] W (W.alloc o):=fun o=>(Chg.refl [] W).alloc o;refine⟨W.heap.size,gC,gD,rfl,⟨?_,by simpa using hC.keep (hk _),by simpa using hD.keep (hk _),by rw[yv_];exact hl,by rw[yv_];exact h1,h2,by unfold maxLen;simp;omega,by unfold maxLen;simp[yv_];omega⟩,hc.size,b1,b2,hc.alloc _⟩;have:=zb_.new W 105 [.slice (some ⟨gC,0,none⟩) l.length l.length,.int .i64 (most:Int),.slice (some ⟨gD,0,none⟩) k k];simpa[yv_] using this
theorem cnew_no (k most:Int)(h:k<0\/most<k\/64<most) :
    Calls Tryz.prog 90 #[.int .i64 k,.int .i64 most] w fun e w'=>e=.returned (.pointer none)/\w=w':=by
 by_cases h1:k<0
 · have hd:decide (k<0)=true:=(by simpa using h1);clear h;go_enter Tryz.func90,Tryz.ntmps90;go_wp2_with fail;go_ret;exact⟨rfl,rfl⟩
 · have hd1:decide (k<0)=false:=(by simpa using h1);by_cases h2:most<k
   · have hd:decide (most<k)=true:=(by simpa using h2);clear h;go_enter Tryz.func90,Tryz.ntmps90;go_wp2_with fail;go_ret;exact⟨rfl,rfl⟩
   · have hd2:decide (most<k)=false:=(by simpa using h2);have hd3:decide (64<most)=true:=(by simp;omega);clear h;go_enter Tryz.func90,Tryz.ntmps90;go_wp2_with fail;go_ret;exact⟨rfl,rfl⟩
theorem zdW (k most:Nat)(h1:k<=most)(h2:most<=64) :
    Calls Tryz.prog 90 #[.int .i64 (k:Int),.int .i64 (most:Int)] w (xU_ w (zm_ (k*64)) k most):=by
 have hd2:decide ((most:Int)<(k:Int))=false:=by simp;omega
 have hd3:decide (64<(most:Int))=false:=by simp;omega
 have hmk:∀W:World,(Instr.makeSlice 39 (.int .i64 ((k:Int)*64)) (.int .i64 ((k:Int)*64))).run Tryz.prog W=.ok (.slice (some ⟨W.heap.size,0,none⟩) (k*64) (k*64)) (W.alloc (.cells (bts (zm_ (k*64))).toArray 5)) :=
  fun W=>by
   have:=j3_ (k*64) (by omega) W;simpa using this
 have hmb:∀W:World,(Instr.makeSlice 99 (.int .i64 (k:Int)) (.int .i64 (k:Int))).run Tryz.prog W=.ok (.slice (some ⟨W.heap.size,0,none⟩) k k) (W.alloc (.cells (bls (zK_ k)).toArray 4)) :=
  fun W=>j4_ k (by omega) W;have hz:(zm_ (k*64)).length=k*64:=zE_ _;have HZ:=hQ_ hz;clear hz;have hw:IntKind.i64.wrap ((k:Int)*64)=(k:Int)*64:=IntWalk.i64_in _ (by omega);go_enter Tryz.func90,Tryz.ntmps90;go_wp2_with fail;go_region_with fail;all_goals
   go_wp2_with fail;go_ret
 · have hA:=zb_.new w 5 (bts (zm_ (k*64)));have hB:=zb_.new (w.alloc (.cells (bts (zm_ (k*64))).toArray 5)) 4 (bls (zK_ k));rw[show(w.alloc (.cells (bts (zm_ (k*64))).toArray 5)).heap.size=w.heap.size+1 by simp]at hB;exact(zhD (W:=(w.alloc (.cells (bts (zm_ (k*64))).toArray 5)).alloc (.cells (bls (zK_ k)).toArray 4)) (by simp) (hA.keep ((Chg.refl [] _).alloc _)) hB HZ.o (by omega) h1 h2 (((Chg.refl [] w).alloc _).alloc _) (Nat.le_refl _) (by omega)).drew
 · have hA:=zb_.new w 4 (bls (zK_ k));have hB:=zb_.new (w.alloc (.cells (bls (zK_ k)).toArray 4)) 5 (bts (zm_ (k*64)));rw[show(w.alloc (.cells (bls (zK_ k)).toArray 4)).heap.size=w.heap.size+1 by simp]at hB;exact(zhD (W:=(w.alloc (.cells (bls (zK_ k)).toArray 4)).alloc (.cells (bts (zm_ (k*64))).toArray 5)) (by simp) hB (hA.keep ((Chg.refl [] _).alloc _)) HZ.o (by omega) h1 h2 (((Chg.refl [] w).alloc _).alloc _) (by omega) (Nat.le_refl _)).drew
variable {A:Option Addr} {n c:Nat} {l:List UInt8}
theorem zhv {w1 w2:World}{p gC gD k most:Nat}{z:List UInt8}(hM:Mm w1 p gC gD z [] (zK_ k) [] most)(hz:z.length=l.length)(hc1:Chg [] w w1)(b0:w.heap.size<=p)(b1:w.heap.size<=gC)(b2:w.heap.size<=gD)
    (HG:zb_ w2 gC 5 (splice (bts z) 0 (bts l))) (HC:Chg [gC] w1 w2):xU_ w l k most (.returned (.pointer (some ⟨p,0,none⟩))) w2:=by
      have d0:=hM.rec_.ne_ hM.cel (by decide);have d1:=hM.dir.ne_ hM.cel (by decide);rw[xX_ _ _ (by rw[zg_,zg_,hz])]at HG;have hr:=hM.rec_.chg HC (by simpa using d0);have hd:=hM.dir.chg HC (by simpa using d1);have h1:=hM.len;have h2:=hM.capX;rw[hz]at hr h1 h2;refine⟨p,gC,gD,rfl,⟨hr,by simpa using HG,hd,h1,hM.le,hM.top,h2,hM.capY⟩,b0,b1,b2,?_⟩;exact hc1.then_ HC fun i hi hlt=>by
       simp only[List.mem_cons,List.not_mem_nil,or_false]at hi;omega
theorem zjf (hl:l.length=n)(hs:Src w A (bts l))(most:Nat)(h1:n%64=0)(h2:n/64<=most)(h3:most<=64) :
    Calls Tryz.prog 49 #[.slice A n c,.int .i64 (most:Int)] w (xU_ w l (n/64) most):=by
 have hd:((n:Int)%64 != 0)=false:=by simp;omega
 have hq:((n:Int)/64)=((n/64:Nat):Int):=by omega
 have HL:=hQ_ hl;have HQ:=hQ_ hq;have H1:=hQ_ h1;have hb:=yc_ l;clear hl hq h1;go_enter Tryz.func49,Tryz.ntmps49;go_wp2_with (first
  | (go_at_call 90;rw[HQ.o];refine(zdW (n/64) most h2 h3).mono ?_;rintro e w1 ⟨p,gC,gD,rfl,hM,b0,b1,b2,hc1⟩;have hz:(zm_ (n/64*64)).length=n:=(by rw[zE_];have:=H1.o;omega);have hsr:=hs.keep hc1;have c0:=hM.rec_.cell 0;have hcel:=hM.cel;rw[List.append_nil]at hcel;have Hn:=hQ_ (show(bts l).length=Nat.min n n by rw[zg_,HL.o];exact(Nat.min_self n).symm);have Hf:0+(bts l).length<=(bts (zm_ (n/64*64))).length:=(by rw[zg_,zg_,hz,HL.o];omega);have HM:=hQ_ hM;have HZ:=hQ_ hz;simp only[List.length_nil,Nat.add_zero,hz]at c0;obtain⟨Y,hY⟩:∃Y,Y=bts l:=⟨_,rfl⟩;have HY:=hQ_ hY;rw[<-hY]at hb hsr Hn Hf;clear hY hM hz)
  | ((with_reducible refine z7_ rfl (.tmp 20) (.tmp 21) _ _ rfl 5 Tryz.underlying39 xz_ (some ⟨gC,0,none⟩) A n n n c rfl rfl gC 0 5 (bts (zm_ (n/64*64))) Y hcel Hn.o (fun _=>rfl) hsr Hf hb ?_);intro w2 HG HC));go_ret;rw[HY.o]at HG;exact zhv HM.o (by rw[HZ.o,HL.o]) hc1 b0 b1 b2 HG HC
end
def zoT (w:World)(l:List UInt8)(e:Ending)(w':World):Prop:=∃v,e=.returned v/\w'.ownsRow w.heap.size 5 1 v l.length (bts l)/\Chg [] w w'
section
variable {w:World} {p gC gD:Nat} {L:List UInt8} {X:List Value} {V:List Bool} {Y:List Value} {most:Nat}
theorem kz_ (h:Mm w p gC gD L X V Y most):Calls Tryz.prog 34 #[.pointer (some ⟨p,0,none⟩)] w (zoT w L):=by
 obtain⟨i,hi,hz,hs1,hb⟩:=info_parts j6_;have c0:=h.rec_.cell 0;have hsr:=h.src;have hl:=hQ_ (zg_ L);have h1:=yc_ L;have b1:=h.small;have x1:=hQ_ (show 0+L.length<=maxLen by unfold maxLen;omega);have x2:=hQ_ (show(0+L.length)*1<=140737488355328 by omega);go_enter Tryz.func34,Tryz.ntmps34;go_wp2_with (
  at_builtin;refine zC_ rfl (.const (.slice none 0 0)) (.tmp 6) 39 rfl w.heap.size 5 i _ 1 Tryz.underlying39 hi hz hs1 hb uj_ (.slice none 0 0) 0 [] rfl (vN_ _ _ _) (some ⟨gC,0,none⟩) L.length (L.length+X.length) (bts L) rfl hl.out hsr h1 x1.out x2.out (Nat.le_refl _) ?_;intro v4 w4 ho4 hg4 _);go_ret;rw[Nat.zero_add,List.nil_append]at ho4;exact⟨v4,rfl,ho4,Chg.of_grown hg4 (fun g hg=>by simp[Value.ownBlock]at hg)⟩
def newF (B:Nat)(l:List UInt8)(k most:Nat):yI_:=fun v W=>∃p gC gD,v=.pointer (some ⟨p,0,none⟩)/\Mm W p gC gD l [] (zK_ k) [] most/\B<=p/\B<=gC/\B<=gD
theorem uc_ (B:Nat)(l:List UInt8)(k most:Nat):zQ_ (Chg []) (newF B l k most):=fun _ _ _ ⟨p,gC,gD,h,hM,h1,h2,h3⟩ hc=>⟨p,gC,gD,h,hM.keep hc,h1,h2,h3⟩
theorem zaP (h:Mm w p gC gD L X V Y most):Calls Tryz.prog 24 #[.pointer (some ⟨p,0,none⟩)] w (xU_ w L V.length most):=by
 have c0:=h.rec_.cell 0;have c1:=h.rec_.cell 1;have hlen:=h.len;have hle:=h.le;have htop:=h.top;have H1:=hQ_ (show L.length%64=0 by omega);have H2:=hQ_ (show L.length/64=V.length by omega);have H3:=hQ_ (show L.length/64<=most by omega);clear hlen;go_enter Tryz.func24,Tryz.ntmps24;go_wp2_with fail;have hd:=h.keep (Chg.refl [] w).drew;clear c0 c1;refine wp_flow (by kernel_rfl) yl_ za_ (by kernel_rfl) ?_;refine flow_move_out za_ rfl rfl rfl ?_;refine flow1 (r:=.pointer (some ⟨p,0,none⟩)) za_ rfl (.inn rfl) rfl (fun ev W he e1=>by go_simp) ?_;refine flow1 (r:=.pointer (some ⟨p,0,none⟩)) za_ rfl (.inn rfl) rfl (fun ev W he e1=>by go_simp) ?_;refine flow1h (r:=.slice (some ⟨gC,0,none⟩) L.length (L.length+X.length)) za_ rfl (.inn rfl) rfl (fun ev W he hW e1=>by have c0:=(hd.keep hW).rec_.cell 0;go_simp) ?_;refine flow_move_out za_ rfl rfl rfl ?_;refine flow1 (r:=.pointer (some ⟨p,0,none⟩)) za_ rfl (.inn rfl) rfl (fun ev W he e1=>by go_simp) ?_;refine flow1 (r:=.pointer (some ⟨p,1,none⟩)) za_ rfl (.inn rfl) rfl (fun ev W he e1=>by go_simp) ?_;refine flow1h (r:=.int .i64 (most:Int)) za_ rfl (.inn rfl) rfl (fun ev W he hW e1=>by have c1:=(hd.keep hW).rec_.cell 1;go_simp) ?_;refine flow_calld (newF w.heap.size L V.length most) (uc_ _ _ _ _) (.inr (uc_ _ _ _ _)) (by kernel_rfl) rfl (.cons (.inn rfl) (.cons (.inn rfl) .nil)) (fun W hW=>(zjf (l:=L) rfl (hd.keep hW).src most H1.o H3.o htop).mono ?_) ?_
 · rintro e w' hp;rw[H2.o]at hp;obtain⟨p',gC',gD',rfl,hM,h1,h2,h3,hc⟩:=hp;have hz:w.heap.size<=W.heap.size:=hW.size;exact⟨_,rfl,hc,p',gC',gD',rfl,hM,by omega,by omega,by omega⟩
 refine flow_assign za_ rfl (uc_ _ _ _ _) (.inr (uc_ _ _ _ _)) rfl ?_;intro vs W hW hF;obtain⟨p',gC',gD',e2,hM,h1,h2,h3⟩:=hF 2 _ rfl rfl;simp only[zV_,Act.put,List.setIfInBounds_toArray,List.set_cons_zero,List.set_cons_succ,e2];go_wp2_with fail;go_ret;have hz:w.heap.size=w.drew.heap.size:=rfl;exact⟨p',gC',gD',rfl,hM,h1,h2,h3,(Chg.refl [] w).drew.new hW⟩
end
def pg (L:List UInt8)(i:Nat):List UInt8:=(L.drop (i*64)).take 64
theorem zmw {L:List UInt8}{i:Nat}(h:(i+1)*64<=L.length):(pg L i).length=64:=by
 unfold pg;rw[List.length_take,List.length_drop];omega
def go_ (L M:List UInt8)(i:Nat):Bool:=decide (i<L.length/64/\pg L i=pg M i)
def vT_ (L M:List UInt8)(f:Nat):Nat->List (Nat×List UInt8)
  | 0=>[]
  | k+1=>vT_ L M f k++(if go_ L M k then [] else [(f+k,pg M k)])
def qv_ (ls:List ChV)(cs:List (Nat×List UInt8)):Prop:=ls.map (fun a=>(a.page,a.B))=cs.map (fun c=>((c.1:Int),c.2))
theorem qv_.len {ls:List ChV}{cs:List (Nat×List UInt8)}(h:qv_ ls cs):ls.length=cs.length:=by
 have:=congrArg List.length h;simpa using this
theorem qv_.snoc {ls:List ChV}{cs:List (Nat×List UInt8)}(h:qv_ ls cs){a:ChV}{p:Nat}(hp:a.page=(p:Int)):qv_ (ls++[a]) (cs++[(p,a.B)]):=by
 unfold qv_ at *;rw[List.map_append,List.map_append,h];simp[hp]
theorem qv_.at {ls:List ChV}{cs:List (Nat×List UInt8)}(h:qv_ ls cs){k:Nat}{a:ChV}{c:Nat×List UInt8}(ha:ls[k]?=some a)(hc:cs[k]?=some c):a.page=(c.1:Int)/\a.B=c.2:=by
 have:=congrArg (fun l:List (Int×List UInt8)=>l[k]?) h;simp only[List.getElem?_map,ha,hc,Option.map_some]at this;injection this with this;injection this with h1 h2;exact⟨h1,h2⟩
def zmW (w:World)(cs:List (Nat×List UInt8))(e:Ending)(w':World):Prop :=
 ∃v ls,e=.returned v/\w'.ownsRow w.heap.size 123 2 v ls.length (xV_ ls)/\(∀a∈ls,MadeCh w' w.heap.size a)/\qv_ ls cs/\Chg [] w w'
theorem MadeCh.more {w:World}{B0 B1:Nat}{a:ChV}(h:MadeCh w B0 a)(hB:B1<=B0):MadeCh w B1 a:=by
 obtain⟨g,hg,hb,hW⟩:=h.b;exact { h with b:=⟨g,hg,Nat.le_trans hB hb,hW⟩ }
theorem uS_ {w:World}{B B' n k:Nat}{e:TypeId}{v:Value}{xs:List Value}(h:w.ownsRow B e k v n xs)(hB:B'<=B):w.ownsRow B' e k v n xs:=by
 refine⟨h.1,h.2.imp id ?_⟩;rintro⟨g,cap,cur,rfl,hb,r⟩;exact⟨g,cap,cur,rfl,Nat.le_trans hB hb,r⟩
section
variable {w:World} {A:Option Addr} {n c:Nat} {l:List UInt8}
theorem vn_ (h:Bs w A n c l)(hn:n<=1000000) :
    Calls Tryz.prog 96 #[.slice A n c] w fun e w'=>e=.returned (.slice (some ⟨w.heap.size,0,none⟩) n n)/\zb_ w' w.heap.size 5 (bts l)/\Chg [] w w':=by
 have hl:(bts l).length=n:=by rw[zg_,h.len]
 have hs:=h.src;have h1:=yc_ l;generalize bts l=xs at hl hs h1;have hmk:=j3_ n hn;go_enter Tryz.func96,Tryz.ntmps96;go_wp2_with (first
  | ((with_reducible refine wpList_copy_splice rfl (.tmp 7) (.tmp 8) _ _ rfl 5 Tryz.underlying39 xz_ (some ⟨w.heap.size,0,none⟩) A n n n c rfl rfl w.heap.size 0 (bts (zm_ n)) 5 ?c1 xs ?c2 ?c3 ?c4 h1 w.heap.size w ?c5 (Nat.le_refl _) ?_);(case c1=>exact heap_alloc_new w _);(case c2=>simp[hl]);case c3 =>
      intro hp;obtain⟨ad,e,_,hx⟩:=(hs.keep ((Chg.refl [] w).alloc _)) hp;exact⟨rfl,ad,e,hx⟩
     (case c4=>simp[hl,zg_,zE_]);(case c5=>exact(Below.refl _ _).alloc (Nat.le_refl _) _);intro w1 HG hB));go_ret;have HG':=HG.o;rw[xX_ _ _ (by simp[hl,zg_,zE_])]at HG';exact⟨rfl,HG',Chg.of_below hB⟩
theorem qK_ (h:Bs w A n c l)(i:Nat)(hi:(i+1)*64<=n)(hn:n<=1000000) :
    Calls Tryz.prog 94 #[.slice A n c,.int .i64 (i:Int)] w fun e w'=>∃A' c',e=.returned (.slice A' 64 c')/\Bs w A' 64 c' (pg l i)/\w=w':=by
 have hcut:=h.cut (lo:=i*64) (hi:=(i+1)*64) (by omega) hi;have e64:(i+1)*64-i*64=64:=by omega
 rw[e64]at hcut;have hne:¬c=i*64:=by have:=h.cap;omega
 rw[if_neg hne]at hcut;have hc:=h.cap;obtain⟨ad,hA⟩:∃ad,A=some ad:=by
  obtain⟨ad,e,_⟩:=h.src (by rw[zg_,h.len];omega);exact⟨ad,e⟩
 have hsp:=h.spot (by omega);subst hA;obtain⟨b,o,s⟩:=ad;obtain rfl:s=none:=hsp _ rfl;rw[Option.map_some,zl_]at hcut;have HC:=hQ_ hcut;have H64:=hQ_ e64;clear hcut e64;go_enter Tryz.func94,Tryz.ntmps94;go_wp2_with fail;go_ret;exact⟨_,_,by rw[H64.o];rfl,HC.o,rfl⟩
end
section
variable {w:World} {p gC gD p2 gC2 gD2:Nat} {L L2:List UInt8} {X X2:List Value} {V V2:List Bool} {Y Y2:List Value} {most most2:Nat}
theorem gn_ (h:Mm w p gC gD L X V Y most) (h2:Mm w p2 gC2 gD2 L2 X2 V2 Y2 most2) (f:Nat) (hf:f<=60000) :
    Calls Tryz.prog 56 #[.pointer (some ⟨p,0,none⟩),.pointer (some ⟨p2,0,none⟩),.int .i64 (f:Int)] w (zmW w (vT_ L L2 f V2.length)):=by
 obtain⟨i0,hi,hz0,hz1,hz2⟩:=info_parts vv_;have HM:=hQ_ h;have HM2:=hQ_ h2;have HL:=hQ_ (show L.length=64*V.length/\V.length<=64 from⟨h.len,h.smallV⟩);have HL2:=hQ_ (show L2.length=64*V2.length from h2.len);have hV2:=h2.smallV;clear h h2;go_enter Tryz.func56,Tryz.ntmps56;go_wp2_with fail;refine(kz_ HM.o).mono ?_;rintro e w1 ⟨v1,rfl,ho1,hc1⟩;obtain⟨A1,c1,rfl,hB1,_⟩:=Bs.of_own ho1;have HB1:=hQ_ hB1;have HC1:=hQ_ hc1;clear ho1 hB1 hc1;go_wp2_with fail;refine(kz_ (HM2.o.keep HC1.o)).mono ?_;rintro e w2 ⟨v2,rfl,ho2,hc2⟩;obtain⟨A2,c2,rfl,hB2,_⟩:=Bs.of_own ho2;have HB2:=hQ_ hB2;have HB1':=hQ_ (HB1.o.keep hc2);have HC2:=hQ_ (HC1.o.new hc2);clear ho2 hB2 hc2;go_wp2_with fail;refine(xe_ (HM2.o.keep HC2.o)).mono ?_;rintro e w' ⟨rfl,rfl⟩;go_wp2_with fail;go_loopw [9,24] (fun v i wr=>∃(k:Nat)(ls:List ChV),k<=V2.length/\i=.int .i64 (k:Int)/\ls.length<=k/\wr.ownsRow w2.heap.size 123 2 v ls.length (xV_ ls)/\Hid (∀a∈ls,MadeCh wr w2.heap.size a)/\Hid (qv_ ls (vT_ L L2 f k))/\Hid (Chg [] w2 wr)) (fun _ i _=>V2.length-(intOf i).toNat);case atStart=>exact⟨0,[],Nat.zero_le _,rfl,Nat.le_refl _,World.ownsRow_nil _ _ _ _,hQ_ (by simp),hQ_ rfl,hQ_ (Chg.refl _ _)⟩
 case round =>
  obtain⟨k,ls,hk,rfl,hlen,hown,HMade,HCs,HCr⟩:=hrel;by_cases hlt:k<V2.length
  · have hkI:(k:Int)<(V2.length:Int):=(by omega);have hk2:(k+1)*64<=L2.length:=(by rw[HL2.o];omega);go_wp2_with fail;refine(qK_ (HB2.o.keep HCr.o) k hk2 (by rw[HL2.o];omega)).mono ?_;rintro e w' ⟨A3,c3,rfl,hB3,rfl⟩;have HB3:=hQ_ hB3;clear hB3;go_wp2_with fail;refine(xe_ (HM.o.keep (HC2.o.new HCr.o))).mono ?_;rintro e w' ⟨rfl,rfl⟩;by_cases hkv:k<V.length
    · have hkvI:(k:Int)<(V.length:Int):=(by omega);go_wp2_with fail;refine(qK_ (HB1'.out.keep HCr.o) k (by have:=HL.o;omega) (by have:=HL.o;omega)).mono ?_;rintro e w' ⟨A4,c4,rfl,hB4,rfl⟩;go_wp2_with fail;refine(kM_ hB4 HB3.o).mono ?_;rintro e w' ⟨rfl,rfl⟩;by_cases heq:pg L k=pg L2 k
      · have hde:decide (pg L k=pg L2 k)=true:=decide_eq_true heq;have HS:=hQ_ (show vT_ L L2 f (k+1)=vT_ L L2 f k by rw[vT_,show go_ L L2 k=true from decide_eq_true ⟨by have:=HL.o;omega,heq⟩];simp);rw[hde];clear heq hde hB4;go_wp2_with fail;go_roundw;(case rel=>exact⟨k+1,ls,by omega,by go_num,by omega,hown,HMade,hQ_ (by rw[HS.o];exact HCs.o),HCr⟩);case measure=>simp[intOf];omega
      · have hde:decide (pg L k=pg L2 k)=false:=decide_eq_false heq;have hsame:go_ L L2 k=false:=decide_eq_false (fun h=>heq h.2);rw[hde];clear heq hde hB4;go_wp2_with fail;refine(vn_ HB3.o (by omega)).mono ?_;rintro e w5 ⟨rfl,hW5,hc5⟩;obtain⟨g,hg⟩:∃g,g=wr.heap.size:=⟨_,rfl⟩;rw[<-hg]at hW5⊢;have hB0:=HCr.o.size;have hnew:MadeCh w5 w2.heap.size ⟨((f+k:Nat):Int),some ⟨g,0,none⟩,64,64,pg L2 k⟩:=⟨⟨g,rfl,by omega,hW5⟩,zmw hk2,rfl,rfl,by simp only;omega⟩;have HN5:=hQ_ hnew;have HM5:=hQ_ (show ∀a∈ls,MadeCh w5 w2.heap.size a from fun a ha=>(HMade.o a ha).chg hc5 (by simp));have hown5:=zR_ hown hc5 (by simp);have HC5:=hQ_ (HCr.o.new hc5);have HS:=hQ_ (show vT_ L L2 f (k+1)=vT_ L L2 f k++[(f+k,pg L2 k)] by rw[vT_,hsame];rfl);obtain⟨X,hX⟩:∃X,X=xV_ ls:=⟨_,rfl⟩;obtain⟨N,hN⟩:∃N,N=ls.length:=⟨_,rfl⟩;rw[<-hX,<-hN]at hown5;rw[<-hN]at hlen;have HX:=hQ_ hX;have HN:=hQ_ hN;have hw5:=HC5.o.size;have HFK:=hQ_ (show(f:Int)+(k:Int)=((f+k:Nat):Int) by omega);clear hX hN hown hnew hW5 hc5 hB0 hg hsame;go_wp2_with (first
         | (at_builtin;refine wpList_append_own _ rfl (.tmp 41) (.tmp 48) _ rfl w2.heap.size 123 i0 _ 2 32 Tryz.underlying88 hi hz0 hz1 hz2 rfl (by decide) _ N X rfl (zR_ hown5 ((Chg.refl [] w5).alloc _) (by simp)) ⟨w5.heap.size,0,none⟩ 1 1 [.int .i64 ((f:Int)+(k:Int)),.slice (some ⟨g,0,none⟩) 64 64] rfl rfl ?c1 ?c2 ?c3 ?c4 ?c5 ?_;(case c1=>exact zL_ _ _ _);(case c2=>simp[Value.oneCell']);(case c3=>simp only[maxLen];omega);(case c4=>omega);(case c5=>simp;omega);intro v' w6 hown' hg' _));have HAL6:=hQ_ (zR_ hown5 ((Chg.refl [] w5).alloc (.cells #[.int .i64 ((f:Int)+(k:Int)),.slice (some ⟨g,0,none⟩) 64 64] 123)) (by simp));have hc6:Chg [] w2 w6:=ve_ (HC5.o.alloc _) hg' fun g hgg=>(HAL6.o.lt g hgg).1;go_roundw;case rel =>
         refine⟨k+1,ls++[⟨((f+k:Nat):Int),some ⟨g,0,none⟩,64,64,pg L2 k⟩],by omega,by go_num,?_,?_,hQ_ ?_,hQ_ ?_,hQ_ hc6⟩
         · rw[List.length_append,<-HN.o];simp;omega
         · rw[ui_,kd_,<-HX.o,List.length_append,<-HN.o];rw[HFK.o]at hown';exact hown'
         · intro a ha;rcases List.mem_append.1 ha with h|h
           · exact((HM5.o a h).chg ((Chg.refl [] w5).alloc _) (by simp)).grown HAL6.o hg'
           · simp only[List.mem_cons,List.not_mem_nil,or_false]at h;subst h;exact(HN5.o.chg ((Chg.refl [] w5).alloc _) (by simp)).grown HAL6.o hg'
         · rw[HS.o];exact HCs.o.snoc (a:=⟨((f+k:Nat):Int),some ⟨g,0,none⟩,64,64,pg L2 k⟩) rfl
        case measure=>simp[intOf];omega
    · have hkvI:¬(k:Int)<(V.length:Int):=(by omega);have hsame:go_ L L2 k=false:=decide_eq_false (fun h=>by have:=HL.o;omega);go_wp2_with fail;refine(vn_ HB3.o (by omega)).mono ?_;rintro e w5 ⟨rfl,hW5,hc5⟩;obtain⟨g,hg⟩:∃g,g=wr.heap.size:=⟨_,rfl⟩;rw[<-hg]at hW5⊢;have hB0:=HCr.o.size;have hnew:MadeCh w5 w2.heap.size ⟨((f+k:Nat):Int),some ⟨g,0,none⟩,64,64,pg L2 k⟩:=⟨⟨g,rfl,by omega,hW5⟩,zmw hk2,rfl,rfl,by simp only;omega⟩;have HN5:=hQ_ hnew;have HM5:=hQ_ (show ∀a∈ls,MadeCh w5 w2.heap.size a from fun a ha=>(HMade.o a ha).chg hc5 (by simp));have hown5:=zR_ hown hc5 (by simp);have HC5:=hQ_ (HCr.o.new hc5);have HS:=hQ_ (show vT_ L L2 f (k+1)=vT_ L L2 f k++[(f+k,pg L2 k)] by rw[vT_,hsame];rfl);obtain⟨X,hX⟩:∃X,X=xV_ ls:=⟨_,rfl⟩;obtain⟨N,hN⟩:∃N,N=ls.length:=⟨_,rfl⟩;rw[<-hX,<-hN]at hown5;rw[<-hN]at hlen;have HX:=hQ_ hX;have HN:=hQ_ hN;have hw5:=HC5.o.size;have HFK:=hQ_ (show(f:Int)+(k:Int)=((f+k:Nat):Int) by omega);clear hX hN hown hnew hW5 hc5 hB0 hg hsame;go_wp2_with (first
       | (at_builtin;refine wpList_append_own _ rfl (.tmp 41) (.tmp 48) _ rfl w2.heap.size 123 i0 _ 2 32 Tryz.underlying88 hi hz0 hz1 hz2 rfl (by decide) _ N X rfl (zR_ hown5 ((Chg.refl [] w5).alloc _) (by simp)) ⟨w5.heap.size,0,none⟩ 1 1 [.int .i64 ((f:Int)+(k:Int)),.slice (some ⟨g,0,none⟩) 64 64] rfl rfl ?c1 ?c2 ?c3 ?c4 ?c5 ?_;(case c1=>exact zL_ _ _ _);(case c2=>simp[Value.oneCell']);(case c3=>simp only[maxLen];omega);(case c4=>omega);(case c5=>simp;omega);intro v' w6 hown' hg' _));have HAL6:=hQ_ (zR_ hown5 ((Chg.refl [] w5).alloc (.cells #[.int .i64 ((f:Int)+(k:Int)),.slice (some ⟨g,0,none⟩) 64 64] 123)) (by simp));have hc6:Chg [] w2 w6:=ve_ (HC5.o.alloc _) hg' fun g hgg=>(HAL6.o.lt g hgg).1;go_roundw;case rel =>
       refine⟨k+1,ls++[⟨((f+k:Nat):Int),some ⟨g,0,none⟩,64,64,pg L2 k⟩],by omega,by go_num,?_,?_,hQ_ ?_,hQ_ ?_,hQ_ hc6⟩
       · rw[List.length_append,<-HN.o];simp;omega
       · rw[ui_,kd_,<-HX.o,List.length_append,<-HN.o];rw[HFK.o]at hown';exact hown'
       · intro a ha;rcases List.mem_append.1 ha with h|h
         · exact((HM5.o a h).chg ((Chg.refl [] w5).alloc _) (by simp)).grown HAL6.o hg'
         · simp only[List.mem_cons,List.not_mem_nil,or_false]at h;subst h;exact(HN5.o.chg ((Chg.refl [] w5).alloc _) (by simp)).grown HAL6.o hg'
       · rw[HS.o];exact HCs.o.snoc (a:=⟨((f+k:Nat):Int),some ⟨g,0,none⟩,64,64,pg L2 k⟩) rfl
      case measure=>simp[intOf];omega
  · have hge:¬(k:Int)<(V2.length:Int):=(by omega);have HK:=hQ_ (show k=V2.length by omega);clear hlt;go_wp2_with fail;go_ret;refine⟨_,ls,rfl,uS_ hown HC2.o.size,fun a ha=>(HMade.o a ha).more HC2.o.size,?_,HC2.o.new HCr.o⟩;rw[<-HK.o];exact HCs.o
end
section
variable {w:World} {A:Option Addr} {n c:Nat} {l:List UInt8}
theorem zcF {W:World}{q bL bS bW:Nat}(hq:q=W.heap.size)(hL:zb_ W bL 5 (bts l))(hS:zb_ W bS 5 (bts l))(hV:zb_ W bW 4 (bls (zK_ (l.length/64))))(hne:bL≠bS)
    (h1:64<=l.length) (h2:l.length<10304) (h3:l.length%64=0) (hc:Chg [] w W) (b1:w.heap.size<=bL) (b2:w.heap.size<=bS) (b3:w.heap.size<=bW) :
    ∃ p bL' bS' bW',Ending.returned (.pointer (some ⟨q,0,none⟩))=.returned (.pointer (some ⟨p,0,none⟩)) /\
      Dsk (W.alloc (.cells #[.slice (some ⟨bL,0,none⟩) l.length l.length,.slice (some ⟨bS,0,none⟩) l.length l.length,.slice (some ⟨bW,0,none⟩) (l.length/64) (l.length/64)] 138)) p bL' bS' bW' l l (zK_ (l.length/64)) /\
      w.heap.size<=p/\w.heap.size<=bL'/\w.heap.size<=bS'/\w.heap.size<=bW'/\Chg [] w (W.alloc (.cells #[.slice (some ⟨bL,0,none⟩) l.length l.length,.slice (some ⟨bS,0,none⟩) l.length l.length,.slice (some ⟨bW,0,none⟩) (l.length/64) (l.length/64)] 138)):=by
 subst hq;have hk:∀o,Chg [] W (W.alloc o):=fun o=>(Chg.refl [] W).alloc o;refine⟨W.heap.size,bL,bS,bW,rfl,⟨?_,hL.keep (hk _),hS.keep (hk _),hV.keep (hk _),?_,?_,?_,?_,hne⟩,hc.size,b1,b2,b3,hc.alloc _⟩
 · have:=zb_.new W 138 [.slice (some ⟨bL,0,none⟩) l.length l.length,.slice (some ⟨bS,0,none⟩) l.length l.length,.slice (some ⟨bW,0,none⟩) (l.length/64) (l.length/64)];simpa only[yv_] using this
 · rw[yv_];omega
 · rw[yv_];omega
 · rw[yv_];omega
 · rw[yv_];omega
theorem zpf (hl:l.length=n)(hs:Src w A (bts l))(h1:64<=n)(h2:n<10304)(h3:n%64=0) :
    Calls Tryz.prog 36 #[.slice A n c] w fun e w'=>∃p bL bS bW,e=.returned (.pointer (some ⟨p,0,none⟩))/\Dsk w' p bL bS bW l l (zK_ (n/64)) /\
      w.heap.size<=p/\w.heap.size<=bL/\w.heap.size<=bS/\w.heap.size<=bW/\Chg [] w w':=by
 have hd1:decide ((n:Int)/64<1)=false:=by simp;omega
 have hd2:decide (160<(n:Int)/64)=false:=by simp;omega
 have hd3:((n:Int)%64 != 0)=false:=by simp;omega
 have hmk:∀W:World,(Instr.makeSlice 99 (.int .i64 ((n:Int)/64)) (.int .i64 ((n:Int)/64))).run Tryz.prog W=.ok (.slice (some ⟨W.heap.size,0,none⟩) (n/64) (n/64)) (W.alloc (.cells (bls (zK_ (n/64))).toArray 4)) :=
  fun W=>j4_ (n/64) (by omega) W;have HL:=hQ_ hl;have H3:=hQ_ h3;clear hl h3;go_enter Tryz.func36,Tryz.ntmps36;go_wp2_with fail;go_region_with (first
  | ((go_at_call 69;have _t:=HB1;refine(qb_ (xs:=bts l) (by rw[zg_];exact HL.o) ?_ (yc_ l) (by omega)).mono ?_;· (refine hs.keep ?_;repeat (first|exact Chg.refl _ _|apply Chg.drew|apply Chg.alloc|refine Chg.new ?_ HC1)));rintro e w2 ⟨rfl,HB2,HC2⟩)
  | ((go_at_call 69;refine(qb_ (xs:=bts l) (by rw[zg_];exact HL.o) ?_ (yc_ l) (by omega)).mono ?_;· (refine hs.keep ?_;repeat (first|exact Chg.refl _ _|apply Chg.drew|apply Chg.alloc)));rintro e w1 ⟨rfl,HB1,HC1⟩));all_goals (go_wp2_with fail;go_ret;obtain rfl:=HL.o)
 · have c1:Chg [] w w1:=(Chg.refl [] w).drew.new HC1;have l1:=zb_.lt HB1;have z1:w.drew.heap.size=w.heap.size:=rfl;exact zcF (W:=w2.alloc _) (by simp) ((zb_.keep HB1 HC2).keep ((Chg.refl [] w2).alloc _)) (HB2.keep ((Chg.refl [] w2).alloc _)) (zb_.new w2 _ _) (by omega) h1 h2 H3.o ((c1.new HC2).alloc _)
     (Nat.le_refl _) c1.size (Nat.le_trans c1.size HC2.size)
 · have c1:Chg [] w w1:=(Chg.refl [] w).drew.new HC1;have l1:=zb_.lt HB1;have z1:w.drew.heap.size=w.heap.size:=rfl;have hb2:zb_ w2 (w1.heap.size+1) 5 (bts l):=(by simpa using HB2);have s1:=c1.size;exact zcF (W:=w2) rfl ((zb_.keep HB1 ((Chg.refl [] w1).alloc _)).keep HC2) hb2 ((zb_.new w1 _ _).keep HC2) (by omega) h1 h2 H3.o ((c1.alloc _).new HC2)
     (Nat.le_refl _) (by omega) s1
 · have hb1:zb_ w1 (w.heap.size+1) 5 (bts l):=(by simpa using HB1);have c1:Chg [] w w1:=((Chg.refl [] w).alloc _).drew.new HC1;have l1:=hb1.lt;exact zcF (W:=w2) rfl (hb1.keep HC2) HB2 (((zb_.new w _ _).keep ((Chg.refl [] _).drew.new HC1)).keep HC2) (by omega) h1 h2 H3.o (c1.new HC2)
     (by omega) (by omega) (Nat.le_refl _)
end
section
variable {w:World}
theorem znM (k:Nat)(h1:1<=k)(h2:k<=160) :
    Calls Tryz.prog 14 #[.int .i64 (k:Int)] w fun e w'=>∃p bL bS bW,e=.returned (.pointer (some ⟨p,0,none⟩))/\Dsk w' p bL bS bW (zm_ (k*64)) (zm_ (k*64)) (zK_ k) /\
      w.heap.size<=p/\w.heap.size<=bL/\w.heap.size<=bS/\w.heap.size<=bW/\Chg [] w w':=by
 have hd1:decide ((k:Int)<1)=false:=by simp;omega
 have hd2:decide (160<(k:Int))=false:=by simp;omega
 have hmk:∀W:World,(Instr.makeSlice 39 (.int .i64 ((k:Int)*64)) (.int .i64 ((k:Int)*64))).run Tryz.prog W=.ok (.slice (some ⟨W.heap.size,0,none⟩) (k*64) (k*64)) (W.alloc (.cells (bts (zm_ (k*64))).toArray 5)) :=
  fun W=>by
   have:=j3_ (k*64) (by omega) W;simpa using this
 go_enter Tryz.func14,Tryz.ntmps14;go_wp2_with (go_at_call 36;refine(zpf (l:=zm_ (k*64)) (by simp[zm_]) (Src.of_all (zb_.new w _ _)) (by omega) (by omega) (by omega)).mono ?_;rintro e w1 ⟨p,bL,bS,bW,rfl,HD,b0,b1,b2,b3,HC⟩);go_ret;rw[show k*64/64=k by omega]at HD;have hs:(w.alloc (.cells (bts (zm_ (k*64))).toArray 5)).heap.size=w.heap.size+1:=by simp
 exact⟨p,bL,bS,bW,rfl,HD,by omega,by omega,by omega,by omega,((Chg.refl [] w).alloc _).new HC⟩
end
end Go.Proofs.YtcbcfcdmdedefaaGreatDoor
