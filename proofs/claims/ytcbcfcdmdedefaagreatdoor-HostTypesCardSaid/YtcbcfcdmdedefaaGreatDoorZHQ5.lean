import Derived.Test.YtcbcfcdmdedefaaGreatDoorZHQ4
import Derived.Lib.AppendZerosOnto
import Derived.Deep.RegionHeld3
set_option maxRecDepth 100000
set_option maxHeartbeats 16000000
namespace Go.Proofs.YtcbcfcdmdedefaaGreatDoor
open Go.RowKit
theorem Src.chg {w w':World}{A:Option Addr}{xs:List Value}{T:List Nat}(h:Src w A xs)(hc:Chg T w w')(hA:0<xs.length->∀ad,A=some ad->ad.block∉T):Src w' A xs:=fun hp=>by
 obtain⟨ad,e,hb,hx⟩:=h hp;refine⟨ad,e,Nat.lt_of_lt_of_le hb hc.size,fun j v hj=>?_⟩;have:=hx j v hj;rw[<-this];have e2:(ad.add j).block=ad.block:=by unfold Addr.add;split<;>rfl
 refine World.cell?_of_block (w:=w) (hc.block _ ?_ ?_)
 · rw[e2];exact hb
 · rw[e2];exact hA hp ad e
structure St where
  L:List UInt8
  S:List UInt8
  V:List Bool
def St.write (s:St)(k:Nat)(x:List UInt8):St:=⟨s.L,splice s.S (k*64) x,s.V.set k true⟩
def z9_ (w:World)(p bL bS bW:Nat)(s:St):Prop:=Dsk w p bL bS bW s.L s.S s.V
def zaB (L S:List UInt8)(k cut:Nat):List UInt8:=splice L (k*64) ((S.drop (k*64)).take cut)
def zjM (L S:List UInt8)(k cut:Nat):List UInt8:=splice S (k*64+cut) ((L.drop (k*64+cut)).take (64-cut))
theorem zms {S:List UInt8}{k cut:Nat}(s1:64*(k+1)<=S.length)(hc:cut<=64):(bts ((S.drop (k*64)).take cut)).length=Nat.min cut cut:=by
 rw[zg_,List.length_take,List.length_drop,show Nat.min cut cut=cut from Nat.min_self cut];omega
theorem gA_ {w:World}{S:List UInt8}{g t o cut:Nat}(h:zb_ w g t (bts S)):Src w (some ⟨g,o,none⟩) (bts ((S.drop o).take cut)):=by
 rw[<-zjv];exact Src.of_whole h o cut
theorem zdy {L S:List UInt8}{k cut:Nat}(l1:64*(k+1)<=L.length)(hc:cut<=64):k*64+(bts ((S.drop (k*64)).take cut)).length<=(bts L).length:=by
 rw[zg_,zg_,List.length_take,List.length_drop];omega
theorem zko {L S:List UInt8}{k cut:Nat}(l1:64*(k+1)<=L.length)(hc:cut<=64):(zaB L S k cut).length=L.length:=by
 unfold zaB;rw[length_splice];rw[List.length_take,List.length_drop];omega
theorem zkn {L S:List UInt8}{k cut:Nat}(s1:64*(k+1)<=S.length)(hc:cut<=64):(zjM L S k cut).length=S.length:=by
 unfold zjM;rw[length_splice];rw[List.length_take,List.length_drop];omega
theorem zaA {L S:List UInt8}{k cut:Nat}(l1:64*(k+1)<=L.length)(s1:64*(k+1)<=S.length)(hc:cut<=64):(zaB L S k cut).drop (k*64+cut)=L.drop (k*64+cut):=by
 have e:((S.drop (k*64)).take cut).length=cut:=by rw[List.length_take,List.length_drop];omega
 unfold zaB splice;rw[e,<-List.append_assoc];rw[List.drop_append_of_le_length (by simp[e];omega)];rw[List.drop_of_length_le (by simp[e];omega)];simp
theorem znJ {L S:List UInt8}{k cut:Nat}(l1:64*(k+1)<=L.length)(s1:64*(k+1)<=S.length)(hc:cut<=64):(bts (((zaB L S k cut).drop (k*64+cut)).take (64-cut))).length=Nat.min (64-cut) (64-cut):=by
 rw[zaA l1 s1 hc,zg_,List.length_take,List.length_drop,show Nat.min (64-cut) (64-cut)=64-cut from Nat.min_self _];omega
theorem zhs {L S:List UInt8}{k cut:Nat}(s1:64*(k+1)<=S.length)(hc:cut<=64):k*64+cut+(bts (((zaB L S k cut).drop (k*64+cut)).take (64-cut))).length<=(bts S).length:=by
 rw[zg_,zg_,List.length_take,List.length_drop];omega
theorem kr_ {w w2 w3:World}{p bL bS bW nq k cut:Nat}{L S:List UInt8}{V:List Bool}(h:Dsk w p bL bS bW L S V)(hk:k<V.length)(hc:cut<=64)(HC:Chg [bL] (w.drewN nq).drew w2)(HC3:Chg [bS] w2.drew w3)
    (R3:zb_ w3 p 138 [.slice (some ⟨bL,0,none⟩) L.length L.length,.slice (some ⟨bS,0,none⟩) S.length S.length,.slice (some ⟨bW,0,none⟩) V.length V.length])
    (L3:zb_ w3 bL 5 (bts (zaB L S k cut))) (V3:zb_ w3 bW 4 (bls V)) (HG:zb_ w3 bS 5 (splice (bts S) (k*64+cut) (bts (((zaB L S k cut).drop (k*64+cut)).take (64-cut))))) :
    Ending.returned (.tuple #[])=Ending.returned (.tuple #[])/\Dsk (w3.setCell ⟨bW,k,none⟩ (.bool false)) p bL bS bW (zaB L S k cut) (zjM L S k cut) (V.set k false)/\Chg [bL,bS,bW] w (w3.setCell ⟨bW,k,none⟩ (.bool false)):=by
 have l1:64*(k+1)<=L.length:=by have:=h.lenL;omega
 have s1:64*(k+1)<=S.length:=by have:=h.lenS;omega
 have eL:=zko (S:=S) l1 hc;have eS:=zkn (L:=L) s1 hc;rw[vi_,zaA l1 s1 hc]at HG;have d1:=h.rec_.ne_ h.wait (by decide);have d2:=h.last.ne_ h.wait (by decide);have d3:=h.seen.ne_ h.wait (by decide);have hw:zb_ (w3.setCell ⟨bW,k,none⟩ (.bool false)) bW 4 (bls (V.set k false)):=by
  have:=V3.set_ k (.bool false);rwa[g6_]at this
 refine⟨rfl,⟨?_,L3.far d2 _,HG.far d3 _,hw,by rw[eL,List.length_set];exact h.lenL,by rw[eS,List.length_set];exact h.lenS,by rw[List.length_set];exact h.pos,by rw[List.length_set];exact h.le,h.ne⟩,?_⟩
 · rw[eL,eS,List.length_set];exact R3.far d1 _
 · have a1:Chg [bL,bS,bW] w w2:=((Chg.refl [bL,bS,bW] w).drewN nq).drew.trans (HC.sub (by simp));have a2:Chg [bL,bS,bW] w w3:=a1.drew.trans (HC3.sub (by simp));exact a2.setCell (by simp) _
section
variable {w:World} {p bL bS bW:Nat} {L S:List UInt8} {V:List Bool}
theorem zgQ (h:Dsk w p bL bS bW L S V)(k cut:Nat)(hk:k<V.length)(h64:cut<64) :
    Calls Tryz.prog 110 #[.pointer (some ⟨p,0,none⟩),.int .i64 (k:Int),.int .i64 (cut:Int)] w fun e w'=>e=.returned (.tuple #[]) /\
      Dsk w' p bL bS bW (zaB L S k cut) (zjM L S k cut) (V.set k false)/\Chg [bL,bS,bW] w w':=by
 have hc:cut<=64:=by omega
 have c0:=h.rec_.cell 0;have c1:=h.rec_.cell 1;have c2:=h.rec_.cell 2;have hL:=h.lenL;have hS:=h.lenS;have hv:=h.le;have l1:64*(k+1)<=L.length:=by omega
 have l2:L.length<=1000000:=by omega
 have s1:64*(k+1)<=S.length:=by omega
 have s2:S.length<=1000000:=by omega
 clear hL hS;have n1:=hQ_ (show bS∉[bL] by simpa using fun e=>h.ne e.symm);have n2:=hQ_ (show p∉[bL] by simpa using h.rec_.ne_ h.last (by decide));have n3:=hQ_ (show bW∉[bL] by simpa using h.wait.ne_ h.last (by decide));have hci:(cut:Int)<=64:=by omega
 have m1:=hQ_ (show bL∉[bS] by simpa using h.ne);have m2:=hQ_ (show p∉[bS] by simpa using h.rec_.ne_ h.seen (by decide));have m3:=hQ_ (show bW∉[bS] by simpa using h.wait.ne_ h.seen (by decide));have e1:cut<=L.length-k*64:=by omega
 have e2:cut<=S.length-k*64:=by omega
 go_enter Tryz.func110,Tryz.ntmps110;go_wp2_with fail;go_quiet ((go_at_call 109;exact Calls.quiet_of_same ((vA_ k (by assumption) (Nat.le_refl _) (by assumption)).mono fun _ _ hh=>⟨hh.1,hh.2.symm⟩)));go_wp2_with fail;go_region_law (with_reducible refine vo_ rfl (.tmp 22) (.tmp 25) _ _ rfl 5 Tryz.underlying39 xB_ (some ⟨bL,k*64,none⟩) (some ⟨bS,k*64,none⟩) cut (L.length-k*64) cut (S.length-k*64) rfl rfl bL (k*64) 5 (bts L) (bts ((S.drop (k*64)).take cut)) ((h.last.drewN _).drew) (zms s1 hc) (fun _=>rfl) (Src.drew (Src.drewN (gA_ h.seen) _)) (zdy l1 hc) (yd_ _) ?_;intro w2 HG HC);have S2:zb_ w2 bS 5 (bts S):=(h.seen.drewN _).drew.chg HC n1.out;have R2:=(h.rec_.drewN _).drew.chg HC n2.out;have V2:=(h.wait.drewN _).drew.chg HC n3.out;clear c0 c1 c2;have c2:=R2.cell 2;rw[vi_]at HG;have HL2:zb_ w2 bL 5 (bts (zaB L S k cut)):=HG;clear HG;have hne:¬(S.length-k*64=cut):=by omega
 have hne2:¬(L.length-k*64=cut):=by omega
 go_wp2_with fail;go_region_law (with_reducible refine vo_ rfl (.tmp 29) (.tmp 32) _ _ rfl 5 Tryz.underlying39 xB_ (some ⟨bS,k*64+cut,none⟩) (some ⟨bL,k*64+cut,none⟩) (64-cut) (S.length-k*64-cut) (64-cut) (L.length-k*64-cut) rfl rfl bS (k*64+cut) 5 (bts S) (bts (((zaB L S k cut).drop (k*64+cut)).take (64-cut))) (S2.drew) (znJ l1 s1 hc) (fun _=>rfl) (Src.drew (gA_ HL2)) (zhs s1 hc) (yd_ _) ?_;intro w3 HG HC3);have L3:zb_ w3 bL 5 (bts (zaB L S k cut)):=HL2.drew.chg HC3 m1.out;have R3:=R2.drew.chg HC3 m2.out;have V3:=V2.drew.chg HC3 m3.out;clear c2;have c2:=R3.cell 2;have c4:=(V3.cell k).trans (vW_ V k hk);have c5:=V3.frozen k;go_wp2_with fail
 go_end0
 exact kr_ h hk hc HC HC3 R3 L3 V3 HG
end
section
variable {w:World} {p bL bS bW:Nat} {L S:List UInt8} {V:List Bool}
theorem zgR (h:Dsk w p bL bS bW L S V)(k:Nat)(hk:k<V.length) :
    Calls Tryz.prog 110 #[.pointer (some ⟨p,0,none⟩),.int .i64 (k:Int),.int .i64 64] w fun e w'=>e=.returned (.tuple #[]) /\
      Dsk w' p bL bS bW (zaB L S k 64) (zjM L S k 64) (V.set k false)/\Chg [bL,bS,bW] w w':=by
 have c0:=h.rec_.cell 0;have c1:=h.rec_.cell 1;have c2:=h.rec_.cell 2;have hL:=h.lenL;have hS:=h.lenS;have hv:=h.le;have hc:(64:Nat)<=64:=Nat.le_refl _;have l1:64*(k+1)<=L.length:=by omega
 have l2:L.length<=1000000:=by omega
 have s1:64*(k+1)<=S.length:=by omega
 have s2:S.length<=1000000:=by omega
 have hLS:=hQ_ (show L.length=S.length by omega);clear hL hS;have n1:=hQ_ (show bS∉[bL] by simpa using fun e=>h.ne e.symm);have n2:=hQ_ (show p∉[bL] by simpa using h.rec_.ne_ h.last (by decide));have n3:=hQ_ (show bW∉[bL] by simpa using h.wait.ne_ h.last (by decide));have m1:=hQ_ (show bL∉[bS] by simpa using h.ne);have m2:=hQ_ (show p∉[bS] by simpa using h.rec_.ne_ h.seen (by decide));have m3:=hQ_ (show bW∉[bS] by simpa using h.wait.ne_ h.seen (by decide));have e1:(64:Int)<=((L.length-k*64:Nat):Int):=by omega
 have e2:(64:Int)<=((S.length-k*64:Nat):Int):=by omega
 have hn0:=zms s1 hc;have hf0:=zdy (S:=S) l1 hc;have hs0:=gA_ (o:=k*64) (cut:=64) h.seen;have hsp:=hQ_ (vi_ L ((S.drop (k*64)).take 64) (k*64));have hb1:=yd_ ((S.drop (k*64)).take 64);obtain⟨Y,hY⟩:∃Y,Y=bts ((S.drop (k*64)).take 64):=⟨_,rfl⟩;rw[<-hY]at hn0 hf0 hs0 hsp hb1;have Hn:=hQ_ hn0;clear hn0 hY;go_enter Tryz.func110,Tryz.ntmps110;go_wp2_with fail;go_quiet ((go_at_call 109;exact Calls.quiet_of_same ((vA_ k (by assumption) (Nat.le_refl _) (by assumption)).mono fun _ _ hh=>⟨hh.1,hh.2.symm⟩)));go_wp2_with fail;go_region_law (with_reducible refine vo_ rfl (.tmp 22) (.tmp 25) _ _ rfl 5 Tryz.underlying39 xB_ (some ⟨bL,k*64,none⟩) (some ⟨bS,k*64,none⟩) 64 (L.length-k*64) 64 (S.length-k*64) rfl rfl bL (k*64) 5 (bts L) Y ((h.last.drewN _).drew) Hn.o (fun _=>rfl) (Src.drew (Src.drewN hs0 _)) hf0 hb1 ?_;intro w2 HG HC);have S2:zb_ w2 bS 5 (bts S):=(h.seen.drewN _).drew.chg HC n1.out;have R2:=(h.rec_.drewN _).drew.chg HC n2.out;have V2:=(h.wait.drewN _).drew.chg HC n3.out;clear c0 c1 c2;have c2:=R2.cell 2;rw[hsp.out]at HG;have HL2:zb_ w2 bL 5 (bts (zaB L S k 64)):=HG;clear HG;have c4:=(V2.cell k).trans (vW_ V k hk);have c5:=V2.frozen k;by_cases hlast:S.length-k*64=64
 · have hlast2:L.length-k*64=64:=(by have:=hLS.out;omega);go_wp2_with fail;go_region_law (with_reducible refine uq_ rfl (.tmp 29) (.tmp 32) _ _ rfl 5 Tryz.underlying39 xB_ _ _ 0 _ 0 _ rfl rfl rfl ?_);go_wp2_with fail
   go_end0
   exact kr_ h hk hc HC (Chg.refl _ _) R2.drew HL2.drew V2.drew (by simpa[splice,bts] using S2.drew)
 · have hlast2:¬(L.length-k*64=64):=(by have:=hLS.out;omega);go_wp2_with fail;go_region_law (with_reducible refine uq_ rfl (.tmp 29) (.tmp 32) _ _ rfl 5 Tryz.underlying39 xB_ _ _ 0 _ 0 _ rfl rfl rfl ?_);go_wp2_with fail
   go_end0
   exact kr_ h hk hc HC (Chg.refl _ _) R2.drew HL2.drew V2.drew (by simpa[splice,bts] using S2.drew)
end
def St.settle (s:St)(k cut:Nat):St:=⟨zaB s.L s.S k cut,zjM s.L s.S k cut,s.V.set k false⟩
section
variable {w:World} {p bL bS bW:Nat} {L S:List UInt8} {V:List Bool}
theorem zeW (h:Dsk w p bL bS bW L S V)(k:Nat)(hk:k<V.length)(c:Int)(h0:0<=c)(h1:c<=64) :
    Calls Tryz.prog 110 #[.pointer (some ⟨p,0,none⟩),.int .i64 (k:Int),.int .i64 c] w fun e w'=>e=.returned (.tuple #[]) /\
      Dsk w' p bL bS bW (zaB L S k c.toNat) (zjM L S k c.toNat) (V.set k false)/\Chg [bL,bS,bW] w w':=by
 obtain⟨n,rfl⟩:=Int.eq_ofNat_of_zero_le h0;rw[Int.toNat_natCast];by_cases hn:n<64
 · exact zgQ h k n hk hn
 · obtain rfl:n=64:=(by omega);rw[show((64:Nat):Int)=64 from rfl];exact zgR h k hk
end
def St.flush (s:St):Nat->St
  | 0=>s
  | i+1=>(St.flush s i).settle i 64
theorem zbr (s:St)(i:Nat):(s.flush i).V.length=s.V.length:=by
 induction i with
 | zero=>rfl
 | succ i ih=>simp[St.flush,St.settle,ih]
section
variable {w:World} {p bL bS bW:Nat} {L S:List UInt8} {V:List Bool}
theorem ka_ (h:Dsk w p bL bS bW L S V) :
    Calls Tryz.prog 71 #[.pointer (some ⟨p,0,none⟩)] w fun e w'=>e=.returned (.tuple #[])/\z9_ w' p bL bS bW (St.flush ⟨L,S,V⟩ V.length)/\Chg [bL,bS,bW] w w':=by
 have c2:=h.rec_.cell 2;have hle:=h.le;go_enter Tryz.func71,Tryz.ntmps71;go_wp2_with fail;go_loopw [8] (fun i wr=>∃k:Nat,k<=V.length/\i=.int .i64 (k:Int)/\z9_ wr p bL bS bW (St.flush ⟨L,S,V⟩ k)/\Chg [bL,bS,bW] w wr) (fun i _=>V.length-(intOf i).toNat);case atStart=>exact⟨0,Nat.zero_le _,rfl,h,Chg.refl _ _⟩
 case round =>
  obtain⟨k,hk,rfl,hdk,hck⟩:=hrel;by_cases hlt:k<V.length
  · have hlt3:k<(St.flush ⟨L,S,V⟩ k).V.length:=(by rw[zbr];exact hlt);have HE:=hQ_ (show(St.flush ⟨L,S,V⟩ (k+1))=(St.flush ⟨L,S,V⟩ k).settle k 64 from rfl);obtain⟨s2,hE2⟩:∃s2,s2=St.flush ⟨L,S,V⟩ (k+1):=⟨_,rfl⟩;rw[<-hE2]at HE;have hE2:=hQ_ hE2;generalize St.flush ⟨L,S,V⟩ k=s0 at HE hdk hlt3;go_wp2_with fail;refine(zeW hdk k hlt3 64 (by omega) (by omega)).mono ?_;rintro e w2 ⟨rfl,hd2,hc2⟩;have hd3:z9_ w2 p bL bS bW s2:=(by rw[HE.o];exact hd2);clear hd2;go_wp2_with fail;go_roundw;(case rel=>exact⟨k+1,by omega,by go_num,(hE2.out ▸ hd3),hck.trans hc2⟩);case measure=>simp[intOf];omega
  · have hkl:k=V.length:=(by omega);have hdl:z9_ wr p bL bS bW (St.flush ⟨L,S,V⟩ V.length):=hkl ▸ hdk;clear hkl;go_wp2_with fail
    go_end0
    exact⟨rfl,hdl,hck⟩
end
theorem zph {l m:List UInt8}:((zj_ l).toList==(zj_ m).toList)=decide (l=m):=by
 rw[ByteArray.toList_eq,ByteArray.toList_eq];show(l==m)=decide (l=m);by_cases h:l=m
 · subst h;simp
 · rw[decide_eq_false h,beq_eq_false_iff_ne];exact h
section
variable {w:World} {A A2:Option Addr} {n c n2 c2:Nat}
theorem kR_ {l m:List UInt8}(h:Bs w A n c l)(h2:Bs w A2 n2 c2 m) :
    Calls Tryz.prog 95 #[.slice A n c,.slice A2 n2 c2] w fun e w'=>e=.returned (.bool (decide (l=m)))/\w=w':=by
 have v1:=h.str (P:=Tryz.prog) 39 5 9 Tryz.underlying39 Tryz.underlying5 Tryz.underlying9;have v2:=h2.str (P:=Tryz.prog) 39 5 9 Tryz.underlying39 Tryz.underlying5 Tryz.underlying9;have HE:=hQ_ (zph (l:=l) (m:=m));go_enter Tryz.func95,Tryz.ntmps95;go_wp2_with fail;go_ret;exact⟨by rw[<-HE.o];rfl,rfl⟩
end
theorem vm_ (z:Value)(n:Nat):Builtin.zeroCells #[z] n=(List.replicate n z).toArray:=by
 apply Array.ext
 · simp[Builtin.zeroCells]
 · intro i h1 h2;simp[Builtin.zeroCells,Nat.mod_one]
theorem xh_ {P:Program} (w:World) (base:Nat) (t tn ty e:TypeId) (i:TypeInfo) (z:Value) (bytes:Nat) (kn:IntKind) (ht:P.underlying t=some (.slice e)) (htn:P.underlying tn=some (.int kn)) (hi:P.info? e=some i) (hz:i.zero=some z)
    (hsize:i.size=1) (hby:i.bytes=bytes) (hzc:z.cells=#[z]) (hz1:z.oneCell'=true)
    (g n cap:Nat) (xs:List Value) (hown:w.ownsRow base e 1 (.slice (some ⟨g,0,none⟩) n cap) n xs)
    (k:Nat) (h63:n+k<=maxLen) (hbytes:(n+k)*bytes<=140737488355328) (hbase:base<=w.heap.size) :
    ∃ g' cap' w',(Builtin.append_ #[t,tn] ty #[.slice (some ⟨g,0,none⟩) n cap,.int .i64 (k:Int)]).run P w=.ok (.slice (some ⟨g',0,none⟩) (n+k) cap') w' /\
      w'.ownsRow base e 1 (.slice (some ⟨g',0,none⟩) (n+k) cap') (n+k) (xs++List.replicate k z)/\w.grownBy w' (some g)/\(g'=g\/g'=w.heap.size):=by
 have hsmall:n+k<=9223372036854775807:=by simpa only[maxLen] using h63
 have hw:IntKind.i64.wrap (k:Int)=k:=by rw[IntKind.wrap_i64];omega
 have hneg:¬((k:Int)<0):=by omega
 have h48:k*bytes<=281474976710656:=by have:k*bytes<=(n+k)*bytes:=Nat.mul_le_mul_right _ (by omega);omega
 have h48i:¬(281474976710656<(k:Int)*(i.bytes:Int)):=by rw[hby,<-Int.natCast_mul];omega
 have hlx:=hown.1;rcases hown.2 with⟨h,_⟩|⟨g',cap',cur,h,hbg,hg,hnc,hcm,hcs,htake⟩
 · simp at h
 · simp only[Value.slice.injEq,Option.some.injEq,Addr.mk.injEq,and_true,true_and]at h;obtain⟨rfl,rfl⟩:=h;rw[Nat.mul_one]at hcs htake hlx;by_cases hk0:k=0
   · subst hk0;refine⟨g,cap,w,?_,by simpa using hown,World.grownBy.refl w _,.inl rfl⟩;have hw0:IntKind.i64.wrap 0=0:=(by decide);simp[Builtin.append_,run_underlying ht,run_underlying htn,sizeOf,typeInfo,hi,asInt,asIntOf,storeCells,hnc,hw0]
   · have hns:¬(k*i.size=0):=(by rw[hsize];omega);by_cases hroom:n+k<=cap
     · have hfit:n+(List.replicate k z).length<=cur.size:=(by rw[List.length_replicate];omega);have hst:=run_storeCells_at P g n e (List.replicate k z) 0 cur w hg (by simpa using hfit) (fun u hu=>by rw[(List.mem_replicate.1 hu).2];exact hz1);simp only[Nat.add_zero]at hst;rw[List.length_replicate]at hst;have hr:(Builtin.append_ #[t,tn] ty #[.slice (some ⟨g,0,none⟩) n cap,.int .i64 (k:Int)]).run P w=.ok (.slice (some ⟨g,0,none⟩) (n+k) cap) (w.setRow g (cur.toList.take n++List.replicate k z++cur.toList.drop (n+k)).toArray):=(by
        simp[Builtin.append_,run_underlying ht,run_underlying htn,sizeOf,typeInfo,zeroValue,hi,hz,asInt,asIntOf,hw,hneg,h48i,hk0,hroom,hsize,hzc,vm_,Addr.add_lit,hst]);refine⟨_,_,_,hr,⟨by simp[hlx],.inr ⟨g,cap,_,rfl,hbg,setRow_heap w g cur _ e _ hg,hroom,hcm,?_,?_⟩⟩,⟨rfl,rfl,rfl,by simp,fun j _ hj=>setRow_other w g j _ (fun e=>hj (by simp[e]))⟩,.inl rfl⟩
       · simp only[List.size_toArray,List.length_append,List.length_take,List.length_drop,Array.length_toList,List.length_replicate];omega
       · rw[htake,Nat.mul_one];have e1:(xs++List.replicate k z).length=n+k:=(by rw[List.length_append,List.length_replicate,hlx]);rw[<-e1];exact List.take_left
     · have hf:=run_firstCells_some (P:=P) w.drew i.size n ⟨g,0,none⟩ n cap xs (by rw[hsize,Nat.mul_one];exact hlx) (fun j u hj=>hown.cells (g:=g) rfl j u hj);have hr:=Lib.run_append_grow_zeros (P:=P) w t tn ty e i z .i64 kn ht htn hi hz (some ⟨g,0,none⟩) n cap xs hf k (by omega) (by omega) (by omega) (by omega) (by rw[hby];exact h48) (by rw[hby];exact growslice_fits (by omega) hbytes);rw[hzc,vm_,vm_]at hr;have hge:=grownCap_ge w (n+k) cap e;have hcm2:grownCap w (n+k) cap e<=maxLen:=grownCap_le_maxLen w (n+k) cap e h63;refine⟨_,_,_,hr,⟨by simp[hlx],.inr ⟨w.heap.size,_,_,rfl,hbase,heap_alloc_new w.drew _,hge,hcm2,?_,?_⟩⟩,⟨rfl,rfl,rfl,by simp,fun j hj _=>Below.heap_alloc w.drew _ j hj⟩,.inr rfl⟩
       · simp only[Array.size_append,List.size_toArray,List.length_replicate,hlx];omega
       · simp only[Array.toList_append,Nat.mul_one];have e1:(xs++List.replicate k z).length=n+k:=(by rw[List.length_append,List.length_replicate,hlx]);rw[<-e1];exact List.take_left
theorem zq_ {W:World}{g:Nat}{x y z:Value}(h:zb_ W g 82 [x,y,z]):W.cell? ⟨g,0,none⟩=some x/\W.cell? ⟨g,1,none⟩=some y/\W.cell? ⟨g,2,none⟩=some z/\W.frozen? ⟨g,0,none⟩=false/\W.frozen? ⟨g,1,none⟩=false/\W.frozen? ⟨g,2,none⟩=false :=
 ⟨h.cell 0,h.cell 1,h.cell 2,h.frozen 0,h.frozen 1,h.frozen 2⟩
def xR_ (L P page:Int):Int:=if page<0\/P<=page then -1 else wrap64 (wrap64 (2+L)+page)
section
variable {w:World}
theorem yb_ (L P E s:Int):Calls Tryz.prog 37 #[zB_ L P E,.int .i64 s] w (ye_ (zp_ L P E s) w):=by
 unfold zB_;by_cases h1:L<1
 · have HF:=hQ_ (show zp_ L P E s=false from xd_.2 (by omega));have hd:decide (L<1)=true:=(by simpa using h1);go_enter Tryz.func37,Tryz.ntmps37;go_wp2_with fail;go_ret;exact⟨by rw[HF.o];rfl,(Chg.refl _ _).alloc _⟩
 have hd1:decide (L<1)=false:=by simpa using h1
 by_cases h2:64<L
 · have HF:=hQ_ (show zp_ L P E s=false from xd_.2 (by omega));go_enter Tryz.func37,Tryz.ntmps37;go_wp2_with fail;go_ret;exact⟨by rw[HF.o];rfl,(Chg.refl _ _).alloc _⟩
 have hd2:decide (64<L)=false:=by simpa using h2
 by_cases h3:P<1
 · have HF:=hQ_ (show zp_ L P E s=false from xd_.2 (by omega));go_enter Tryz.func37,Tryz.ntmps37;go_wp2_with fail;go_ret;exact⟨by rw[HF.o];rfl,(Chg.refl _ _).alloc _⟩
 have hd3:decide (P<1)=false:=by simpa using h3
 by_cases h4:64<P
 · have HF:=hQ_ (show zp_ L P E s=false from xd_.2 (by omega));go_enter Tryz.func37,Tryz.ntmps37;go_wp2_with fail;go_ret;exact⟨by rw[HF.o];rfl,(Chg.refl _ _).alloc _⟩
 have hd4:decide (64<P)=false:=by simpa using h4
 have b1:1<=L:=by omega
 have b2:L<=64:=by omega
 have b3:1<=P:=by omega
 have b4:P<=64:=by omega
 by_cases h5:2+L+P<=s
 · have hd5:decide (2+L+P<=s)=true:=(by simpa using h5);have HF:=hQ_ (show zp_ L P E s=decide (1<=E) from by unfold zp_;congr 1;apply propext;omega);go_enter Tryz.func37,Tryz.ntmps37;go_wp2_with fail;go_ret;exact⟨by rw[HF.o];rfl,(Chg.refl _ _).alloc _⟩
 · have hd5:decide (2+L+P<=s)=false:=(by simpa using h5);have HF:=hQ_ (show zp_ L P E s=false from xd_.2 (by omega));go_enter Tryz.func37,Tryz.ntmps37;go_wp2_with fail;go_ret;exact⟨by rw[HF.o];rfl,(Chg.refl _ _).alloc _⟩
theorem gK_ (L P E page:Int):Calls Tryz.prog 125 #[zB_ L P E,.int .i64 page] w fun e w'=>e=.returned (.int .i64 (xR_ L P page))/\Chg [] w w':=by
 unfold zB_;by_cases h1:page<0
 · have HF:=hQ_ (show xR_ L P page=-1 by unfold xR_;rw[if_pos (.inl h1)]);go_enter Tryz.func125,Tryz.ntmps125;go_wp2_with fail;go_ret;exact⟨y3_ HF.o.symm,(Chg.refl _ _).alloc _⟩
 have hd1:decide (page<0)=false:=by simpa using h1
 by_cases h2:P<=page
 · have HF:=hQ_ (show xR_ L P page=-1 by unfold xR_;rw[if_pos (.inr h2)]);go_enter Tryz.func125,Tryz.ntmps125;go_wp2_with fail;go_ret;exact⟨y3_ HF.o.symm,(Chg.refl _ _).alloc _⟩
 · have hd2:decide (P<=page)=false:=(by simpa using h2);have HF:=hQ_ (show xR_ L P page=wrap64 (wrap64 (2+L)+page) by unfold xR_;rw[if_neg (by omega)]);go_enter Tryz.func125,Tryz.ntmps125;go_wp2_with fail;go_ret;exact⟨y3_ HF.o.symm,(Chg.refl _ _).alloc _⟩
end
def hdr (a b c:Nat):Nat->List UInt8
  | 0=>jb_
  | 1=>jb_++be4 a
  | 2=>jb_++be4 a++be4 b
  | _=>xr_ a b c
def zqm (a b c:Nat):Nat->Nat
  | 0=>a
  | 1=>b
  | _=>c
theorem zlq (a b c k:Nat)(hk:k<3):hdr a b c (k+1)=hdr a b c k++be4 (zqm a b c k):=by
 match k,hk with
 | 0,_=>rfl
 | 1,_=>rfl
 | 2,_=>rfl
theorem zoj (a b c k:Nat)(hk:k<=3):(hdr a b c k).length=4+k*4:=by
 match k,hk with
 | 0,_=>rfl
 | 1,_=>rfl
 | 2,_=>rfl
 | 3,_=>rfl
theorem znN (a b c k:Nat)(ha:a<4294967296)(hb:b<4294967296)(hc:c<4294967296):zqm a b c k<4294967296:=by
 match k with
 | 0=>exact ha
 | 1=>exact hb
 | _+2=>exact hc
theorem zhz (a b c k:Nat)(hk:k<3):([.int .u32 (a:Int),.int .u32 (b:Int),.int .u32 (c:Int)]:List Value)[k]?=some (.int .u32 (zqm a b c k:Int)):=by
 match k,hk with
 | 0,_=>rfl
 | 1,_=>rfl
 | 2,_=>rfl
theorem zlT:bts jb_=[.int .u8 69,.int .u8 78,.int .u8 71,.int .u8 49]:=rfl
theorem zpf:Tryz.prog.underlying 3=some (.int .i64):=Tryz.underlying3
section
variable {w:World}
theorem uU_ (a b c:Nat)(ha:a<=2147483647)(hb:b<=2147483647)(hc:c<4294967296) :
    Calls Tryz.prog 72 #[zB_ a b c] w (xH_ w (z3_ a b c)):=by
 obtain⟨i0,hi,hz,hs1,hb1⟩:=info_parts yF_;have ea:(a:Int)%4294967296=(a:Int):=by omega
 have eb:(b:Int)%4294967296=(b:Int):=by omega
 unfold zB_;have hz1:(w.alloc (.cells #[.int .i64 (a:Int),.int .i64 (b:Int),.int .u32 (c:Int)] 82)).heap.size=w.heap.size+1:=by simp
 have kc:=zpw (w.alloc (.cells #[.int .i64 (a:Int),.int .i64 (b:Int),.int .u32 (c:Int)] 82)) hz1;go_enter Tryz.func72,Tryz.ntmps72;go_wp2_with fail;clear kc;clear hz1;have hc1:Chg [] w (w.alloc (.cells #[.int .i64 (a:Int),.int .i64 (b:Int),.int .u32 (c:Int)] 82)):=(Chg.refl [] w).alloc _;have hz1:(w.alloc (.cells #[.int .i64 (a:Int),.int .i64 (b:Int),.int .u32 (c:Int)] 82)).heap.size=w.heap.size+1:=by simp
 generalize w.alloc (.cells #[.int .i64 (a:Int),.int .i64 (b:Int),.int .u32 (c:Int)] 82)=w1 at hz1 hc1⊢;have hM:=zek w1 5 jb_ (4,5) (by simp[jb_]);rw[zlT,hz1]at hM;have hc2:Chg [] w (w1.alloc (.cells #[.int .u8 69,.int .u8 78,.int .u8 71,.int .u8 49] 5 (4,5))):=hc1.alloc _;have hz2:(w1.alloc (.cells #[.int .u8 69,.int .u8 78,.int .u8 71,.int .u8 49] 5 (4,5))).heap.size=w.heap.size+1+1:=by simp;omega
 generalize w1.alloc (.cells #[.int .u8 69,.int .u8 78,.int .u8 71,.int .u8 49] 5 (4,5))=w2 at hz2 hc2 hM⊢;have hN:=zb_.new w2 56 [.int .u32 (a:Int),.int .u32 (b:Int),.int .u32 (c:Int)];rw[hz2]at hN;have hM3:=hM.keep ((Chg.refl [] w2).alloc (.cells #[.int .u32 (a:Int),.int .u32 (b:Int),.int .u32 (c:Int)] 56));have hc3:=hc2.alloc (.cells #[.int .u32 (a:Int),.int .u32 (b:Int),.int .u32 (c:Int)] 56);generalize w2.alloc (.cells #[.int .u32 (a:Int),.int .u32 (b:Int),.int .u32 (c:Int)] 56)=w3 at hN hM3 hc3⊢;clear hM hz1 hz2 hc1 hc2 ea eb;go_loopw [3,18] (fun t i wr=>∃k:Nat,k<=3/\i=.int .i64 (k:Int)/\(∃A cc,t=.slice A (4+k*4) cc/\Bs wr A (4+k*4) cc (hdr a b c k))/\zb_ wr (w.heap.size+1+1) 56 [.int .u32 (a:Int),.int .u32 (b:Int),.int .u32 (c:Int)]/\Chg [] w wr) (fun _ i _=>3-(intOf i).toNat);case atStart=>exact⟨0,by omega,rfl,⟨_,_,rfl,hM3⟩,hN,hc3⟩
 case round =>
  obtain⟨k,hk,rfl,⟨A,cc,rfl,hB⟩,hW,hcr⟩:=hrel;have HB:=hQ_ hB;have HC:=hQ_ hcr;have HW:=hQ_ hW;clear hM3 hN hc3;by_cases hlt:k<3
  · have c0:=(hW.cell k).trans (zhz a b c k hlt);have hlti:=znN a b c k (by omega) (by omega) hc;have HNX:=hQ_ (zlq a b c k hlt);clear hB hcr hW;generalize zqm a b c k=q at c0 hlti HNX;have hkI:(k:Int)<3:=(by omega);have hk0:(0:Int)<=(k:Int):=(by omega);go_wp2_with fail;refine(zfc HB.o q hlti (by omega)).mono ?_;rintro e w4 ⟨v4,rfl,ho4,hc4⟩;have hl4:(hdr a b c k++be4 q).length=4+(k+1)*4:=(by rw[<-HNX.o,zoj a b c (k+1) (by omega)]);rw[hl4]at ho4;obtain⟨A4,c4,rfl,hB4,_⟩:=Bs.of_own ho4;have HB4:=hQ_ hB4;have HC4:=hQ_ (HC.o.new hc4);have HW4:=hQ_ (HW.o.keep hc4);clear hl4 ho4 hB4 hc4 c0;go_wp2_with fail;go_roundw;(case rel=>exact⟨k+1,by omega,by go_num,⟨A4,c4,rfl,by rw[HNX.o];exact HB4.o⟩,HW4.o,HC4.o⟩);case measure=>simp[intOf];omega
  · have hk3:k=3:=(by omega);subst hk3;have hB16:Bs wr A 16 cc (xr_ a b c):=HB.o;have HB16:=hQ_ hB16;clear hB hcr hW hB16;go_wp2_with fail;refine(zgw HB16.o).mono ?_;rintro e w' ⟨rfl,rfl⟩;go_wp2_with fail;refine(zfc HB16.o (kk_ (xr_ a b c)) (gp_ _) (by omega)).mono ?_;rintro e w5 ⟨v5,rfl,ho5,hc5⟩;have hl5:(xr_ a b c++be4 (kk_ (xr_ a b c))).length=20:=rfl;rw[hl5]at ho5;have HC5:=hQ_ (HC.o.new hc5);have hsz:=HC.o.size;have HRL:=hQ_ (show z3_ a b c=(xr_ a b c++be4 (kk_ (xr_ a b c)))++zm_ 44 from rfl);generalize xr_ a b c++be4 (kk_ (xr_ a b c))=Z at ho5 HRL;obtain⟨g,r,rfl,hbg,_,_⟩:=jU_ ho5 (by omega);obtain⟨g',cap',w6,hr,ho6,hg6,hor⟩:=xh_ (P:=Tryz.prog) w5 wr.heap.size 39 3 39 5 i0 _ 1 .i64 Tryz.underlying39 zpf hi hz hs1 hb1 rfl rfl g 20 (20+r.length) (bts Z) ho5 44 (by unfold maxLen;omega) (by omega) hc5.size;have hc6:Chg [] wr w6:=hc5.own ho5 (Nat.le_refl _) hg6;have HR:=hQ_ hr;have HO:=hQ_ ho6;have HC6:=hQ_ (HC.o.new hc6);clear hr ho6 hg6 hor hc6 ho5 hc5 hl5;go_wp2_with (at_builtin;refine Lib.wpList_append_run w5 rfl (.tmp 30) (.tmp 33) 39 3 rfl _ _ rfl rfl _ _ HR.o ?_);go_ret;refine⟨_,rfl,?_,HC6.o⟩;have e1:(z3_ a b c).length=20+44:=x7_ a b c;have e2:bts (z3_ a b c)=bts Z++List.replicate 44 (.int .u8 0):=(by rw[HRL.o,qk_,yV_]);rw[e1,e2];exact z0_ HO.o hsz
end
theorem ya_ {α:Type}(L m:List α)(o i:Nat)(h:o+m.length<=L.length):(splice L o m)[i]?=if o<=i/\i<o+m.length then m[i-o]? else L[i]?:=by
 have ht:(L.take o).length=o:=by rw[List.length_take];omega
 unfold splice;rcases Nat.lt_or_ge i o with h1|h1
 · rw[if_neg (by omega),List.getElem?_append_left (by omega),List.getElem?_take,if_pos h1]
 · rcases Nat.lt_or_ge i (o+m.length) with h2|h2
   · rw[if_pos ⟨h1,h2⟩,List.getElem?_append_right (by omega),ht,List.getElem?_append_left (by omega)]
   · rw[if_neg (by omega),List.getElem?_append_right (by omega),ht,List.getElem?_append_right (by omega),List.getElem?_drop];congr 1;omega
theorem xw_ {α:Type}(L m:List α)(o:Nat)(h:o+m.length<=L.length):(splice L o m).length=L.length:=by
 unfold splice;simp only[List.length_append,List.length_take,List.length_drop];omega
def tch (a n j:Nat):Bool:=decide (0<n/\j*64<a+n/\a<(j+1)*64)
def apS (s:St)(a:Nat)(b:List UInt8):St:=⟨s.L,splice s.S a b,(List.range s.V.length).map fun j=>s.V.getD j false||tch a b.length j⟩
theorem zoH (s:St)(a:Nat)(ha:a<=s.S.length):apS s a []=s:=by
 obtain⟨L,S,V⟩:=s;unfold apS;congr 1
 · apply List.ext_getElem?;intro i;rw[ya_ _ _ _ _ (by simpa using ha),if_neg (by simp)]
 · apply List.ext_getElem?;intro j;rw[List.getElem?_map];rcases Nat.lt_or_ge j V.length with h|h
   · rw[List.getElem?_range h,List.getElem?_eq_getElem h];simp[tch,List.getD,h]
   · rw[List.getElem?_eq_none (by simpa using h),List.getElem?_eq_none h];rfl
theorem zbH (s:St)(a:Nat)(b:List UInt8):(apS s a b).V.length=s.V.length:=by simp[apS]
theorem zma {s:St} {a:Nat} {b:List UInt8} {k k' q:Nat} {x:List UInt8} (hl:s.S.length=64*s.V.length) (hb:a+b.length<=s.S.length) (hk:k<k') (hk':k'<=b.length) (h1:q*64<=a+k) (h2:a+k'<=(q+1)*64) (h3:a<(q+1)*64)
    (hx:x=((splice s.S a (b.take k')).drop (q*64)).take 64):(apS s a (b.take k)).write q x=apS s a (b.take k'):=by
      have lk:(b.take k).length=k:=(by rw[List.length_take];omega);have lk':(b.take k').length=k':=(by rw[List.length_take];omega);have hq:q<s.V.length:=(by omega);have hsl:(splice s.S a (b.take k')).length=s.S.length:=xw_ _ _ _ (by rw[lk'];omega);have hsk:(splice s.S a (b.take k)).length=s.S.length:=xw_ _ _ _ (by rw[lk];omega);have xl:x.length=64:=(by rw[hx,List.length_take,List.length_drop,hsl];omega);unfold St.write apS;congr 1
      · show splice (splice s.S a (b.take k)) (q*64) x=splice s.S a (b.take k');apply List.ext_getElem?;intro i;rw[ya_ _ _ _ _ (by rw[hsk,xl];omega),xl];by_cases hi:q*64<=i/\i<q*64+64
        · rw[if_pos hi,hx,List.getElem?_take,if_pos (by omega),List.getElem?_drop];congr 1;omega
        · rw[if_neg hi,ya_ _ _ _ _ (by rw[lk];omega),ya_ _ _ _ _ (by rw[lk'];omega),lk,lk'];by_cases h4:a<=i/\i<a+k
          · rw[if_pos h4,if_pos (by omega),List.getElem?_take,List.getElem?_take,if_pos (by omega),if_pos (by omega)]
          · rw[if_neg h4];by_cases h5:a<=i/\i<a+k'
            · omega
            · rw[if_neg h5]
      · apply List.ext_getElem?;intro j;rw[List.getElem?_set];simp only[List.getElem?_map,List.length_map,List.length_range];rcases Nat.lt_or_ge j s.V.length with hj|hj
        · rw [List.getElem?_range hj];simp only[Option.map_some];by_cases e:q=j
          · subst e;rw[if_pos rfl,if_pos hj];have:tch a (b.take k').length q=true:=decide_eq_true (by rw[lk'];omega);rw[this,Bool.or_true]
          · rw [if_neg e];have:tch a (b.take k).length j=tch a (b.take k').length j:=by
             unfold tch;rw[lk,lk'];congr 1;apply propext;constructor
             · rintro⟨_,_,_⟩;omega
             · rintro⟨_,_,_⟩;have:j≠q:=fun h=>e h.symm;rcases Nat.lt_or_ge j q with h|h
               · omega
               · omega
            rw[this]
        · rw[List.getElem?_eq_none (by simpa using hj)];simp only[Option.map_none];by_cases e:q=j
          · omega
          · rw[if_neg e]
theorem zkp {S b:List UInt8}{a k m q f:Nat}(hb:a+b.length<=S.length)(hk:k+m<=b.length)(hq:q*64+f=a+k)(hf:f+m<=64)(hS:(q+1)*64<=S.length) :
    splice (((splice S a (b.take k)).drop (q*64)).take 64) f ((b.drop k).take m)=((splice S a (b.take (k+m))).drop (q*64)).take 64:=by
 have lk:(b.take k).length=k:=by rw[List.length_take];omega
 have lk':(b.take (k+m)).length=k+m:=by rw[List.length_take];omega
 have lm:((b.drop k).take m).length=m:=by rw[List.length_take,List.length_drop];omega
 have hsk:(splice S a (b.take k)).length=S.length:=xw_ _ _ _ (by rw[lk];omega);have ls:(((splice S a (b.take k)).drop (q*64)).take 64).length=64:=by rw[List.length_take,List.length_drop,hsk];omega
 apply List.ext_getElem?;intro i;rw[ya_ _ _ _ _ (by rw[ls,lm];exact hf),lm];rcases Nat.lt_or_ge i 64 with hi|hi
 · have e1:∀Z:List UInt8,(Z.take 64)[i]?=Z[i]?:=fun Z=>(by rw[List.getElem?_take,if_pos hi]);rw[e1,e1,List.getElem?_drop,List.getElem?_drop,ya_ _ _ _ _ (by rw[lk];omega),ya_ _ _ _ _ (by rw[lk'];omega),lk,lk'];by_cases h1:f<=i/\i<f+m
   · rw[if_pos h1,if_pos (show a<=q*64+i/\q*64+i<a+(k+m) by omega),List.getElem?_take,List.getElem?_take,if_pos (show i-f<m by omega),if_pos (show q*64+i-a<k+m by omega),List.getElem?_drop];congr 1;omega
   · rw[if_neg h1];by_cases h2:a<=q*64+i/\q*64+i<a+k
     · rw[if_pos h2,if_pos (show a<=q*64+i/\q*64+i<a+(k+m) by omega),List.getElem?_take,List.getElem?_take,if_pos (by omega),if_pos (by omega)]
     · rw[if_neg h2,if_neg (show ¬(a<=q*64+i/\q*64+i<a+(k+m)) by omega)]
 · have e1:∀Z:List UInt8,(Z.take 64)[i]?=none:=fun Z=>(by rw[List.getElem?_take,if_neg (by omega)]);rw[if_neg (by omega),e1,e1]
def xI_ (s:St)(L:Nat):List UInt8:=(s.S.drop 128).take (L*64)
theorem u1_ (s:St)(k:Nat):xI_ s (k+1)=xI_ s k++(s.S.drop ((2+k)*64)).take 64:=by
 unfold xI_;rw[show(k+1)*64=k*64+64 by omega,List.take_add,List.drop_drop];congr 3;omega
theorem zkZ {s:St}{L:Nat}(h:128+L*64<=s.S.length):(xI_ s L).length=L*64:=by
 unfold xI_;rw[List.length_take,List.length_drop];omega
def flA (s:St):St:=St.flush s s.V.length
theorem zJ_ (s:St):(flA s).V.length=s.V.length:=zbr s _
theorem vJ_ (s:St)(k:Nat)(x:List UInt8):(s.write k x).V.length=s.V.length:=by simp[St.write]
def wipeN (s:St)(a:Nat):Nat->St
  | 0=>s
  | k+1=>(wipeN s a k).write (a+k) (zm_ 64)
theorem zX_ (s:St)(a:Nat):∀k,(wipeN s a k).V.length=s.V.length
  | 0=>rfl
  | k+1=>by rw[wipeN,vJ_,zX_ s a k]
def putR (s:St)(L P E:Nat):St:=flA (s.write (E%2) (z3_ L P E))
theorem zdp (s:St)(L P E:Nat):(putR s L P E).V.length=s.V.length:=by rw[putR,zJ_,vJ_]
def fmt (s:St)(L P:Nat):St:=putR (flA (wipeN (flA (wipeN s 0 2)) 2 (L+P))) L P 1
theorem kM_ (s:St)(L P:Nat):(fmt s L P).V.length=s.V.length:=by rw[fmt,zdp,zJ_,zX_,zJ_,zX_]
def zex (w:World)(p bL bS bW:Nat)(s:St)(e:Ending)(w':World):Prop:=e=.returned (.tuple #[])/\z9_ w' p bL bS bW s/\Chg [bL,bS,bW] w w'
def dkT (T:List Nat)(hard soft:List Nat):Turns:=⟨Chg [],Chg T,hard,soft⟩
theorem zea {T hard soft:List Nat}:(dkT T hard soft).Ok:=⟨Chg.refl [],fun _ _ h=>h.sub (fun _ h=>by cases h),fun _ _ _ h k=>h.trans k⟩
theorem dk_by {T hard soft:List Nat}(k:Nat){W W':World}(h:Chg [] W W'):(dkT T hard soft).by_ k W W':=by
 unfold Turns.by_;split
 · exact h.sub (fun _ h=>by cases h)
 · exact h
theorem gX_ {T hard soft:List Nat}{k:Nat}(hk:hard.contains k=true){W W':World}(h:Chg T W W'):(dkT T hard soft).by_ k W W':=by
 unfold Turns.by_;rw[if_pos (show(dkT T hard soft).hard.contains k=true from hk)];exact h
theorem jf_ {W W':World}(h:Star (Chg []) W W'):Chg [] W W':=h.fold (Chg.refl []) fun _ _ _ h k=>h.trans k
def dskF (p bL bS bW:Nat)(s:St):yJ_:=fun v W=>v=.bool true/\z9_ W p bL bS bW s
theorem zie {p bL bS bW:Nat}{s:St}:zQ_ (Chg []) (dskF p bL bS bW s):=fun _ _ _ h hc=>⟨h.1,Dsk.keep h.2 hc⟩
section
variable {w:World} {p bL bS bW:Nat} {s:St}
theorem zkX (w:World):(Instr.makeSlice 39 (.int .i64 64) (.int .i64 64)).run Tryz.prog w=.ok (.slice (some ⟨w.heap.size,0,none⟩) 64 64) (w.alloc (.cells (bts (zm_ 64)).toArray 5)):=by
 obtain⟨i,hi,hz,hs,hb⟩:=info_parts yF_;have:=x4_ (P:=Tryz.prog) 39 5 i _ rfl Tryz.underlying39 hi hz hs 64 (by rw[hb];omega) (by omega) w;rw[show bts (zm_ 64)=List.replicate 64 (.int .u8 0) from by simp[bts,zm_];rfl];exact this
theorem znd {T T':List Nat}{a b:World}(h:Chg T a b)(hs:∀i∈T,i∈T':=by simp):Chg T' a b:=h.sub hs
theorem zcZ (h:z9_ w p bL bS bW s)(a b:Nat)(hab:a<=b)(hb:b<=s.V.length) :
    Calls Tryz.prog 39 #[.pointer (some ⟨p,0,none⟩),.int .i64 (a:Int),.int .i64 (b:Int)] w (zex w p bL bS bW (flA (wipeN s a (b-a)))):=by
 have hle:=Dsk.le h;go_enter Tryz.func39,Tryz.ntmps39;go_wp2_with fail;go_loopw [6] (fun i wr=>∃m:Nat,a<=m/\m<=b/\i=.int .i64 (m:Int)/\Hid (z9_ wr p bL bS bW (wipeN s a (m-a)))/\Hid (Chg [bL,bS,bW] w wr)) (fun i _=>b-(intOf i).toNat);case atStart=>exact⟨a,Nat.le_refl _,hab,rfl,hQ_ (by rw[Nat.sub_self];exact h),hQ_ (Chg.refl _ _)⟩
 case round =>
  obtain⟨k,hka,hk,rfl,hdk,hck⟩:=hrel;by_cases hlt:k<b
  · have hI:(k:Int)<(b:Int):=(by omega);have hmk:=zkX wr;go_wp2_with fail;have hal:=(Chg.refl [] wr).alloc (.cells (bts (zm_ 64)).toArray 5);have hW:=zb_.new wr 5 (bts (zm_ 64));refine(uL_ (hdk.out.keep hal) k (by show k<(wipeN s a (k-a)).V.length;rw[zX_];omega) (zE_ 64) (Src.of_all hW)).mono ?_;rintro e w2 ⟨rfl,hd2,hc2⟩;have HD2:=hQ_ (show z9_ w2 p bL bS bW (wipeN s a (k+1-a)) from by
     rw[show k+1-a=(k-a)+1 by omega,wipeN,show a+(k-a)=k by omega];exact hd2);have HC2:=hQ_ (show Chg [bL,bS,bW] w w2 from(hck.out.new hal).trans (znd hc2));clear hal hW hd2 hc2 hmk;go_wp2_with fail;go_roundw;(case rel=>exact⟨k+1,by omega,by omega,by go_num,HD2,HC2⟩);case measure=>simp[intOf];omega
  · obtain rfl:b=k:=(by omega);have hI:¬(b:Int)<(b:Int):=(by omega);go_wp2_with fail;refine(ka_ hdk.out).mono ?_;rintro e w2 ⟨rfl,hd2,hc2⟩;have HP:=hQ_ (show z9_ w2 p bL bS bW (flA (wipeN s a (b-a)))/\Chg [bL,bS,bW] w w2 from⟨hd2,hck.out.trans hc2⟩);clear hd2 hc2;go_wp2_with fail
    go_end0
    exact⟨rfl,HP.o.1,HP.o.2⟩
theorem jS_ (h:z9_ w p bL bS bW s)(L P E:Nat)(hL:L<=2147483647)(hP:P<=2147483647)(hE:E<4294967296)(h2:2<=s.V.length) :
    Calls Tryz.prog 40 #[.pointer (some ⟨p,0,none⟩),zB_ L P E] w (zex w p bL bS bW (putR s L P E)):=by
 have hr0:zB_ L P E=.agg #[.int .i64 (L:Int),.int .i64 (P:Int),.int .u32 (E:Int)]:=rfl;rw[hr0];go_enter Tryz.func40,Tryz.ntmps40;go_upto_region 1 with fail;have hR:=zb_.new w 82 [.int .i64 (L:Int),.int .i64 (P:Int),.int .u32 (E:Int)];have hal:=(Chg.refl [] w).alloc (.cells #[.int .i64 (L:Int),.int .i64 (P:Int),.int .u32 (E:Int)] 82);have HD:=hQ_ (h.keep hal);have HC:=hQ_ hal;obtain⟨gr,hgr⟩:∃g,g=w.heap.size:=⟨_,rfl⟩;rw[<-hgr]at hR⊢;generalize w.alloc (.cells #[.int .i64 (L:Int),.int .i64 (P:Int),.int .u32 (E:Int)] 82)=w1 at hR HD HC⊢;have hC0:=(Chg.refl [] w1).drew.sub (T':=[bL,bS,bW]) (fun _ h=>by cases h);have r0:=hR.cell 0;have r1:=hR.cell 1;have r2:=hR.cell 2;have hmod:((E:Int)).tmod 2=((E%2:Nat):Int):=by rw[Int.tmod_eq_emod_of_nonneg (by omega)];omega
 have hm2:E%2<2:=Nat.mod_lt _ (by omega);generalize hq:E%2=q at hmod hm2⊢;have HQ:=hQ_ hq;clear hq;have HR:=hQ_ hR;have HLT:=hQ_ (show w.heap.size<=gr/\bL<w.heap.size/\bS<w.heap.size/\bW<w.heap.size from⟨by omega,(Dsk.last h).lt,(Dsk.seen h).lt,(Dsk.wait h).lt⟩);have hwq:IntKind.i64.wrap (q:Int)=(q:Int):=by rw[IntKind.wrap_i64];omega
 clear r0 r1 r2 hgr;have hgT:gr∉[bL,bS,bW]:=fun hm=>by have h1:=HLT.o;simp only[List.mem_cons,List.not_mem_nil,or_false]at hm;omega
 have TOK:=zea (T:=[bL,bS,bW]) (hard:=[7]) (soft:=[6,7]);refine wp_flow (by kernel_rfl) (dkT [bL,bS,bW] [7] [6,7]) TOK (by kernel_rfl) ?_;refine flow_move_out TOK rfl rfl rfl ?_;refine flow1 (r:=.pointer (some ⟨gr,2,none⟩)) TOK rfl (.out rfl rfl) rfl (fun ev W he e1=>by go_simp) ?_;refine flow1h (r:=.int .u32 (E:Int)) TOK rfl (.inn rfl) rfl (fun ev W he hW e1=>by have r2:=(HR.o.chg (hC0.then_ hW (fun _ h _=>h)) hgT).cell 2;clear hW;go_simp) ?_;refine flow2 (r:=.int .u32 (q:Int)) TOK rfl (.inn rfl) (.const _) rfl (fun ev W he e1 e2=>by go_simp) ?_;refine flow1 (r:=.int .i64 (q:Int)) TOK rfl (.inn rfl) rfl (fun ev W he e1=>by go_simp) ?_;refine flow1h (r:=zB_ L P E) TOK rfl (.out rfl rfl) rfl (fun ev W he hW e1=>by have hx:=HR.o.chg (hC0.then_ hW (fun _ h _=>h)) hgT;have r0:=hx.cell 0;have r1:=hx.cell 1;have r2:=hx.cell 2;clear hW hx;unfold zB_;go_simp) ?_;refine flow_calld (jk_ 0 5 (bts (z3_ L P E))) (yj_ _ _ _) (.inl rfl) (by kernel_rfl) rfl (.cons (.inn rfl) .nil) (fun W hW=>(uU_ L P E (by omega) (by omega) hE).mono ?_) ?_
 · rintro e w' ⟨v,rfl,ho,hc⟩;exact⟨v,rfl,dk_by _ hc,by unfold jk_;rw[zg_];exact z0_ ho (Nat.zero_le _)⟩
 refine vd_ (dskF p bL bS bW (s.write q (z3_ L P E))) zie (.inl rfl) rfl rfl (fun ev W he hW hfs=>?_) ?_
 · have hc0:Chg [] w1 W:=(Chg.refl [] w1).drew.new (jf_ hW);rw[vq_ he (by kernel_rfl)];obtain⟨_,f1,f2,f3,_⟩:=hfs;have e1:ev (.tmp 4)=.pointer (some ⟨p,0,none⟩):=f1;have e2:ev (.tmp 8)=.int .i64 (q:Int):=f2;have f3':jk_ 0 5 (bts (z3_ L P E)) (ev (.tmp 10)) W:=f3;unfold jk_ at f3';rw[zg_,x7_]at f3';obtain⟨Av,cv,e3,_,_,hs3,_⟩:=zr_ f3';rw[show Array.map ev #[.tmp 4,.tmp 8,.tmp 10]=#[ev (.tmp 4),ev (.tmp 8),ev (.tmp 10)] by simp];unfold yB_;simp only;rw[e1,e2,e3];refine(uL_ (HD.o.keep hc0) q (by omega) (x7_ L P E) hs3).mono ?_;rintro e w3 ⟨rfl,hd3,hc3⟩;exact⟨_,rfl,gX_ rfl (hc3.sub (by simp)),rfl,hd3⟩
 intro vs W hW hF;have hd:dskF p bL bS bW (s.write q (z3_ L P E)) (vs 11) W:=hF 11 _ rfl rfl;have HD3:=hQ_ hd.2;have e11:=hd.1;have HC3:=hQ_ (show Chg [bL,bS,bW] w W from((HC.o.sub (T':=[bL,bS,bW]) (fun _ h=>by cases h)).trans hC0).trans hW);simp only[zW_,Act.put,List.setIfInBounds_toArray,List.set_cons_zero,List.set_cons_succ];rw[e11];clear hF hW hd e11 TOK hC0;obtain⟨w3,hw3⟩:∃w3:World,w3=W:=⟨_,rfl⟩;rw[<-hw3]at HD3 HC3⊢;clear hw3;go_wp2_with fail;refine(ka_ HD3.o).mono ?_;rintro e w4 ⟨rfl,hd4,hc4⟩;have HP:=hQ_ (show z9_ w4 p bL bS bW (putR s L P E)/\Chg [bL,bS,bW] w w4 from⟨by unfold putR flA;rw[HQ.o];exact hd4,HC3.o.trans hc4⟩);clear hd4 hc4;go_wp2_with fail
 go_end0
 exact⟨rfl,HP.o.1,HP.o.2⟩
end
section
variable {w w':World} {p n c at_:Nat} {A:Option Addr} {l:List Int}
theorem vg_ {T:List Nat}{a w w':World}{row:Option Nat}(h:Chg T a w)(hg:w.grownBy w' row)(hr:∀g,row=some g->a.heap.size<=g):Chg T a w' :=
 h.then_ (T':=row.toList) (Chg.of_grown hg fun g e _=>by simp[e]) fun i hi hlt=>by
  have:=hr i (by simpa using hi);omega
end
def v9_ (l:List UInt8):Nat:=(l.getD 0 0).toNat*256+(l.getD 1 0).toNat
theorem jW_ (a:Nat)(h:a<65536):(BitVec.ofInt 64 (a:Int)).toNat=a:=by
 rw[BitVec.toNat_ofInt];omega
theorem zpo (x y:UInt8):bits .or .i64 ((x.toNat:Int)*256) (y.toNat:Int)=((x.toNat*256+y.toNat:Nat):Int):=by
 have hx:=x.toNat_lt;have hy:=y.toNat_lt;have e1:(x.toNat:Int)*256=((x.toNat*256:Nat):Int):=by omega
 rw[e1];show IntKind.i64.wrap ((BitVec.ofInt 64 ((x.toNat*256:Nat):Int) ||| BitVec.ofInt 64 (y.toNat:Int)).toNat:Int)=_;rw[BitVec.toNat_or,jW_ _ (by omega),jW_ _ (by omega),nat_join 8 (x.toNat*256) y.toNat (by omega) (by omega)];exact IntWalk.i64_in _ (by omega)
theorem zkG {a b:Int}(h:a=b):Ending.returned (.int .i64 a)=.returned (.int .i64 b):=by rw[h]
section
variable {w:World} {A:Option Addr} {n c:Nat} {l:List UInt8}
theorem zeb (h:Bs w A n c l)(hn:2<=n) :
    Calls Tryz.prog 150 #[.slice A n c] w fun e w'=>e=.returned (.int .i64 (v9_ l:Nat))/\Chg [] w w':=by
 obtain⟨x,y,t,rfl⟩:∃x y t,l=x::y::t:=by
  match l,h.len with
  | [],h0=>simp at h0;omega
  | [_],h0=>simp at h0;omega
  | x::y::t,_=>exact⟨x,y,t,rfl⟩
 obtain⟨ad,rfl,_,hx⟩:=h.src (by simp[bts]);obtain⟨b,o,s⟩:=ad;obtain rfl:s=none:=h.spot (by omega) _ rfl;have h0:=hx 0 (B8 x) rfl;have h1:=hx 1 (B8 y) rfl;rw[zl_,Nat.add_zero]at h0;rw[zl_]at h1;unfold B8 at h0 h1;have hx256:=x.toNat_lt;have hy256:=y.toNat_lt;have hnI:(1:Int)<(n:Int):=by omega
 have hnJ:(0:Int)<(n:Int):=by omega
 clear hx;go_enter Tryz.func150,Tryz.ntmps150;go_wp2_with fail;go_quiet (fail);go_wp2_with fail;go_ret;exact⟨zkG (by rw[zpo];simp[v9_]),(Chg.refl _ _).drewN _⟩
end
def chB (a:ChV):List UInt8:=be2 a.page.toNat++a.B
def qz_:List ChV->List UInt8
  | []=>[]
  | a::l=>chB a++qz_ l
theorem zeh:∀l m,qz_ (l++m)=qz_ l++qz_ m
  | [],_=>rfl
  | a::l,m=>by rw[List.cons_append,qz_,qz_,zeh l m,List.append_assoc]
theorem zjp (l:List ChV)(k:Nat)(a:ChV)(h:l[k]?=some a):qz_ (l.take (k+1))=qz_ (l.take k)++chB a:=by
 obtain⟨hk,rfl⟩:=List.getElem?_eq_some_iff.1 h;rw[List.take_succ_eq_append_getElem hk,zeh];simp[qz_]
def zD_ (l:List ChV):List UInt8:=be2 l.length++qz_ l
section
variable {w:World} {A:Option Addr} {n c:Nat}
theorem zfT {l:List ChV} (h:Chs w A l) (hs:∀a∈l,zoK a) (hl:l.length=n) (hn:n<=1000) :
    Calls Tryz.prog 82 #[.slice A n c] w (xH_ w (zD_ l)):=by
 obtain⟨i0,hi,hz,hs1,hb⟩:=info_parts yF_;have H:=hQ_ h;have HL:=hQ_ hl;have HS:=hQ_ hs;clear h hl hs;have hmk:∀W:World,(Instr.makeSlice 39 (.int .i64 0) (.int .i64 (2+(n:Int)*66))).run Tryz.prog W=.ok (.slice (some ⟨W.heap.size,0,none⟩) 0 (2+n*66)) (W.alloc (.cells (bts (zm_ (2+n*66))).toArray 5)):=by
  intro W;rw[yV_];have:=x5_ (P:=Tryz.prog) 39 5 i0 _ rfl Tryz.underlying39 hi hz hs1 (2+n*66) (by rw[hb];omega) (by omega) W;simpa using this
 have ho0:(w.alloc (.cells (bts (zm_ (2+n*66))).toArray 5)).ownsRow w.heap.size 5 1 (.slice (some ⟨w.heap.size,0,none⟩) 0 (2+n*66)) 0 (bts []):=by
  have:=zT_ (B:=w.heap.size) (n:=0) (c:=2+n*66) (zb_.new w 5 (bts (zm_ (2+n*66)))) (Nat.le_refl _) (by simp[zg_,zE_]) (by omega) (by unfold maxLen;omega);simpa[bts] using this
 go_enter Tryz.func82,Tryz.ntmps82;go_wp2_with fail;refine(zdX ho0 (by simp) n (by omega) (by omega)).mono ?_;rintro e w1 ⟨v1,rfl,ho1,_,hL1⟩;have hc1:Chg [] w w1:=((Low.of_chg (B:=w.heap.size) ((Chg.refl [] w).alloc _)).trans hL1).chg (Nat.le_refl _);simp only[Nat.zero_add,List.nil_append]at ho1;clear ho0 hL1;go_wp2_with fail;go_loopw [3,16] (fun t i wr=>∃k:Nat,k<=n/\i=.int .i64 (k:Int)/\wr.ownsRow w.heap.size 5 1 t (2+k*66) (bts (be2 n++qz_ (l.take k)))/\Chg [] w wr) (fun _ i _=>n-(intOf i).toNat);case atStart=>exact⟨0,Nat.zero_le _,rfl,by simpa[qz_] using ho1,hc1⟩
 case round =>
  obtain⟨k,hk,rfl,hown,hcr⟩:=hrel;have hwr:=hcr.size;clear ho1 hc1;by_cases hlt:k<n
  · obtain⟨a,ha⟩:∃a,l[k]?=some a:=⟨_,List.getElem?_eq_getElem (by have:=HL.o;omega)⟩;have ham:=List.mem_of_getElem? ha;obtain⟨g,o,rfl,hg,hce⟩:=(H.o.keep hcr).cells (by have:=HL.o;omega);obtain⟨c0,c1⟩:=hce k a ha;have hbs:=(H.o.ok a ham).bs;obtain⟨hp0,hp1,hbn⟩:=HS.o a ham;have HT:=hQ_ (zjp l k a ha);have HC:=hQ_ hcr;clear hce ha ham hcr;obtain⟨page,bA,bn,bc,Bb⟩:=a;simp only at c0 c1 hbs hp0 hp1 hbn;subst hbn;obtain⟨q,rfl⟩:=Int.eq_ofNat_of_zero_le hp0;have HBS:=hQ_ hbs;clear hbs;obtain⟨A3,c3,rfl,_,_,_,_⟩:=zr_ hown;obtain⟨X,hX⟩:∃X,X=be2 n++qz_ (l.take k):=⟨_,rfl⟩;rw[<-hX]at hown;have HX:=hQ_ hX;clear hX;have hkI:(k:Int)<(n:Int):=(by omega);go_wp2_with fail;have hz0:=zb_.new wr 123 [.int .i64 (q:Int),.slice bA 64 bc];have hal:Chg [] wr (wr.alloc (.cells #[.int .i64 (q:Int),.slice bA 64 bc] 123)):=(Chg.refl [] wr).alloc _;have HW0:=hQ_ hal;have HZ0:=hQ_ hz0;clear hal hz0 c0 c1;go_region_law (first
     | (refine jJ_ rfl (.tmp 23) (.tmp 25) 39 rfl w.heap.size 5 i0 _ 1 Tryz.underlying39 hi hz hs1 hb uj_ v2 (2+k*66+2) (bts (X++be2 q)) rfl ho2 bA 64 bc (bts Bb) rfl hbl hsB (yd_ _) hx1 hx2 hx3 ?_;intro v5 w5 ho5 hg5)
     | (go_simp;go_at_call 121;refine(zdX (zk_ hown HW0.o.drew) (by simp;omega) q (by omega) (by omega)).mono ?_;rintro e w2 ⟨v2,rfl,ho2,hk2,hL2⟩;have hz2:=hk2 _ _ _ (by decide) HZ0.o.drew;have hc2:Chg [] w w2:=((Low.of_chg (B:=w.heap.size) (HC.o.new HW0.o).drew).trans hL2).chg (Nat.le_refl _);have hB2:=HBS.o.keep hc2;have hbl:(bts Bb).length=64:=(by rw[zg_];exact hB2.len);have hsB:=hB2.src;have hx1:2+k*66+2+64<=maxLen:=(by unfold maxLen;omega);have hx2:(2+k*66+2+64)*1<=140737488355328:=(by omega);have hx3:w.heap.size<=w2.heap.size:=hc2.size;have z0:=hz2.cell 0;have z1:=hz2.cell 1));all_goals
      have hL5:Low w.heap.size w2 w5:=Low.of_own ho2 hg5;have hc5:Chg [] w w5:=((Low.of_chg hc2).trans hL5).chg (Nat.le_refl _);clear hg5;go_wp2_with fail;go_roundw;case rel =>
       refine⟨k+1,by omega,by go_num,?_,hc5⟩;have e1:bts (be2 n++qz_ (l.take (k+1)))=bts (X++be2 q)++bts Bb:=(by
        rw[HT.o,<-List.append_assoc,<-HX.o];simp[chB,bts]);rw[e1,show 2+(k+1)*66=2+k*66+2+64 by omega];exact ho5
      case measure=>simp[intOf];omega
  · obtain rfl:n=k:=(by omega);have HK:=hQ_ (show l.take n=l by rw[List.take_of_length_le (by rw[HL.o];exact Nat.le_refl _)]);rw[HK.o]at hown;have e1:be2 n++qz_ l=zD_ l:=(by unfold zD_;rw[HL.o]);rw[e1]at hown;have e2:2+n*66=(zD_ l).length:=(by have:=hown.1;rw[zg_]at this;omega);rw[e2]at hown;have HO:=hQ_ hown;clear e1 e2 hown;go_wp2_with fail;go_ret;exact⟨_,rfl,HO.o,hcr⟩
end
theorem zhP (W:World):(Instr.makeSlice 39 (.int .i64 64) (.int .i64 64)).run Tryz.prog W=.ok (.slice (some ⟨W.heap.size,0,none⟩) 64 64) (W.alloc (.cells (bts (zm_ 64)).toArray 5)):=by
 obtain⟨i,hi,hz,hs1,hb⟩:=info_parts yF_;rw[yV_];exact x4_ 39 5 i (.int .u8 0) rfl Tryz.underlying39 hi hz hs1 64 (by rw[hb];omega) (by omega) W
def zbP (a:ChV):Int×List UInt8:=(a.page,a.B)
structure Rm (B:Nat) (w w':World):Prop where
  os:w'.os=w.os
  tape:w'.tape=w.tape
  output:w'.output=w.output
  size:w.heap.size<=w'.heap.size
  block:∀k,k<w.heap.size->w'.heap[k]?=w.heap[k]?\/(B<=k/\∃t fz fz',w.heap[k]?=some (.cells (bts jb_).toArray t fz)/\w'.heap[k]?=some (.cells (bts jb_).toArray t fz'))
section
variable {T:Turns} {w0:World} {a0:Act} {ops:List Oper} {Q:Exit->Act->World->Prop} {F:Said} {k:Nat} {rest:List Oper}
  {d:Option Tmp} {ty:TypeId} {pos:String} {af:Array Go.Edge} {g:Option (Nat×Bool)} {B:Nat}
end
section
variable {w:World} {A:Option Addr} {n c:Nat} {l:List UInt8}
theorem zcK {W:World}{q bL bS bW:Nat}(hq:q=W.heap.size)(hL:zb_ W bL 5 (bts l))(hS:zb_ W bS 5 (bts l))(hV:zb_ W bW 4 (bls (zH_ (l.length/64))))(hne:bL≠bS)
    (h1:64<=l.length) (h2:l.length<10304) (h3:l.length%64=0) (hc:Chg [] w W) (b1:w.heap.size<=bL) (b2:w.heap.size<=bS) (b3:w.heap.size<=bW) :
    ∃ p bL' bS' bW',Ending.returned (.pointer (some ⟨q,0,none⟩))=.returned (.pointer (some ⟨p,0,none⟩)) /\
      Dsk (W.alloc (.cells #[.slice (some ⟨bL,0,none⟩) l.length l.length,.slice (some ⟨bS,0,none⟩) l.length l.length,.slice (some ⟨bW,0,none⟩) (l.length/64) (l.length/64)] 138)) p bL' bS' bW' l l (zH_ (l.length/64)) /\
      w.heap.size<=p/\w.heap.size<=bL'/\w.heap.size<=bS'/\w.heap.size<=bW'/\Chg [] w (W.alloc (.cells #[.slice (some ⟨bL,0,none⟩) l.length l.length,.slice (some ⟨bS,0,none⟩) l.length l.length,.slice (some ⟨bW,0,none⟩) (l.length/64) (l.length/64)] 138)):=by
 subst hq;have hk:∀o,Chg [] W (W.alloc o):=fun o=>(Chg.refl [] W).alloc o;refine⟨W.heap.size,bL,bS,bW,rfl,⟨?_,hL.keep (hk _),hS.keep (hk _),hV.keep (hk _),?_,?_,?_,?_,hne⟩,hc.size,b1,b2,b3,hc.alloc _⟩
 · have:=zb_.new W 138 [.slice (some ⟨bL,0,none⟩) l.length l.length,.slice (some ⟨bS,0,none⟩) l.length l.length,.slice (some ⟨bW,0,none⟩) (l.length/64) (l.length/64)];simpa only[yx_] using this
 · rw[yx_];omega
 · rw[yx_];omega
 · rw[yx_];omega
 · rw[yx_];omega
theorem zpp (hl:l.length=n)(hs:Src w A (bts l))(h1:64<=n)(h2:n<10304)(h3:n%64=0) :
    Calls Tryz.prog 36 #[.slice A n c] w fun e w'=>∃p bL bS bW,e=.returned (.pointer (some ⟨p,0,none⟩))/\Dsk w' p bL bS bW l l (zH_ (n/64)) /\
      w.heap.size<=p/\w.heap.size<=bL/\w.heap.size<=bS/\w.heap.size<=bW/\Chg [] w w':=by
 have hd1:decide ((n:Int)/64<1)=false:=by simp;omega
 have hd2:decide (160<(n:Int)/64)=false:=by simp;omega
 have hd3:((n:Int)%64 != 0)=false:=by simp;omega
 have hmk:∀W:World,(Instr.makeSlice 99 (.int .i64 ((n:Int)/64)) (.int .i64 ((n:Int)/64))).run Tryz.prog W=.ok (.slice (some ⟨W.heap.size,0,none⟩) (n/64) (n/64)) (W.alloc (.cells (bls (zH_ (n/64))).toArray 4)) :=
  fun W=>j2_ (n/64) (by omega) W;have HL:=hQ_ hl;have H3:=hQ_ h3;clear hl h3;go_enter Tryz.func36,Tryz.ntmps36;go_wp2_with fail;go_region_with (first
  | ((go_at_call 69;have _t:=HB1;refine(j9_ (xs:=bts l) (by rw[zg_];exact HL.o) ?_ (yd_ l) (by omega)).mono ?_;· (refine hs.keep ?_;repeat (first|exact Chg.refl _ _|apply Chg.drew|apply Chg.alloc|refine Chg.new ?_ HC1)));rintro e w2 ⟨rfl,HB2,HC2⟩)
  | ((go_at_call 69;refine(j9_ (xs:=bts l) (by rw[zg_];exact HL.o) ?_ (yd_ l) (by omega)).mono ?_;· (refine hs.keep ?_;repeat (first|exact Chg.refl _ _|apply Chg.drew|apply Chg.alloc)));rintro e w1 ⟨rfl,HB1,HC1⟩));all_goals (go_wp2_with fail;go_ret;obtain rfl:=HL.o)
 · have c1:Chg [] w w1:=(Chg.refl [] w).drew.new HC1;have l1:=zb_.lt HB1;have z1:w.drew.heap.size=w.heap.size:=rfl;exact zcK (W:=w2.alloc _) (by simp) ((zb_.keep HB1 HC2).keep ((Chg.refl [] w2).alloc _)) (HB2.keep ((Chg.refl [] w2).alloc _)) (zb_.new w2 _ _) (by omega) h1 h2 H3.o ((c1.new HC2).alloc _)
     (Nat.le_refl _) c1.size (Nat.le_trans c1.size HC2.size)
 · have c1:Chg [] w w1:=(Chg.refl [] w).drew.new HC1;have l1:=zb_.lt HB1;have z1:w.drew.heap.size=w.heap.size:=rfl;have hb2:zb_ w2 (w1.heap.size+1) 5 (bts l):=(by simpa using HB2);have s1:=c1.size;exact zcK (W:=w2) rfl ((zb_.keep HB1 ((Chg.refl [] w1).alloc _)).keep HC2) hb2 ((zb_.new w1 _ _).keep HC2) (by omega) h1 h2 H3.o ((c1.alloc _).new HC2)
     (Nat.le_refl _) (by omega) s1
 · have hb1:zb_ w1 (w.heap.size+1) 5 (bts l):=(by simpa using HB1);have c1:Chg [] w w1:=((Chg.refl [] w).alloc _).drew.new HC1;have l1:=hb1.lt;exact zcK (W:=w2) rfl (hb1.keep HC2) HB2 (((zb_.new w _ _).keep ((Chg.refl [] _).drew.new HC1)).keep HC2) (by omega) h1 h2 H3.o (c1.new HC2)
     (by omega) (by omega) (Nat.le_refl _)
end
section
variable {w:World}
theorem znS (k:Nat)(h1:1<=k)(h2:k<=160) :
    Calls Tryz.prog 14 #[.int .i64 (k:Int)] w fun e w'=>∃p bL bS bW,e=.returned (.pointer (some ⟨p,0,none⟩))/\Dsk w' p bL bS bW (zm_ (k*64)) (zm_ (k*64)) (zH_ k) /\
      w.heap.size<=p/\w.heap.size<=bL/\w.heap.size<=bS/\w.heap.size<=bW/\Chg [] w w':=by
 have hd1:decide ((k:Int)<1)=false:=by simp;omega
 have hd2:decide (160<(k:Int))=false:=by simp;omega
 have hmk:∀W:World,(Instr.makeSlice 39 (.int .i64 ((k:Int)*64)) (.int .i64 ((k:Int)*64))).run Tryz.prog W=.ok (.slice (some ⟨W.heap.size,0,none⟩) (k*64) (k*64)) (W.alloc (.cells (bts (zm_ (k*64))).toArray 5)) :=
  fun W=>by
   have:=j1_ (k*64) (by omega) W;simpa using this
 go_enter Tryz.func14,Tryz.ntmps14;go_wp2_with (go_at_call 36;refine(zpp (l:=zm_ (k*64)) (by simp[zm_]) (Src.of_all (zb_.new w _ _)) (by omega) (by omega) (by omega)).mono ?_;rintro e w1 ⟨p,bL,bS,bW,rfl,HD,b0,b1,b2,b3,HC⟩);go_ret;rw[show k*64/64=k by omega]at HD;have hs:(w.alloc (.cells (bts (zm_ (k*64))).toArray 5)).heap.size=w.heap.size+1:=by simp
 exact⟨p,bL,bS,bW,rfl,HD,by omega,by omega,by omega,by omega,((Chg.refl [] w).alloc _).new HC⟩
end
section
variable {p B B3 n c:Nat} {A:Option Addr} {l:List Int}
theorem tf_lt {W:World}{g:Nat}{o:Obj}(h:W.heap[g]?=some o):g<W.heap.size:=by
 rcases Nat.lt_or_ge g W.heap.size with hlt|hge
 · exact hlt
 · rw[Array.getElem?_eq_none hge]at h;cases h
end
end Go.Proofs.YtcbcfcdmdedefaaGreatDoor
