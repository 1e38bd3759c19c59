import Derived.Test.YtcbcfcdmdedefaaGreatDoorZTA7
set_option maxRecDepth 100000
set_option maxHeartbeats 16000000
namespace Go.Proofs.YtcbcfcdmdedefaaGreatDoor
open Go.RowKit
structure Fr (B:Nat) (TS:List TypeId) (a b:World):Prop where
  os:b.os=a.os
  tape:b.tape=a.tape
  output:b.output=a.output
  size:a.heap.size<=b.heap.size
  block:∀k,k<a.heap.size->(k<B\/∀cs t fz,a.heap[k]?=some (.cells cs t fz)->t∉TS)->b.heap[k]?=a.heap[k]?
section
variable {B:Nat} {TS:List TypeId} {a b c:World}
theorem Fr.refl (B:Nat)(TS:List TypeId)(a:World):Fr B TS a a:=⟨rfl,rfl,rfl,Nat.le_refl _,fun _ _ _=>rfl⟩
theorem Fr.trans (h:Fr B TS a b)(k:Fr B TS b c):Fr B TS a c:=by
 refine⟨k.os.trans h.os,k.tape.trans h.tape,k.output.trans h.output,Nat.le_trans h.size k.size,fun i hi hc=>?_⟩;have h1:=h.block i hi hc;rw[<-h1];refine k.block i (Nat.lt_of_lt_of_le hi h.size) ?_;rw[h1];exact hc
theorem Fr.of_chg (h:Chg [] a b):Fr B TS a b:=⟨h.os,h.tape,h.output,h.size,fun k hk _=>h.block k hk (by simp)⟩
theorem Fr.new (h:Fr B TS a b)(k:Chg [] b c):Fr B TS a c:=h.trans (Fr.of_chg k)
theorem Fr.sub {B':Nat}{TS':List TypeId}(h:Fr B TS a b)(hB:B'<=B)(hT:∀t,t∈TS->t∈TS'):Fr B' TS' a b :=
 ⟨h.os,h.tape,h.output,h.size,fun k hk hc=>h.block k hk (hc.imp (fun h=>Nat.lt_of_lt_of_le h hB) (fun h cs t fz e ht=>h cs t fz e (hT t ht)))⟩
theorem Fr.chg (h:Fr B TS a b)(hB:a.heap.size<=B):Chg [] a b:=⟨h.os,h.tape,h.output,h.size,fun k hk _=>h.block k hk (.inl (Nat.lt_of_lt_of_le hk hB))⟩
theorem Fr.set (h:Fr B TS a b){p:Addr}(hp:B<=p.block){cs:Array Value}{t:TypeId}{fz:Nat×Nat}(hb:b.heap[p.block]?=some (.cells cs t fz))(ht:t∈TS)(u:Value):Fr B TS a (b.setCell p u):=by
 refine h.trans ⟨rfl,rfl,rfl,?_,fun k hk hc=>?_⟩
 · rw[yu_];exact Nat.le_refl _
 · refine Below.heap_setCell b p u k (fun e=>?_);subst e;rcases hc with h1|h1
   · omega
   · exact h1 cs t fz hb ht
theorem Fr.setw (h:Fr B TS a b){g j t:Nat}{cs:List Value}(hW:zb_ b g t cs)(hp:B<=g)(ht:t∈TS)(u:Value):Fr B TS a (b.setCell ⟨g,j,none⟩ u):=h.set (p:=⟨g,j,none⟩) hp hW ht u
theorem Fr.seto (h:Fr B TS a b){g j B2 k n m e:Nat}{xs:List Value}{cap:Nat}(ho:b.ownsRow B2 e k (.slice (some ⟨g,0,none⟩) n cap) m xs)(hB:B<=B2)(ht:e∈TS)(u:Value):Fr B TS a (b.setCell ⟨g,j,none⟩ u):=by
 rcases ho.2 with⟨e',_⟩|⟨g',cap',cur,e',hb,hg,_⟩
 · cases e'
 · injection e' with e1 _ _;injection e1 with e1;injection e1 with e1;subst e1;exact h.set (p:=⟨g,j,none⟩) (Nat.le_trans hB hb) hg ht u
theorem Fr.grown (h:Fr B TS a b){B2 k n e:Nat}{v:Value}{xs:List Value}(ho:b.ownsRow B2 e k v n xs)(hB:B<=B2)(ht:e∈TS)(hg:b.grownBy c v.ownBlock):Fr B TS a c:=by
 refine h.trans ⟨hg.os,hg.tape,hg.output,hg.size,fun i hi hc=>hg.block i hi (fun hr=>?_)⟩;rcases ho.2 with⟨rfl,_⟩|⟨g',cap',cur,rfl,hb,hgb,_⟩
 · simp[Value.ownBlock]at hr
 · simp[Value.ownBlock]at hr;subst hr;rcases hc with h1|h1
   · omega
   · exact h1 _ _ _ hgb ht
theorem Fr.whole (h:Fr B TS a b){g t:Nat}{cs:List Value}(hW:zb_ a g t cs)(ht:t∉TS):zb_ b g t cs :=
 (h.block g hW.lt (.inr fun _ _ _ e=>by rw[show a.heap[g]?=_ from hW]at e;injection e with e;injection e with _ e2 _;subst e2;exact ht)).trans hW
theorem Fr.obj (h:Fr B TS a b){k:Nat}{o:Obj}(ho:a.heap[k]?=some o)(hn:∀cs t fz,o≠.cells cs t fz):b.heap[k]?=some o:=by
 have hk:k<a.heap.size:=by
  rcases Nat.lt_or_ge k a.heap.size with h|h
  · exact h
  · rw[Array.getElem?_eq_none h]at ho;cases ho
 rw[h.block k hk (.inr fun cs t fz e=>by rw[ho]at e;injection e with e;exact absurd e (hn cs t fz)),ho]
theorem Fr.own (h:Fr B TS a b){B2 k n e:Nat}{v:Value}{xs:List Value}(ho:a.ownsRow B2 e k v n xs)(ht:e∉TS):b.ownsRow B2 e k v n xs:=by
 refine⟨ho.1,?_⟩;rcases ho.2 with h1|⟨g,cap,cur,rfl,hb,hg,r⟩
 · exact .inl h1
 · refine .inr ⟨g,cap,cur,rfl,hb,?_,r⟩;have hlt:g<a.heap.size:=by
    rcases Nat.lt_or_ge g a.heap.size with h|h
    · exact h
    · rw[Array.getElem?_eq_none h]at hg;cases hg
   exact(h.block g hlt (.inr fun _ _ _ e=>by rw[hg]at e;injection e with e;injection e with _ e2 _;subst e2;exact ht)).trans hg
end
section
variable {w:World} {A:Option Addr} {n c:Nat} {l:List FnV} {pages most:Int}
theorem vf_ (h:Fnr w A n c l)(name:Int):Calls Tryz.prog 50 #[yH_ pages most A n c,.int .i32 name] w (jv_ (yY_ l name) w):=by
 unfold yH_;have hmax:=h.max;have H:=hQ_ h;have HL:=hQ_ h.len;have HI:=hQ_ (show xF_ name l 0=xF_ name (l.drop 0) 0 from rfl);have HN:=hQ_ (show yY_ l name=match xF_ name l 0 with|some k=>(k:Int)|none=>-1 from rfl);generalize yY_ l name=fi at HN⊢;clear h;go_enter Tryz.func50,Tryz.ntmps50;go_upto_region 1 with fail;have hN:=zb_.new w 25 [.int .i64 pages,.int .i64 most,.slice A n c];have hal:Chg [] w (w.alloc (.cells #[.int .i64 pages,.int .i64 most,.slice A n c] 25)):=(Chg.refl [] w).alloc _;have c2:=hN.cell 2;have HC:=hQ_ hal;have HF:=hQ_ (H.o.keep hal);obtain⟨g,hg⟩:∃g,g=w.heap.size:=⟨_,rfl⟩;rw[<-hg]at c2⊢;generalize w.alloc (.cells #[.int .i64 pages,.int .i64 most,.slice A n c] 25)=w1 at c2 HC HF⊢;clear hN hal hg;go_wp2_with fail;go_loopw [10] (fun i wr=>∃k:Nat,i=.int .i64 (k:Int)/\k<=n/\Hid (xF_ name l 0=xF_ name (l.drop k) k)/\Hid (Chg [] w1 wr)) (fun i _=>n-(intOf i).toNat);case atStart=>exact⟨0,rfl,by omega,HI,hQ_ (Chg.refl [] _)⟩
 case round =>
  obtain⟨k,rfl,hk,HK,HCr⟩:=hrel;by_cases hkn:k<n
  · have hkI:(k:Int)<(n:Int):=(by omega);obtain⟨t,htk⟩:∃t,l[k]?=some t:=⟨l[k]'(by rw[HF.o.len];exact hkn),by simp⟩;have HD:=hQ_ (show l.drop k=t::l.drop (k+1) from List.drop_eq_getElem?_toList_append.trans (by rw[htk];rfl));obtain⟨fb,fo,rfl,hfbl,e0,e1,e2⟩:=(HF.o.keep HCr.o).cell htk;obtain⟨tn,ta,tc⟩:=t;simp only at e0 e1 e2;clear htk;go_upto_region 4 with fail;have hX:=zb_.new wr 44 [.int .i32 tn,.int .i64 ta,.string tc];have x0:=hX.cell 0;have HC2:=hQ_ (HCr.o.new ((Chg.refl [] wr).alloc (.cells #[.int .i32 tn,.int .i64 ta,.string tc] 44)));generalize wr.heap.size=gx at x0⊢;generalize wr.alloc (.cells #[.int .i32 tn,.int .i64 ta,.string tc] 44)=w3 at x0 HC2⊢;clear hX e0 e1 e2 hfbl HCr;by_cases hnm:tn=name
    · have hq:(tn==name)=true:=(by simpa using hnm);have HP:=hQ_ (show jv_ fi w (.returned (.int .i64 (k:Int))) w3 from⟨by rw[HN.o,HK.o,HD.o,xF_,if_pos hnm],HC.o.new HC2.o⟩);clear hnm;go_wp2_with fail;go_ret;exact HP.o
    · have hq:(tn==name)=false:=(by simpa using hnm);have HK2:=hQ_ (show xF_ name l 0=xF_ name (l.drop (k+1)) (k+1) from by rw[HK.o,HD.o,xF_,if_neg hnm]);go_wp2_with fail;go_roundw;(case rel=>exact⟨k+1,by go_num,by omega,HK2,HC2⟩);case measure=>simp[intOf];omega
  · have hkI:(n:Int)<=(k:Int):=(by omega);have HP:=hQ_ (show jv_ fi w (.returned (.int .i64 (-1))) wr from⟨by rw[HN.o,HK.o,List.drop_eq_nil_of_le (by rw[HL.o];omega)];rfl,HC.o.new HCr.o⟩);go_wp2_with fail;go_ret;exact HP.o
theorem zfO (h:Fnr w A n c l)(name:Int):Calls Tryz.prog 165 #[yH_ pages most A n c,.int .i32 name] w (zo_ (vG_ l name) w):=by
 unfold yH_;have hmax:=h.max;have H:=hQ_ h;clear h;go_enter Tryz.func165,Tryz.ntmps165;go_upto_region 1 with fail;have hN:=zb_.new w 25 [.int .i64 pages,.int .i64 most,.slice A n c];have hal:Chg [] w (w.alloc (.cells #[.int .i64 pages,.int .i64 most,.slice A n c] 25)):=(Chg.refl [] w).alloc _;obtain⟨g,hg⟩:∃g,g=w.heap.size:=⟨_,rfl⟩;rw[<-hg]at hN⊢;have HU:=hQ_ hN;have HC:=hQ_ hal;have HF:=hQ_ (H.o.keep hal);generalize w.alloc (.cells #[.int .i64 pages,.int .i64 most,.slice A n c] 25)=w1 at HU HC HF⊢;clear hN hal hg;have c0:=HU.o.cell 0;have c1:=HU.o.cell 1;have c2:=HU.o.cell 2;go_wp2_with fail;refine(vf_ HF.o name).mono ?_;rintro e w2 ⟨rfl,hc2⟩;have HU2:=hQ_ (HU.o.keep hc2);have HF2:=hQ_ (HF.o.keep hc2);have HC2:=hQ_ (HC.o.new hc2);clear hc2 c0 c1 c2;have c2:=HU2.o.cell 2;cases hk:xF_ name l 0 with
 | none =>
   have HP:=hQ_ (show zo_ (vG_ l name) w (.returned (.tuple #[.int .i64 ((0:Nat):Int),.int .i64 ((0:Nat):Int),.bool false])) w2 from zt_ 0 0 false (by unfold vG_;rw[hk];rfl) HC2.o);rw[show yY_ l name=-1 from by unfold yY_;rw[hk]];clear hk;go_wp2_with fail;go_ret3;exact HP.o
 | some k =>
   rw[show yY_ l name=(k:Int) from by unfold yY_;rw[hk]];obtain⟨f,_,hf,hfn⟩:=zdN hk;rw[Nat.sub_zero]at hf;have hkn:k<n:=(by have:=(List.getElem?_eq_some_iff.1 hf).1;have:=HF2.o.len;omega);have hkI:(k:Int)<(n:Int):=(by omega);have hk0:¬(k:Int)<0:=(by omega);have hk0d:decide ((k:Int)<0)=false:=(by simp);obtain⟨fb,fo,rfl,hfbl,e0,e1,e2⟩:=HF2.o.cell hf;obtain⟨fn,fa,fc⟩:=f;simp only at e0 e1 e2;have HCA:=hQ_ (show vG_ l name=if 0<=fa/\fa<=4 then (fa,1,true) else (0,0,false) from by unfold vG_;rw[hk];simp only;rw[hf]);clear hk hf hfn e0 e2;by_cases h0:0<=fa
   · by_cases h4:fa<=4
     · obtain⟨a,rfl⟩:∃a:Nat,fa=(a:Int):=⟨fa.toNat,by omega⟩;have d0:decide ((a:Int)<0)=false:=(by simp);have d4:decide (4<(a:Int))=false:=(by simp;omega);have HP:=hQ_ (show zo_ (vG_ l name) w (.returned (.tuple #[.int .i64 ((a:Nat):Int),.int .i64 ((1:Nat):Int),.bool true])) w2 from zt_ a 1 true (by rw[HCA.o,if_pos ⟨h0,h4⟩];rfl) HC2.o);clear h0;go_wp2_with fail;go_ret3;exact HP.o
     · have d0:decide (fa<0)=false:=(by simp;omega);have d4:decide (4<fa)=true:=(by simp;omega);have h4':4<fa:=(by omega);have HP:=hQ_ (show zo_ (vG_ l name) w (.returned (.tuple #[.int .i64 ((0:Nat):Int),.int .i64 ((0:Nat):Int),.bool false])) w2 from zt_ 0 0 false (by rw[HCA.o,if_neg (fun h=>h4 h.2)];rfl) HC2.o);clear h4;go_wp2_with fail;go_ret3;exact HP.o
   · have d0:decide (fa<0)=true:=(by simp;omega);have h0':fa<0:=(by omega);have HP:=hQ_ (show zo_ (vG_ l name) w (.returned (.tuple #[.int .i64 ((0:Nat):Int),.int .i64 ((0:Nat):Int),.bool false])) w2 from zt_ 0 0 false (by rw[HCA.o,if_neg (fun h=>h0 h.1)];rfl) HC2.o);clear h0;go_wp2_with fail;go_ret3;exact HP.o
theorem zcr {l:List Nat}{r:Int}(h:∀x∈l,r≠(x:Int)):inL l r=false:=by
 unfold inL;rw[Bool.eq_false_iff];intro ht;obtain⟨x,hx,e⟩:=List.any_eq_true.1 ht;exact h x hx (by have:=of_decide_eq_true e;exact this.symm)
theorem zfP (h:Fnr w A n c l)(t:TkV):Calls Tryz.prog 140 #[yH_ pages most A n c,.agg (tkC t).toArray] w (zo_ (xd_ l t.sign t.name) w):=by
 unfold yH_;obtain⟨r,tn,nm⟩:=t;simp only[tkC];have H:=hQ_ h;clear h;obtain⟨R,hR⟩:∃R,R=xd_ l r nm:=⟨_,rfl⟩;rw[<-hR];have HR:=hQ_ hR;clear hR;go_enter Tryz.func140,Tryz.ntmps140;go_upto_region 1 with fail;have hN:=zb_.new w 25 [.int .i64 pages,.int .i64 most,.slice A n c];have hal:Chg [] w (w.alloc (.cells #[.int .i64 pages,.int .i64 most,.slice A n c] 25)):=(Chg.refl [] w).alloc _;have hsz:(w.alloc (.cells #[.int .i64 pages,.int .i64 most,.slice A n c] 25)).heap.size=w.heap.size+1:=Array.size_push _;obtain⟨w1,hw1⟩:∃w1,w1=w.alloc (.cells #[.int .i64 pages,.int .i64 most,.slice A n c] 25):=⟨_,rfl⟩;rw[<-hw1]at hN hal hsz⊢;have hN2:=zb_.new w1 132 [.int .i32 r,.int .i64 tn,.int .i32 nm];have hal2:Chg [] w1 (w1.alloc (.cells #[.int .i32 r,.int .i64 tn,.int .i32 nm] 132)):=(Chg.refl [] w1).alloc _;rw[hsz]at hN2;have hU2:=hN.keep hal2;have hc:=hal.trans hal2;generalize w1.alloc (.cells #[.int .i32 r,.int .i64 tn,.int .i32 nm] 132)=w2 at hN2 hU2 hc⊢;have HF2:=hQ_ (H.o.keep hc);generalize w.heap.size=g at hU2 hN2⊢;have HU2:=hQ_ hU2;have HT2:=hQ_ hN2;have HC2:=hQ_ hc;clear hN hal hsz hw1 hN2 hal2 hU2 hc;have t0:=HT2.o.cell 0;have t2:=HT2.o.cell 2;have u0:=HU2.o.cell 0;have u1:=HU2.o.cell 1;have u2:=HU2.o.cell 2;go_upto_region 2 with fail;by_cases h33:r=33
 · subst h33;have HP:=hQ_ (show zo_ R w (.returned (.tuple #[.int .i64 ((1:Nat):Int),.int .i64 ((1:Nat):Int),.bool true])) w2 from zt_ 1 1 true (by rw[HR.o];rfl) HC2.o);go_wp2_with fail;go_ret3;exact HP.o
 have q33:(r==33)=false:=by simpa using h33
 by_cases h35:r=35
 · subst h35;have HP:=hQ_ (show zo_ R w (.returned (.tuple #[.int .i64 ((0:Nat):Int),.int .i64 ((1:Nat):Int),.bool true])) w2 from zt_ 0 1 true (by rw[HR.o];rfl) HC2.o);go_wp2_with fail;go_ret3;exact HP.o
 have q35:(r==35)=false:=by simpa using h35
 by_cases h36:r=36
 · subst h36;have HP:=hQ_ (show zo_ R w (.returned (.tuple #[.int .i64 ((2:Nat):Int),.int .i64 ((0:Nat):Int),.bool true])) w2 from zt_ 2 0 true (by rw[HR.o];rfl) HC2.o);go_wp2_with fail;go_ret3;exact HP.o
 have q36:(r==36)=false:=by simpa using h36
 by_cases h37:r=37
 · subst h37;have HP:=hQ_ (show zo_ R w (.returned (.tuple #[.int .i64 ((2:Nat):Int),.int .i64 ((1:Nat):Int),.bool true])) w2 from zt_ 2 1 true (by rw[HR.o];rfl) HC2.o);go_wp2_with fail;go_ret3;exact HP.o
 have q37:(r==37)=false:=by simpa using h37
 by_cases h38:r=38
 · subst h38;have HP:=hQ_ (show zo_ R w (.returned (.tuple #[.int .i64 ((2:Nat):Int),.int .i64 ((1:Nat):Int),.bool true])) w2 from zt_ 2 1 true (by rw[HR.o];rfl) HC2.o);go_wp2_with fail;go_ret3;exact HP.o
 have q38:(r==38)=false:=by simpa using h38
 by_cases h42:r=42
 · subst h42;have HP:=hQ_ (show zo_ R w (.returned (.tuple #[.int .i64 ((2:Nat):Int),.int .i64 ((1:Nat):Int),.bool true])) w2 from zt_ 2 1 true (by rw[HR.o];rfl) HC2.o);go_wp2_with fail;go_ret3;exact HP.o
 have q42:(r==42)=false:=by simpa using h42
 by_cases h43:r=43
 · subst h43;have HP:=hQ_ (show zo_ R w (.returned (.tuple #[.int .i64 ((2:Nat):Int),.int .i64 ((1:Nat):Int),.bool true])) w2 from zt_ 2 1 true (by rw[HR.o];rfl) HC2.o);go_wp2_with fail;go_ret3;exact HP.o
 have q43:(r==43)=false:=by simpa using h43
 by_cases h44:r=44
 · subst h44;have HP:=hQ_ (show zo_ R w (.returned (.tuple #[.int .i64 ((1:Nat):Int),.int .i64 ((0:Nat):Int),.bool true])) w2 from zt_ 1 0 true (by rw[HR.o];rfl) HC2.o);go_wp2_with fail;go_ret3;exact HP.o
 have q44:(r==44)=false:=by simpa using h44
 by_cases h45:r=45
 · subst h45;have HP:=hQ_ (show zo_ R w (.returned (.tuple #[.int .i64 ((2:Nat):Int),.int .i64 ((1:Nat):Int),.bool true])) w2 from zt_ 2 1 true (by rw[HR.o];rfl) HC2.o);go_wp2_with fail;go_ret3;exact HP.o
 have q45:(r==45)=false:=by simpa using h45
 by_cases h46:r=46
 · subst h46;have HP:=hQ_ (show zo_ R w (.returned (.tuple #[.int .i64 ((1:Nat):Int),.int .i64 ((2:Nat):Int),.bool true])) w2 from zt_ 1 2 true (by rw[HR.o];rfl) HC2.o);go_wp2_with fail;go_ret3;exact HP.o
 have q46:(r==46)=false:=by simpa using h46
 by_cases h47:r=47
 · subst h47;have HP:=hQ_ (show zo_ R w (.returned (.tuple #[.int .i64 ((2:Nat):Int),.int .i64 ((1:Nat):Int),.bool true])) w2 from zt_ 2 1 true (by rw[HR.o];rfl) HC2.o);go_wp2_with fail;go_ret3;exact HP.o
 have q47:(r==47)=false:=by simpa using h47
 by_cases h48:r=48
 · subst h48;have HP:=hQ_ (show zo_ R w (.returned (.tuple #[.int .i64 ((0:Nat):Int),.int .i64 ((1:Nat):Int),.bool true])) w2 from zt_ 0 1 true (by rw[HR.o];rfl) HC2.o);go_wp2_with fail;go_ret3;exact HP.o
 have q48:(r==48)=false:=by simpa using h48
 by_cases h58:r=58
 · subst h58;have HP:=hQ_ (show zo_ R w (.returned (.tuple #[.int .i64 ((0:Nat):Int),.int .i64 ((0:Nat):Int),.bool true])) w2 from zt_ 0 0 true (by rw[HR.o];rfl) HC2.o);go_wp2_with fail;go_ret3;exact HP.o
 have q58:(r==58)=false:=by simpa using h58
 by_cases h59:r=59
 · subst h59;have HP:=hQ_ (show zo_ R w (.returned (.tuple #[.int .i64 ((0:Nat):Int),.int .i64 ((0:Nat):Int),.bool true])) w2 from zt_ 0 0 true (by rw[HR.o];rfl) HC2.o);go_wp2_with fail;go_ret3;exact HP.o
 have q59:(r==59)=false:=by simpa using h59
 by_cases h60:r=60
 · subst h60;have HP:=hQ_ (show zo_ R w (.returned (.tuple #[.int .i64 ((2:Nat):Int),.int .i64 ((1:Nat):Int),.bool true])) w2 from zt_ 2 1 true (by rw[HR.o];rfl) HC2.o);go_wp2_with fail;go_ret3;exact HP.o
 have q60:(r==60)=false:=by simpa using h60
 by_cases h61:r=61
 · subst h61;have HP:=hQ_ (show zo_ R w (.returned (.tuple #[.int .i64 ((2:Nat):Int),.int .i64 ((1:Nat):Int),.bool true])) w2 from zt_ 2 1 true (by rw[HR.o];rfl) HC2.o);go_wp2_with fail;go_ret3;exact HP.o
 have q61:(r==61)=false:=by simpa using h61
 by_cases h63:r=63
 · subst h63;have HP:=hQ_ (show zo_ R w (.returned (.tuple #[.int .i64 ((1:Nat):Int),.int .i64 ((0:Nat):Int),.bool true])) w2 from zt_ 1 0 true (by rw[HR.o];rfl) HC2.o);go_wp2_with fail;go_ret3;exact HP.o
 have q63:(r==63)=false:=by simpa using h63
 by_cases h64:r=64
 · subst h64;have HP:=hQ_ (show zo_ R w (.returned (.tuple #[.int .i64 ((1:Nat):Int),.int .i64 ((1:Nat):Int),.bool true])) w2 from zt_ 1 1 true (by rw[HR.o];rfl) HC2.o);go_wp2_with fail;go_ret3;exact HP.o
 have q64:(r==64)=false:=by simpa using h64
 by_cases h91:r=91
 · subst h91;have HP:=hQ_ (show zo_ R w (.returned (.tuple #[.int .i64 ((0:Nat):Int),.int .i64 ((0:Nat):Int),.bool true])) w2 from zt_ 0 0 true (by rw[HR.o];rfl) HC2.o);go_wp2_with fail;go_ret3;exact HP.o
 have q91:(r==91)=false:=by simpa using h91
 by_cases h93:r=93
 · subst h93;have HP:=hQ_ (show zo_ R w (.returned (.tuple #[.int .i64 ((0:Nat):Int),.int .i64 ((0:Nat):Int),.bool true])) w2 from zt_ 0 0 true (by rw[HR.o];rfl) HC2.o);go_wp2_with fail;go_ret3;exact HP.o
 have q93:(r==93)=false:=by simpa using h93
 by_cases h94:r=94
 · subst h94;have HP:=hQ_ (show zo_ R w (.returned (.tuple #[.int .i64 ((2:Nat):Int),.int .i64 ((1:Nat):Int),.bool true])) w2 from zt_ 2 1 true (by rw[HR.o];rfl) HC2.o);go_wp2_with fail;go_ret3;exact HP.o
 have q94:(r==94)=false:=by simpa using h94
 by_cases h124:r=124
 · subst h124;have HP:=hQ_ (show zo_ R w (.returned (.tuple #[.int .i64 ((2:Nat):Int),.int .i64 ((1:Nat):Int),.bool true])) w2 from zt_ 2 1 true (by rw[HR.o];rfl) HC2.o);go_wp2_with fail;go_ret3;exact HP.o
 have q124:(r==124)=false:=by simpa using h124
 by_cases h126:r=126
 · subst h126;have HP:=hQ_ (show zo_ R w (.returned (.tuple #[.int .i64 ((0:Nat):Int),.int .i64 ((0:Nat):Int),.bool true])) w2 from zt_ 0 0 true (by rw[HR.o];rfl) HC2.o);go_wp2_with fail;go_ret3;exact HP.o
 have q126:(r==126)=false:=by simpa using h126
 by_cases h161:r=161
 · subst h161;have HP:=hQ_ (show zo_ R w (.returned (.tuple #[.int .i64 ((0:Nat):Int),.int .i64 ((0:Nat):Int),.bool true])) w2 from zt_ 0 0 true (by rw[HR.o];rfl) HC2.o);go_wp2_with fail;go_ret3;exact HP.o
 have q161:(r==161)=false:=by simpa using h161
 by_cases h164:r=164
 · subst h164;have HP:=hQ_ (show zo_ R w (.returned (.tuple #[.int .i64 ((1:Nat):Int),.int .i64 ((1:Nat):Int),.bool true])) w2 from zt_ 1 1 true (by rw[HR.o];rfl) HC2.o);go_wp2_with fail;go_ret3;exact HP.o
 have q164:(r==164)=false:=by simpa using h164
 by_cases h169:r=169
 · subst h169;have HP:=hQ_ (show zo_ R w (.returned (.tuple #[.int .i64 ((1:Nat):Int),.int .i64 ((1:Nat):Int),.bool true])) w2 from zt_ 1 1 true (by rw[HR.o];rfl) HC2.o);go_wp2_with fail;go_ret3;exact HP.o
 have q169:(r==169)=false:=by simpa using h169
 by_cases h171:r=171
 · subst h171;have HP:=hQ_ (show zo_ R w (.returned (.tuple #[.int .i64 ((2:Nat):Int),.int .i64 ((1:Nat):Int),.bool true])) w2 from zt_ 2 1 true (by rw[HR.o];rfl) HC2.o);go_wp2_with fail;go_ret3;exact HP.o
 have q171:(r==171)=false:=by simpa using h171
 by_cases h174:r=174
 · subst h174;have HP:=hQ_ (show zo_ R w (.returned (.tuple #[.int .i64 ((2:Nat):Int),.int .i64 ((0:Nat):Int),.bool true])) w2 from zt_ 2 0 true (by rw[HR.o];rfl) HC2.o);go_wp2_with fail;go_ret3;exact HP.o
 have q174:(r==174)=false:=by simpa using h174
 by_cases h187:r=187
 · subst h187;have HP:=hQ_ (show zo_ R w (.returned (.tuple #[.int .i64 ((2:Nat):Int),.int .i64 ((1:Nat):Int),.bool true])) w2 from zt_ 2 1 true (by rw[HR.o];rfl) HC2.o);go_wp2_with fail;go_ret3;exact HP.o
 have q187:(r==187)=false:=by simpa using h187
 by_cases h960:r=960
 · subst h960;have HP:=hQ_ (show zo_ R w (.returned (.tuple #[.int .i64 ((1:Nat):Int),.int .i64 ((1:Nat):Int),.bool true])) w2 from zt_ 1 1 true (by rw[HR.o];rfl) HC2.o);go_wp2_with fail;go_ret3;exact HP.o
 have q960:(r==960)=false:=by simpa using h960
 by_cases h955:r=955
 · subst h955;have HE:=hQ_ (show R=vG_ l nm from by rw[HR.o];rfl);go_wp2_with fail;refine(zfO HF2.o nm).mono ?_;rw[<-HE.o];obtain⟨a,b,ok⟩:=R;rintro e w3 ⟨rfl,hc3⟩;have HP:=hQ_ (show zo_ (a,b,ok) w (.returned (.tuple #[.int .i64 a,.int .i64 b,.bool ok])) w3 from⟨rfl,HC2.o.new hc3⟩);clear hc3;go_wp2_with fail;go_ret3;exact HP.o
 have q955:(r==955)=false:=by simpa using h955
 have hb:inL binL r=false:=zcr (by intro x hx;simp[binL]at hx;omega);have hu:inL unL r=false:=zcr (by intro x hx;simp[unL]at hx;omega);have hz:inL zeL r=false:=zcr (by intro x hx;simp[zeL]at hx;omega);have HE:=hQ_ (show R=if 97<=r/\r<=122 then (0,1,true) else if 65<=r/\r<=90 then (1,0,true) else (0,0,false) from by
  rw[HR.o];unfold xd_;rw[hb,hu,hz];by_cases c1:97<=r/\r<=122
  · rw[if_pos (.inl (.inr c1)),if_pos c1]
  · rw[if_neg (by omega),if_neg c1];by_cases c2:65<=r/\r<=90
    · rw[if_pos (.inl c2),if_pos c2]
    · rw[if_neg (by omega),if_neg c2,if_neg (by omega),if_neg (by decide),if_neg (by decide),if_neg (by omega),if_neg (by omega),if_neg (by decide),if_neg (by omega)]);clear hb hu hz;clear h33 h35 h36 h37 h38 h42 h43 h44 h45 h46 h47 h48 h58 h59 h60 h61 h63 h64 h91 h93 h94 h124 h126 h161 h164 h169 h171 h174 h187 h960 h955;by_cases a1:97<=r
 · have d1:decide (97<=r)=true:=(by simpa using a1);by_cases a2:r<=122
   · have d2:decide (r<=122)=true:=(by simpa using a2);have HP:=hQ_ (show zo_ R w (.returned (.tuple #[.int .i64 ((0:Nat):Int),.int .i64 ((1:Nat):Int),.bool true])) w2 from zt_ 0 1 true (by rw[HE.o,if_pos ⟨a1,a2⟩];rfl) HC2.o);go_wp2_with fail;go_ret3;exact HP.o
   · have d2:decide (r<=122)=false:=(by simpa using a2);have d3:decide (65<=r)=true:=(by simp;omega);have d4:decide (r<=90)=false:=(by simp;omega);have HP:=hQ_ (show zo_ R w (.returned (.tuple #[.int .i64 ((0:Nat):Int),.int .i64 ((0:Nat):Int),.bool false])) w2 from zt_ 0 0 false (by rw[HE.o,if_neg (by omega),if_neg (by omega)];rfl) HC2.o);go_wp2_with fail;go_ret3;exact HP.o
 · have d1:decide (97<=r)=false:=(by simpa using a1);by_cases a3:65<=r
   · have d3:decide (65<=r)=true:=(by simpa using a3);by_cases a4:r<=90
     · have d4:decide (r<=90)=true:=(by simpa using a4);have HP:=hQ_ (show zo_ R w (.returned (.tuple #[.int .i64 ((1:Nat):Int),.int .i64 ((0:Nat):Int),.bool true])) w2 from zt_ 1 0 true (by rw[HE.o,if_neg (by omega),if_pos ⟨a3,a4⟩];rfl) HC2.o);go_wp2_with fail;go_ret3;exact HP.o
     · have d4:decide (r<=90)=false:=(by simpa using a4);have HP:=hQ_ (show zo_ R w (.returned (.tuple #[.int .i64 ((0:Nat):Int),.int .i64 ((0:Nat):Int),.bool false])) w2 from zt_ 0 0 false (by rw[HE.o,if_neg (by omega),if_neg (by omega)];rfl) HC2.o);go_wp2_with fail;go_ret3;exact HP.o
   · have d3:decide (65<=r)=false:=(by simpa using a3);have HP:=hQ_ (show zo_ R w (.returned (.tuple #[.int .i64 ((0:Nat):Int),.int .i64 ((0:Nat):Int),.bool false])) w2 from zt_ 0 0 false (by rw[HE.o,if_neg (by omega),if_neg (by omega)];rfl) HC2.o);go_wp2_with fail;go_ret3;exact HP.o
end
abbrev glT:List TypeId:=[132,130]
structure Gl (W:World) (g:Nat) (v:Value) (ys:List TkV) (ph:GPh):Prop where
  rec_:zb_ W g 130 [v,.bool (xl_ ph),.bool (waits ph)]
  own:W.ownsRow (g+1) 132 3 v (ys.length+(pend ph).length) (vB_ (ys++pend ph))
  few:ys.length<=1000
  big:∀m,ph=.num m->m<=9223372036854775807
def kR_ (W:World)(g:Nat)(o:Option (List TkV×GPh))(e:Ending)(w':World):Prop :=
 Fr g glT W w'/\((o=none/\e=.returned (.bool false))\/∃ys' ph' v',o=some (ys',ph')/\e=.returned (.bool true)/\Gl w' g v' ys' ph')
theorem zdq (ph:GPh):(pend ph).length<=1:=by cases ph<;>simp[pend]
section
variable {W W':World} {g:Nat} {v:Value} {ys:List TkV} {ph:GPh}
theorem Gl.keep (h:Gl W g v ys ph)(hc:Chg [] W W'):Gl W' g v ys ph:=⟨h.rec_.keep hc,ze_ h.own hc,h.few,h.big⟩
theorem Gl.away (h:Gl W g v ys ph):v.ownBlock≠some g:=fun e=>by have:=(h.own.lt g e).1;omega
theorem Gl.slice (h:Gl W g v ys ph):∃A n c,v=.slice A n c/\n=ys.length+(pend ph).length:=by
 obtain⟨A,c,e,_⟩:=zh_ h.own;exact⟨A,_,c,e,rfl⟩
theorem Gl.begin_ {W2:World}{v':Value}(h:Gl W g v ys .idle){W1:World}(hW1:W1=W.setCell ⟨g,1,none⟩ (.bool true))(hc:Chg [] W1 W2){w3:World}{n1:Nat}(hn1:n1=ys.length+1)(ho:w3.ownsRow (g+1) 132 3 v' n1 (vB_ ys++[.int .i32 48,.int .i64 0,.int .i32 0]))(hg:W2.grownBy w3 v.ownBlock) :
    Gl (w3.setCell ⟨g,0,none⟩ v') g v' ys (.num 0)/\Fr g glT W (w3.setCell ⟨g,0,none⟩ v'):=by
 subst hn1;have hr1:zb_ W1 g 130 [v,.bool true,.bool false]:=by subst hW1;have:=h.rec_.set_ 1 (.bool true);simpa[xl_,waits] using this
 have ho1:W1.ownsRow (g+1) 132 3 v ys.length (vB_ ys):=by subst hW1;have:=zG_ (p:=⟨g,1,none⟩) (u:=.bool true) h.own (fun e=>h.away e);simpa[pend] using this
 have hr3:=zn_ (hr1.keep hc) (ze_ ho1 hc) (by decide) hg;refine⟨⟨?_,?_,h.few,fun m e=>by injection e with e;omega⟩,?_⟩
 · have:=hr3.set_ 0 v';simpa[xl_,waits] using this
 · have:=zG_ (p:=⟨g,0,none⟩) (u:=v') ho (fun e=>by have:=(ho.lt g e).1;omega);simpa[pend,y2_,vB_,tkC] using this
 · subst hW1;exact((((Fr.refl g glT W).setw h.rec_ (Nat.le_refl _) (by simp[glT]) _).new hc).grown (ze_ ho1 hc) (Nat.le_succ g) (by simp[glT]) hg).setw hr3 (Nat.le_refl _) (by simp[glT]) _
theorem Gl.number {gr c m:Nat}(h:Gl W g (.slice (some ⟨gr,0,none⟩) (ys.length+1) c) ys (.num m))(m':Nat)(hm:m'<=9223372036854775807) :
    Gl (W.setCell ⟨gr,ys.length*3+1,none⟩ (.int .i64 (m':Int))) g (.slice (some ⟨gr,0,none⟩) (ys.length+1) c) ys (.num m')/\Fr g glT W (W.setCell ⟨gr,ys.length*3+1,none⟩ (.int .i64 (m':Int))):=by
 have hgr:=(h.own.lt gr rfl).1;refine⟨⟨h.rec_.far (by simp only;omega) _,?_,h.few,fun m e=>by injection e with e;omega⟩,(Fr.refl g glT W).seto h.own (Nat.le_succ g) (by simp[glT]) _⟩;have h2:=v7_ (j:=ys.length*3+1) (u:=.int .i64 (m':Int)) h.own;have e:(vB_ (ys++pend (.num m))).set (ys.length*3+1) (.int .i64 (m':Int))=vB_ (ys++pend (.num m')):=by
  rw[y2_,y2_,List.set_append_right _ _ (by rw[yE_];omega),yE_,show ys.length*3+1-ys.length*3=1 from by omega];rfl
 rw[e]at h2;exact h2
end
section
variable {W:World} {g:Nat} {v:Value} {ys:List TkV} {ph:GPh}
def zaK:GPh->Nat
  | .num m=>m
  | _=>0
theorem zfr (h:Gl W g v ys ph)(hw:waits ph=false)(x:Nat)(hx:x<=9)(hfew:ys.length<=900):Calls Tryz.prog 105 #[.pointer (some ⟨g,0,none⟩),.int .i64 (x:Int)] W (kR_ W g (yy_ ys (zaK ph) x)):=by
 obtain⟨i0,hi0,hz0,hz1,hz2⟩:=info_parts q2_;obtain⟨A,n,c,rfl,hn⟩:=h.slice;have H:=hQ_ h;have q0:=h.rec_.cell 0;have q1:=h.rec_.cell 1;have f0:=h.rec_.frozen 0;have f1:=h.rec_.frozen 1;have hnum:=h.big;have HN:=hQ_ hn;clear h hn;go_enter Tryz.func105,Tryz.ntmps105;go_upto_if 11 with fail;go_cut [] (fun wx=>∃v2,Hid (Gl wx g v2 ys (.num (zaK ph)))/\Hid (Fr g glT W wx));case first =>
  cases ph with
  | wait q=>cases hw
  | num m =>
    go_wp2_with fail;go_meet;exact⟨_,H,hQ_ (Fr.refl _ _ _)⟩
  | idle =>
    go_upto_region 3 with fail;have hn:n=ys.length:=(by have:=HN.o;simpa[pend] using this);have hn9:n<=900:=(by omega);obtain⟨w1,hw1⟩:∃w1,w1=W.setCell ⟨g,1,none⟩ (.bool true):=⟨_,rfl⟩;have hr1:zb_ w1 g 130 [.slice A n c,.bool true,.bool false]:=(by subst hw1;have:=H.o.rec_.set_ 1 (.bool true);simpa[xl_,waits,pend] using this);have ho1:w1.ownsRow (g+1) 132 3 (.slice A n c) n (vB_ ys):=(by subst hw1;have:=zG_ (p:=⟨g,1,none⟩) (u:=.bool true) H.o.own (fun e=>H.o.away e);rw[<-HN.o]at this;simpa[pend] using this);rw[<-hw1];have hal:Chg [] w1 (w1.alloc (.cells #[.int .i32 48,.int .i64 0,.int .i32 0] 132)):=(Chg.refl [] w1).alloc _;have hsz:w1.heap.size=W.heap.size:=(by subst hw1;exact yu_ _ _ _);have hgz:=H.o.rec_.lt;have HW1:=hQ_ hw1;have HR1:=hQ_ hr1;have HO1:=hQ_ ho1;have HO2:=hQ_ (ze_ ho1 hal);have HR2:=hQ_ (hr1.keep hal);have HAL:=hQ_ hal;have c0:=hr1.cell 0;have c2:=HR2.o.cell 0;have HBZ:=hQ_ (show g+1<=(w1.alloc (.cells #[.int .i32 48,.int .i64 0,.int .i32 0] 132)).heap.size from by have:=hal.size;omega);have HNN:=hQ_ hn;clear hw1 hr1 ho1 hal hsz hgz q0 q1 f0 f1 hn;go_upto_region 4 with(
     at_builtin;refine wpList_append_own _ rfl (.tmp 19) (.tmp 21) _ rfl (g+1) 132 i0 _ 3 24 Tryz.underlying72 hi0 hz0 hz1 hz2 rfl (by decide) (.slice A n c) n (vB_ ys) rfl HO2.o ⟨w1.heap.size,0,none⟩ 1 1 [.int .i32 48,.int .i64 0,.int .i32 0] rfl rfl (zL_ _ _ _) (by simp[Value.oneCell']) (by simp only[maxLen];omega) (by omega) HBZ.o ?_;intro v' w3 ho3 hg3 _;have HO3:=hQ_ ho3;have HG3:=hQ_ hg3;have hr3:=zn_ HR2.o HO2.o (by decide) hg3;have c3:=hr3.cell 0;have f3:=hr3.frozen 0;obtain⟨A3,c3',rfl,_⟩:=zh_ ho3;clear ho3 hg3 hr3);obtain⟨hGl,hLow⟩:=H.o.begin_ HW1.o HAL.o (by have:=HNN.o;omega) HO3.o HG3.o;go_meet;exact⟨_,hQ_ hGl,hQ_ hLow⟩
 case rest =>
  obtain⟨v2,HG,HL⟩:=hcut;obtain⟨w2,rfl⟩:∃w2:World,w2=wc:=⟨_,rfl⟩;obtain⟨m,hme⟩:∃m,m=zaK ph:=⟨_,rfl⟩;rw[<-hme]at HG;have HME:=hQ_ hme;clear hme;have hm:=HG.o.big m rfl;clear H HN q0 q1 f0 f1 hnum hw;obtain⟨A2,n2,c2,rfl,hn2⟩:=HG.o.slice;have hn2':n2=ys.length+1:=hn2;obtain⟨gr,hgr,y1⟩:=zv_ HG.o.own (j:=ys.length*3+1) (u:=.int .i64 (m:Int)) (by rw[<-hn2]) (by rw[y2_,List.getElem?_append_right (by rw[yE_];omega),yE_,show ys.length*3+1-ys.length*3=1 from by omega];rfl);subst hgr;have hown:=HG.o.own;rw[<-hn2]at hown;have fy1:=y0_ (j:=ys.length*3+1) hown;have r0:=HG.o.rec_.cell 0;clear hown hn2;obtain⟨k,hk⟩:∃k,k=ys.length:=⟨_,rfl⟩;rw[<-hk]at hn2' y1 fy1;have HK:=hQ_ hk;subst hn2';have hk9:k<=900:=by omega
  clear hk;by_cases hbig:(9223372036854775807-x)/10<m
  · have hbI:(9223372036854775807-(x:Int))/10<(m:Int):=(by omega);have hbd:decide ((9223372036854775807-(x:Int))/10<(m:Int))=true:=(by simpa using hbI);have HP:=hQ_ (show kR_ W g (yy_ ys (zaK ph) x) (.returned (.bool false)) w2 from⟨HL.o,.inl ⟨by rw[<-HME.o];unfold yy_;rw[if_pos hbig],rfl⟩⟩);clear hbig;go_wp2_with fail;go_ret;exact HP.o
  · have hbI:(m:Int)<=(9223372036854775807-(x:Int))/10:=(by omega);have hbd:decide ((9223372036854775807-(x:Int))/10<(m:Int))=false:=(by simp;omega);have hmx:(m:Int)*10+(x:Int)<=9223372036854775807:=(by omega);have HP:=hQ_ (show kR_ W g (yy_ ys (zaK ph) x) (.returned (.bool true)) (w2.setCell ⟨gr,k*3+1,none⟩ (.int .i64 ((m:Int)*10+(x:Int)))) from by
     have hG2:=HG.o;rw[HK.o]at hG2⊢;obtain⟨h1,h2⟩:=hG2.number (m*10+x) (by omega);rw[show((m*10+x:Nat):Int)=(m:Int)*10+(x:Int) from by omega]at h1 h2;exact⟨HL.o.trans h2,.inr ⟨ys,_,_,by rw[<-HME.o];unfold yy_;rw[if_neg hbig],rfl,h1⟩⟩);clear hbig;go_wp2_with fail;go_ret;exact HP.o
end
section
variable {W W':World} {g:Nat} {v:Value} {ys:List TkV} {ph:GPh}
theorem Gl.done_ (h:Gl W g v ys ph)(hw:waits ph=false)(hf:ys.length<=900):Gl (W.setCell ⟨g,1,none⟩ (.bool false)) g v (ys++pend ph) .idle/\Fr g glT W (W.setCell ⟨g,1,none⟩ (.bool false)):=by
 have hp:=zdq ph;refine⟨⟨?_,?_,by rw[List.length_append];omega,fun m e=>by cases e⟩,(Fr.refl g glT W).setw h.rec_ (Nat.le_refl _) (by simp[glT]) _⟩
 · have:=h.rec_.set_ 1 (.bool false);rw[hw]at this;exact this
 · have:=zG_ (p:=⟨g,1,none⟩) (u:=.bool false) h.own (fun e=>h.away e);rw[List.length_append];simpa[pend] using this
theorem Gl.more_ {W2 w3:World}{v':Value}{n1:Nat}{t:TkV}(h:Gl W g v ys .idle)(hc:Chg [] W W2)(hn1:n1=ys.length+1)(ho:w3.ownsRow (g+1) 132 3 v' n1 (vB_ ys++tkC t))(hg:W2.grownBy w3 v.ownBlock)(hf:ys.length<=950) :
    Gl (w3.setCell ⟨g,0,none⟩ v') g v' (ys++[t]) .idle/\Fr g glT W (w3.setCell ⟨g,0,none⟩ v'):=by
 subst hn1;have ho1:W.ownsRow (g+1) 132 3 v ys.length (vB_ ys):=by have:=h.own;simpa[pend] using this
 have hr3:=zn_ (h.rec_.keep hc) (ze_ ho1 hc) (by decide) hg;refine⟨⟨?_,?_,by rw[List.length_append];simp;omega,fun m e=>by cases e⟩,?_⟩
 · have:=hr3.set_ 0 v';simpa[xl_,waits] using this
 · have:=zG_ (p:=⟨g,0,none⟩) (u:=v') ho (fun e=>by have:=(ho.lt g e).1;omega);rw[List.append_assoc,y2_,show vB_ ([t]++pend .idle)=tkC t from by simp[pend,vB_],List.length_append];exact this
 · exact(((Fr.of_chg hc:Fr g glT W W2)).grown (ze_ ho1 hc) (Nat.le_succ g) (by simp[glT]) hg).setw hr3 (Nat.le_refl _) (by simp[glT]) _
theorem Gl.waits_ {q:Nat}(h:Gl W g v (ys++[⟨(q:Int),0,0⟩]) .idle):Gl (W.setCell ⟨g,2,none⟩ (.bool true)) g v ys (.wait q):=by
 refine⟨?_,?_,by have:=h.few;rw[List.length_append]at this;omega,fun m e=>by cases e⟩
 · have:=h.rec_.set_ 2 (.bool true);simpa[xl_,waits] using this
 · have:=zG_ (p:=⟨g,2,none⟩) (u:=.bool true) h.own (fun e=>h.away e);simpa[pend] using this
theorem Gl.not_ (h:Gl W g v ys .idle):Gl (W.setCell ⟨g,2,none⟩ (.bool false)) g v ys .idle:=by
 refine⟨?_,?_,h.few,fun m e=>by cases e⟩
 · have:=h.rec_.set_ 2 (.bool false);simpa[xl_,waits] using this
 · exact zG_ (p:=⟨g,2,none⟩) (u:=.bool false) h.own (fun e=>h.away e)
theorem Gl.name_ {gr c q:Nat}(h:Gl W g (.slice (some ⟨gr,0,none⟩) (ys.length+1) c) ys (.wait q)){W1:World}(hW:Chg [] (W.setCell ⟨g,2,none⟩ (.bool false)) W1)(r:Int)(hf:ys.length<=900) :
    Gl (W1.setCell ⟨gr,ys.length*3+2,none⟩ (.int .i32 r)) g (.slice (some ⟨gr,0,none⟩) (ys.length+1) c) (ys++[⟨(q:Int),0,r⟩]) .idle/\Fr g glT W (W1.setCell ⟨gr,ys.length*3+2,none⟩ (.int .i32 r)):=by
 have hgr:=(h.own.lt gr rfl).1;have h0:zb_ (W.setCell ⟨g,2,none⟩ (.bool false)) g 130 [.slice (some ⟨gr,0,none⟩) (ys.length+1) c,.bool false,.bool false]:=by have:=h.rec_.set_ 2 (.bool false);simpa[xl_,waits] using this
 have h1:=h0.keep hW;have h2:=ze_ (zG_ (p:=⟨g,2,none⟩) (u:=.bool false) h.own (fun e=>h.away e)) hW;have hL0:Fr g glT W (W.setCell ⟨g,2,none⟩ (.bool false)):=(Fr.refl g glT W).setw h.rec_ (Nat.le_refl _) (by simp[glT]) _;refine⟨⟨h1.far (by simp only;omega) _,?_,by rw[List.length_append];simp;omega,fun m e=>by cases e⟩,(hL0.new hW).seto h2 (Nat.le_succ g) (by simp[glT]) _⟩;have h3:=v7_ (j:=ys.length*3+2) (u:=.int .i32 r) h2;have e:(vB_ (ys++pend (.wait q))).set (ys.length*3+2) (.int .i32 r)=vB_ (ys++[⟨(q:Int),0,r⟩]++pend .idle):=by
  rw[y2_,y2_,y2_,List.set_append_right _ _ (by rw[yE_];omega),yE_,show ys.length*3+2-ys.length*3=2 from by omega];simp[pend,vB_,tkC]
 rw[e]at h3;have e2:(ys++[(⟨(q:Int),0,r⟩:TkV)]).length+(pend .idle).length=ys.length+(pend (.wait q)).length:=by simp[pend]
 rw[e2];exact h3
end
section
variable {W:World} {g:Nat} {v:Value} {ys:List TkV}
theorem zfo {q:Nat}(h:Gl W g v ys (.wait q))(r:Nat)(hfew:ys.length<=900):Calls Tryz.prog 63 #[.pointer (some ⟨g,0,none⟩),.int .i32 (r:Int)] W (kR_ W g (zO_ ys (.wait q) r)):=by
 obtain⟨A,n,c,rfl,hn⟩:=h.slice;have hn2:n=ys.length+1:=hn;obtain⟨gr,hgr,y2⟩:=zv_ h.own (j:=ys.length*3+2) (u:=.int .i32 0) (by rw[<-hn]) (by rw[y2_,List.getElem?_append_right (by rw[yE_];omega),yE_,show ys.length*3+2-ys.length*3=2 from by omega];rfl);subst hgr;have hown:=h.own;rw[<-hn]at hown;have fy2:=y0_ (j:=ys.length*3+2) hown;have hgr:=(hown.lt gr rfl).1;have r2:=h.rec_.cell 2;have f2:=h.rec_.frozen 2;clear hn hown;subst hn2;have H:=hQ_ h;clear h;obtain⟨k,hk⟩:∃k,k=ys.length:=⟨_,rfl⟩;have HK:=hQ_ hk;rw[<-hk]at y2 fy2 hfew r2;rw[<-hk]at H;have HNM:=hQ_ (fun (W1:World)(hW:Chg [] (W.setCell ⟨g,2,none⟩ (.bool false)) W1)=>show Gl (W1.setCell ⟨gr,k*3+2,none⟩ (.int .i32 (r:Int))) g (.slice (some ⟨gr,0,none⟩) (k+1) c) (ys++[⟨(q:Int),0,(r:Int)⟩]) .idle/\Fr g glT W (W1.setCell ⟨gr,k*3+2,none⟩ (.int .i32 (r:Int))) from by
  have h:=H.o;rw[hk]at h⊢;exact h.name_ hW (r:Int) (by omega));clear hk;go_enter Tryz.func63,Tryz.ntmps63;go_upto_region 3 with fail;have hr1:zb_ (W.setCell ⟨g,2,none⟩ (.bool false)) g 130 [.slice (some ⟨gr,0,none⟩) (k+1) c,.bool false,.bool false]:=by have:=H.o.rec_.set_ 2 (.bool false);simpa[xl_,waits] using this
 have z2:(W.setCell ⟨g,2,none⟩ (.bool false)).cell? ⟨gr,k*3+2,none⟩=some (.int .i32 0):=by rw[<-y2];exact World.cell?_of_block (w:=W) (Below.heap_setCell W _ _ _ (by simp only;omega))
 have fz2:(W.setCell ⟨g,2,none⟩ (.bool false)).frozen? ⟨gr,k*3+2,none⟩=false:=by rw[<-fy2];exact World.frozen?_of_block (w:=W) (Below.heap_setCell W _ _ _ (by simp only;omega))
 generalize W.setCell ⟨g,2,none⟩ (.bool false)=w1 at HNM hr1 z2 fz2⊢;have hdw:Chg [] (w1.setCell ⟨gr,k*3+2,none⟩ (.int .i32 (r:Int))) (w1.setCell ⟨gr,k*3+2,none⟩ (.int .i32 (r:Int))).drew:=(Chg.refl [] _).drew;have HG1:=hQ_ (And.intro ((HNM.o _ (Chg.refl [] w1)).1.keep hdw) ((HNM.o _ (Chg.refl [] w1)).2.new hdw));clear hdw;have hk1:IntKind.i64.wrap ((k:Int)+1-1)=(k:Int):=by rw[show(k:Int)+1-1=(k:Int) from by omega];exact IntWalk.i64_in _ (by omega)
 have hk2:IntKind.i64.wrap (k:Int)=(k:Int):=IntWalk.i64_in _ (by omega);have hk3:(k:Int).toNat=k:=Int.toNat_natCast _;have hk4:(0:Int)<=(k:Int):=by omega
 have hk5:(k:Int)<(k:Int)+1:=by omega
 have d0:w1.drew.cell? ⟨g,0,none⟩=some (.slice (some ⟨gr,0,none⟩) (k+1) c):=hr1.drew.cell 0;have c0:=hr1.cell 0;clear y2 fy2 r2 f2;go_still_tail 13,(by kernel_rfl);change wpList _ _ _ _ _ w1.drew;go_wp2_with fail;generalize (w1.setCell ⟨gr,k*3+2,none⟩ (.int .i32 (r:Int))).drew=w2 at HG1⊢;refine(u5_ (r:Int) _).mono ?_;rintro e w3 ⟨rfl,rfl⟩;have HP:=hQ_ (show kR_ W g (zO_ ys (.wait q) r) (.returned (.bool (yo_ (r:Int)))) w2 from⟨HG1.o.2,by
  cases hb:yo_ (r:Int) with
  | false=>exact .inl ⟨by rw[zO_,if_neg (by rw[hb];decide)],rfl⟩
  | true=>exact .inr ⟨_,_,_,by rw[zO_,if_pos hb],rfl,HG1.o.1⟩⟩);go_wp2_with fail;go_ret;exact HP.o
theorem zcx {ph:GPh}(h:Gl W g v ys ph)(hw:waits ph=false)(r:Nat)(hr:48<=r/\r<=57)(hfew:ys.length<=900):Calls Tryz.prog 63 #[.pointer (some ⟨g,0,none⟩),.int .i32 (r:Int)] W (kR_ W g (zO_ ys ph r)):=by
 have e:zO_ ys ph r=yy_ ys (zaK ph) (r-48):=by
  cases ph with
  | wait q=>cases hw
  | num m=>rw[zO_,if_pos hr];rfl
  | idle=>rw[zO_,if_pos hr];rfl
 rw[e];have hd:kc_ (r:Int)=true:=by unfold kc_;simp;omega
 have HD:=hQ_ hd;have HC:=hQ_ (zfr h hw (r-48) (by omega) hfew);rw[show((r-48:Nat):Int)=(r:Int)-48 from by omega]at HC;have r2:W.cell? ⟨g,2,none⟩=some (.bool false):=by have:=h.rec_.cell 2;rw[hw]at this;exact this
 obtain⟨hr1,hr2⟩:=hr;have hr1I:(48:Int)<=(r:Int):=by omega
 have hr2I:(r:Int)<=57:=by omega
 clear h hd e hw;go_enter Tryz.func63,Tryz.ntmps63;go_wp2_with fail;refine(zbo (r:Int) _).mono ?_;rw[HD.o];rintro e w3 ⟨rfl,rfl⟩;go_wp2_with fail;refine HC.o.mono ?_;rintro e w2 ⟨hl,hp⟩;rcases hp with⟨ho,rfl⟩|⟨ys',ph',v',ho,rfl,hG⟩
 · have HP:=hQ_ (show kR_ W g (yy_ ys (zaK ph) (r-48)) (.returned (.bool false)) w2 from⟨hl,.inl ⟨ho,rfl⟩⟩);clear ho hl;go_wp2_with fail;go_ret;exact HP.o
 · have HP:=hQ_ (show kR_ W g (yy_ ys (zaK ph) (r-48)) (.returned (.bool true)) w2 from⟨hl,.inr ⟨ys',ph',v',ho,rfl,hG⟩⟩);clear ho hl hG;go_wp2_with fail;go_ret;exact HP.o
theorem zcw {ph:GPh} (h:Gl W g v ys ph) (hw:waits ph=false) (r:Nat) (hr:¬(48<=r/\r<=57)) (hrm:r<=2147483647) (hfew:ys.length<=900):Calls Tryz.prog 63 #[.pointer (some ⟨g,0,none⟩),.int .i32 (r:Int)] W (kR_ W g (zO_ ys ph r)):=by
 obtain⟨i0,hi0,hz0,hz1,hz2⟩:=info_parts q2_;have e:zO_ ys ph r=ym_ (ys++pend ph) r:=by
  cases ph with
  | wait q=>cases hw
  | num m=>rw[zO_,if_neg hr];rfl
  | idle=>rw[zO_,if_neg hr,pend,List.append_nil]
 rw[e];have hd:kc_ (r:Int)=false:=by unfold kc_;simp;omega
 have HD:=hQ_ hd;have r2:W.cell? ⟨g,2,none⟩=some (.bool false):=by have:=h.rec_.cell 2;rw[hw]at this;exact this
 have r1:=h.rec_.cell 1;have f1:=h.rec_.frozen 1;have HG:=hQ_ (h.done_ hw hfew);have hbl:(ys++pend ph).length<=901:=by rw[List.length_append];have:=zdq ph;omega
 generalize ys++pend ph=bs at HG hbl⊢;clear h hd e hw hr hfew;go_enter Tryz.func63,Tryz.ntmps63;go_wp2_with fail;refine(zbo (r:Int) _).mono ?_;rw[HD.o];rintro e w3 ⟨rfl,rfl⟩;go_upto_region 8 with fail;generalize W.setCell ⟨g,1,none⟩ (.bool false)=w1 at HG⊢;clear r1 r2 f1;by_cases h32:r=32
 · subst h32;have HP:=hQ_ (show kR_ W g (ym_ bs 32) (.returned (.bool true)) w1 from⟨HG.o.2,.inr ⟨bs,.idle,v,rfl,rfl,HG.o.1⟩⟩);go_wp2_with fail;go_ret;exact HP.o
 · have q32:((r:Int)==32)=false:=(by simp;omega);obtain⟨A,n,c,rfl,hn⟩:=HG.o.1.slice;have hn2:n=bs.length:=(by simpa[pend] using hn);have c0:=HG.o.1.rec_.cell 0;have hal:Chg [] w1 (w1.alloc (.cells #[.int .i32 (r:Int),.int .i64 0,.int .i32 0] 132)):=(Chg.refl [] w1).alloc _;have ho1:w1.ownsRow (g+1) 132 3 (.slice A n c) n (vB_ bs):=(by have:=HG.o.1.own;rw[<-hn]at this;simpa[pend] using this);have HO2:=hQ_ (ze_ ho1 hal);have HAL:=hQ_ hal;have HR2:=hQ_ (HG.o.1.rec_.keep hal);have HBZ:=hQ_ (show g+1<=(w1.alloc (.cells #[.int .i32 (r:Int),.int .i64 0,.int .i32 0] 132)).heap.size from by have:=hal.size;have:=HG.o.1.rec_.lt;omega);have HN:=hQ_ hn2;have hn9:n<=901:=(by omega);clear hn hn2 ho1 hal h32;go_upto_region 11 with(
    at_builtin;refine wpList_append_own _ rfl (.tmp 43) (.tmp 46) _ rfl (g+1) 132 i0 _ 3 24 Tryz.underlying72 hi0 hz0 hz1 hz2 rfl (by decide) (.slice A n c) n (vB_ bs) rfl HO2.o ⟨w1.heap.size,0,none⟩ 1 1 [.int .i32 (r:Int),.int .i64 0,.int .i32 0] rfl rfl (zL_ _ _ _) (by simp[Value.oneCell']) (by simp only[maxLen];omega) (by omega) HBZ.o ?_;intro v' w3 ho3 hg3 _;have HO3:=hQ_ ho3;have HG3:=hQ_ hg3;have hr3:=zn_ HR2.o HO2.o (by decide) hg3;have c3:=hr3.cell 0;have f3:=hr3.frozen 0;obtain⟨A3,c3',rfl,_⟩:=zh_ ho3;clear ho3 hg3 hr3);obtain⟨hm1,hm2⟩:=HG.o.1.more_ (t:=⟨(r:Int),0,0⟩) HAL.o (by have:=HN.o;omega) HO3.o HG3.o (by omega);have HM:=hQ_ hm1;have HL:=hQ_ (HG.o.2.trans hm2);generalize w3.setCell ⟨g,0,none⟩ (.slice A3 (n+1) c3')=w4 at HM HL⊢;clear hm1 hm2 c3 f3 c0 HO2 HO3 HG3 HAL HR2 HBZ;have s2:=HM.o.rec_.cell 2;have t2:=HM.o.rec_.frozen 2;go_wp2_with fail;refine(zaL (r:Int) _).mono ?_;rintro e w5 ⟨rfl,rfl⟩;cases hnm:yf_ (r:Int) with
   | true =>
     have hkn:yg_ (r:Int)=true:=by rcases(j1_ r).1 hnm with rfl|rfl<;>decide
     have HP:=hQ_ (fun (W':World)(hc:Chg [] (w4.setCell ⟨g,2,none⟩ (.bool true)) W')=>show kR_ W g (ym_ bs r) (.returned (.bool (yg_ (r:Int)))) W' from
       ⟨(HL.o.setw HM.o.rec_ (Nat.le_refl _) (by simp[glT]) _).new hc,.inr ⟨bs,.wait r,_,by unfold ym_;rw[if_neg (by intro e;subst e;revert hnm;decide),if_pos hkn,if_pos hnm],by rw[hkn],HM.o.waits_.keep hc⟩⟩);clear hnm hkn;go_wp2_with fail;refine(kG_ (r:Int) _).mono ?_;rintro e w6 ⟨rfl,hc6⟩;have HQ:=hQ_ (HP.o w6 hc6);clear hc6;go_wp2_with fail;go_ret;exact HQ.o
   | false =>
     have h32:¬r=32:=(by intro e;subst e;revert q32;decide);have HP:=hQ_ (fun (W':World)(hc:Chg [] (w4.setCell ⟨g,2,none⟩ (.bool false)) W')=>show kR_ W g (ym_ bs r) (.returned (.bool (yg_ (r:Int)))) W' from
       ⟨(HL.o.setw HM.o.rec_ (Nat.le_refl _) (by simp[glT]) _).new hc,by
        cases hkn:yg_ (r:Int) with
        | true=>exact .inr ⟨_,.idle,_,by unfold ym_;rw[if_neg h32,if_pos hkn,if_neg (by rw[hnm];decide)],rfl,HM.o.not_.keep hc⟩
        | false=>exact .inl ⟨by unfold ym_;rw[if_neg h32,if_neg (by rw[hkn];decide)],rfl⟩⟩);clear hnm h32;go_wp2_with fail;refine(kG_ (r:Int) _).mono ?_;rintro e w6 ⟨rfl,hc6⟩;have HQ:=hQ_ (HP.o w6 hc6);clear hc6;go_wp2_with fail;go_ret;exact HQ.o
theorem ziq {ph:GPh}(h:Gl W g v ys ph)(r:Nat)(hrm:r<=2147483647)(hfew:ys.length<=900):Calls Tryz.prog 63 #[.pointer (some ⟨g,0,none⟩),.int .i32 (r:Int)] W (kR_ W g (zO_ ys ph r)):=by
 cases hw:waits ph with
 | true =>
   cases ph with
   | wait q=>exact zfo h r hfew
   | num m=>cases hw
   | idle=>cases hw
 | false =>
   by_cases hr:48<=r/\r<=57
   · exact zcx h hw r hr hfew
   · exact zcw h hw r hr hrm hfew
end
def frT (B:Nat)(TS:List TypeId)(hard soft:List Nat):Turns:=⟨Chg [],Fr B TS,hard,soft⟩
theorem zpp {B:Nat}{TS:List TypeId}{hard soft:List Nat}:(frT B TS hard soft).Ok:=⟨Chg.refl [],fun _ _ h=>Fr.of_chg h,fun _ _ _ h k=>h.trans k⟩
theorem ziC {B:Nat}{TS:List TypeId}{hard soft:List Nat}{k:Nat}(hk:hard.contains k=true){W W':World}(h:Fr B TS W W'):(frT B TS hard soft).by_ k W W':=by
 unfold Turns.by_;rw[if_pos (show(frT B TS hard soft).hard.contains k=true from hk)];exact h
theorem znZ {a b:World}(h:Star (Chg []) a b):Chg [] a b:=h.fold (Chg.refl []) fun _ _ _ h k=>h.trans k
structure Fe (K:Nat->Prop) (TS:List TypeId) (a b:World):Prop where
  os:b.os=a.os
  tape:b.tape=a.tape
  output:b.output=a.output
  size:a.heap.size<=b.heap.size
  block:∀k,k<a.heap.size->(¬K k\/∀cs t fz,a.heap[k]?=some (.cells cs t fz)->t∉TS)->b.heap[k]?=a.heap[k]?
section
variable {K:Nat->Prop} {TS:List TypeId} {a b c:World}
theorem Fe.refl (K:Nat->Prop)(TS:List TypeId)(a:World):Fe K TS a a:=⟨rfl,rfl,rfl,Nat.le_refl _,fun _ _ _=>rfl⟩
theorem Fe.trans (h:Fe K TS a b)(k:Fe K TS b c):Fe K TS a c:=by
 refine⟨k.os.trans h.os,k.tape.trans h.tape,k.output.trans h.output,Nat.le_trans h.size k.size,fun i hi hc=>?_⟩;have h1:=h.block i hi hc;rw[<-h1];refine k.block i (Nat.lt_of_lt_of_le hi h.size) ?_;rw[h1];exact hc
theorem Fe.of_chg (h:Chg [] a b):Fe K TS a b:=⟨h.os,h.tape,h.output,h.size,fun k hk _=>h.block k hk (by simp)⟩
theorem Fe.of_chgT {T:List Nat}(h:Chg T a b)(hT:∀i∈T,K i/\∀cs t fz,a.heap[i]?=some (.cells cs t fz)->t∈TS)(hO:∀i∈T,∃cs t fz,a.heap[i]?=some (.cells cs t fz)):Fe K TS a b :=
 ⟨h.os,h.tape,h.output,h.size,fun k hk hc=>h.block k hk fun hm=>by
  obtain⟨h1,h2⟩:=hT k hm;obtain⟨cs,t,fz,h3⟩:=hO k hm;rcases hc with hc|hc
  · exact hc h1
  · exact hc cs t fz h3 (h2 cs t fz h3)⟩
theorem Fe.new (h:Fe K TS a b)(k:Chg [] b c):Fe K TS a c:=h.trans (Fe.of_chg k)
theorem Fe.sub {TS':List TypeId}(h:Fe K TS a b)(hT:∀t,t∈TS->t∈TS'):Fe K TS' a b :=
 ⟨h.os,h.tape,h.output,h.size,fun k hk hc=>h.block k hk (hc.imp id (fun h cs t fz e ht=>h cs t fz e (hT t ht)))⟩
theorem Fe.chg {T:List Nat}{B:Nat}(h:Fe (fun k=>B<=k\/k∈T) TS a b)(hB:a.heap.size<=B):Chg T a b:=⟨h.os,h.tape,h.output,h.size,fun k hk hn=>h.block k hk (.inl fun hc=>by
 rcases hc with hc|hc
 · omega
 · exact hn hc)⟩
theorem Fe.set (h:Fe K TS a b){p:Addr}(hp:K p.block){cs:Array Value}{t:TypeId}{fz:Nat×Nat}(hb:b.heap[p.block]?=some (.cells cs t fz))(ht:t∈TS)(u:Value):Fe K TS a (b.setCell p u):=by
 refine h.trans ⟨rfl,rfl,rfl,?_,fun k hk hc=>?_⟩
 · rw[yu_];exact Nat.le_refl _
 · refine Below.heap_setCell b p u k (fun e=>?_);subst e;rcases hc with h1|h1
   · exact h1 hp
   · exact h1 cs t fz hb ht
theorem Fe.setw (h:Fe K TS a b){g j t:Nat}{cs:List Value}(hW:zb_ b g t cs)(hp:K g)(ht:t∈TS)(u:Value):Fe K TS a (b.setCell ⟨g,j,none⟩ u):=h.set (p:=⟨g,j,none⟩) hp hW ht u
theorem Fe.seto (h:Fe K TS a b){g j B2 k n m e:Nat}{xs:List Value}{cap:Nat}(ho:b.ownsRow B2 e k (.slice (some ⟨g,0,none⟩) n cap) m xs)(hp:K g)(ht:e∈TS)(u:Value):Fe K TS a (b.setCell ⟨g,j,none⟩ u):=by
 rcases ho.2 with⟨e',_⟩|⟨g',cap',cur,e',hb,hg,_⟩
 · cases e'
 · injection e' with e1 _ _;injection e1 with e1;injection e1 with e1;subst e1;exact h.set (p:=⟨g,j,none⟩) hp hg ht u
theorem Fe.grown (h:Fe K TS a b){B2 k n e:Nat}{v:Value}{xs:List Value}(ho:b.ownsRow B2 e k v n xs)(hK:∀i,v.ownBlock=some i->K i)(ht:e∈TS)(hg:b.grownBy c v.ownBlock):Fe K TS a c:=by
 refine h.trans ⟨hg.os,hg.tape,hg.output,hg.size,fun i hi hc=>hg.block i hi (fun hr=>?_)⟩;rcases ho.2 with⟨rfl,_⟩|⟨g',cap',cur,rfl,hb,hgb,_⟩
 · simp[Value.ownBlock]at hr
 · simp[Value.ownBlock]at hr;subst hr;rcases hc with h1|h1
   · exact h1 (hK _ rfl)
   · exact h1 _ _ _ hgb ht
theorem Fe.whole (h:Fe K TS a b){g t:Nat}{cs:List Value}(hW:zb_ a g t cs)(ht:t∉TS):zb_ b g t cs :=
 (h.block g hW.lt (.inr fun _ _ _ e=>by rw[show a.heap[g]?=_ from hW]at e;injection e with e;injection e with _ e2 _;subst e2;exact ht)).trans hW
theorem Fe.own (h:Fe K TS a b){B2 k n e:Nat}{v:Value}{xs:List Value}(ho:a.ownsRow B2 e k v n xs)(ht:e∉TS):b.ownsRow B2 e k v n xs:=by
 refine⟨ho.1,?_⟩;rcases ho.2 with h1|⟨g,cap,cur,rfl,hb,hg,r⟩
 · exact .inl h1
 · refine .inr ⟨g,cap,cur,rfl,hb,?_,r⟩;have hlt:g<a.heap.size:=by
    rcases Nat.lt_or_ge g a.heap.size with h|h
    · exact h
    · rw[Array.getElem?_eq_none h]at hg;cases hg
   exact(h.block g hlt (.inr fun _ _ _ e=>by rw[hg]at e;injection e with e;injection e with _ e2 _;subst e2;exact ht)).trans hg
theorem Fe.mm (h:Fe K TS a b){p gC gD:Nat}{L:List UInt8}{X:List Value}{V:List Bool}{Y:List Value}{most:Nat}(hM:Mm a p gC gD L X V Y most)(h1:105∉TS)(h2:5∉TS)(h3:4∉TS):Mm b p gC gD L X V Y most :=
 ⟨h.whole hM.rec_ h1,h.whole hM.cel h2,h.whole hM.dir h3,hM.len,hM.le,hM.top,hM.capX,hM.capY⟩
end
theorem vg_ (w:World)(xs:List Value)(t:Nat):∀(j:Nat)(u:Value),xs[j]?=some u->(w.alloc (.cells xs.toArray t)).cell? ((⟨w.heap.size,0,none⟩:Addr).add j)=some u:=fun j u hj=>by
 rw[zl_,Nat.zero_add,(zb_.new w t xs).cell];exact hj
theorem vJ_ {P:Program}{w:World}{ops:Array Oper}{rest:List Oper}{o:Oper}{a:Act}{Q:Exit->Act->World->Prop}(hgd:o.guard=none)(s x:Operand)(t:TypeId)
    (ho:o.op=.call { callee:=.builtin .append,args:=#[s,x],argTypes:=#[t,t] })
    (base:Nat) (e:TypeId) (i:TypeInfo) (z:Value) (size bytes:Nat) (ht:P.underlying t=some (.slice e)) (hi:P.info? e=some i) (hz:i.zero=some z)
    (hsize:i.size=size) (hby:i.bytes=bytes) (hzs:z.cells.size=size) (hsz:0<size)
    (v:Value) (n:Nat) (xs:List Value) (hse:a.eval s=v) (hown:w.ownsRow base e size v n xs)
    (ad:Addr) (m c:Nat) (news:List Value) (hxe:a.eval x=.slice (some ad) m c) (hl:news.length=m*size) (hnews:∀j u,news[j]?=some u->w.cell? (ad.add j)=some u) (h1:∀u∈news,u.oneCell'=true)
    (h63:n+m<=maxLen) (hbytes:(n+m)*bytes<=140737488355328) (hbase:base<=w.heap.size)
    (h:∀v' w',w'.ownsRow base e size v' (n+m) (xs++news)->w.grownBy w' v.ownBlock->(v'.ownBlock=v.ownBlock\/v'.ownBlock=some w.heap.size)->wpList P ops Q rest (a.put o.dst v') w'):wpList P ops Q (o::rest) a w:=by
      refine wpList_plain hgd fun K hK=>?_;obtain⟨v',w',hrun,h2,h3,_,h5⟩:=run_append_own_at (P:=P) w base t o.type e i z size bytes ht hi hz hsize hby hzs hsz v n xs hown ad m c news hl hnews h1 h63 hbytes hbase;unfold Oper.wp execOp;simp only[ho,resolve,invoke,builtin,Sem.run_bind,Sem.run_pure,Result.andThen_ok,List.map_toArray,List.map_cons,List.map_nil,hse,hxe,hrun];exact hK _ _ (h v' w' h2 h3 h5)
def zmO (rs:List (Option Int)):List Value:=rs.flatMap fun r=>[.int .i64 (r.getD 0),.bool r.isSome]
def qsC (qs:List (Int×Int)):List Value:=qs.flatMap fun q=>[.int .i32 q.1,.int .i64 q.2]
theorem gx_ {α:Type}(f g:α->Value):∀(l:List α)(k:Nat)(a:α),l[k]?=some a->(l.flatMap fun a=>[f a,g a])[k*2]?=some (f a)/\(l.flatMap fun a=>[f a,g a])[k*2+1]?=some (g a)
  | [],k,a,h=>by simp at h
  | b::l,0,a,h=>by simp at h;subst h;exact⟨rfl,rfl⟩
  | b::l,k+1,a,h=>by
    simp at h;have:=gx_ f g l k a h;rw[List.flatMap_cons,show(k+1)*2=k*2+2 by omega,show k*2+2+1=k*2+1+2 by omega];exact this
theorem zjB {rs:List (Option Int)}{k:Nat}{r:Option Int}(h:rs[k]?=some r):(zmO rs)[k*2]?=some (.int .i64 (r.getD 0))/\(zmO rs)[k*2+1]?=some (.bool r.isSome):=gx_ _ _ rs k r h
theorem zpc {qs:List (Int×Int)}{k:Nat}{q:Int×Int}(h:qs[k]?=some q):(qsC qs)[k*2]?=some (.int .i32 q.1)/\(qsC qs)[k*2+1]?=some (.int .i64 q.2):=gx_ _ _ qs k q h
theorem zlq:(Tryz.prog.info? 119).map (fun i=>(i.zero,i.size,i.bytes))=some (some (.agg #[.int .i64 0,.bool false]),2,16):=by kernel_rfl
theorem j7_:(Tryz.prog.info? 267).map (fun i=>(i.zero,i.size,i.bytes))=some (some (.agg #[.int .i32 0,.int .i64 0]),2,16):=by kernel_rfl
def zff (rs:List (Option Int))(k:Nat):Option Int:=if k<rs.length then rs.getD k none else some 0
structure Rq (w:World) (p:Nat) (rs:List (Option Int)) (qs:List (Int×Int)) (a q:Value):Prop where
  rec_:zb_ w p 117 [a,q]
  ans:w.ownsRow 0 119 2 a rs.length (zmO rs)
  asks:w.ownsRow 0 267 2 q qs.length (qsC qs)
abbrev rqT:List TypeId:=[117,267]
section
variable {w w':World} {p:Nat} {rs:List (Option Int)} {qs:List (Int×Int)} {a q:Value} {K:Nat->Prop}
theorem Rq.keep (h:Rq w p rs qs a q)(hc:Chg [] w w'):Rq w' p rs qs a q:=⟨h.rec_.keep hc,ze_ h.ans hc,ze_ h.asks hc⟩
theorem Rq.fe {TS:List TypeId}(h:Rq w p rs qs a q)(hf:Fe K TS w w')(h1:117∉TS)(h2:119∉TS)(h3:267∉TS):Rq w' p rs qs a q:=⟨hf.whole h.rec_ h1,hf.own h.ans h2,hf.own h.asks h3⟩
theorem z1_ {B n k:Nat}{e t:TypeId}{v u:Value}{xs cs:List Value}{j:Nat}(h:w.ownsRow B e k v n xs)(hp:zb_ w p t cs)(hne:e≠t):(w.setCell ⟨p,j,none⟩ u).ownsRow B e k v n xs:=by
 refine⟨h.1,h.2.imp id ?_⟩;rintro⟨g,cap,cur,rfl,hb,hh,r⟩;refine⟨g,cap,cur,rfl,hb,?_,r⟩;rw[Below.heap_setCell w ⟨p,j,none⟩ u g ?_]
 · exact hh
 · rintro rfl;unfold zb_ at hp;rw[hh]at hp;simp at hp;exact hne hp.2
theorem Rq.more (h:Rq w p rs qs a q)(hp:K p)(hq:∀i,q.ownBlock=some i->K i)(hnew:∀i,w.heap.size<=i->K i){W2 w3:World}(hc:Chg [] w W2){x y:Int}{q':Value}{n1:Nat}(hn1:n1=qs.length+1)
    (ho:w3.ownsRow 0 267 2 q' n1 (qsC qs++[.int .i32 x,.int .i64 y])) (hg:W2.grownBy w3 q.ownBlock) (hb:q'.ownBlock=q.ownBlock\/q'.ownBlock=some W2.heap.size) :
    Rq (w3.setCell ⟨p,1,none⟩ q') p rs (qs++[(x,y)]) a q'/\Fe K rqT w (w3.setCell ⟨p,1,none⟩ q')/\(∀i,q'.ownBlock=some i->K i)/\zb_ w3 p 117 [a,q]:=by
 subst hn1;have h2:=h.keep hc;have hr3:=zn_ h2.rec_ h2.asks (by decide) hg;have ha3:=yj_ h2.ans h2.asks (by decide) hg;refine⟨⟨hr3.set_ 1 _,z1_ ha3 hr3 (by decide),?_⟩,((Fe.of_chg hc).grown h2.asks hq (by simp[rqT]) hg).setw hr3 hp (by simp[rqT]) _,fun i hi=>?_,hr3⟩
 · have:=z1_ (j:=1) (u:=q') ho hr3 (by decide);rw[List.length_append,List.length_singleton,show qsC (qs++[(x,y)])=qsC qs++[.int .i32 x,.int .i64 y] by simp[qsC]];exact this
 · rcases hb with hb|hb
   · exact hq i (hb.symm.trans hi)
   · rw[hb]at hi;injection hi with hi;exact hnew i (by have:=hc.size;omega)
def zoK (w:World)(rs:List (Option Int))(e:Ending)(w':World):Prop:=∃p a,e=.returned (.pointer (some ⟨p,0,none⟩))/\Rq w' p rs [] a (.slice none 0 0)/\w.heap.size<=p/\Chg [] w w'
theorem zhi (qs:List (Int×Int)):∀v∈qsC qs,v.oneCell'=true:=by
 intro v hv;simp only[qsC,List.mem_flatMap,List.mem_cons,List.not_mem_nil,or_false]at hv;obtain⟨q,_,rfl|rfl⟩:=hv<;>rfl
theorem uA_ (qs:List (Int×Int)):(qsC qs).length=qs.length*2:=by
 induction qs with
 | nil=>rfl
 | cons q qs ih=>simp only[qsC,List.flatMap_cons,List.length_append,List.length_cons,List.length_nil]at ih⊢;omega
theorem Low.of_rown {B n k:Nat}{e:TypeId}{v:Value}{xs:List Value}(ho:w.ownsRow B e k v n xs)(hg:w.grownBy w' v.ownBlock):Low B w w' :=
 ⟨hg.os,hg.tape,hg.output,hg.size,fun i hi hB=>hg.block i hB fun hc=>by
  rcases ho.2 with⟨rfl,_⟩|⟨g,cap,cur,rfl,hb,_⟩
  · simp[Value.ownBlock]at hc
  · simp[Value.ownBlock]at hc;omega⟩
structure RwB (w:World) (B p:Nat) (rs:List (Option Int)) (a:Value):Prop where
  rec_:zb_ w p 117 [a,.slice none 0 0]
  ans:w.ownsRow B 119 2 a rs.length (zmO rs)
  low:B<=p
theorem RwB.keep {w w':World}{B p:Nat}{rs:List (Option Int)}{a:Value}(h:RwB w B p rs a)(hc:Chg [] w w'):RwB w' B p rs a:=⟨h.rec_.keep hc,ze_ h.ans hc,h.low⟩
def zcP (w:World)(K:Nat->Prop)(p:Nat)(rs:List (Option Int))(qs:List (Int×Int))(x y:Int)(e:Ending)(w':World):Prop :=
 ∃a q,e=.returned (.tuple #[.int .i64 ((zff rs qs.length).getD 0),.bool (zff rs qs.length).isSome])/\Rq w' p rs (qs++[(x,y)]) a q/\Fe K rqT w w'/\(∀i,q.ownBlock=some i->K i)
theorem zox (h:Rq w p rs qs a q)(hp:K p)(hqK:∀i,q.ownBlock=some i->K i)(hnew:∀i,w.heap.size<=i->K i)(hq:qs.length<=1000000000)(x y:Int) :
    Calls Tryz.prog 158 #[.pointer (some ⟨p,0,none⟩),.int .i32 x,.int .i64 y] w (zcP w K p rs qs x y):=by
 obtain⟨i0,hi,hz0,hz1,hz2⟩:=info_parts j7_;obtain⟨A1,c1,rfl,_,hcm1,hA1⟩:=zh_ h.ans;obtain⟨A2,c2,rfl,_,hcm2,_⟩:=zh_ h.asks;have e0:=h.rec_.cell 0;have e1:=h.rec_.cell 1;have f1:=h.rec_.frozen 1;have hal:Chg [] w (w.alloc (.cells #[.int .i32 x,.int .i64 y] 267)):=(Chg.refl [] w).alloc _;have hown:=ze_ h.asks hal;have fin:∀(v':Value)(w3:World),w3.ownsRow 0 267 2 v' (qs.length+1) (qsC qs++[.int .i32 x,.int .i64 y])->(w.alloc (.cells #[.int .i32 x,.int .i64 y] 267)).grownBy w3 (Value.slice A2 qs.length c2).ownBlock->(v'.ownBlock=(Value.slice A2 qs.length c2).ownBlock\/v'.ownBlock=some (w.alloc (.cells #[.int .i32 x,.int .i64 y] 267)).heap.size) ->
     Hid (Rq (w3.setCell ⟨p,1,none⟩ v') p rs (qs++[(x,y)]) (.slice A1 rs.length c1) v')/\Hid (Fe K rqT w (w3.setCell ⟨p,1,none⟩ v'))/\Hid (∀i,v'.ownBlock=some i->K i)/\Hid (zb_ w3 p 117 [.slice A1 rs.length c1,.slice A2 qs.length c2]):=by
  intro v' w3 h1 h2 h3;obtain⟨r1,r2,r3,r4⟩:=h.more (K:=K) hp hqK hnew hal rfl h1 h2 h3;exact⟨hQ_ r1,hQ_ r2,hQ_ r3,hQ_ r4⟩
 obtain⟨N,hN⟩:∃N,N=qs.length:=⟨_,rfl⟩;obtain⟨M,hM⟩:∃M,M=rs.length:=⟨_,rfl⟩;have HN:=hQ_ hN;have HM:=hQ_ hM;rw[<-hN]at e1 hq hown fin;rw[<-hM]at e0 fin;have FIN:=hQ_ fin;have HOW:=hQ_ hown;clear h hp hqK hnew hal hown fin hN hM;by_cases hlt:N<M
 · have hltI:(N:Int)<(M:Int):=(by omega);go_enter Tryz.func158,Tryz.ntmps158;go_wp2_with (
    at_builtin;refine vJ_ rfl (.tmp 18) (.tmp 22) _ rfl 0 267 i0 _ 2 16 Tryz.underlying30 hi hz0 hz1 hz2 rfl (by decide) (.slice A2 N c2) N (qsC qs) rfl HOW.o ⟨w.heap.size,0,none⟩ 1 1 [.int .i32 x,.int .i64 y] rfl rfl (vg_ _ _ _) (by simp[Value.oneCell']) (by simp only[maxLen];omega) (by omega) (Nat.zero_le _) ?_;intro v' w3 hown' hg' hb';obtain⟨HR3,HF3,HK3,HW3⟩:=FIN.out v' w3 hown' hg' hb';obtain⟨A3,c3,rfl,_,_,_⟩:=zh_ hown';have d0:=HW3.o.cell 0;have d1:=HW3.o.cell 1;have g1:=HW3.o.frozen 1;clear hown' hg' hb');generalize w3.setCell ⟨p,1,none⟩ (.slice A3 (N+1) c3)=w4 at HR3 HF3⊢;clear d0 d1 g1;have d0:=HR3.o.rec_.cell 0;obtain⟨r,hr⟩:∃r,rs[N]?=some r:=⟨_,List.getElem?_eq_getElem (by have:=HM.o;omega)⟩;have ha3:=HR3.o.ans;rw[<-HM.o]at ha3;obtain⟨g,rfl,k1⟩:=zv_ ha3 rfl (zjB hr).1;obtain⟨g',hg',k2⟩:=zv_ ha3 rfl (zjB hr).2;injection hg' with hg';injection hg' with hg';subst hg';clear ha3;have HNX:=hQ_ (show zff rs qs.length=r by unfold zff;rw[<-HN.o,if_pos (by rw[<-HM.o];exact hlt)];simp[List.getD,hr]);clear hr;have HP:=hQ_ (show ∀k,zcP w K p rs qs x y (.returned (.tuple #[.int .i64 (r.getD 0),.bool r.isSome])) (w4.drewN k) from fun k =>
    ⟨_,_,by rw[HNX.o],HR3.o.keep ((Chg.refl [] w4).drewN k),HF3.o.new ((Chg.refl [] w4).drewN k),HK3.o⟩);go_quiet (fail);go_wp2_with fail;go_ret2;exact HP.o _
 · have hltI:(M:Int)<=(N:Int):=(by omega);go_enter Tryz.func158,Tryz.ntmps158;go_wp2_with (
    at_builtin;refine vJ_ rfl (.tmp 18) (.tmp 22) _ rfl 0 267 i0 _ 2 16 Tryz.underlying30 hi hz0 hz1 hz2 rfl (by decide) (.slice A2 N c2) N (qsC qs) rfl HOW.o ⟨w.heap.size,0,none⟩ 1 1 [.int .i32 x,.int .i64 y] rfl rfl (vg_ _ _ _) (by simp[Value.oneCell']) (by simp only[maxLen];omega) (by omega) (Nat.zero_le _) ?_;intro v' w3 hown' hg' hb';obtain⟨HR3,HF3,HK3,HW3⟩:=FIN.out v' w3 hown' hg' hb';obtain⟨A3,c3,rfl,_,_,_⟩:=zh_ hown';have d0:=HW3.o.cell 0;have d1:=HW3.o.cell 1;have g1:=HW3.o.frozen 1;clear hown' hg' hb');go_ret2;have HNX:zff rs qs.length=some 0:=(by unfold zff;rw[<-HN.o,if_neg (by rw[<-HM.o];exact hlt)]);have HP:zcP w K p rs qs x y (.returned (.tuple #[.int .i64 0,.bool true])) (w3.setCell ⟨p,1,none⟩ (.slice A3 (N+1) c3)) :=
    ⟨_,_,by rw[HNX];rfl,HR3.o,HF3.o,HK3.o⟩;exact HP
theorem gq_ {vs:List Value}{A:Option Addr}{n c:Nat}(hN:jb_ vs rs)(hs:Src w A vs)(hA:∀ad,A=some ad->ad.spot=none)(hn:vs.length=n)(hc:n<=c)(m:Nat)(hm:(m:Int)=min (n:Int) 64) :
    Calls Tryz.prog 26 #[.slice A n c] w (zoK w (rs.take m)):=by
 have hmn:m<=n/\m<=64:=by omega
 obtain⟨i0,hi,hz0,hz1,hz2⟩:=info_parts zlq;have HVS:=hQ_ hn;have HA:=hQ_ hA;have HN:=hQ_ hN;have HM:=hQ_ hm;clear hn hA hN hm;go_enter Tryz.func26,Tryz.ntmps26;go_wp2_with fail;rw[show min (n:Int) 64=(m:Int) from HM.o.symm,Int.toNat_natCast,show max (m:Int) 0=(m:Int) by omega];obtain⟨p,hp⟩:∃p,p=w.heap.size:=⟨_,rfl⟩;have hR0:RwB (w.alloc (.cells #[.slice none 0 0,.slice none 0 0] 117)) w.heap.size p (rs.take 0) (.slice none 0 0) :=
  ⟨by rw[hp];exact zb_.new w 117 [.slice none 0 0,.slice none 0 0],World.ownsRow_nil _ _ _ _,Nat.le_of_eq hp.symm⟩;have hc0:Chg [] w (w.alloc (.cells #[.slice none 0 0,.slice none 0 0] 117)):=(Chg.refl _ _).alloc _;rw[<-hp];go_loopw [14] (fun i wr=>∃k:Nat,k<=m/\i=.int .i64 (k:Int)/\(∃a,RwB wr w.heap.size p (rs.take k) a)/\Chg [] w wr) (fun i _=>m-(intOf i).toNat);case atStart=>exact⟨0,Nat.zero_le _,rfl,⟨_,hR0⟩,hc0⟩
 case round =>
  obtain⟨k,hk,rfl,⟨a,hR⟩,hcg⟩:=hrel;have hwr:=hcg.size;have hpl:w.heap.size<=p:=by omega
  have HC:=hQ_ hcg;clear hR0 hc0 hp hcg;by_cases hlt:k<m
  · have hlv:k<vs.length:=(by rw[HVS.o];omega);have hlr:k<rs.length:=(by have:=HN.o.1;omega);obtain⟨ad,rfl,_,hx⟩:=(hs.keep HC.o) (by omega);have hx1:=hx k _ (List.getElem?_eq_getElem hlv);obtain⟨b1,o1,s1⟩:=ad;obtain rfl:s1=none:=HA.o _ rfl;rw[zl_]at hx1;have hnum:Num vs[k] rs[k]:=HN.o.2 k _ _ (List.getElem?_eq_getElem hlv) (List.getElem?_eq_getElem hlr);have HT:=hQ_ (show zmO (rs.take (k+1))=zmO (rs.take k)++[.int .i64 (rs[k].getD 0),.bool rs[k].isSome] by rw[List.take_succ_eq_append_getElem hlr];unfold zmO;rw[List.flatMap_append];rfl);have HTL:=hQ_ (show(rs.take (k+1)).length=k+1 by rw[List.length_take];omega);have hTK:(rs.take k).length=k:=(by rw[List.length_take];omega);generalize vs[k]=u at hx1 hnum;generalize rs[k]=r at hnum HT;clear hx;have HR:=hQ_ hR;have hTK2:=hQ_ hTK;clear hR hTK;have hkm:(k:Int)<(m:Int):=(by omega);go_wp2_with fail;refine(zgl hnum).mono ?_;rintro e w1 ⟨rfl,hc1⟩;have hR1:=HR.o.keep hc1;have hwn:w.heap.size<=w1.heap.size:=Nat.le_trans hwr hc1.size;obtain⟨A1,c1,rfl,_,_,_⟩:=zh_ hR1.ans;have hO1:=hR1.ans;have e0:=hR1.rec_.cell 0;rw[hTK2.out]at hO1 e0;obtain⟨X,hX⟩:∃X,X=zmO (rs.take k):=⟨_,rfl⟩;rw[<-hX]at hO1;have HX:=hQ_ hX;have HR1:=hQ_ hR1;have HC1:=hQ_ hc1;clear hX hR1 hc1;go_wp2_with (first
     | (at_builtin;refine wpList_append_own _ rfl (.tmp 24) (.tmp 28) _ rfl w.heap.size 119 i0 _ 2 16 Tryz.underlying115 hi hz0 hz1 hz2 rfl (by decide) _ k X rfl (ze_ hO1 ((Chg.refl _ _).alloc _)) ⟨w1.heap.size,0,none⟩ 1 1 [.int .i64 (r.getD 0),.bool r.isSome] rfl rfl ?c1 ?c2 ?c3 ?c4 ?c5 ?_;(case c1=>exact vg_ _ _ _);(case c2=>simp[Value.oneCell']);(case c3=>simp only[maxLen];omega);(case c4=>omega);(case c5=>simp;omega);intro v' w2 hown' hg' _;have hal:=ze_ hO1 ((Chg.refl [] w1).alloc (.cells #[.int .i64 (r.getD 0),.bool r.isSome] 119));have hR2:=zn_ (HR1.o.rec_.keep ((Chg.refl [] w1).alloc (.cells #[.int .i64 (r.getD 0),.bool r.isSome] 119))) hal (by decide) hg';have hL2:=(Low.of_chg (B:=w.heap.size) ((Chg.refl [] w1).alloc (.cells #[.int .i64 (r.getD 0),.bool r.isSome] 119))).trans (Low.of_rown hal hg');obtain⟨A3,c3,rfl,_,_,_⟩:=zh_ hown';have d0:=hR2.cell 0;have g0:=hR2.frozen 0;have hR3:=hR2.set_ 0 (.slice A3 (k+1) c3);have hO3:=z1_ (j:=0) (u:=.slice A3 (k+1) c3) hown' hR2 (by decide);have hL3:Low w.heap.size w1 (w2.setCell ⟨p,0,none⟩ (.slice A3 (k+1) c3)):=hL2.trans ⟨rfl,rfl,rfl,by simp[World.setCell],fun k hk hl=>Below.heap_setCell w2 _ _ k (by simp only;omega)⟩;clear hal hR2 hL2 hown' hg'));go_roundw;case rel =>
     refine⟨k+1,by omega,by go_num,⟨.slice A3 (k+1) c3,hR3,?_,hpl⟩,((Low.of_chg (HC.o.new HC1.o)).trans hL3).chg (Nat.le_refl _)⟩;rw[HTL.o,HT.o,<-HX.o];exact hO3
    case measure=>simp[intOf];omega
  · obtain rfl:k=m:=(by omega);go_wp2_with fail;go_ret;exact⟨p,_,rfl,⟨hR.rec_,yk_ hR.ans (Nat.zero_le _),World.ownsRow_nil _ _ _ _⟩,hR.low,HC.o⟩
def zaa (w:World)(qs:List (Int×Int))(e:Ending)(w':World):Prop:=∃v,e=.returned v/\w'.ownsRow w.heap.size 267 2 v qs.length (qsC qs)/\Chg [] w w'
theorem zme (h:Rq w p rs qs a q)(hq:qs.length<=1000000000)(h0:0<qs.length) :
    Calls Tryz.prog 51 #[.pointer (some ⟨p,0,none⟩)] w (zaa w qs):=by
 obtain⟨i0,hi,hz0,hz1,hz2⟩:=info_parts j7_;obtain⟨A2,c2,rfl,_,hcm2,_⟩:=zh_ h.asks;have e1:=h.rec_.cell 1;obtain⟨g,rfl,_⟩:=zv_ h.asks rfl (zpc (List.getElem?_eq_getElem h0)).1;have hcells:∀(j:Nat)(u:Value),(qsC qs)[j]?=some u->w.cell? ((⟨g,0,none⟩:Addr).add j)=some u:=h.asks.cells rfl;have HL:=hQ_ (uA_ qs);have HO:=hQ_ hcells;clear hcells h;obtain⟨N,hN⟩:∃N,N=qs.length:=⟨_,rfl⟩;have HN:=hQ_ hN;rw[<-hN]at e1 hq h0 HL;clear hN;go_enter Tryz.func51,Tryz.ntmps51;go_wp2_with (first
  | (at_builtin;refine wpList_append_own _ rfl (.const (.slice none 0 0)) (.tmp 6) _ rfl w.heap.size 267 i0 _ 2 16 Tryz.underlying30 hi hz0 hz1 hz2 rfl (by decide) _ 0 [] rfl (World.ownsRow_nil w w.heap.size 267 2) ⟨g,0,none⟩ N c2 (qsC qs) rfl HL.o HO.o (zhi qs) ?c3 ?c4 ?c5 ?_;(case c3=>simp only[maxLen];omega);(case c4=>omega);(case c5=>exact Nat.le_refl _);intro v' w2 hown' hg' _));go_ret;rw[HN.o,Nat.zero_add,List.nil_append]at hown';have hg2:w.grownBy w2 none:=hg';exact⟨_,rfl,hown',Chg.of_grown hg2 fun g hr _=>by cases hr⟩
end
end Go.Proofs.YtcbcfcdmdedefaaGreatDoor
