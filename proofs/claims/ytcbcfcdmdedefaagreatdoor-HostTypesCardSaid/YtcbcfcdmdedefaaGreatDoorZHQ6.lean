import Derived.Test.YtcbcfcdmdedefaaGreatDoorZHQ5
set_option maxRecDepth 100000
set_option maxHeartbeats 16000000
namespace Go.Proofs.YtcbcfcdmdedefaaGreatDoor
open Go.RowKit
theorem zeS:(Tryz.prog.info? 5).map (·.size)=some 1:=by kernel_rfl
def zpY (b:List UInt8)(k:Nat):ChV:=⟨(v9_ (b.drop (2+k*66)):Nat),none,64,64,(b.drop (2+k*66+2)).take 64⟩
def vf_ (b:List UInt8)(k:Nat):List ChV:=(List.range k).map (zpY b)
theorem zfW (b:List UInt8)(k:Nat):vf_ b (k+1)=vf_ b k++[zpY b k]:=by simp[vf_,List.range_succ]
theorem zjo (b:List UInt8)(k:Nat):(vf_ b k).length=k:=by simp[vf_]
def asC (l m:List ChV):Prop:=l.map zbP=m.map zbP/\∀(i:Nat)(a b:ChV),l[i]?=some a->m[i]?=some b->a.page=b.page/\a.bn=b.bn
theorem zoG:asC [] []:=⟨rfl,fun i a b h=>by simp at h⟩
theorem zlZ {l m:List ChV}{a b:ChV}(h:asC l m)(hk:zbP a=zbP b)(hb:a.bn=b.bn):asC (l++[a]) (m++[b]):=by
 have hlen:l.length=m.length:=by have:=congrArg List.length h.1;simpa using this
 refine⟨by simp[h.1,hk],fun i x y hx hy=>?_⟩;rcases Nat.lt_trichotomy i l.length with hi|hi|hi
 · rw[List.getElem?_append_left hi]at hx;rw[List.getElem?_append_left (by omega)]at hy;exact h.2 i x y hx hy
 · subst hi;rw[List.getElem?_concat_length]at hx;rw[hlen,List.getElem?_concat_length]at hy;cases hx;cases hy;exact⟨by injection hk,hb⟩
 · rw[List.getElem?_eq_none (by simp;omega)]at hx;cases hx
theorem zbF:∀{l m:List ChV}(_:l.length=m.length)(_:∀(i:Nat)(a b:ChV),l[i]?=some a->m[i]?=some b->a.page=b.page/\a.bn=b.bn)(last P:Int),yK_ last P l=yK_ last P m
  | [],[],_,_,_,_=>rfl
  | [],b::m,h,_,_,_=>by simp at h
  | a::l,[],h,_,_,_=>by simp at h
  | a::l,b::m,h,hx,last,P=>by
    obtain⟨h1,h2⟩:=hx 0 a b rfl rfl;unfold yK_;rw[h1,h2,zbF (by simpa using h) (fun i x y hi hj=>hx (i+1) x y (by simpa using hi) (by simpa using hj)) b.page P]
theorem ul_ {l m:List ChV}(h:asC l m)(P:Int):zF_ P l=zF_ P m:=by
 unfold zF_;rw[zbF (by have:=congrArg List.length h.1;simpa using this) h.2]
def zaf (b:List UInt8)(P:Int)(w:World)(e:Ending)(w':World):Prop :=
 (2<=b.length/\b.length=2+v9_ b*66/\zF_ P (vf_ b (v9_ b))=true/\∃v ls,e=.returned (.tuple #[v,.bool true])/\w'.ownsRow w.heap.size 123 2 v (v9_ b) (xY_ ls)/\(∀a∈ls,RMade w' w.heap.size a)/\ls.length=v9_ b/\asC ls (vf_ b (v9_ b))/\Chg [] w w') \/
 (¬(2<=b.length/\b.length=2+v9_ b*66/\zF_ P (vf_ b (v9_ b))=true)/\e=.returned (.tuple #[.slice none 0 0,.bool false])/\Chg [] w w')
def zjI (b:List UInt8)(P:Int)(w:World)(e:Ending)(w':World):Prop :=
 (2<=b.length/\b.length=2+v9_ b*66/\zF_ P (vf_ b (v9_ b))=true/\∃A c ls,e=.returned (.tuple #[.slice A (v9_ b) c,.bool true])/\Chs w' A ls/\ls.length=v9_ b/\asC ls (vf_ b (v9_ b))/\Chg [] w w') \/
 (¬(2<=b.length/\b.length=2+v9_ b*66/\zF_ P (vf_ b (v9_ b))=true)/\e=.returned (.tuple #[.slice none 0 0,.bool false])/\Chg [] w w')
theorem zaf.post {b:List UInt8}{P:Int}{w:World}{e:Ending}{w':World}(h:zaf b P w e w'):zjI b P w e w':=by
 rcases h with⟨h1,h2,h3,v,ls,rfl,ho,hm,hl,ha,hc⟩|h
 · obtain⟨A,c,rfl,_,hch,_⟩:=js_ ho (fun a ha=>(hm a ha).ok);exact .inl ⟨h1,h2,h3,A,c,ls,rfl,hch,hl,ha,hc⟩
 · exact .inr h
theorem zhD (l:List UInt8):v9_ l<65536:=by
 unfold v9_;have h1:=(l.getD 0 0).toNat_lt;have h2:=(l.getD 1 0).toNat_lt;omega
theorem zaW (n:Nat)(hn:n<65536)(W:World):∃o:Array Value,o.size=n*2/\(Instr.makeSlice 88 (.int .i64 0) (.int .i64 (n:Int))).run Tryz.prog W=.ok (.slice (some ⟨W.heap.size,0,none⟩) 0 n) (W.alloc (.cells o 123)):=by
 obtain⟨i,hi,hz,hs1,hb⟩:=info_parts vy_;have h:=run_make (P:=Tryz.prog) W 88 123 i _ Tryz.underlying88 hi hz .i64 .i64 0 (n:Int) (by omega) (by omega) (by rw[hb];omega) (by omega);rw[hs1]at h;exact⟨_,size_madeCells _ _,by simpa using h⟩
def zqh (b:List UInt8)(w wr:World)(v:Value)(k:Nat):Prop :=
 ∃ls:List ChV,wr.ownsRow w.heap.size 123 2 v k (xY_ ls)/\(∀a∈ls,MadeCh wr w.heap.size a)/\asC ls (vf_ b k)/\Chg [] w wr
section
variable {w:World} {A:Option Addr} {n c:Nat}
theorem zja {b:List UInt8} (h:Bs w A n c b) (P:Int) :
    Calls Tryz.prog 117 #[.slice A n c,.int .i64 P] w (zaf b P w):=by
 obtain⟨i0,hi,hz0,hz1,hz2⟩:=info_parts vy_;have hlen:=h.len;have hcap:=h.cap;have hmax:=h.max;have H:=hQ_ h;have HLN:=hQ_ hlen;clear h hlen;by_cases h2:n<2
 · have HNO:=hQ_ (show ¬(2<=b.length/\b.length=2+v9_ b*66/\zF_ P (vf_ b (v9_ b))=true) from fun h=>by have:=HLN.o;omega);have hd:decide ((n:Int)<2)=true:=(by simp;omega);go_enter Tryz.func117,Tryz.ntmps117;go_wp2_with fail;go_ret2;exact .inr ⟨HNO.o,rfl,Chg.refl _ _⟩
 · have hd:decide ((n:Int)<2)=false:=(by simp;omega);obtain⟨N,hN⟩:∃N,N=v9_ b:=⟨_,rfl⟩;have hN6:N<65536:=(by rw[hN];exact zhD b);have HN:=hQ_ hN;clear hN;go_enter Tryz.func117,Tryz.ntmps117;go_wp2_with fail;refine(zeb H.o (by omega)).mono ?_;rintro e w1 ⟨rfl,hc1⟩;rw[<-HN.o];have H1:=hQ_ (H.o.keep hc1);have HC1:=hQ_ hc1;clear hc1;by_cases h66:n=2+N*66
   · obtain⟨o,ho,hmk⟩:=zaW N hN6 w1;have hnI:(n:Int)=2+(N:Int)*66:=(by omega);have hb1:((n:Int)==2+(N:Int)*66)=true:=(by simp;omega);have HO:=hQ_ ho;clear ho;have hmkp:=zhP;have hb2:(!((n:Int)==2+(N:Int)*66))=false:=(by rw[hb1];rfl);have hb3:((n:Int) != 2+(N:Int)*66)=false:=(by simp;omega);have H66:=hQ_ h66;clear hnI h66;go_wp2_with fail;have hown0:(w1.alloc (.cells o 123)).ownsRow w.heap.size 123 2 (.slice (some ⟨w1.heap.size,0,none⟩) 0 N) 0 (xY_ []) :=
      ⟨rfl,.inr ⟨_,_,o,rfl,HC1.o.size,heap_alloc_new w1 _,Nat.zero_le _,by unfold maxLen;omega,HO.o,by simp[xY_]⟩⟩;have hc2:Chg [] w (w1.alloc (.cells o 123)):=HC1.o.alloc _;go_loopw [7,8] (fun v i wr=>∃(k t:Nat),k<=N/\i=.int .i64 (t:Int)/\Hid (t=2+k*66)/\zqh b w wr v k) (fun _ i _=>n-(intOf i).toNat);(case atStart=>exact⟨0,2,Nat.zero_le _,rfl,hQ_ rfl,[],hown0,fun a ha=>by simp at ha,zoG,hc2⟩);case round =>
      obtain⟨k,t,hk,rfl,HT,ls,hown,hmade,has,hcr⟩:=hrel;have hwr:=hcr.size;have HM:=hQ_ hmade;have HAS:=hQ_ has;have HC:=hQ_ hcr;have HB:=hQ_ (H.o.keep hcr);clear hown0 hc2 hmade has hcr;by_cases hlt:k<N
      · have ht66:t+66<=n:=(by have:=HT.o;have:=H66.o;omega);have htI:(t:Int)<(n:Int):=(by omega);have htc:¬c=t:=(by omega);have htc2:¬c=t+2:=(by omega);obtain⟨ad,rfl,_,_⟩:=HB.o.src (by rw[zg_,HLN.o];omega);obtain⟨b0,o0,s0⟩:=ad;obtain rfl:s0=none:=HB.o.spot (by omega) _ rfl;have hcut2:=HB.o.cut (lo:=t+2) (hi:=n) (by omega) (Nat.le_refl _);have hcut1:=HB.o.cut (lo:=t) (hi:=n) (by omega) (Nat.le_refl _);rw[if_neg htc2,Option.map_some,zl_]at hcut2;rw[if_neg htc,Option.map_some,zl_]at hcut1;have e2:(b.drop (t+2)).take (n-(t+2))=b.drop (t+2):=List.take_of_length_le (by rw[List.length_drop,HLN.o];exact Nat.le_refl _);have e1:(b.drop t).take (n-t)=b.drop t:=List.take_of_length_le (by rw[List.length_drop,HLN.o];exact Nat.le_refl _);rw[e2]at hcut2;rw[e1]at hcut1;obtain⟨Y,hY⟩:∃Y,Y=(b.drop (t+2)).take 64:=⟨_,rfl⟩;have hYl:Y.length=64:=(by rw[hY,List.length_take,List.length_drop,HLN.o];omega);have hsY:Src wr (some ⟨b0,o0+(t+2),none⟩) (bts Y):=(by
         have:=(hcut2.take (m:=64) (by omega)).src;rwa[<-hY]at this);have HY:=hQ_ hY;have HCUT:=hQ_ hcut1;have hYn:=hQ_ (show(bts Y).length=Nat.min (n-(t+2)) 64 by rw[zg_,hYl];show 64=min _ _;omega);have hYf:=hQ_ (show 0+(bts Y).length<=(bts (zm_ 64)).length by rw[zg_,zg_,hYl,zE_];omega);have hYs:=hQ_ (show splice (bts (zm_ 64)) 0 (bts Y)=bts Y from x0_ _ _ (by rw[zg_,zg_,hYl,zE_]));have HYL:=hQ_ hYl;have HSY:=hQ_ (hsY.keep ((Chg.refl [] wr).alloc (.cells (bts (zm_ 64)).toArray 5)));have hsub:((t:Int)+2).toNat=t+2:=(by omega);clear hY hYl hsY hcut1 hcut2 e1 e2;go_wp2_with (
         (with_reducible refine z7_ rfl (.tmp 30) (.tmp 34) _ _ rfl 5 Tryz.underlying39 zeS (some ⟨wr.heap.size,0,none⟩) (some ⟨b0,o0+(t+2),none⟩) 64 64 (n-(t+2)) (c-(t+2)) rfl rfl wr.heap.size 0 5 (bts (zm_ 64)) (bts Y) (zb_.new wr _ _) hYn.out (fun _=>rfl) HSY.o hYf.out (yd_ _) ?_);intro w3 hW3 hc3;rw[hYs.out]at hW3);have hpg:=zhD (b.drop t);have HW3:=hQ_ hW3;have hcg:=(Chg.refl [] wr).alloc (.cells (bts (zm_ 64)).toArray 5);have hc3':Chg [] wr w3:=hcg.then_ hc3 (fun i hm hlt=>by simp only[List.mem_cons,List.not_mem_nil,or_false]at hm;omega);have HC3:=hQ_ hc3';have hw3:=hc3'.size;clear hW3 hc3 hcg hc3';go_wp2_with fail;refine(zeb (HCUT.o.keep HC3.o) (by omega)).mono ?_;rintro e w4 ⟨rfl,hc4⟩;have hown4:=zS_ (zS_ hown HC3.o (by simp)) hc4 (by simp);have HM4:=hQ_ (show ∀a∈ls,MadeCh w4 w.heap.size a from fun a ha=>((HM.o a ha).chg HC3.o (by simp)).chg hc4 (by simp));have hnew:MadeCh w4 w.heap.size ⟨(v9_ (b.drop t):Nat),some ⟨wr.heap.size,0,none⟩,64,64,Y⟩:=⟨⟨_,rfl,hwr,HW3.o.keep hc4⟩,HYL.o,rfl,rfl,by simp only;omega⟩;have HNEW:=hQ_ hnew;have HC4:=hQ_ ((HC.o.new HC3.o).new hc4);have hw4:=hc4.size;obtain⟨X,hX⟩:∃X,X=xY_ ls:=⟨_,rfl⟩;rw[<-hX]at hown4;have HX:=hQ_ hX;obtain⟨pg,hpgq⟩:∃pg,pg=v9_ (b.drop t):=⟨_,rfl⟩;rw[<-hpgq];have HPG:=hQ_ hpgq;clear hX hc4 hnew hpgq hown;go_wp2_with (first
         | (at_builtin;refine wpList_append_own _ rfl (.tmp 36) (.tmp 43) _ rfl w.heap.size 123 i0 _ 2 32 Tryz.underlying88 hi hz0 hz1 hz2 rfl (by decide) _ k X rfl (zS_ hown4 ((Chg.refl [] w4).alloc _) (by simp)) ⟨w4.heap.size,0,none⟩ 1 1 [.int .i64 (pg:Int),.slice (some ⟨wr.heap.size,0,none⟩) 64 64] rfl rfl ?c1 ?c2 ?c3 ?c4 ?c5 ?_;(case c1=>exact zK_ _ _ _);(case c2=>simp[Value.oneCell']);(case c3=>simp only[maxLen];omega);(case c4=>omega);(case c5=>simp;omega);intro v' w6 hown' hg' _));have HAL6:=hQ_ (zS_ hown4 ((Chg.refl [] w4).alloc (.cells #[.int .i64 (pg:Int),.slice (some ⟨wr.heap.size,0,none⟩) 64 64] 123)) (by simp));go_roundw;case rel =>
         refine⟨k+1,t+66,by omega,by go_num,hQ_ (by have:=HT.o;omega),ls++[⟨(v9_ (b.drop t):Nat),some ⟨wr.heap.size,0,none⟩,64,64,Y⟩],?_,?_,?_,?_⟩
         · rw[ui_,kg_,<-HX.o,<-HPG.o];exact hown'
         · intro a ha;rcases List.mem_append.1 ha with h|h
           · exact((HM4.o a h).chg ((Chg.refl [] w4).alloc _) (by simp)).grown HAL6.o hg'
           · simp only[List.mem_cons,List.not_mem_nil,or_false]at h;subst h;exact(HNEW.o.chg ((Chg.refl [] w4).alloc _) (by simp)).grown HAL6.o hg'
         · rw[zfW];refine zlZ HAS.o ?_ rfl;unfold zbP zpY;rw[HY.o,HT.o]
         · exact vg_ (HC4.o.alloc _) hg' fun g hgg=>(HAL6.o.lt g hgg).1
        case measure=>simp[intOf];omega
      · obtain rfl:N=k:=(by omega);have htI:(n:Int)<=(t:Int):=(by have:=HT.o;have:=H66.o;omega);have HOWN:=hQ_ hown;obtain⟨A5,c5,rfl,hll,hch,hm5,hnc5,_⟩:=zow hown HM.o;have HLL:=hQ_ hll;have HCH:=hQ_ hch;clear hll hch hown;cases hr:zF_ P (vf_ b N) with
        | true =>
          have HR:=hQ_ hr;have hrr:zF_ P ls=true:=(by rw[ul_ HAS.o P,hr]);clear hr;go_wp2_with fail;refine(jN_ HCH.o HLL.o hm5 P).mono ?_;rintro e w7 ⟨rfl,hc7⟩;rw[hrr];clear hrr;go_wp2_with fail;go_ret2;refine .inl ⟨by have:=HLN.o;omega,by have:=HLN.o;have:=H66.o;have:=HN.o;omega,?_,_,ls,rfl,?_,fun a ha=>((HM.o a ha).rmade).chg hc7 (by simp),?_,?_,HC.o.new hc7⟩
          · rw[<-HN.o];exact HR.o
          · rw[<-HN.o];exact zS_ HOWN.o hc7 (by simp)
          · rw[<-HN.o];exact HLL.o
          · rw[<-HN.o];exact HAS.o
        | false =>
          have HR:=hQ_ hr;have hrr:zF_ P ls=false:=(by rw[ul_ HAS.o P,hr]);clear hr;go_wp2_with fail;refine(jN_ HCH.o HLL.o hm5 P).mono ?_;rintro e w7 ⟨rfl,hc7⟩;rw[hrr];clear hrr;go_wp2_with fail;go_ret2;refine .inr ⟨fun h=>?_,rfl,HC.o.new hc7⟩;have:=h.2.2;rw[<-HN.o,HR.o]at this;cases this
   · have HNO:=hQ_ (show ¬(2<=b.length/\b.length=2+v9_ b*66/\zF_ P (vf_ b (v9_ b))=true) from fun h=>by have:=HLN.o;have:=h.2.1;have:=HN.o;omega);have hb1:((n:Int)==2+(N:Int)*66)=false:=(by simp;omega);have hb2:(!((n:Int)==2+(N:Int)*66))=true:=(by rw[hb1];rfl);go_wp2_with fail;go_ret2;exact .inr ⟨HNO.o,rfl,HC1.o⟩
end
def zmL (a:ChV):Prop:=zoK a/\a.B.length=64
theorem g8_ (k:Nat):(be2 k).length=2:=rfl
theorem zdC (k:Nat)(h:k<65536)(x:List UInt8):v9_ (be2 k++x)=k:=by
 show(UInt8.ofNat (k/256)).toNat*256+(UInt8.ofNat k).toNat=k;rw[UInt8.toNat_ofNat',UInt8.toNat_ofNat'];omega
theorem zjr {a:ChV}(h:zmL a):(chB a).length=66:=by unfold chB;rw[List.length_append,g8_,h.2]
theorem zeg:∀{l:List ChV},(∀a∈l,zmL a)->(qz_ l).length=l.length*66
  | [],_=>rfl
  | a::l,h=>by
    rw[qz_,List.length_append,zjr (h a (List.mem_cons_self ..)),zeg (fun b hb=>h b (List.mem_cons_of_mem _ hb)),List.length_cons];omega
theorem zbA:∀{l:List ChV},(∀a∈l,zmL a)->∀k,k<=l.length->(qz_ l).drop (k*66)=qz_ (l.drop k)
  | l,_,0,_=>by simp
  | [],_,k+1,h=>by simp at h
  | a::l,h,k+1,hk=>by
    rw[qz_,show(k+1)*66=(chB a).length+k*66 by rw[zjr (h a (List.mem_cons_self ..))];omega,<-List.drop_drop,List.drop_left,List.drop_succ_cons];exact zbA (fun b hb=>h b (List.mem_cons_of_mem _ hb)) k (by simpa using hk)
section
variable {l:List ChV}
theorem zen (hn:l.length<65536):v9_ (zD_ l)=l.length:=zdC _ hn _
theorem uk_ (h:∀a∈l,zmL a):(zD_ l).length=2+l.length*66:=by unfold zD_;rw[List.length_append,g8_,zeg h]
theorem zjy (h:∀a∈l,zmL a)(k:Nat)(a:ChV)(ha:l[k]?=some a):zbP (zpY (zD_ l) k)=zbP a:=by
 obtain⟨hk,rfl⟩:=List.getElem?_eq_some_iff.1 ha;have hp:=h _ (List.getElem_mem hk);have e0:(zD_ l).drop (2+k*66)=chB l[k]++qz_ (l.drop (k+1)):=by
  unfold zD_;rw[<-List.drop_drop,List.drop_left' (g8_ _),zbA h k (by omega),List.drop_eq_getElem_cons hk];rfl
 have e1:(zD_ l).drop (2+k*66+2)=l[k].B++qz_ (l.drop (k+1)):=by
  rw[<-List.drop_drop,e0];unfold chB;rw[List.append_assoc,List.drop_left' (g8_ _)]
 unfold zbP zpY;rw[e0,e1];unfold chB;rw[List.append_assoc,zdC _ (by have:=hp.1;have:=this.2.1;have:=hp.1.1;omega),List.take_left' hp.2];have:=hp.1.1;simp only[Prod.mk.injEq,and_true];omega
theorem zjz (h:∀a∈l,zmL a)(hn:l.length<65536):asC (vf_ (zD_ l) (v9_ (zD_ l))) l:=by
 rw[zen hn];refine⟨?_,fun i a b ha hb=>?_⟩
 · apply List.ext_getElem?;intro i;simp only[List.getElem?_map,vf_];rcases Nat.lt_or_ge i l.length with hi|hi
   · rw[List.getElem?_range hi,List.getElem?_eq_getElem hi];simp only[Option.map_some];rw[zjy h i _ (List.getElem?_eq_getElem hi)]
   · rw[List.getElem?_eq_none (by simpa using hi),List.getElem?_eq_none hi];rfl
 · have hi:=(List.getElem?_eq_some_iff.1 hb).1;simp[vf_,List.getElem?_range hi]at ha;subst ha;have:=zjy h i b hb;exact⟨by injection this,((h b (List.mem_of_getElem? hb)).1.2.2).symm⟩
end
def zjF (l:List UInt8)(w:World)(e:Ending)(w':World):Prop :=
 (vE_ l/\e=.returned (.tuple #[zB_ (zz_ l 4:Nat) (zz_ l 8:Nat) (zz_ l 12:Nat),.bool true])/\Chg [] w w') \/
 (¬vE_ l/\e=.returned (.tuple #[zB_ 0 0 0,.bool false])/\Chg [] w w')
theorem vr_ {w W:World}{g:Nat}{x y z:Value}(hc:Chg [] w W)(hg:w.heap.size<=g)(h:zb_ W g 82 [x,y,z])(a b c:Value) :
    zb_ (((W.setCell ⟨g,0,none⟩ a).setCell ⟨g,1,none⟩ b).setCell ⟨g,2,none⟩ c) g 82 [a,b,c]/\Chg [] w (((W.setCell ⟨g,0,none⟩ a).setCell ⟨g,1,none⟩ b).setCell ⟨g,2,none⟩ c):=by
 have hx:∀o:Nat,(⟨g,o,none⟩:Addr).block<w.heap.size->(⟨g,o,none⟩:Addr).block∈([]:List Nat):=fun o h=>absurd h (by simp only;omega);exact⟨((h.set_ 0 a).set_ 1 b).set_ 2 c,((hc.setCell (hx 0) _).setCell (hx 1) _).setCell (hx 2) _⟩
section
variable {w:World} {A:Option Addr} {n c:Nat} {l:List UInt8}
theorem zaE (h:Bs w A n c l):Calls Tryz.prog 113 #[.slice A n c] w (zjF l w):=by
 have H:=hQ_ h;have h4:=xk_ l 4;have h8:=xk_ l 8;have h12:=xk_ l 12;clear h;go_enter Tryz.func113,Tryz.ntmps113;go_wp2_with fail;have hc1:Chg [] w (w.alloc (.cells #[.int .i64 0,.int .i64 0,.int .u32 0] 82)):=(Chg.refl [] w).alloc _;have hR:=zb_.new w 82 [.int .i64 0,.int .i64 0,.int .u32 0];obtain⟨g,hg⟩:∃g,g=w.heap.size:=⟨_,rfl⟩;rw[<-hg]at hR⊢;generalize w.alloc (.cells #[.int .i64 0,.int .i64 0,.int .u32 0] 82)=w1 at hc1 hR⊢;have hwg:w.heap.size<=g:=by omega
 clear hg;refine(uH_ (H.o.keep hc1) 4 (by omega)).mono ?_;rintro e w' ⟨rfl,rfl⟩;go_wp2_with fail;refine(uH_ (H.o.keep hc1) 8 (by omega)).mono ?_;rintro e w' ⟨rfl,rfl⟩;have HC1:=hQ_ hc1;have HR:=hQ_ hR;by_cases hab:2147483647<zz_ l 4\/2147483647<zz_ l 8
 · have HNO:=hQ_ (show ¬vE_ l from fun h=>by have:=h.1;have:=h.2.1;omega);obtain⟨c0,c1,c2,f0,f1,f2⟩:=zq_ hR;clear hR hc1;rcases hab with ha|ha
   · have hd:decide ((2147483647:Int)<((zz_ l 4:Nat):Int))=true:=(by simp;omega);go_wp2_with fail;obtain⟨hS,hCS⟩:=vr_ HC1.o hwg HR.o (.int .i64 0) (.int .i64 0) (.int .u32 0);generalize ((w1.setCell ⟨g,0,none⟩ (.int .i64 0)).setCell ⟨g,1,none⟩ (.int .i64 0)).setCell ⟨g,2,none⟩ (.int .u32 0)=w9 at hS hCS⊢;obtain⟨k0,k1,k2,_,_,_⟩:=zq_ hS;exact bodyPost_ret (v:=.tuple #[zB_ 0 0 0,.bool false]) (by simp[results,Tryz.results113,go_sem,zB_,k0,k1,k2]) rfl (.inr ⟨HNO.o,rfl,hCS⟩)
   · by_cases ha4:2147483647<zz_ l 4
     · have hd:decide ((2147483647:Int)<((zz_ l 4:Nat):Int))=true:=(by simp;omega);go_wp2_with fail;obtain⟨hS,hCS⟩:=vr_ HC1.o hwg HR.o (.int .i64 0) (.int .i64 0) (.int .u32 0);generalize ((w1.setCell ⟨g,0,none⟩ (.int .i64 0)).setCell ⟨g,1,none⟩ (.int .i64 0)).setCell ⟨g,2,none⟩ (.int .u32 0)=w9 at hS hCS⊢;obtain⟨k0,k1,k2,_,_,_⟩:=zq_ hS;exact bodyPost_ret (v:=.tuple #[zB_ 0 0 0,.bool false]) (by simp[results,Tryz.results113,go_sem,zB_,k0,k1,k2]) rfl (.inr ⟨HNO.o,rfl,hCS⟩)
     · have hd:decide ((2147483647:Int)<((zz_ l 4:Nat):Int))=false:=(by simp;omega);have hd2:decide ((2147483647:Int)<((zz_ l 8:Nat):Int))=true:=(by simp;omega);go_wp2_with fail;obtain⟨hS,hCS⟩:=vr_ HC1.o hwg HR.o (.int .i64 0) (.int .i64 0) (.int .u32 0);generalize ((w1.setCell ⟨g,0,none⟩ (.int .i64 0)).setCell ⟨g,1,none⟩ (.int .i64 0)).setCell ⟨g,2,none⟩ (.int .u32 0)=w9 at hS hCS⊢;obtain⟨k0,k1,k2,_,_,_⟩:=zq_ hS;exact bodyPost_ret (v:=.tuple #[zB_ 0 0 0,.bool false]) (by simp[results,Tryz.results113,go_sem,zB_,k0,k1,k2]) rfl (.inr ⟨HNO.o,rfl,hCS⟩)
 · have hd:decide ((2147483647:Int)<((zz_ l 4:Nat):Int))=false:=(by simp;omega);have hd2:decide ((2147483647:Int)<((zz_ l 8:Nat):Int))=false:=(by simp;omega);have hle4:zz_ l 4<=2147483647:=(by omega);have hle8:zz_ l 8<=2147483647:=(by omega);have HI:=hQ_ (show vE_ l↔l=z3_ (zz_ l 4) (zz_ l 8) (zz_ l 12) from⟨fun h=>h.2.2,fun h=>⟨hle4,hle8,h⟩⟩);have m4:IntKind.i64.wrap ((zz_ l 4:Nat):Int)=((zz_ l 4:Nat):Int):=IntWalk.i64_in _ (by omega);have m8:IntKind.i64.wrap ((zz_ l 8:Nat):Int)=((zz_ l 8:Nat):Int):=IntWalk.i64_in _ (by omega);clear hab;generalize hq4:zz_ l 4=a at *;generalize hq8:zz_ l 8=b at *;generalize hq12:zz_ l 12=d at *;have HQ:=hQ_ (And.intro hq4 (And.intro hq8 hq12));clear hq4 hq8 hq12 hR hc1;go_wp2_with fail;refine(uH_ (H.o.keep HC1.o) 12 (by omega)).mono ?_;rintro e w' ⟨rfl,rfl⟩;rw[HQ.o.2.2];go_wp2_with fail;have hN:=zb_.new w1 82 [.int .i64 (a:Int),.int .i64 (b:Int),.int .u32 (d:Int)];have hc2:Chg [] w (w1.alloc (.cells #[.int .i64 (a:Int),.int .i64 (b:Int),.int .u32 (d:Int)] 82)):=HC1.o.alloc _;have hR2:=HR.o.keep ((Chg.refl [] w1).alloc (.cells #[.int .i64 (a:Int),.int .i64 (b:Int),.int .u32 (d:Int)] 82));generalize w1.alloc (.cells #[.int .i64 (a:Int),.int .i64 (b:Int),.int .u32 (d:Int)] 82)=w2 at hN hc2 hR2⊢;generalize w1.heap.size=g6 at hN⊢;refine(uU_ a b d hle4 hle8 h12).mono ?_;rintro e w3 ⟨v3,rfl,ho3,hc3⟩;obtain⟨A3,c3,rfl,hB3,_⟩:=Bs.of_own ho3;rw[x7_]at hB3⊢;have HC3:=hQ_ (hc2.new hc3);have HR3:=hQ_ (hR2.keep hc3);have hN3:=hN.keep hc3;have HB3:=hQ_ hB3;clear hN hc2 hR2 ho3 hc3 hB3;go_wp2_with fail;refine(kR_ (H.o.keep HC3.o) HB3.o).mono ?_;rintro e w' ⟨rfl,rfl⟩;obtain⟨c0,c1,c2,f0,f1,f2⟩:=zq_ HR3.o;obtain⟨e0,e1,e2,_,_,_⟩:=zq_ hN3;clear hN3;by_cases hl:l=z3_ a b d
   · have HYES:=hQ_ (HI.o.2 hl);have hdl:decide (l=z3_ a b d)=true:=(by simpa using hl);rw[hdl];clear hdl hl;go_wp2_with fail;obtain⟨hS,hCS⟩:=vr_ HC3.o hwg HR3.o (.int .i64 (a:Int)) (.int .i64 (b:Int)) (.int .u32 (d:Int));generalize ((w3.setCell ⟨g,0,none⟩ (.int .i64 (a:Int))).setCell ⟨g,1,none⟩ (.int .i64 (b:Int))).setCell ⟨g,2,none⟩ (.int .u32 (d:Int))=w9 at hS hCS⊢;obtain⟨k0,k1,k2,_,_,_⟩:=zq_ hS;exact bodyPost_ret (v:=.tuple #[zB_ a b d,.bool true]) (by simp[results,Tryz.results113,go_sem,zB_,k0,k1,k2]) rfl (.inl ⟨HYES.o,by rw[HQ.o.1,HQ.o.2.1,HQ.o.2.2],hCS⟩)
   · have HNO:=hQ_ (fun h=>hl (HI.o.1 h));have hdl:decide (l=z3_ a b d)=false:=(by simpa using hl);rw[hdl];clear hdl hl;go_wp2_with fail;obtain⟨hS,hCS⟩:=vr_ HC3.o hwg HR3.o (.int .i64 0) (.int .i64 0) (.int .u32 0);generalize ((w3.setCell ⟨g,0,none⟩ (.int .i64 0)).setCell ⟨g,1,none⟩ (.int .i64 0)).setCell ⟨g,2,none⟩ (.int .u32 0)=w9 at hS hCS⊢;obtain⟨k0,k1,k2,_,_,_⟩:=zq_ hS;exact bodyPost_ret (v:=.tuple #[zB_ 0 0 0,.bool false]) (by simp[results,Tryz.results113,go_sem,zB_,k0,k1,k2]) rfl (.inr ⟨HNO.o,rfl,hCS⟩)
end
section
variable {w w':World} {B B2 n m k k2:Nat} {e e2:TypeId} {v v2:Value} {xs ys:List Value}
theorem zf_ (h:w.ownsRow B e k v n xs)(hc:Chg [] w w'):w'.ownsRow B e k v n xs:=by
 refine⟨h.1,h.2.imp id ?_⟩;rintro⟨g,cap,cur,rfl,hb,hg,r⟩;refine⟨g,cap,cur,rfl,hb,?_,r⟩;rw[hc.block g ?_ (by simp)]
 · exact hg
 · rcases Nat.lt_or_ge g w.heap.size with hlt|hge
   · exact hlt
   · rw[Array.getElem?_eq_none hge]at hg;cases hg
theorem zh_ (h:w.ownsRow B e k v n xs):∃A c,v=.slice A n c/\n<=c/\c<=9223372036854775807/\(∀ad,A=some ad->ad.spot=none/\B<=ad.block/\ad.off=0/\ad.block<w.heap.size):=by
 rcases h.2 with⟨rfl,rfl⟩|⟨g,cap,cur,rfl,hb,hg,hn,hc,hs,ht⟩
 · exact⟨none,0,rfl,Nat.le_refl _,by omega,fun ad h=>by cases h⟩
 · have hgl:g<w.heap.size:=by
    rcases Nat.lt_or_ge g w.heap.size with hlt|hge
    · exact hlt
    · rw[Array.getElem?_eq_none hge]at hg;cases hg
   exact⟨some ⟨g,0,none⟩,cap,rfl,hn,by unfold maxLen at hc;omega,fun ad h=>by injection h with h;subst h;exact⟨rfl,hb,rfl,hgl⟩⟩
theorem zv_ (h:w.ownsRow B e k v n xs){A:Option Addr}{c:Nat}(hv:v=.slice A n c){j:Nat}{u:Value}(hj:xs[j]?=some u):∃g,A=some ⟨g,0,none⟩/\w.cell? ⟨g,j,none⟩=some u:=by
 rcases h.2 with⟨rfl,rfl⟩|⟨g,cap,cur,rfl,hb,hg,hn,hc,hs,ht⟩
 · have:=(List.getElem?_eq_some_iff.1 hj).1;have h1:=h.1;simp at h1;subst h1;simp at hj
 · injection hv with h1;refine⟨g,h1.symm,?_⟩;have:=h.cells (g:=g) rfl j u hj;rwa[zl_,Nat.zero_add]at this
theorem yl_ (h:w.ownsRow B e k v n xs)(h2:w.ownsRow B2 e2 k2 v2 m ys)(hne:e≠e2)(hg:w.grownBy w' v2.ownBlock):w'.ownsRow B e k v n xs:=by
 refine⟨h.1,h.2.imp id ?_⟩;rintro⟨g,cap,cur,rfl,hb,hh,r⟩;refine⟨g,cap,cur,rfl,hb,?_,r⟩;rw[hg.block g ?_ ?_]
 · exact hh
 · rcases Nat.lt_or_ge g w.heap.size with hlt|hge
   · exact hlt
   · rw[Array.getElem?_eq_none hge]at hh;cases hh
 · intro hc;rcases h2.2 with⟨rfl,_⟩|⟨g2,cap2,cur2,rfl,hb2,hh2,_⟩
   · simp[Value.ownBlock]at hc
   · simp[Value.ownBlock]at hc;subst hc;rw[hh]at hh2;simp at hh2;exact hne hh2.2
end
def zN_ (s:ByteArray):Nat->Nat->List Nat
  | 0,_=>[]
  | f+1,pos=>if pos<s.size then (Utf8.decode s pos).1::zN_ s f (pos+(Utf8.decode s pos).2) else []
def vD_ (s:ByteArray):List Nat:=zN_ s s.size 0
theorem vL_ (s:ByteArray)(pos:Nat)(h:pos<s.size):1<=(Utf8.decode s pos).2:=by
 by_cases ha:(s[pos]'h).toNat<128
 · rw[decode_ascii s pos h ha];exact Nat.le_refl _
 · exact(decode_high s pos h (by omega)).2
theorem kZ_ (s:ByteArray):∀(f g pos:Nat),s.size-pos<=f->f<=g->zN_ s f pos=zN_ s g pos
  | 0,0,_,_,_=>rfl
  | 0,g+1,pos,h,_=>by
    rw[zN_,zN_,if_neg (by omega)]
  | f+1,g+1,pos,h,hg=>by
    rw[zN_,zN_];by_cases hp:pos<s.size
    · rw[if_pos hp,if_pos hp,kZ_ s f g _ (by have:=vL_ s pos hp;omega) (by omega)]
    · rw[if_neg hp,if_neg hp]
structure FnV where
  name:Int
  args:Int
  code:ByteArray
def fnC (t:FnV):List Value:=[.int .i32 t.name,.int .i64 t.args,.string t.code]
def kL_:List FnV->List Value
  | []=>[]
  | t::l=>fnC t++kL_ l
theorem y6_:∀l,(kL_ l).length=l.length*3
  | []=>rfl
  | t::l=>by rw[kL_,List.length_append,y6_ l];simp[fnC];omega
theorem zdU:∀l m,kL_ (l++m)=kL_ l++kL_ m
  | [],_=>rfl
  | t::l,m=>by rw[List.cons_append,kL_,kL_,zdU l m,List.append_assoc]
theorem jo_:∀(l:List FnV)(k:Nat)(t:FnV)(j:Nat),l[k]?=some t->j<3->(kL_ l)[k*3+j]?=(fnC t)[j]?
  | [],k,t,j,h,hj=>by simp at h
  | u::l,0,t,j,h,hj=>by
    simp at h;subst h;rw[kL_,List.getElem?_append_left (by simp[fnC];omega)];congr 1;omega
  | u::l,k+1,t,j,h,hj=>by
    simp at h;rw[kL_,List.getElem?_append_right (by simp[fnC];omega)];rw[<-jo_ l k t j h hj];congr 1;simp[fnC];omega
def yr_ (r:Int):Bool:=(decide (97<=r)&&decide (r<=122))||(decide (255<r)&&(r != 65533)&&decide (r<=1114111)&&(decide (r<55296)||decide (57343<r)))
def zcc:List Nat:=[43,45,42,47,37,38,124,94,60,61,33,46,44,64,36,35,63,58,59,91,93,126,171,187,169,174,164,161,955,960]
def yi_ (r:Int):Bool:=(decide (97<=r)&&decide (r<=122))||(decide (65<=r)&&decide (r<=90))||zcc.any fun x=>(x:Int)==r
def zcb:ByteArray:=⟨#[43,45,42,47,37,38,124,94,60,61,33,46,44,64,36,35,63,58,59,91,93,126,194,171,194,187,194,169,194,174,194,164,194,161,206,187,207,128]⟩
theorem zeU:vD_ zcb=zcc:=by decide +kernel
def yR_ (r:Int):Bool:=decide (97<=r)&&decide (r<=122)
def kf_ (r:Int):Bool:=decide (48<=r)&&decide (r<=57)
def yh_ (r:Int):Bool:=(r==955)||(r==960)
def vN_ (r:Int):Bool:=(decide (0<=r)&&decide (r<55296))||(decide (57343<r)&&decide (r<=1114111))
theorem xA_ (r:Int)(w:World):Calls Tryz.prog 100 #[.int .i32 r] w fun e w'=>e=.returned (.bool (yR_ r))/\w=w':=by
 obtain⟨b,hb⟩:∃b,b=yR_ r:=⟨_,rfl⟩;rw[<-hb];have HB:=hQ_ hb;clear hb;by_cases h1:97<=r
 · by_cases h2:r<=122
   · have HE:=hQ_ (show b=true from by rw[HB.o];simp[yR_,h1,h2]);go_enter Tryz.func100,Tryz.ntmps100;go_wp2_with fail;go_ret;exact⟨zV_ HE.o.symm,rfl⟩
   · have h2d:decide (r<=122)=false:=(by simpa using h2);have HE:=hQ_ (show b=false from by rw[HB.o];simp[yR_,h1,h2]);go_enter Tryz.func100,Tryz.ntmps100;go_wp2_with fail;go_ret;exact⟨zV_ HE.o.symm,rfl⟩
 · have h1d:decide (97<=r)=false:=(by simpa using h1);have HE:=hQ_ (show b=false from by rw[HB.o];simp[yR_,h1]);go_enter Tryz.func100,Tryz.ntmps100;go_wp2_with fail;go_ret;exact⟨zV_ HE.o.symm,rfl⟩
theorem zbw (r:Int)(w:World):Calls Tryz.prog 104 #[.int .i32 r] w fun e w'=>e=.returned (.bool (kf_ r))/\w=w':=by
 obtain⟨b,hb⟩:∃b,b=kf_ r:=⟨_,rfl⟩;rw[<-hb];have HB:=hQ_ hb;clear hb;by_cases h1:48<=r
 · by_cases h2:r<=57
   · have HE:=hQ_ (show b=true from by rw[HB.o];simp[kf_,h1,h2]);go_enter Tryz.func104,Tryz.ntmps104;go_wp2_with fail;go_ret;exact⟨zV_ HE.o.symm,rfl⟩
   · have h2d:decide (r<=57)=false:=(by simpa using h2);have HE:=hQ_ (show b=false from by rw[HB.o];simp[kf_,h1,h2]);go_enter Tryz.func104,Tryz.ntmps104;go_wp2_with fail;go_ret;exact⟨zV_ HE.o.symm,rfl⟩
 · have h1d:decide (48<=r)=false:=(by simpa using h1);have HE:=hQ_ (show b=false from by rw[HB.o];simp[kf_,h1]);go_enter Tryz.func104,Tryz.ntmps104;go_wp2_with fail;go_ret;exact⟨zV_ HE.o.symm,rfl⟩
theorem zaQ (r:Int)(w:World):Calls Tryz.prog 67 #[.int .i32 r] w fun e w'=>e=.returned (.bool (yh_ r))/\w=w':=by
 by_cases h1:r=955
 · subst h1;go_enter Tryz.func67,Tryz.ntmps67;go_wp2_with fail;go_ret;exact⟨rfl,rfl⟩
 · have q1:(r==955)=false:=(by simpa using h1);have HE:=hQ_ (show(r==960)=yh_ r from by unfold yh_;rw[q1];rfl);clear h1;go_enter Tryz.func67,Tryz.ntmps67;go_wp2_with fail;go_ret;exact⟨zV_ HE.o,rfl⟩
theorem zam (r:Int)(w:World):Calls Tryz.prog 101 #[.int .i32 r] w fun e w'=>e=.returned (.bool (vN_ r))/\w=w':=by
 obtain⟨b,hb⟩:∃b,b=vN_ r:=⟨_,rfl⟩;rw[<-hb];have HB:=hQ_ hb;clear hb;rcases Int.lt_or_le r 0 with h|h
 · have d1:decide (0<=r)=false:=(by simp;omega);have d2:decide (57343<r)=false:=(by simp;omega);have HE:=hQ_ (show b=false from by rw[HB.o];simp[vN_];omega);go_enter Tryz.func101,Tryz.ntmps101;go_wp2_with fail;go_ret;exact⟨zV_ HE.o.symm,rfl⟩
 · rcases Int.lt_or_le r 55296 with h2|h2
   · skip
     have HE:=hQ_ (show b=true from by rw[HB.o];simp[vN_];omega);go_enter Tryz.func101,Tryz.ntmps101;go_wp2_with fail;go_ret;exact⟨zV_ HE.o.symm,rfl⟩
   · have d1:decide (r<55296)=false:=(by simp;omega);rcases Int.lt_or_le 57343 r with h3|h3
     · rcases Int.lt_or_le 1114111 r with h4|h4
       · have d2:decide (r<=1114111)=false:=(by simp;omega);have HE:=hQ_ (show b=false from by rw[HB.o];simp[vN_];omega);go_enter Tryz.func101,Tryz.ntmps101;go_wp2_with fail;go_ret;exact⟨zV_ HE.o.symm,rfl⟩
       · skip
         have HE:=hQ_ (show b=true from by rw[HB.o];simp[vN_];omega);go_enter Tryz.func101,Tryz.ntmps101;go_wp2_with fail;go_ret;exact⟨zV_ HE.o.symm,rfl⟩
     · have d2:decide (57343<r)=false:=(by simp;omega);have HE:=hQ_ (show b=false from by rw[HB.o];simp[vN_];omega);go_enter Tryz.func101,Tryz.ntmps101;go_wp2_with fail;go_ret;exact⟨zV_ HE.o.symm,rfl⟩
theorem zfj {r:Int}(h:yR_ r=true):yr_ r=true:=by
 unfold yR_ at h;unfold yr_;rw[h];rfl
theorem kA_ {r:Int}(h:yR_ r=false)(h2:255<r):yr_ r=(vN_ r&&(r != 65533)):=by
 unfold yR_ at h;unfold yr_ vN_;rw[h];have e1:decide (255<r)=true:=by simpa using h2
 have e2:decide (0<=r)=true:=by simp;omega
 rw[e1,e2];cases hq:(r != 65533)<;>simp
 · rcases Int.lt_or_le r 55296 with h3|h3
   · have:decide (r<=1114111)=true:=(by simp;omega);have:decide (r<55296)=true:=by simp;omega
     simp_all
   · have:decide (r<55296)=false:=(by simp;omega);rw[this];simp[Bool.and_comm]
theorem zdD {r:Int}(h:yR_ r=false)(h2:¬255<r):yr_ r=false:=by
 unfold yR_ at h;unfold yr_;have e1:decide (255<r)=false:=by simpa using h2
 rw[h,e1];rfl
theorem u7_ (r:Int)(w:World):Calls Tryz.prog 60 #[.int .i32 r] w fun e w'=>e=.returned (.bool (yr_ r))/\w=w':=by
 cases hs:yR_ r with
 | true =>
   have HE:=hQ_ (zfj hs);have HS:=hQ_ hs;clear hs;go_enter Tryz.func60,Tryz.ntmps60;go_wp2_with fail;refine(xA_ r _).mono ?_;rw[HS.o];rintro e w' ⟨rfl,rfl⟩;go_wp2_with fail;go_ret;exact⟨zV_ HE.o.symm,rfl⟩
 | false =>
   by_cases h2:255<r
   · cases hv:vN_ r with
     | true =>
       have HE:=hQ_ (show(r != 65533)=yr_ r from by rw[kA_ hs h2,hv];rfl);have HS:=hQ_ hs;have HV:=hQ_ hv;clear hs hv;go_enter Tryz.func60,Tryz.ntmps60;go_wp2_with fail;refine(xA_ r _).mono ?_;rw[HS.o];rintro e w' ⟨rfl,rfl⟩;go_wp2_with fail;refine(zam r _).mono ?_;rw[HV.o];rintro e w' ⟨rfl,rfl⟩;go_wp2_with fail;go_ret;exact⟨zV_ HE.o,rfl⟩
     | false =>
       have HE:=hQ_ (show yr_ r=false from by rw[kA_ hs h2,hv];rfl);have HS:=hQ_ hs;have HV:=hQ_ hv;clear hs hv;go_enter Tryz.func60,Tryz.ntmps60;go_wp2_with fail;refine(xA_ r _).mono ?_;rw[HS.o];rintro e w' ⟨rfl,rfl⟩;go_wp2_with fail;refine(zam r _).mono ?_;rw[HV.o];rintro e w' ⟨rfl,rfl⟩;go_wp2_with fail;go_ret;exact⟨zV_ HE.o.symm,rfl⟩
   · have HE:=hQ_ (zdD hs h2);have HS:=hQ_ hs;have d2:decide (255<r)=false:=(by simpa using h2);clear hs h2;go_enter Tryz.func60,Tryz.ntmps60;go_wp2_with fail;refine(xA_ r _).mono ?_;rw[HS.o];rintro e w' ⟨rfl,rfl⟩;go_wp2_with fail;go_ret;exact⟨zV_ HE.o.symm,rfl⟩
def jK_ (f pos:Nat)(r:Int):Bool:=(zN_ zcb f pos).any fun x=>(x:Int)==r
theorem zkm (r:Int):jK_ zcb.size 0 r=zcc.any fun x=>(x:Int)==r:=by
 unfold jK_;rw[show zN_ zcb zcb.size 0=vD_ zcb from rfl,zeU]
theorem zfu (r:Int) (w:World) (h1:yR_ r=false) (h2:(decide (65<=r)&&decide (r<=90))=false):Calls Tryz.prog 66 #[.int .i32 r] w (ye_ (zcc.any fun x=>(x:Int)==r) w):=by
 have hpick:decide (65<=r)=false\/(decide (65<=r)=true/\decide (r<=90)=false):=by
  cases hq:decide (65<=r) with
  | false=>exact .inl rfl
  | true=>rw[hq]at h2;exact .inr ⟨rfl,by simpa using h2⟩
 have HB:=hQ_ (zkm r);generalize (zcc.any fun x=>(x:Int)==r)=b at HB⊢;obtain⟨s,hs⟩:∃s:ByteArray,s=⟨#[43,45,42,47,37,38,124,94,60,61,33,46,44,64,36,35,63,58,59,91,93,126,194,171,194,187,194,169,194,174,194,164,194,161,206,187,207,128]⟩:=⟨_,rfl⟩;have HSS:=hQ_ (show zcb=s from hs.symm);have HS:=hQ_ hs;have H1:=hQ_ h1;have hss:s.size=38:=by rw[hs];rfl
 have HZ:=hQ_ hss;clear hs h1 h2 hss;rcases hpick with hp|⟨hp,hp2⟩;all_goals
   go_enter Tryz.func66,Tryz.ntmps66;go_wp2_with fail;refine(xA_ r _).mono ?_;rw[H1.o];rintro e w' ⟨rfl,rfl⟩;go_upto_region 4 with fail;rw[<-HS.o];have hI:(w.iter s 0).heap[w.heap.size]?=some (.stringIter s 0):=World.iter_heap w s 0;have hc0:Chg [] w (w.iter s 0):=(Chg.refl [] w).alloc _;obtain⟨kI,hkI⟩:∃k,k=w.heap.size:=⟨_,rfl⟩;rw[<-hkI]at hI⊢;generalize w.iter s 0=w1 at hI hc0⊢;have HI:=hQ_ hI;have HC0:=hQ_ hc0;have HK:=hQ_ hkI;clear hI hc0 hkI;go_loopw [4] (fun _ wr=>(∃pos f,Hid (wr.heap[kI]?=some (.stringIter s pos))/\s.size-pos<=f/\Hid (b=jK_ f pos r))/\Hid (Chg [kI] w1 wr)) (fun _ wr=>s.size-wr.iterPos kI);(case atStart=>exact⟨⟨0,s.size,HI,by omega,hQ_ (by rw[<-HSS.o];exact HB.o.symm)⟩,hQ_ (Chg.refl _ _)⟩);case round =>
    obtain⟨⟨pos,f,HIr,hf,HR⟩,HCr⟩:=hrel;have HCZ:=hQ_ (fun (W:World)(hW:Chg [kI] w1 W)=>show Chg [] w W from HC0.o.then_ hW (fun i hi hl=>by have:=HK.o;simp only[List.mem_cons,List.not_mem_nil,or_false]at hi;omega));by_cases hlt:pos<s.size
    · obtain⟨f',rfl⟩:∃f',f=f'+1:=⟨f-1,by omega⟩;have hnx:=fun ty=>Lib.run_next_any_at (P:=Tryz.prog) wr kI s pos ty HIr.o hlt;go_upto_region 6 with fail;obtain⟨d,hd⟩:∃d,d=(Utf8.decode s pos).2:=⟨_,rfl⟩;obtain⟨x,hx⟩:∃r,r=(Utf8.decode s pos).1:=⟨_,rfl⟩;have hw:=vL_ s pos hlt;rw[<-hd]at hw;have HR2:=hQ_ (show b=(((x:Int)==r)||jK_ f' (pos+d) r) from by rw[HR.o];unfold jK_;rw[HSS.o,zN_,if_pos hlt,<-hd,<-hx];simp);have HI2:=hQ_ (Lib.iterAt_heap wr kI s pos (pos+d) HIr.o);have HC2:=hQ_ (show Chg [kI] w1 (wr.iterAt kI s (pos+d)) from HCr.o.trans ⟨rfl,rfl,rfl,by rw[Lib.iterAt_size];exact Nat.le_refl _,fun i _ hn=>Lib.iterAt_other wr kI i s (pos+d) (by simpa using hn)⟩);rw[<-hd,<-hx];have HMP:=hQ_ (show wr.iterPos kI=pos from by unfold World.iterPos;rw[HIr.o]);have HP2:=hQ_ (show(wr.iterAt kI s (pos+d)).iterPos kI=pos+d from by unfold World.iterPos;rw[HI2.o]);generalize wr.iterAt kI s (pos+d)=w3 at HI2 HC2 HP2⊢;clear hx hd hnx;by_cases hxr:(x:Int)=r
      · have hxd:((x:Int)==r)=true:=(by simpa using hxr);have HPO:=hQ_ (show ye_ b w (.returned (.bool true)) w3 from⟨by rw[HR2.o,hxd];rfl,HCZ.o _ HC2.o⟩);clear hxr;go_wp2_with fail;go_ret;exact HPO.o
      · have hxd:((x:Int)==r)=false:=(by simpa using hxr);have HR3:=hQ_ (show b=jK_ f' (pos+d) r from by rw[HR2.o,hxd];rfl);go_wp2_with fail;go_roundw;(case rel=>exact⟨⟨pos+d,f',HI2,by omega,HR3⟩,HC2⟩);case measure=>rw[HP2.o,HMP.o];omega
    · have hnx:=fun ty=>Lib.run_next_end_at (P:=Tryz.prog) wr kI s pos ty HIr.o hlt;have HPO:=hQ_ (show ye_ b w (.returned (.bool false)) wr from⟨by rw[HR.o];unfold jK_;rw[HSS.o];cases f with
        | zero=>simp[zN_]
        | succ f=>rw[zN_,if_neg hlt];simp,HCZ.o _ HCr.o⟩);go_wp2_with fail;go_ret;exact HPO.o
theorem kK_ (r:Int)(w:World):Calls Tryz.prog 66 #[.int .i32 r] w (ye_ (yi_ r) w):=by
 cases hs:yR_ r with
 | true =>
   have HE:=hQ_ (show yi_ r=true from by unfold yi_;unfold yR_ at hs;rw[hs];rfl);have HS:=hQ_ hs;clear hs;go_enter Tryz.func66,Tryz.ntmps66;go_wp2_with fail;refine(xA_ r _).mono ?_;rw[HS.o];rintro e w' ⟨rfl,rfl⟩;go_wp2_with fail;go_ret;exact⟨zV_ HE.o.symm,Chg.refl _ _⟩
 | false =>
   cases hZ:(decide (65<=r)&&decide (r<=90)) with
   | true =>
     have HE:=hQ_ (show yi_ r=true from by unfold yi_;rw[hZ];simp);have h3:65<=r:=(by simp at hZ;omega);have h4:r<=90:=(by simp at hZ;omega);have HS:=hQ_ hs;clear hs hZ;go_enter Tryz.func66,Tryz.ntmps66;go_wp2_with fail;refine(xA_ r _).mono ?_;rw[HS.o];rintro e w' ⟨rfl,rfl⟩;go_wp2_with fail;go_ret;exact⟨zV_ HE.o.symm,Chg.refl _ _⟩
   | false =>
     have h:=zfu r w hs hZ;have e:yi_ r=zcc.any fun x=>(x:Int)==r:=(by
      unfold yi_;unfold yR_ at hs;rw[hs,hZ];simp);rw[e];exact h
structure TkV where
  sign:Int
  n:Int
  name:Int
def tkC (t:TkV):List Value:=[.int .i32 t.sign,.int .i64 t.n,.int .i32 t.name]
def vC_:List TkV->List Value
  | []=>[]
  | t::l=>tkC t++vC_ l
theorem yG_:∀l,(vC_ l).length=l.length*3
  | []=>rfl
  | t::l=>by rw[vC_,List.length_append,yG_ l];simp[tkC];omega
theorem y2_:∀l m,vC_ (l++m)=vC_ l++vC_ m
  | [],_=>rfl
  | t::l,m=>by rw[List.cons_append,vC_,vC_,y2_ l m,List.append_assoc]
theorem vn_:∀(l:List TkV)(k:Nat)(t:TkV)(j:Nat),l[k]?=some t->j<3->(vC_ l)[k*3+j]?=(tkC t)[j]?
  | [],k,t,j,h,hj=>by simp at h
  | u::l,0,t,j,h,hj=>by
    simp at h;subst h;rw[vC_,List.getElem?_append_left (by simp[tkC];omega)];congr 1;omega
  | u::l,k+1,t,j,h,hj=>by
    simp at h;rw[vC_,List.getElem?_append_right (by simp[tkC];omega)];rw[<-vn_ l k t j h hj];congr 1;simp[tkC];omega
def yD_ (l:List TkV):List Int:=l.map (·.sign)
theorem q5_:(Tryz.prog.info? 132).map (fun i=>(i.zero,i.size,i.bytes))=some (some (.agg #[.int .i32 0,.int .i64 0,.int .i32 0]),3,24):=by kernel_rfl
structure Tks (W:World) (A:Option Addr) (n c:Nat) (l:List TkV):Prop where
  len:l.length=n
  src:Src W A (vC_ l)
  cap:n<=c
  max:n<=100000
  spot:0<n->∀ad,A=some ad->ad.spot=none
section
variable {W W':World} {A:Option Addr} {n c:Nat} {l:List TkV}
theorem Tks.keep (h:Tks W A n c l)(hc:Chg [] W W'):Tks W' A n c l:=⟨h.len,h.src.keep hc,h.cap,h.max,h.spot⟩
theorem Tks.nil (W:World):Tks W none 0 0 []:=⟨rfl,Src.nil _ _,Nat.le_refl _,by omega,fun h=>absurd h (by omega)⟩
theorem Tks.cell (h:Tks W A n c l){k:Nat}{t:TkV}(hk:l[k]?=some t):∃b o,A=some ⟨b,o,none⟩/\b<W.heap.size/\W.cell? ⟨b,o+k*3,none⟩=some (.int .i32 t.sign)/\W.cell? ⟨b,o+k*3+1,none⟩=some (.int .i64 t.n)/\W.cell? ⟨b,o+k*3+2,none⟩=some (.int .i32 t.name):=by
 have hkl:=(List.getElem?_eq_some_iff.1 hk).1;obtain⟨⟨b,o,s⟩,e,hb,hx⟩:=h.src (by rw[yG_];omega);obtain rfl:s=none:=h.spot (by have:=h.len;omega) _ e;refine⟨b,o,e,hb,?_,?_,?_⟩
 · have:=hx _ _ ((vn_ l k t 0 hk (by omega)).trans rfl);rwa[zl_]at this
 · have:=hx _ _ ((vn_ l k t 1 hk (by omega)).trans rfl);rwa[zl_]at this
 · have:=hx _ _ ((vn_ l k t 2 hk (by omega)).trans rfl);rwa[zl_]at this
theorem Tks.of_own {B:Nat}{e:TypeId}{v:Value}(h:W.ownsRow B e 3 v n (vC_ l))(hm:n<=100000):∃A c,v=.slice A n c/\Tks W A n c l:=by
 have hl:l.length=n:=by have:=h.1;rw[yG_]at this;omega
 rcases h.2 with⟨rfl,rfl⟩|⟨g,cap,cur,rfl,hb,hg,hn,hc,hs,ht⟩
 · exact⟨none,0,rfl,hl,fun h=>absurd h (by rw[yG_];omega),Nat.le_refl _,by omega,fun h=>absurd h (by omega)⟩
 · refine⟨_,cap,rfl,hl,fun _=>⟨_,rfl,?_,fun j u hj=>h.cells rfl j u hj⟩,hn,hm,fun _ ad e=>by injection e with e;subst e;rfl⟩;rcases Nat.lt_or_ge g W.heap.size with hlt|hge
   · exact hlt
   · rw[Array.getElem?_eq_none hge]at hg;cases hg
end
def gD_ (L:List Nat):Nat->Nat->Nat->Option (Nat×Nat)
  | 0,j,m=>some (m,j)
  | f+1,j,m=>match L[j]? with
    | some x=>if 48<=x/\x<=57 then (if (9223372036854775807-(x-48))/10<m then none else gD_ L f (j+1) (m*10+(x-48))) else some (m,j)
    | none=>some (m,j)
def zbY (L:List Nat):Nat->Nat->List TkV->Option (List TkV)
  | 0,_,ts=>some ts
  | f+1,i,ts=>match L[i]? with
    | none=>some ts
    | some r=>if r=32 then zbY L f (i+1) ts
      else if 48<=r/\r<=57 then (match gD_ L L.length i 0 with
        | none=>none
        | some (m,j)=>zbY L f j (ts++[⟨48,(m:Int),0⟩]))
      else if r=955\/r=960 then (match L[i+1]? with
        | none=>none
        | some x=>if yr_ (x:Int)=true then zbY L f (i+2) (ts++[⟨(r:Int),0,(x:Int)⟩]) else none)
      else if yi_ (r:Int)=true then zbY L f (i+1) (ts++[⟨(r:Int),0,0⟩]) else none
def uJ_ (s:ByteArray):Option (List TkV):=if 512<s.size then none else zbY (vD_ s) ((vD_ s).length+1) 0 []
def zeI (s:ByteArray):Int:=if 512<s.size then 3 else 12
def kT_ (s:ByteArray)(w:World)(e:Ending)(w':World):Prop :=
 Chg [] w w'/\((∃ts v,uJ_ s=some ts/\ts.length<=512/\e=.returned (.tuple #[v,.int .i64 0])/\w'.ownsRow w.heap.size 132 3 v ts.length (vC_ ts)) \/
   (uJ_ s=none/\e=.returned (.tuple #[.slice none 0 0,.int .i64 (zeI s)])))
theorem ym_ {w:World}{B B' e k n:Nat}{v:Value}{xs:List Value}(h:w.ownsRow B e k v n xs)(hB:B'<=B):w.ownsRow B' e k v n xs:=by
 refine⟨h.1,h.2.imp id ?_⟩;rintro⟨g,cap,cur,rfl,hb,r⟩;exact⟨g,cap,cur,rfl,Nat.le_trans hB hb,r⟩
end Go.Proofs.YtcbcfcdmdedefaaGreatDoor
