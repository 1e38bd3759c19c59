import Derived.Test.YtcbcfcdmdedefaaGreatDoorZTA16
set_option maxRecDepth 100000
set_option maxHeartbeats 16000000
namespace Go.Proofs.YtcbcfcdmdedefaaGreatDoor
open Go.RowKit
theorem gc_:∀(ls m:List ChV)(P:List (List UInt8)),ls.map zbI=m.map zbI->zX_ P ls=zX_ P m
  | [],[],_,_=>rfl
  | [],_::_,_,h=>by simp at h
  | _::_,[],_,h=>by simp at h
  | a::ls,b::m,P,h=>by
    simp only[List.map_cons,List.cons.injEq]at h;have e:yV_ P a=yV_ P b:=(by
     have h1:=h.1;simp only[zbI,Prod.mk.injEq]at h1;unfold yV_;rw[h1.1,h1.2]);show zX_ (yV_ P a) ls=zX_ (yV_ P b) m;rw[e,gc_ ls m _ h.2]
theorem zaM:∀(ls m:List ChV)(N:List Bool),ls.map zbI=m.map zbI->x8_ N ls=x8_ N m
  | [],[],_,_=>rfl
  | [],_::_,_,h=>by simp at h
  | _::_,[],_,h=>by simp at h
  | a::ls,b::m,N,h=>by
    simp only[List.map_cons,List.cons.injEq]at h;have h1:=h.1;simp only[zbI,Prod.mk.injEq]at h1;show x8_ (N.set a.page.toNat true) ls=x8_ (N.set b.page.toNat true) m;rw[h1.1,zaM ls m _ h.2]
theorem zal (x:SV){ls m:List ChV}(h:ls.map zbI=m.map zbI):zY_ x ls=zY_ x m:=by
 unfold zY_;rw[gc_ ls m _ h,zaM ls m _ h]
def xp_ (s:St)(o:RV):SV:=⟨o.log,o.pages,o.epoch,z4_ s o.log o.pages,List.replicate o.pages false,0,0⟩
noncomputable def recT (s:St) (o:RV):List (List ChV):=(recsS s o.log o.pages o.epoch).1
noncomputable def openV (s:St) (o:RV):SV:=(recT s o).foldl zY_ (xp_ s o)
theorem uL_:∀(l:List (List ChV))(x:SV),(l.foldl zY_ x).L=x.L/\(l.foldl zY_ x).P=x.P/\(l.foldl zY_ x).E=x.E/\(l.foldl zY_ x).used=x.used/\(l.foldl zY_ x).seq=x.seq
  | [],_=>⟨rfl,rfl,rfl,rfl,rfl⟩
  | m::l,x=>uL_ l (zY_ x m)
theorem ziE {α:Type}(f:SV->α->SV)(x:SV)(l:List α)(j:Nat)(a:α)(h:l[j]?=some a):(l.take (j+1)).foldl f x=f ((l.take j).foldl f x) a:=by
 obtain⟨hj,he⟩:=List.getElem?_eq_some_iff.1 h;rw[List.take_succ_eq_append_getElem hj,List.foldl_append,he];rfl
theorem qR_ (P:Int):∀(rs:List (List UInt8)),∀m∈(zad P rs).1,zF_ P m=true
  | [],m,h=>by simp[zad]at h
  | b :: rs,m,h=>by
    rw[zad]at h;split at h
    · rename_i hok;rcases List.mem_cons.1 h with rfl|h
      · exact hok.2.2
      · exact qR_ P rs m h
    · simp at h
theorem qC_ {n:Int}{o:RV}{l:List UInt8}(h:o.epoch=0\/zq_ o.log o.pages o.epoch n=true):(zx_ n o l).epoch=0\/zq_ (zx_ n o l).log (zx_ n o l).pages (zx_ n o l).epoch n=true:=by
 unfold zx_;split
 · rename_i hc;exact .inr hc.2.1
 · exact h
theorem ql_ (n:Nat)(S:List UInt8):∀k,(yU_ n S k).epoch=0\/zq_ (yU_ n S k).log (yU_ n S k).pages (yU_ n S k).epoch n=true
  | 0=>.inl rfl
  | k+1=>qC_ (ql_ n S k)
theorem gy_ {w:World}{B n k e:Nat}{v:Value}{xs:List Value}(h:w.ownsRow B e k v n xs){A:Option Addr}{m c:Nat}(hv:v=.slice A m c):∀ad,A=some ad->B<=ad.block:=by
 intro ad e';subst hv e';rcases h.2 with⟨hz,_⟩|⟨g,cap,cur,hz,hb,_⟩
 · injection hz with hz _ _;cases hz
 · injection hz with hz _ _;injection hz with hz;subst hz;exact hb
theorem znE {w:World}{B n k e:Nat}{v:Value}{xs:List Value}(h:w.ownsRow B e k v n xs):n<=9223372036854775807:=by
 rcases h.2 with⟨rfl,rfl⟩|⟨g,cap,cur,rfl,hb,hg,hn,hc,hs,ht⟩
 · omega
 · unfold maxLen at hc;omega
def um_ (w:World)(p bL bS bW:Nat)(s:St)(e:Ending)(w':World):Prop :=
 ((yU_ s.V.length s.S 2).epoch=0/\e=.returned (.tuple #[.pointer none,.int .i64 22])/\Chg [] w w') \/
 ((yU_ s.V.length s.S 2).epoch=4294967295/\e=.returned (.tuple #[.pointer none,.int .i64 24])/\Chg [] w w') \/
 (0<(yU_ s.V.length s.S 2).epoch/\(yU_ s.V.length s.S 2).epoch<4294967295/\∃g gN v,e=.returned (.tuple #[.pointer (some ⟨g,0,none⟩),.int .i64 0])/\w.heap.size<=g/\w.heap.size<=gN /\
   Sto w' ⟨p,bL,bS,bW,g,gN,[]⟩ (ckS s (openV s (yU_ s.V.length s.S 2))) (ckV (openV s (yU_ s.V.length s.S 2))) v/\Chg [bL,bS,bW] w w')
theorem uI_.of_rows {B n:Nat}{w:World}{v:Value}{vs:List Value}{ps:List (List UInt8)}{T:List Nat}(h:w.ownsRow B 39 1 v n vs)(hn:n=ps.length)(hr:Rows B w vs ps)(hT:∀i∈T,i<B\/(∃t cs,zb_ w i t cs/\t≠39/\t≠5)):uI_ T w v ps:=by
 subst hn;have key:∀{e k m:Nat}{u:Value}{xs:List Value}{ad:Addr}{A:Option Addr}{q c:Nat},w.ownsRow B e k u m xs->u=.slice A q c->A=some ad->(e=39\/e=5)->ad.block∉T:=by
  intro e k m u xs ad A q c ho hu hA he hm;rcases ho.2 with⟨hz,_⟩|⟨g,cap,cur,hz,hb,hh,_⟩
  · rw[hu]at hz;injection hz with hz _ _;rw[hA]at hz;cases hz
  · rw[hu]at hz;injection hz with hz _ _;rw[hA]at hz;injection hz with hz;subst hz;rcases hT _ hm with h1|⟨t,cs,hW,h1,h2⟩
    · have h1:g<B:=h1;omega
    · have hh':w.heap[g]?=_:=hW;rw[hh']at hh;injection hh with hh;injection hh with _ hh _;rcases he with rfl|rfl
      · exact h1 hh
      · exact h2 hh
 obtain⟨A,c,rfl,hl,hc,hs,hA⟩:=zr_ h;refine⟨A,c,vs,rfl,hc,hs,hl,fun ad e=>⟨(hA ad e).1,key h rfl e (.inl rfl)⟩,fun i u l hu hl=>?_⟩;have ho:=hr.2 i u l hu hl;obtain⟨A',c',e',hB,_⟩:=Bs.of_own ho;exact⟨A',l.length,c',e',hB,fun ad e=>key ho e' e (.inr rfl)⟩
def namF (B n:Nat):yI_:=fun v W=>∃g,v=.slice (some ⟨g,0,none⟩) n n/\zb_ W g 4 (bls (List.replicate n false))/\B<=g
theorem zaT (B n:Nat):zQ_ (Chg []) (namF B n):=fun _ _ _ ⟨g,e,hW,h⟩ hc=>⟨g,e,hW.keep hc,h⟩
def zoP (p:Nat)(o:RV)(vP:Value)(gN:Nat):List Value:=[.pointer (some ⟨p,0,none⟩),.int .i64 (o.log:Int),.int .i64 (o.pages:Int),.int .u32 (o.epoch:Int),vP,.slice (some ⟨gN,0,none⟩) o.pages o.pages,.int .i64 0,.int .u32 0]
def bldF (B p:Nat)(o:RV)(ls:List (List UInt8)):yI_:=fun v W=>∃vP vs gN,v=.agg (zoP p o vP gN).toArray/\W.ownsRow B 39 1 vP ls.length vs/\Rows B W vs ls/\zb_ W gN 4 (bls (List.replicate o.pages false))/\B<=gN
theorem zaV (B p:Nat)(o:RV)(ls:List (List UInt8)):zQ_ (Chg []) (bldF B p o ls):=fun _ _ _ ⟨vP,vs,gN,e,h1,h2,h3,h4⟩ hc=>⟨vP,vs,gN,e,zk_ h1 hc,h2.keep hc,h3.keep hc,h4⟩
def boxF (B p:Nat)(o:RV)(ls:List (List UInt8)):yI_:=fun v W=>∃g vP vs gN,v=.pointer (some ⟨g,0,none⟩)/\zb_ W g 101 (zoP p o vP gN)/\B<=g/\W.ownsRow B 39 1 vP ls.length vs/\Rows B W vs ls/\zb_ W gN 4 (bls (List.replicate o.pages false))/\B<=gN
theorem u3_ (B p:Nat)(o:RV)(ls:List (List UInt8)):zQ_ (Chg []) (boxF B p o ls):=fun _ _ _ ⟨g,vP,vs,gN,e,h0,hB,h1,h2,h3,h4⟩ hc=>⟨g,vP,vs,gN,e,h0.keep hc,hB,zk_ h1 hc,h2.keep hc,h3.keep hc,h4⟩
section
variable {w:World} {p bL bS bW:Nat} {s:St}
theorem zdu (h:yx_ w p bL bS bW s):Calls Tryz.prog 41 #[.pointer (some ⟨p,0,none⟩)] w (um_ w p bL bS bW s):=by
 have H:=hQ_ h;have hlt:=g0_ s.V.length s.S 2;have hrt:=ql_ s.V.length s.S 2;have hbe:=zmb h;clear h;obtain⟨o,ho⟩:∃o,o=yU_ s.V.length s.S 2:=⟨_,rfl⟩;have HO:=hQ_ ho;rw[<-ho]at hlt hrt hbe;have HLT:=hQ_ hlt;have HRT:=hQ_ hrt;have HBE:=hQ_ hbe;clear ho hrt hbe;go_enter Tryz.func41,Tryz.ntmps41;go_wp2_with fail;refine HBE.o.mono ?_;rintro e w1 ⟨rfl,hc1⟩;have HC1:=hQ_ hc1;unfold zB_;clear hc1;go_upto_region 4 with fail;have hR:=zb_.new w1 82 [.int .i64 (o.log:Int),.int .i64 (o.pages:Int),.int .u32 (o.epoch:Int)];have hal:=(Chg.refl [] w1).alloc (.cells #[.int .i64 (o.log:Int),.int .i64 (o.pages:Int),.int .u32 (o.epoch:Int)] 82);have HC2:=hQ_ (HC1.o.new hal);obtain⟨gr,hgr⟩:∃g,g=w1.heap.size:=⟨_,rfl⟩;rw[<-hgr]at hR⊢;generalize w1.alloc (.cells #[.int .i64 (o.log:Int),.int .i64 (o.pages:Int),.int .u32 (o.epoch:Int)] 82)=w2 at hR HC2⊢;have HR2:=hQ_ hR;have r2:=hR.cell 2;clear hR hal hgr;by_cases h0:o.epoch=0
 · have q0:decide (0<o.epoch)=false:=(by simp[h0]);have HP:=hQ_ (show um_ w p bL bS bW s (.returned (.tuple #[.pointer none,.int .i64 22])) w2 from .inl ⟨by rw[<-HO.o];exact h0,rfl,HC2.o⟩);clear h0 hlt;go_wp2_with fail;go_ret2;exact HP.o
 have q0:decide (0<o.epoch)=true:=by simp;omega
 by_cases hF:o.epoch=4294967295
 · have q1:((o.epoch:Int)==4294967295)=true:=(by simp[hF]);have HP:=hQ_ (show um_ w p bL bS bW s (.returned (.tuple #[.pointer none,.int .i64 24])) w2 from .inr (.inl ⟨by rw[<-HO.o];exact hF,rfl,HC2.o⟩));clear h0 hlt hF;go_wp2_with fail;go_ret2;exact HP.o
 have q1:((o.epoch:Int)==4294967295)=false:=by simp;omega
 have HE:=hQ_ (show 0<o.epoch/\o.epoch<4294967295 by omega);have hright:zq_ (o.log:Int) (o.pages:Int) (o.epoch:Int) s.V.length=true:=HRT.o.resolve_left h0;have HRI:=hQ_ hright;have hlp:=zj_.1 hright;have HLP:=hQ_ (show 1<=o.log/\o.log<=64/\1<=o.pages/\o.pages<=64/\2+o.log+o.pages<=s.V.length by omega);clear h0 hF hlt hright hlp;go_upto_region 8 with fail;have HW2:=hQ_ (Dsk.keep H.o HC2.o);have HAL:=hQ_ (show zoE s o.log o.pages o.epoch=z4_ s o.log o.pages by unfold zoE;rw[if_pos HRI.o,Int.toNat_natCast]);clear r2 q0 q1;have hC0:=(Chg.refl [] w2).drew;refine wp_flow (by kernel_rfl) yl_ za_ (by kernel_rfl) ?_;refine flow_move_out za_ rfl rfl rfl ?_;refine flow1h (r:=zB_ o.log o.pages o.epoch) za_ rfl (.out rfl rfl) rfl (fun ev W he hW e1=>by have hx:=HR2.o.keep (hC0.new hW);have r0:=hx.cell 0;have r1:=hx.cell 1;have r2:=hx.cell 2;clear hW hx;unfold zB_;go_simp) ?_;refine flow_move_out za_ rfl rfl rfl ?_;refine flow1h (r:=zB_ o.log o.pages o.epoch) za_ rfl (.out rfl rfl) rfl (fun ev W he hW e1=>by have hx:=HR2.o.keep (hC0.new hW);have r0:=hx.cell 0;have r1:=hx.cell 1;have r2:=hx.cell 2;clear hW hx;unfold zB_;go_simp) ?_;refine flow_calld (zoR w2.heap.size (z4_ s o.log o.pages)) (va_ _ _) (.inr (va_ _ _)) (by kernel_rfl) rfl (.cons (.inn rfl) (.cons (.inn rfl) .nil)) (fun W hW=>(zlv (Dsk.keep HW2.o (hC0.new hW)) o.log o.pages o.epoch).mono ?_) ?_
 · rintro e w' ⟨v,vs,rfl,ho,hrw,hc⟩;rw[HAL.o]at ho hrw;exact⟨v,rfl,hc,vs,zZ_ ho (hC0.new hW).size,zay hrw (hC0.new hW).size⟩
 refine flow1 (r:=.pointer (some ⟨gr,1,none⟩)) za_ rfl (.out rfl rfl) rfl (fun ev W he e1=>by go_simp) ?_;refine flow1h (r:=.int .i64 (o.pages:Int)) za_ rfl (.inn rfl) rfl (fun ev W he hW e1=>by have r1:=(HR2.o.keep (hC0.new hW)).cell 1;clear hW;go_simp) ?_;refine flow_op (namF w2.heap.size o.pages) (zaT _ _) (.inr (zaT _ _)) rfl (fun ev W he hW hfs=>?_) ?_
 · obtain ⟨f1,f2,_⟩:=hfs;have e1:ev (.tmp 29)=.int .i64 (o.pages:Int):=f1;have hmk:=j4_ o.pages (by have:=HLP.o;omega) W;have hr : (execOp ev ⟨some 30, .makeSlice 99 (.tmp 29) (.tmp 29), 99, "store.go:76", #[{ on := 6, ground := Ground.data }, { on := 6, ground := Ground.data }], none⟩).run Tryz.prog W = .ok (.value (.slice (some ⟨W.heap.size, 0, none⟩) o.pages o.pages)) (W.alloc (.cells (bls (zK_ o.pages)).toArray 4)) := (by
    simp only[execOp,e1,Sem.run_bind,hmk];rfl);refine Eq.mpr (congrArg _ hr) ?_;exact⟨(Chg.refl [] W).alloc _,W.heap.size,rfl,zb_.new W _ _,(hC0.new hW).size⟩
 refine flow_op (bldF w2.heap.size p o (z4_ s o.log o.pages)) (zaV _ _ _ _) (.inr (zaV _ _ _ _)) rfl (fun ev W he hW hfs=>?_) ?_
 · obtain ⟨f1,f2,f3,f4,_⟩:=hfs;have e1:ev (.tmp 23)=.pointer (some ⟨p,0,none⟩):=f1;have e2:ev (.tmp 24)=zB_ o.log o.pages o.epoch:=f2;have f3':zoR w2.heap.size (z4_ s o.log o.pages) (ev (.tmp 27)) W:=f3;have f4':namF w2.heap.size o.pages (ev (.tmp 30)) W:=f4;obtain ⟨vs,ho,hrw⟩:=f3';obtain ⟨gN,e4,hN,hB⟩:=f4';have hr : (execOp ev ⟨some 31, .build 101 #[(0, .tmp 23), (1, .tmp 24), (2, .tmp 27), (3, .tmp 30)], 101, "store.go:76", #[{ on := 0, ground := Ground.data }, { on := 1, ground := Ground.data }, { on := 4, ground := Ground.data }, { on := 7, ground := Ground.data }], none⟩).run Tryz.prog W = .ok (.value (.agg (zoP p o (ev (.tmp 27)) gN).toArray)) W := (by
    obtain⟨A27,c27,e27,_⟩:=zr_ ho;unfold zB_ at e2;unfold zoP;go_simp);refine Eq.mpr (congrArg _ hr) ?_;exact⟨Chg.refl [] W,ev (.tmp 27),vs,gN,rfl,ho,hrw,hN,hB⟩
 refine flow_op (boxF w2.heap.size p o (z4_ s o.log o.pages)) (u3_ _ _ _ _) (.inr (u3_ _ _ _ _)) rfl (fun ev W he hW hfs=>?_) ?_
 · obtain ⟨f1,_⟩:=hfs;have f1':bldF w2.heap.size p o (z4_ s o.log o.pages) (ev (.tmp 31)) W:=f1;obtain ⟨vP,vs,gN,e1,ho,hrw,hN,hB⟩:=f1';have hr : (execOp ev ⟨some 32, .box 101 (.tmp 31), 54, "store.go:76", #[{ on := 8, ground := Ground.data }], none⟩).run Tryz.prog W = .ok (.value (.pointer (some ⟨W.heap.size, 0, none⟩))) (W.alloc (.cells (zoP p o vP gN).toArray 101)) := (by
    simp only[execOp,e1,Sem.run_bind,Instr.box,newVar,newRow,run_newObj_alloc,Sem.run_pure,Result.andThen_ok];rfl);refine Eq.mpr (congrArg _ hr) ?_;have hal:=(Chg.refl [] W).alloc (.cells (zoP p o vP gN).toArray 101);exact⟨hal,W.heap.size,vP,vs,gN,rfl,zb_.new W _ _,(hC0.new hW).size,zk_ ho hal,hrw.keep hal,hN.keep hal,hB⟩
 refine flow_assign za_ rfl (u3_ _ _ _ _) (.inr (u3_ _ _ _ _)) rfl ?_;intro vs8 W hW hF;have h6:boxF w2.heap.size p o (z4_ s o.log o.pages) (vs8 6) W:=hF 6 _ rfl rfl;have hcw:=hC0.new hW;obtain⟨g,vP,us,gN,e6,hG,hgB,hO,hRW,hNM,hNB⟩:=h6;simp only[zV_,Act.put,List.setIfInBounds_toArray,List.set_cons_zero,List.set_cons_succ];rw[e6];have HB2:=hQ_ (show w.heap.size<=w2.heap.size from HC2.o.size);have HR3:=hQ_ (HR2.o.keep hcw);have HC3:=hQ_ (HC2.o.new hcw);have HW3:=hQ_ (Dsk.keep HW2.o hcw);have HG3:=hQ_ hG;have HX3:=hQ_ (And.intro hO (And.intro hRW hNM));have HGB:=hQ_ (And.intro hgB hNB);clear hF hW hcw hC0 e6 hG hgB hO hRW hNM hNB HR2 HC2 HW2;obtain⟨w3,hw3⟩:∃w3:World,w3=W:=⟨_,rfl⟩;rw[<-hw3]at HR3 HC3 HW3 HG3 HX3⊢;clear hw3;have r0:=HR3.o.cell 0;have r1:=HR3.o.cell 1;have r2:=HR3.o.cell 2;go_wp2_with fail;refine(znw HW3.o o.log o.pages o.epoch).mono ?_;rintro e w4 ⟨v4,vs4,rfl,ho4,hrc4,hc4⟩;have HC4:=hQ_ (HC3.o.new hc4);have HLT4:=hQ_ (show g<w3.heap.size/\gN<w3.heap.size from⟨HG3.o.lt,HX3.o.2.2.lt⟩);have HO4:=hQ_ ho4;have HRC:=hQ_ hrc4;have hsto:Sto w4 ⟨p,bL,bS,bW,g,gN,[]⟩ s (xp_ s o) vP:=by
  have hD4:=Dsk.keep HW3.o hc4;have hG4:=HG3.o.keep hc4;have hN4:=HX3.o.2.2.keep hc4;have h64:∀l∈z4_ s o.log o.pages,l.length=64:=fun l hl=>by
   obtain⟨i,hi,rfl⟩:=List.mem_map.1 hl;have:=List.mem_range.1 hi;have:=HLP.o;exact uO_ (Dsk.lenS H.o) (by rw[Int.toNat_natCast];omega)
  have hlt:∀b,b<w.heap.size->b<w2.heap.size:=fun b hb=>Nat.lt_of_lt_of_le hb HB2.o;have hT:∀i∈(SK.D ⟨p,bL,bS,bW,g,gN,[]⟩),i<w2.heap.size\/(∃t cs,zb_ w4 i t cs/\t≠39/\t≠5):=fun i hi=>by
   simp only[SK.D,List.mem_cons,List.not_mem_nil,or_false]at hi;rcases hi with rfl|rfl|rfl|rfl|rfl|rfl
   · exact .inl (hlt _ (Dsk.rec_ H.o).lt)
   · exact .inl (hlt _ (Dsk.last H.o).lt)
   · exact .inl (hlt _ (Dsk.seen H.o).lt)
   · exact .inl (hlt _ (Dsk.wait H.o).lt)
   · exact .inr ⟨_,_,hG4,by decide,by decide⟩
   · exact .inr ⟨_,_,hN4,by decide,by decide⟩
  have hpg:=uI_.of_rows (T:=SK.D ⟨p,bL,bS,bW,g,gN,[]⟩) (zk_ HX3.o.1 hc4) rfl (HX3.o.2.1.keep hc4) hT;exact { dsk:=hD4,rec_:=hG4,pgs:=hpg,nm:=hN4,ng:=by have:=hlt _ (Dsk.wait H.o).lt;have:=HGB.o.2;show gN≠bW;omega,rt:=HRI.o,ep:=by have:=HE.o;show o.epoch<_;omega,pl:=yK_ s o.log o.pages,nl:=by show(List.replicate o.pages false).length=o.pages;simp,p64:=h64,us:=Nat.zero_le _,sq:=by show 0*18<=0;omega,exl:=fun i hi=>by cases hi }
 have HST:=hQ_ hsto;obtain⟨X,hX⟩:∃X,X=recsS s o.log o.pages o.epoch:=⟨_,rfl⟩;have HXE:=hQ_ hX;rw[<-hX]at HO4 HRC⊢;rw[<-hX]at ho4;obtain⟨A4,c4,rfl,hl4,hcp4,hs4,hA4⟩:=zr_ ho4;have HL4:=hQ_ (And.intro hl4 hcp4);have hmx:=znE ho4;obtain⟨n,hn⟩:∃n,n=X.1.length:=⟨_,rfl⟩;have HN:=hQ_ hn;rw[<-hn]at HO4 hmx⊢;have HA4:=hQ_ hA4;clear hsto ho4 hrc4 hc4 hX hl4 hcp4 hs4 hA4 hn r0 r1 r2;have HRR:=hQ_ (show ∀m∈X.1,zF_ (o.pages:Int) m=true by rw[HXE.o];exact qR_ _ _);go_wp2_with fail;go_loopw [41] (fun i wr=>∃j:Nat,i=.int .i64 (j:Int)/\j<=n/\Hid (∃v,Sto wr ⟨p,bL,bS,bW,g,gN,[]⟩ s ((X.1.take j).foldl zY_ (xp_ s o)) v)/\Hid (Chg [g,gN] w4 wr)) (fun i _=>n-(intOf i).toNat);case atStart=>exact⟨0,rfl,Nat.zero_le _,hQ_ ⟨vP,HST.o⟩,hQ_ (Chg.refl _ _)⟩
 case round =>
  obtain⟨j,rfl,hj,HSr,HCr⟩:=hrel;by_cases hlt:j<n
  · have hjI:(j:Int)<(n:Int):=(by omega);have hj0:(0:Int)<=(j:Int):=(by omega);have hjX:j<X.1.length:=(by rw[<-HN.o];exact hlt);have hjv:j<vs4.length:=(by rw[HL4.o.1];exact hjX);have hT3:∀i∈[g,gN],i<w3.heap.size\/w4.heap.size<=i:=fun i hi=>by
     simp only[List.mem_cons,List.not_mem_nil,or_false]at hi;have:=HLT4.o;rcases hi with rfl|rfl<;>omega
    obtain⟨A',c',e',_,_,hsr,_⟩:=zr_ (zR_ HO4.o HCr.o hT3);injection e' with e' _ e2;subst e' e2;obtain⟨ad,rfl,_,hcell⟩:=hsr (by rw[HL4.o.1];omega);obtain⟨b7,o7,s7⟩:=ad;obtain rfl:s7=none:=(HA4.o _ rfl).1;have hc:=hcell j vs4[j] (List.getElem?_eq_getElem hjv);obtain⟨ls,g1,g2,g3,g4⟩:=HRC.o.2 j vs4[j] X.1[j] (List.getElem?_eq_getElem hjv) (List.getElem?_eq_getElem hjX);have HRB:=hQ_ (HRR.o X.1[j] (List.getElem_mem hjX));have HNX:=hQ_ (ziE zY_ (xp_ s o) X.1 j X.1[j] (List.getElem?_eq_getElem hjX));have g1':=zR_ g1 HCr.o hT3;have g2':∀a∈ls,RMade wr w3.heap.size a:=fun a ha=>(g2 a ha).chg HCr.o hT3;generalize vs4[j]=vv at hc g1';generalize X.1[j]=mj at g1' g3 g4 HRB HNX;obtain⟨A5,c5,e5,hl5,hch5,_,_,_⟩:=jr_ g1' (fun a ha=>(g2' a ha).ok);have hb5:=gy_ g1' e5;subst e5;obtain⟨d,hd⟩:∃d,d=mj.length:=⟨_,rfl⟩;have hrb:zF_ (o.pages:Int) ls=true:=(by rw[ul_ g4];exact HRB.o);have hrs:yJ_ (-1) (o.pages:Int) ls=true:=(by unfold zF_ at hrb;rw[Bool.and_eq_true]at hrb;exact hrb.2);obtain⟨hr1,hr2⟩:=zgT hrs (by have:=HLP.o;omega);have hd64:d<=64:=(by have:=HLP.o;omega);obtain⟨vr,hst⟩:=HSr.o;have hxP:((X.1.take j).foldl zY_ (xp_ s o)).P=o.pages:=(uL_ _ _).2.1;have hin:InP ((X.1.take j).foldl zY_ (xp_ s o)).P ls:=fun a ha=>(by
     rw[hxP];exact⟨by have:=(hr2 a ha).1;omega,(hr2 a ha).2.1,(g2' a ha).bl⟩);have HTU:=hQ_ (zcV (d:=c5) hst hch5 (hl5.trans hd.symm) (by omega) hin (fun _ ad e hm=>by
     have h1:=hb5 ad e;have h2:=HLT4.o;simp only[List.mem_cons,List.not_mem_nil,or_false]at hm;rcases hm with h|h<;>(rw[h]at h1;have h1':w3.heap.size<=_:=h1;omega)));rw[<-hd]at hc;have HKV:=hQ_ (zal ((X.1.take j).foldl zY_ (xp_ s o)) g4.1);rw[zl_]at hc;clear hcell hsr g1 g2 g3 g4 g1' g2' hb5 hl5 hch5 hd hrb hrs hr1 hr2 hd64 hst hxP hin hjX hjv hT3;go_wp2_with fail;refine HTU.o.mono ?_;rintro e w5 ⟨rfl,⟨v5,hs5⟩,hc5⟩;have HS5:=hQ_ (show ∃v,Sto w5 ⟨p,bL,bS,bW,g,gN,[]⟩ s ((X.1.take (j+1)).foldl zY_ (xp_ s o)) v from⟨v5,by rw[HNX.o,<-HKV.o];exact hs5⟩);have HC5:=hQ_ (HCr.o.trans hc5);clear hs5 hc5;go_wp2_with fail;go_roundw;(case rel=>exact⟨j+1,by go_num,by omega,HS5,HC5⟩);case measure=>simp[intOf];omega
  · obtain rfl:n=j:=(by omega);have hjI:¬(n:Int)<(n:Int):=(by omega);obtain⟨vr,hst⟩:=HSr.o;have ht:(X.1.take n).foldl zY_ (xp_ s o)=openV s o:=(by rw[HN.o,List.take_length,HXE.o];rfl);rw[ht]at hst;have hxE:(openV s o).E=o.epoch:=(uL_ _ _).2.2.1;have HCK:=hQ_ (uu_ hst (by rw[hxE];exact HE.o.2));clear hst ht hxE;go_wp2_with fail;refine HCK.o.mono ?_;rintro e w5 ⟨rfl,⟨v5,hs5⟩,hc5⟩;have HP:=hQ_ (show um_ w p bL bS bW s (.returned (.tuple #[.pointer (some ⟨g,0,none⟩),.int .i64 0])) w5 from .inr (.inr (by
     rw[<-HO.o];have hg1:=HGB.o;have hg2:=HB2.o;refine⟨HE.o.1,HE.o.2,g,gN,v5,rfl,by omega,by omega,hs5,?_⟩;have h1:Chg [bL,bS,bW] w w4:=HC4.o.sub (fun _ h=>by cases h);have h2:=h1.then_ HCr.o (fun i hi hw=>by
      simp only[List.mem_cons,List.not_mem_nil,or_false]at hi;rcases hi with rfl|rfl<;>omega);exact h2.then_ hc5 (fun i hi hw=>by
      simp only[SK.W,List.mem_cons,List.not_mem_nil,or_false]at hi⊢;rcases hi with h|h|h|rfl|rfl
      · exact .inl h
      · exact .inr (.inl h)
      · exact .inr (.inr h)
      · omega
      · omega))));clear hs5 hc5;go_wp2_with fail;go_ret2;exact HP.o
end
section
variable {w:World} {k:SK} {s:St} {x:SV} {vP:Value}
theorem zgH (h:Sto w k s x vP):Calls Tryz.prog 43 #[.pointer (some ⟨k.g,0,none⟩)] w fun e w'=>e=.returned (zB_ x.L x.P x.E)/\Chg [] w w':=by
 go_enter Tryz.func43,Tryz.ntmps43;go_upto_region 1 with fail;have hal:=(Chg.refl [] w).alloc (.cells #[.int .i64 0,.int .i64 0,.int .u32 0] 82);have hr:=h.rec_.keep hal;have c1:=hr.cell 1;have c2:=hr.cell 2;have c3:=hr.cell 3;have hR:=zb_.new w 82 [.int .i64 0,.int .i64 0,.int .u32 0];have d0:=hR.cell 0;have d1:=hR.cell 1;have d2:=hR.cell 2;have f0:=hR.frozen 0;have f1:=hR.frozen 1;have f2:=hR.frozen 2;have hn:w.heap.size<=w.heap.size:=Nat.le_refl _;generalize w.alloc (.cells #[.int .i64 0,.int .i64 0,.int .u32 0] 82)=w1 at *;obtain⟨gr,hgr⟩:∃g,g=w.heap.size:=⟨_,rfl⟩;rw[<-hgr]at hR d0 d1 d2 f0 f1 f2⊢;have HS:=hQ_ ((hR.set_ 0 (.int .i64 (x.L:Int))).set_ 1 (.int .i64 (x.P:Int)) |>.set_ 2 (.int .u32 (x.E:Int)));have hnl:¬gr<w.heap.size:=by omega
 have HC:=hQ_ (((hal.setCell (p:=⟨gr,0,none⟩) (fun h=>absurd h hnl) (.int .i64 (x.L:Int))).setCell (p:=⟨gr,1,none⟩) (fun h=>absurd h hnl) (.int .i64 (x.P:Int))).setCell (p:=⟨gr,2,none⟩) (fun h=>absurd h hnl) (.int .u32 (x.E:Int)));clear hal hr hR hgr hnl hn h;go_wp2_with fail;refine bodyPost_ret_by (results_cell_row rfl _ _ gr 82 #[.int .i64 x.L,.int .i64 x.P,.int .u32 x.E] (0,0) _ rfl HS.o Tryz.underlying82 rfl (by kernel_rfl)) rfl ⟨rfl,HC.o⟩
end
section
variable {w:World} {k:SK} {s:St} {x:SV} {vP:Value}
def zcQ (w:World)(x:SV)(e:Ending)(w':World):Prop:=∃g us,e=.returned (.slice (some ⟨g,0,none⟩) x.P x.P)/\ShFr w.heap.size w' g x.P us x.pages x.P/\w.heap.size<=g/\Chg [] w w'
theorem zkD (h:Sto w k s x vP):Calls Tryz.prog 47 #[.pointer (some ⟨k.g,0,none⟩)] w (zcQ w x):=by
 obtain⟨A,c,us,rfl,hcp,hsrc,hul,hsp,hli⟩:=h.pgs.lists;have hP64:x.P<=64:=by have:=zj_.1 h.rt;omega
 have hap:=zbz (d:=0) (c:=c) (C:=none) (m:=0) (ls:=[]) hsrc (fun _ ad e=>hsp ad e) hul (by rw[h.pl];omega) hli (fun l hl=>by have:=h.p64 l hl;omega) ⟨fun h=>absurd h (by simp),fun a ha=>by simp at ha⟩ rfl (by omega) (fun a ha=>by simp at ha);have HAP:=hQ_ hap;have H:=hQ_ h;have e4:=h.rec_.cell 4;clear hap h hsrc hul hsp hli hcp;go_enter Tryz.func47,Tryz.ntmps47;go_wp2_with fail;refine HAP.o.mono ?_;rintro e w2 ⟨gp,us2,rfl,hfr,hgp,hc2⟩;rw[show zX_ x.pages []=x.pages from rfl,H.o.pl]at hfr;rw[show zX_ x.pages []=x.pages from rfl,H.o.pl];have HP:=hQ_ (show zcQ w x (.returned (.slice (some ⟨gp,0,none⟩) x.P x.P)) w2 from⟨gp,us2,rfl,hfr,hgp,hc2⟩);clear e4 hfr hgp hc2;go_wp2_with fail;go_ret;exact HP.o
end
def Gd (s:St):Prop:=s.S.length=64*s.V.length
def xZ_ (s:St)(j:Nat):List UInt8:=xa_ s.S s.V.length j
theorem znm (L S:List UInt8)(k:Nat):zjT L S k 64=S:=by
 unfold zjT;rw[show 64-64=0 from rfl,List.take_zero];unfold splice;simp
theorem ziI (s:St):∀i,(s.flush i).S=s.S
  | 0=>rfl
  | i+1=>by
    show zjT (s.flush i).L (s.flush i).S i 64=s.S;rw[znm,ziI s i]
theorem zfy (s:St):(flA s).S=s.S:=ziI s _
theorem Gd.flA {s:St}(h:Gd s):Gd (flA s):=by unfold Gd;rw[zfy,zI_];exact h
theorem Gd.write {s:St}(h:Gd s){q:Nat}{x:List UInt8}(hq:q<s.V.length)(hx:x.length=64):Gd (s.write q x):=by
 unfold Gd at *;rw[vI_];show(splice s.S (q*64) x).length=_;unfold splice;simp only[List.length_append,List.length_take,List.length_drop,hx];omega
theorem kp_ {s:St}(h:Gd s){q:Nat}{x:List UInt8}(hq:q<s.V.length)(hx:x.length=64)(j:Nat):xZ_ (s.write q x) j=if j=q then x else xZ_ s j:=by
 unfold xZ_;rw[vI_];show xa_ (splice s.S (q*64) x) _ j=_;by_cases e:j=q
 · subst e;rw[if_pos rfl];exact zgQ h hq hx
 · rw[if_neg e];exact zeU h hq hx e
theorem uQ_ (s:St)(j:Nat):xZ_ (flA s) j=xZ_ s j:=by unfold xZ_;rw[zfy,zI_]
theorem jy_:(zm_ 64).length=64:=zE_ 64
theorem Gd.wipeN {s:St}(h:Gd s)(a:Nat):∀k,a+k<=s.V.length->Gd (wipeN s a k)
  | 0,_=>h
  | k+1,hk=>(Gd.wipeN h a k (by omega)).write (by rw[zW_];omega) jy_
theorem kq_ {s:St}(h:Gd s)(a:Nat):∀k,a+k<=s.V.length->∀j,xZ_ (wipeN s a k) j=if a<=j/\j<a+k then zm_ 64 else xZ_ s j
  | 0,_,j=>by rw[if_neg (by omega)];rfl
  | k+1,hk,j=>by
    show xZ_ ((wipeN s a k).write (a+k) (zm_ 64)) j=_;rw[kp_ (Gd.wipeN h a k (by omega)) (by rw[zW_];omega) jy_,kq_ h a k (by omega)];by_cases e:j=a+k
    · rw[if_pos e,if_pos (by omega)]
    · rw[if_neg e];by_cases e2:a<=j/\j<a+k
      · rw[if_pos e2,if_pos (by omega)]
      · rw[if_neg e2,if_neg (by omega)]
theorem Gd.putR {s:St}(h:Gd s)(L P E:Nat)(h2:2<=s.V.length):Gd (putR s L P E):=(h.write (by omega) (x3_ _ _ _)).flA
theorem zax {s:St}(h:Gd s)(L P E:Nat)(h2:2<=s.V.length)(j:Nat):xZ_ (putR s L P E) j=if j=E%2 then z3_ L P E else xZ_ s j:=by
 unfold putR;rw[uQ_,kp_ h (by omega) (x3_ _ _ _)]
theorem Gd.fmt {s:St}(h:Gd s)(L P:Nat)(h2:2+L+P<=s.V.length):Gd (fmt s L P):=by
 unfold Go.Proofs.YtcbcfcdmdedefaaGreatDoor.fmt;exact Gd.putR (((h.wipeN 0 2 (by omega)).flA.wipeN 2 (L+P) (by rw[zI_,zW_];omega)).flA) L P 1 (by rw[zI_,zW_,zI_,zW_];omega)
theorem uP_ {s:St}(h:Gd s)(L P:Nat)(h2:2+L+P<=s.V.length)(j:Nat)(hj:j<2+L+P):xZ_ (fmt s L P) j=if j=1 then z3_ L P 1 else zm_ 64:=by
 unfold fmt;rw[zax (((h.wipeN 0 2 (by omega)).flA.wipeN 2 (L+P) (by rw[zI_,zW_];omega)).flA) L P 1 (by rw[zI_,zW_,zI_,zW_];omega)];show(if j=1 then _ else _)=_;by_cases e:j=1
 · rw[if_pos e,if_pos e]
 · rw[if_neg e,if_neg e,uQ_,kq_ ((h.wipeN 0 2 (by omega)).flA) 2 (L+P) (by rw[zI_,zW_];omega)];by_cases e2:2<=j/\j<2+(L+P)
   · rw[if_pos e2]
   · rw[if_neg e2,uQ_,kq_ h 0 2 (by omega),if_pos (by omega)]
theorem zae:¬vD_ (zm_ 64):=by decide +kernel
theorem vX_ (s:St):yU_ s.V.length s.S 2=zx_ s.V.length (zx_ s.V.length RV.zero (xZ_ s 0)) (xZ_ s 1):=rfl
theorem vy_ {n:Int}{o:RV}{L P E:Nat}(hr:zq_ L P E n=true)(hE:E<4294967296)(ho:o.epoch<E):zx_ n o (z3_ L P E)=⟨L,P,E⟩:=by
 have h1:=zj_.1 hr;obtain⟨a,b,c,d⟩:=znp L P E (by omega) (by omega) hE;unfold zx_;rw[if_pos ⟨a,by rw[b,c,d];exact hr,by rw[d];exact ho⟩,b,c,d]
theorem zcJ {n:Int}{o:RV}{l:List UInt8}(h:¬vD_ l):zx_ n o l=o:=by
 unfold zx_;rw[if_neg (fun k=>h k.1)]
theorem zec {s:St}(h:Gd s)(L P:Nat)(hr:zq_ L P 1 s.V.length=true):yU_ (fmt s L P).V.length (fmt s L P).S 2=⟨L,P,1⟩:=by
 have h1:=zj_.1 hr;rw[vX_,uP_ h L P (by omega) 0 (by omega),uP_ h L P (by omega) 1 (by omega),if_neg (by omega),if_pos rfl,zcJ zae,kH_];exact vy_ hr (by omega) (by show 0<1;omega)
theorem Gd.homeN {s:St}(h:Gd s){x:SV}(hr:zq_ x.L x.P x.E s.V.length=true)(hp:x.pages.length=x.P)(h64:∀l∈x.pages,l.length=64):∀k,k<=x.P->Gd (homeN s x k)
  | 0,_=>h
  | k+1,hk=>by
    have h1:=zj_.1 hr;have ih:=Gd.homeN h hr hp h64 k (by omega);show Gd (if _ then _ else _);split
    · refine ih.write (by rw[yR_];omega) ?_;rw[List.getD_eq_getElem?_getD,List.getElem?_eq_getElem (by omega)];exact h64 _ (List.getElem_mem _)
    · exact ih
theorem qN_ {s:St} (h:Gd s) {x:SV} (hr:zq_ x.L x.P x.E s.V.length=true) (hp:x.pages.length=x.P) (h64:∀l∈x.pages,l.length=64):∀k,k<=x.P->∀j,xZ_ (homeN s x k) j=if 2+x.L<=j/\j<2+x.L+k/\x.named.getD (j-(2+x.L)) false=true then x.pages.getD (j-(2+x.L)) [] else xZ_ s j
  | 0,_,j=>by rw[if_neg (by omega)];rfl
  | k+1,hk,j=>by
    have h1:=zj_.1 hr;have ih:=qN_ h hr hp h64 k (by omega) j;have hg:=Gd.homeN h hr hp h64 k (by omega);show xZ_ (if _ then _ else _) j=_;by_cases hn:x.named.getD k false=true
    · rw[if_pos hn,kp_ hg (by rw[yR_];omega) (by rw[List.getD_eq_getElem?_getD,List.getElem?_eq_getElem (by omega)];exact h64 _ (List.getElem_mem _)),ih];by_cases e:j=2+x.L+k
      · subst e;rw[if_pos rfl,if_pos ⟨by omega,by omega,by rw[show 2+x.L+k-(2+x.L)=k by omega];exact hn⟩,show 2+x.L+k-(2+x.L)=k by omega]
      · rw[if_neg e];by_cases e2:2+x.L<=j/\j<2+x.L+k/\x.named.getD (j-(2+x.L)) false=true
        · rw[if_pos e2,if_pos ⟨e2.1,by omega,e2.2.2⟩]
        · rw[if_neg e2,if_neg (fun h3=>e2 ⟨h3.1,by omega,h3.2.2⟩)]
    · rw[if_neg hn,ih];by_cases e2:2+x.L<=j/\j<2+x.L+k/\x.named.getD (j-(2+x.L)) false=true
      · rw[if_pos e2,if_pos ⟨e2.1,by omega,e2.2.2⟩]
      · rw[if_neg e2,if_neg (fun h3=>?_)];by_cases e:j=2+x.L+k
        · subst e;apply hn;have:=h3.2.2;rwa[show 2+x.L+k-(2+x.L)=k by omega]at this
        · exact e2 ⟨h3.1,by omega,h3.2.2⟩
theorem zlP {s:St}(h:Gd s){x:SV}(hr:zq_ x.L x.P x.E s.V.length=true)(hp:x.pages.length=x.P)(h64:∀l∈x.pages,l.length=64):Gd (ckS s x):=by
 have h1:=zj_.1 hr;unfold ckS;exact Gd.putR (Gd.flA (Gd.homeN h.flA (by rw[zI_];exact hr) hp h64 x.P (Nat.le_refl _))) _ _ _ (by rw[zI_,yR_,zI_];omega)
theorem v6_ {s:St}(h:Gd s){x:SV}(hr:zq_ x.L x.P x.E s.V.length=true)(hp:x.pages.length=x.P)(h64:∀l∈x.pages,l.length=64)(j:Nat) :
    xZ_ (ckS s x) j=if j=(x.E+1)%2 then z3_ x.L x.P (x.E+1) else if 2+x.L<=j/\j<2+x.L+x.P/\x.named.getD (j-(2+x.L)) false=true then x.pages.getD (j-(2+x.L)) [] else xZ_ s j:=by
 have h1:=zj_.1 hr;unfold ckS;rw[zax (Gd.flA (Gd.homeN h.flA (by rw[zI_];exact hr) hp h64 x.P (Nat.le_refl _))) _ _ _ (by rw[zI_,yR_,zI_];omega),uQ_,qN_ h.flA (by rw[zI_];exact hr) hp h64 x.P (Nat.le_refl _),uQ_]
theorem qk_ {n:Int}{o:RV}{l:List UInt8}:o.epoch<=(zx_ n o l).epoch/\(vD_ l->zq_ (zz_ l 4) (zz_ l 8) (zz_ l 12) n=true->zz_ l 12<=(zx_ n o l).epoch):=by
 unfold zx_;split
 · rename_i h;exact⟨by show _<=zz_ l 12;omega,fun _ _=>Nat.le_refl _⟩
 · rename_i h;exact⟨Nat.le_refl _,fun h1 h2=>by
    rcases Nat.lt_or_ge o.epoch (zz_ l 12) with h3|h3
    · exact absurd ⟨h1,h2,h3⟩ h
    · exact h3⟩
theorem zbw {n:Int}{o:RV}{l:List UInt8}:zx_ n o l=o\/(zx_ n o l=⟨zz_ l 4,zz_ l 8,zz_ l 12⟩/\vD_ l/\zq_ (zz_ l 4) (zz_ l 8) (zz_ l 12) n=true):=by
 unfold zx_;split
 · rename_i h;exact .inr ⟨rfl,h.1,h.2.1⟩
 · exact .inl rfl
theorem zma {s s':St}{L P E:Nat}(hv:s'.V.length=s.V.length)(hb:(yU_ s.V.length s.S 2).epoch<=E)(hr:zq_ L P (E+1) s.V.length=true)(hE:E+1<4294967296)(hq:xZ_ s' ((E+1)%2)=z3_ L P (E+1))(ho:xZ_ s' (E%2)=xZ_ s (E%2)):yU_ s'.V.length s'.S 2=⟨L,P,E+1⟩:=by
 rw[vX_,hv];rw[vX_]at hb;have hr':zq_ L P ((E+1:Nat):Int) s.V.length=true:=by rw[Int.natCast_add];exact hr
 rcases Nat.mod_two_eq_zero_or_one E with h|h
 · rw[show(E+1)%2=1 by omega]at hq;rw[h]at ho;rw[hq,ho];refine vy_ hr' hE ?_;have:=(qk_ (n:=s.V.length) (o:=zx_ s.V.length RV.zero (xZ_ s 0)) (l:=xZ_ s 1)).1;omega
 · rw[show(E+1)%2=0 by omega]at hq;rw[h]at ho;rw[hq,ho,vy_ hr' hE (by show 0<E+1;omega)];rcases zbw (n:=s.V.length) (o:=⟨L,P,E+1⟩) (l:=xZ_ s 1) with h1|⟨h1,h2,h3⟩
   · exact h1
   · have h4:=(qk_ (n:=s.V.length) (o:=zx_ s.V.length RV.zero (xZ_ s 0)) (l:=xZ_ s 1)).2 h2 h3;unfold zx_;rw[if_neg (fun h5=>by have:=h5.2.2;simp only at this;omega)]
theorem zou {s:St}(h:Gd s){x:SV}(hr:zq_ x.L x.P x.E s.V.length=true)(hp:x.pages.length=x.P)(h64:∀l∈x.pages,l.length=64)(hb:(yU_ s.V.length s.S 2).epoch<=x.E)(hE:x.E+1<4294967296):yU_ (ckS s x).V.length (ckS s x).S 2=⟨x.L,x.P,x.E+1⟩:=by
 have h1:=zj_.1 hr;refine zma (vS_ s x) hb (zj_.2 (by omega)) hE ?_ ?_
 · rw[v6_ h hr hp h64,if_pos rfl]
 · rw[v6_ h hr hp h64,if_neg (by omega),if_neg (by omega)]
def kj_ (E:Nat):Nat->List (List ChV)->List UInt8
  | _,[]=>[]
  | k,m::ms=>zT_ E k (zD_ m)++kj_ E (k+1) ms
theorem zbd (E:Nat):∀(ms:List (List ChV))(k:Nat)(m:List ChV),kj_ E k (ms++[m])=kj_ E k ms++zT_ E (k+ms.length) (zD_ m)
  | [],k,m=>by simp[kj_]
  | a::ms,k,m=>by
    show zT_ E k (zD_ a)++kj_ E (k+1) (ms++[m])=(zT_ E k (zD_ a)++kj_ E (k+1) ms)++_;rw[zbd E ms,List.append_assoc,List.length_cons,show k+1+ms.length=k+(ms.length+1) by omega]
theorem zmd {l:List UInt8}{ep k:Nat}{rs:List (List UInt8)}{a:Nat}(h:At l ep k rs a)(r m:List UInt8)(he:ep<4294967296)(hk:k<4294967296)(hr:r.length<4294967296)(hl:l.drop a=zT_ ep k r++m) :
    At l ep (k+1) (rs++[r]) (a+(16+r.length)):=by
 have h2:=h.next (by rw[hl];exact zdL ep k r m he hk hr);rwa[hl,ziA ep k r m he hk hr,zbe ep k r m he hk hr]at h2
theorem zmN {l:List UInt8}{E:Nat}(hE:E<4294967296):∀(ms:List (List ChV))(k:Nat)(rs:List (List UInt8))(a:Nat)(z:List UInt8),At l E k rs a->l.drop a=kj_ E k ms++z->k+ms.length<4294967296->(∀m∈ms,(zD_ m).length<4294967296)->At l E (k+ms.length) (rs++ms.map zD_) (a+(kj_ E k ms).length)/\l.drop (a+(kj_ E k ms).length)=z
  | [],k,rs,a,z,h,hl,_,_=>⟨by simpa[kj_] using h,by simpa[kj_] using hl⟩
  | m::ms,k,rs,a,z,h,hl,hk,hm=>by
    have hl':l.drop a=zT_ E k (zD_ m)++(kj_ E (k+1) ms++z):=(by rw[hl];show(zT_ E k (zD_ m)++kj_ E (k+1) ms)++z=_;rw[List.append_assoc]);have h1:=zmd h (zD_ m) _ hE (by simp at hk;omega) (hm m List.mem_cons_self) hl';have hd:l.drop (a+(16+(zD_ m).length))=kj_ E (k+1) ms++z:=(by
     rw[<-List.drop_drop,hl',List.drop_left' (yM_ _ _ _)]);obtain⟨h2,h3⟩:=zmN hE ms (k+1) _ _ z h1 hd (by simp at hk;omega) (fun x hx=>hm x (List.mem_cons_of_mem _ hx));have e1:(kj_ E k (m::ms)).length=16+(zD_ m).length+(kj_ E (k+1) ms).length:=(by show(zT_ E k (zD_ m)++kj_ E (k+1) ms).length=_;rw[List.length_append,yM_]);rw[e1,List.length_cons,show k+(ms.length+1)=k+1+ms.length by omega,<-Nat.add_assoc a];refine⟨?_,h3⟩;have e2:rs++List.map zD_ (m::ms)=rs++[zD_ m]++List.map zD_ ms:=(by simp);rw[e2];exact h2
theorem jx_ {k E q:Nat}(hE:1<=E):¬zS_ (zm_ k) E q:=by
 intro h;have h1:=h.2.1;unfold zz_ at h1;split at h1
 · rename_i hk;rw[zE_]at hk;have:((zm_ k).drop (0:Int).toNat).take 4=zm_ 4:=(by
    unfold zm_;rw[List.drop_replicate,List.take_replicate];congr 1;simp only[Int.toNat_zero];omega);rw[this,show zbG (zm_ 4)=0 from by decide]at h1;omega
 · omega
theorem zky {E:Nat}(hE:1<=E)(hE2:E<4294967296)(ms:List (List ChV))(z:Nat)(hk:ms.length<4294967296)(hm:∀m∈ms,(zD_ m).length<4294967296) :
    scanS (kj_ E 0 ms++zm_ z) E=(ms.map zD_,(kj_ E 0 ms).length):=by
 obtain⟨h1,h2⟩:=zmN hE2 ms 0 [] 0 (zm_ z) (At.zero (kj_ E 0 ms++zm_ z) E) rfl (by omega) hm;simp only[Nat.zero_add,List.nil_append]at h1 h2;exact h1.last (by rw[h2];exact jx_ hE)
def InL (P:Nat)(m:List ChV):Prop:=(∀a∈m,zmT a)/\zF_ (P:Int) m=true/\m.length<=64
theorem InL.okR {P:Nat}{m:List ChV}(h:InL P m):zaJ (P:Int) (zD_ m):=by
 have h1:=uk_ h.1;have h2:=zed (l:=m) (by have:=h.2.2;omega);refine⟨by omega,by rw[h1,h2],?_⟩;rw[ul_ (zjA h.1 (by have:=h.2.2;omega))];exact h.2.1
theorem zdf (P:Nat):∀(ms:List (List ChV)),(∀m∈ms,InL P m)->(zad (P:Int) (ms.map zD_)).1=ms.map fun m=>zac (zD_ m)
  | [],_=>rfl
  | m::ms,h=>by
    show(zad (P:Int) (zD_ m::ms.map zD_)).1=_;unfold zad;rw[if_pos (h m List.mem_cons_self).okR];show zac (zD_ m)::(zad (P:Int) (ms.map zD_)).1=_;rw[zdf P ms fun x hx=>h x (List.mem_cons_of_mem _ hx)];rfl
theorem zbh (P:Nat):∀(ms:List (List ChV))(x:SV),(∀m∈ms,InL P m)->(ms.map fun m=>zac (zD_ m)).foldl zY_ x=ms.foldl zY_ x
  | [],_,_=>rfl
  | m::ms,x,h=>by
    have h1:=h m List.mem_cons_self;show(ms.map fun m=>zac (zD_ m)).foldl zY_ (zY_ x (zac (zD_ m)))=ms.foldl zY_ (zY_ x m);have e:zY_ x (zac (zD_ m))=zY_ x m:=zal x (zjA h1.1 (by have:=h1.2.2;omega)).1;rw[e];exact zbh P ms _ fun y hy=>h y (List.mem_cons_of_mem _ hy)
structure LogZ (s:St) (L P E:Nat) (ms:List (List ChV)) (u:Nat):Prop where
  log:xL_ s L=kj_ E 0 ms++zm_ (L*64-u)
  len:(kj_ E 0 ms).length=u
  top:u<=L*64
  ins:∀m∈ms,InL P m
theorem ziz (E:Nat):∀(ms:List (List ChV))(k:Nat),16*ms.length<=(kj_ E k ms).length
  | [],_=>by simp
  | m::ms,k=>by
    have:=ziz E ms (k+1);show _<=(zT_ E k (zD_ m)++kj_ E (k+1) ms).length;rw[List.length_append,yM_,List.length_cons];omega
theorem LogZ.recT {s:St}{L P E:Nat}{ms:List (List ChV)}{u:Nat}(h:LogZ s L P E ms u)(hr:zq_ L P E s.V.length=true)(hE:E<4294967296)(x:SV):(recT s ⟨L,P,E⟩).foldl zY_ x=ms.foldl zY_ x:=by
 have h1:=zj_.1 hr;unfold Go.Proofs.YtcbcfcdmdedefaaGreatDoor.recT recsS;show(zad (P:Int) (scanS (zbH s L P E) E).1).1.foldl zY_ x=_;rw[show zbH s L P E=xL_ s L by unfold zbH;rw[if_pos hr,Int.toNat_natCast],h.log,zky (by omega) hE ms _ (by have:=ziz E ms 0;have:=h.len;have:=h.top;omega) (fun m hm=>by rw[uk_ (h.ins m hm).1];have:=(h.ins m hm).2.2;omega)];show(zad (P:Int) (ms.map zD_)).1.foldl zY_ x=_;rw[zdf P ms h.ins,zbh P ms x h.ins]
theorem j5_ {s s':St}{L:Nat}(hv:s'.V.length=s.V.length)(h2:2+L<=s.V.length)(h:∀j,2<=j->j<2+L->xZ_ s' j=xZ_ s j):∀k,k<=L->xL_ s' k=xL_ s k
  | 0,_=>by unfold xL_;simp
  | k+1,hk=>by
    rw[u0_,u0_,j5_ hv h2 h k (by omega)];have h1:=h (2+k) (by omega) (by omega);unfold xZ_ xa_ at h1;rw[hv,if_pos (by omega),if_pos (by omega)]at h1;rw[h1]
theorem qZ_ {s:St}{L:Nat}(h2:2+L<=s.V.length)(h:∀j,2<=j->j<2+L->xZ_ s j=zm_ 64):∀k,k<=L->xL_ s k=zm_ (k*64)
  | 0,_=>by unfold xL_ zm_;simp
  | k+1,hk=>by
    rw[u0_,qZ_ h2 h k (by omega)];have h1:=h (2+k) (by omega) (by omega);unfold xZ_ xa_ at h1;rw[if_pos (by omega)]at h1;rw[h1];unfold zm_;rw[List.replicate_append_replicate];congr 1;omega
theorem zeN {S b:List UInt8}{u N:Nat}(hu:u+b.length<=N)(hS:128+N<=S.length):((splice S (128+u) b).drop 128).take N=((S.drop 128).take N).take u++(b++((S.drop 128).take N).drop (u+b.length)):=by
 have e:splice S (128+u) b=S.take (128+u)++(b++S.drop (128+u+b.length)):=by unfold splice;simp
 have l1:(S.take (128+u)).length=128+u:=by rw[List.length_take];omega
 have l2:((S.drop 128).take u).length=u:=by rw[List.length_take,List.length_drop];omega
 rw[e,List.drop_append_of_le_length (by omega),List.drop_take,show 128+u-128=u by omega,List.take_append,l2,List.take_append,List.take_of_length_le (by omega),List.take_of_length_le (l:=b) (by omega),List.take_take,Nat.min_eq_left (by omega),List.drop_take,List.drop_drop,show 128+(u+b.length)=128+u+b.length by omega,show N-u-b.length=N-(u+b.length) by omega]
theorem LogZ.com {s:St}{x:SV}{ms:List (List ChV)}{m:List ChV}(h:LogZ s x.L x.P x.E ms x.used)(hg:Gd s)(h2:2+x.L<=s.V.length)(hq:x.seq=ms.length)(hm:InL x.P m)(hf:x.used+(18+66*m.length)<=x.L*64) :
    LogZ (k4_ s x m) x.L x.P x.E (ms++[m]) (x.used+(18+66*m.length)):=by
 have hl:(zcH x m).length=18+66*m.length:=by unfold zcH;rw[yM_,uk_ hm.1];omega
 have hlog:=h.log;have hlen:=h.len;have e:kj_ x.E 0 (ms++[m])=kj_ x.E 0 ms++zcH x m:=by rw[zbd,Nat.zero_add,<-hq];rfl
 refine⟨?_,by rw[e,List.length_append,hl,hlen],hf,fun y hy=>?_⟩
 · rw[e];show((splice s.S (128+x.used) (zcH x m)).drop 128).take (x.L*64)=_;rw[zeN (by omega) (by unfold Gd at hg;omega)];show(xL_ s x.L).take x.used++(zcH x m++(xL_ s x.L).drop (x.used+(zcH x m).length))=_;rw[hlog,List.take_left' hlen,<-List.drop_drop,List.drop_left' hlen,hl,List.append_assoc];congr 2;unfold zm_;rw[List.drop_replicate];congr 1;omega
 · rcases List.mem_append.1 hy with hy|hy
   · exact h.ins y hy
   · simp only[List.mem_cons,List.not_mem_nil,or_false]at hy;subst hy;exact hm
theorem LogZ.flA {s:St}{L P E:Nat}{ms:List (List ChV)}{u:Nat}(h:LogZ s L P E ms u):LogZ (flA s) L P E ms u:=⟨by have:=h.log;unfold xL_ at *;rw[zfy];exact this,h.len,h.top,h.ins⟩
theorem LogZ.none {s:St}{L P E:Nat}(h2:2+L<=s.V.length)(h:∀j,2<=j->j<2+L->xZ_ s j=zm_ 64):LogZ s L P E [] 0:=⟨by rw[qZ_ h2 h L (Nat.le_refl _)];simp[kj_],rfl,Nat.zero_le _,fun m hm=>by cases hm⟩
theorem getD_set_ne {α:Type}(l:List α)(n i:Nat)(a d:α)(h:n≠i):(l.set n a).getD i d=l.getD i d:=by
 rw[List.getD_eq_getElem?_getD,List.getD_eq_getElem?_getD,List.getElem?_set_ne h]
theorem zcz {α:Type}(l:List α)(n:Nat)(a d:α)(h:n<l.length):(l.set n a).getD n d=a:=by
 rw[List.getD_eq_getElem?_getD,List.getElem?_set_self h];rfl
theorem zdo (base:List (List UInt8)):∀(m:List ChV) (ps:List (List UInt8)) (N:List Bool),N.length=ps.length->(∀i,N.getD i false=false->ps.getD i []=base.getD i [])->∀i,(x8_ N m).getD i false=false->(zX_ ps m).getD i []=base.getD i []
  | [],_,_,_,h,i,hi=>h i hi
  | a :: m,ps,N,hl,h,i,hi=>by
    show(zX_ (yV_ ps a) m).getD i []=_;refine zdo base m (yV_ ps a) (N.set a.page.toNat true) (by rw[gd_,List.length_set,hl]) (fun j hj=>?_) i hi;by_cases e:a.page.toNat=j
    · subst e;rcases Nat.lt_or_ge a.page.toNat N.length with hb|hb
      · rw[zcz N _ true false hb]at hj;cases hj
      · rw[List.set_eq_of_length_le hb]at hj;have h1:=h _ hj;unfold yV_;split
        · rw[List.set_eq_of_length_le (by omega)];exact h1
        · exact h1
    · rw[getD_set_ne N _ j true false e]at hj;have h1:=h _ hj;unfold yV_;split
      · rw[getD_set_ne ps _ j a.B [] e];exact h1
      · exact h1
theorem zdp (base:List (List UInt8)):∀(ms:List (List ChV))(x:SV),x.named.length=x.pages.length->(∀i,x.named.getD i false=false->x.pages.getD i []=base.getD i [])->∀i,(ms.foldl zY_ x).named.getD i false=false->(ms.foldl zY_ x).pages.getD i []=base.getD i []
  | [],_,_,h,i,hi=>h i hi
  | m::ms,x,hl,h,i,hi=>by
    refine zdp base ms (zY_ x m) ?_ (fun j hj=>zdo base m x.pages x.named hl h j hj) i hi;show(x8_ x.named m).length=(zX_ x.pages m).length;rw[vO_,yO_,hl]
theorem zbg:∀(ms:List (List ChV))(x:SV),(ms.foldl zY_ x).pages.length=x.pages.length/\(ms.foldl zY_ x).named.length=x.named.length
  | [],_=>⟨rfl,rfl⟩
  | m::ms,x=>by
    obtain⟨h1,h2⟩:=zbg ms (zY_ x m);refine⟨h1.trans ?_,h2.trans ?_⟩
    · show(zX_ x.pages m).length=_;rw[yO_]
    · show(x8_ x.named m).length=_;rw[vO_]
theorem ziG:∀(ms:List (List ChV))(x:SV),(∀l∈x.pages,l.length=64)->(∀m∈ms,∀a∈m,a.B.length=64)->∀l∈(ms.foldl zY_ x).pages,l.length=64
  | [],_,h,_=>h
  | m::ms,x,h,hm=>ziG ms (zY_ x m) (qo_ m x.pages h (hm m List.mem_cons_self)) (fun y hy=>hm y (List.mem_cons_of_mem _ hy))
def RecN (s:St)(L P E:Nat)(ms:List (List ChV)):Prop:=∀x,(recT s ⟨L,P,E⟩).foldl zY_ x=ms.foldl zY_ x
theorem zhc {s:St}{L P E:Nat}(hr:zq_ L P E s.V.length=true)(h:¬zS_ (xL_ s L) E 0):RecN s L P E []:=fun x=>by
 unfold recT recsS;show(zad (P:Int) (scanS (zbH s L P E) E).1).1.foldl zY_ x=_;have h1:=(At.zero (xL_ s L) E).last h;rw[show zbH s L P E=xL_ s L by unfold zbH;rw[if_pos hr,Int.toNat_natCast],h1];rfl
theorem zhf {l:List UInt8}{E E' q q':Nat}(h:zS_ l E q)(hne:E'≠E):¬zS_ l E' q':=fun h2=>hne (by have:=h.2.1;have:=h2.2.1;omega)
theorem LogZ.other {s:St}{L P E:Nat}{ms:List (List ChV)}{u:Nat}(h:LogZ s L P E ms u)(hE:E<4294967296){E':Nat}(hE':1<=E')(hne:E'≠E):¬zS_ (xL_ s L) E' 0:=by
 rw[h.log];have hi:=h.ins;cases ms with
 | nil=>exact jx_ hE'
 | cons m ms =>
   have hm:=hi m List.mem_cons_self;show ¬zS_ ((zT_ E 0 (zD_ m)++kj_ E 1 ms)++_) E' 0;rw[List.append_assoc];exact zhf (zdL E 0 (zD_ m) _ hE (by omega) (by rw[uk_ hm.1];have:=hm.2.2;omega)) hne
theorem uX_ (s:St)(L n i:Nat)(hi:i<n):(z4_ s L n).getD i []=xZ_ s (2+L+i):=by
 unfold z4_ xZ_;rw[List.getD_eq_getElem?_getD,List.getElem?_map,List.getElem?_range hi,Int.toNat_natCast];rfl
theorem zhq {s:St}(h:Gd s)(L n:Nat)(hn:2+L+n<=s.V.length):∀l∈z4_ s L n,l.length=64:=fun l hl=>by
 obtain⟨i,hi,rfl⟩:=List.mem_map.1 hl;have:=List.mem_range.1 hi;exact uO_ h (by rw[Int.toNat_natCast];omega)
theorem zdO {a b:List (List UInt8)}(hl:a.length=b.length)(h:∀i,i<a.length->a.getD i []=b.getD i []):a=b:=by
 apply List.ext_getElem hl;intro i h1 h2;have:=h i h1;rw[List.getD_eq_getElem?_getD,List.getD_eq_getElem?_getD,List.getElem?_eq_getElem h1,List.getElem?_eq_getElem h2]at this;exact this
structure Kept (s:St) (x:SV) (ms:List (List ChV)):Prop where
  gd:Gd s
  rt:zq_ x.L x.P x.E s.V.length=true
  ep:x.E<4294967296
  best:yU_ s.V.length s.S 2=⟨x.L,x.P,x.E⟩
  recs:RecN s x.L x.P x.E ms
  ins:∀m∈ms,InL x.P m
  pages:x.pages=(ms.foldl zY_ (xp_ s ⟨x.L,x.P,x.E⟩)).pages
  named:x.named=(ms.foldl zY_ (xp_ s ⟨x.L,x.P,x.E⟩)).named
section
variable {s:St} {x:SV} {ms:List (List ChV)}
theorem Kept.lens (h:Kept s x ms):x.pages.length=x.P/\x.named.length=x.P/\(∀l∈x.pages,l.length=64):=by
 have h1:=zj_.1 h.rt;obtain⟨f1,f2⟩:=zbg ms (xp_ s ⟨x.L,x.P,x.E⟩);refine⟨by rw[h.pages,f1];exact yK_ _ _ _,by rw[h.named,f2];exact List.length_replicate ..,?_⟩;rw[h.pages];exact ziG ms _ (zhq h.gd x.L x.P (by omega)) (fun m hm a ha=>((h.ins m hm).1 a ha).2)
theorem Kept.open_ (h:Kept s x ms):(openV s ⟨x.L,x.P,x.E⟩).pages=x.pages/\(openV s ⟨x.L,x.P,x.E⟩).named=x.named/\(openV s ⟨x.L,x.P,x.E⟩).L=x.L/\(openV s ⟨x.L,x.P,x.E⟩).P=x.P/\(openV s ⟨x.L,x.P,x.E⟩).E=x.E:=by
 have e:openV s ⟨x.L,x.P,x.E⟩=ms.foldl zY_ (xp_ s ⟨x.L,x.P,x.E⟩):=h.recs _;obtain⟨a,b,c,_⟩:=uL_ ms (xp_ s ⟨x.L,x.P,x.E⟩);rw[e];exact⟨h.pages.symm,h.named.symm,a,b,c⟩
theorem Kept.ck (h:Kept s x ms)(y:SV)(hy:y.pages=x.pages/\y.named=x.named/\y.L=x.L/\y.P=x.P/\y.E=x.E)(hE:x.E+1<4294967296)(hno:¬zS_ (xL_ s x.L) (x.E+1) 0):Kept (ckS s y) (ckV y) []:=by
 obtain⟨y1,y2,y3,y4,y5⟩:=hy;obtain⟨l1,l2,l3⟩:=h.lens;have h1:=zj_.1 h.rt;have hr:zq_ y.L y.P y.E s.V.length=true:=by rw[y3,y4,y5];exact h.rt
 have hp:y.pages.length=y.P:=by rw[y1,y4];exact l1
 have h64:∀l∈y.pages,l.length=64:=by rw[y1];exact l3
 have hr':zq_ y.L y.P ((y.E+1:Nat):Int) (ckS s y).V.length=true:=by rw[vS_];exact zj_.2 (by rw[y3,y4,y5];omega)
 have hb:yU_ (ckS s y).V.length (ckS s y).S 2=⟨y.L,y.P,y.E+1⟩:=zou h.gd hr hp h64 (by rw[h.best,y5];exact Nat.le_refl _) (by omega);have hpg:∀i,i<y.P->xZ_ (ckS s y) (2+y.L+i)=y.pages.getD i []:=fun i hi=>by
  rw[v6_ h.gd hr hp h64,if_neg (by omega)];by_cases hn:y.named.getD i false=true
  · rw[if_pos ⟨by omega,by omega,by rw[show 2+y.L+i-(2+y.L)=i by omega];exact hn⟩,show 2+y.L+i-(2+y.L)=i by omega]
  · rw[if_neg (fun h3=>hn (by have:=h3.2.2;rwa[show 2+y.L+i-(2+y.L)=i by omega]at this))];have hn':x.named.getD i false=false:=(by rw[<-y2];simpa using hn);rw[h.named]at hn';have h2:=zdp (z4_ s x.L x.P) ms (xp_ s ⟨x.L,x.P,x.E⟩) (by show(List.replicate x.P false).length=(z4_ s x.L x.P).length;rw[List.length_replicate,yK_]) (fun j _=>rfl) i hn';rw[y1,h.pages,h2,uX_ s x.L x.P i (by omega),y3]
 refine { gd:=zlP h.gd hr hp h64,rt:=hr',ep:=by show y.E+1<_;omega,best:=hb,recs:=?_,ins:=fun m hm=>(by cases hm),pages:=?_,named:=rfl }
 · refine zhc hr' ?_;show ¬zS_ (xL_ (ckS s y) y.L) (y.E+1) 0;have e:xL_ (ckS s y) y.L=xL_ s y.L:=j5_ (vS_ s y) (by omega) (fun j hj1 hj2=>by rw[v6_ h.gd hr hp h64,if_neg (by omega),if_neg (by omega)]) y.L (Nat.le_refl _);rw[e,y3,y5];exact hno
 · show y.pages=z4_ (ckS s y) y.L y.P;refine zdO (by rw[hp,yK_]) (fun i hi=>?_);rw[uX_ _ _ _ _ (by omega),hpg i (by omega)]
theorem Kept.flA (h:Kept s x ms):Kept (flA s) x ms:=by
 have e:xp_ (Go.Proofs.YtcbcfcdmdedefaaGreatDoor.flA s) ⟨x.L,x.P,x.E⟩=xp_ s ⟨x.L,x.P,x.E⟩:=by
  unfold xp_ z4_;rw[zfy,zI_]
 refine { gd:=h.gd.flA,rt:=by rw[zI_];exact h.rt,ep:=h.ep,best:=by rw[zfy,zI_];exact h.best,recs:=?_,ins:=h.ins,pages:=by rw[e];exact h.pages,named:=by rw[e];exact h.named };have e2:recT (Go.Proofs.YtcbcfcdmdedefaaGreatDoor.flA s) ⟨x.L,x.P,x.E⟩=recT s ⟨x.L,x.P,x.E⟩:=by
  unfold recT recsS zbH xL_;rw[zfy,zI_]
 intro y;rw[e2];exact h.recs y
end
theorem zkx {s:St}{a:Nat}{b:List UInt8}(h:a+b.length<=s.S.length)(q:Nat)(hq:(q+1)*64<=a\/a+b.length<=q*64):xZ_ (apS s a b) q=xZ_ s q:=by
 unfold xZ_;rw[zbA];show xa_ (splice s.S a b) _ q=_;have e:splice s.S a b=s.S.take a++(b++s.S.drop (a+b.length)):=by unfold splice;simp
 have l1:(s.S.take a).length=a:=by rw[List.length_take];omega
 unfold xa_;split
 · rw[e];rcases hq with hq|hq
   · rw[List.drop_append_of_le_length (by omega),List.take_append_of_le_length (by rw[List.length_drop];omega),List.drop_take,List.take_take,Nat.min_eq_left (by omega)]
   · rw[List.drop_append,List.drop_of_length_le (by omega),List.nil_append,l1,List.drop_append,List.drop_of_length_le (by omega),List.nil_append,List.drop_drop,show a+b.length+(q*64-a-b.length)=q*64 by omega]
 · rfl
theorem Gd.apS {s:St}(h:Gd s){a:Nat}{b:List UInt8}(hb:a+b.length<=s.S.length):Gd (apS s a b):=by
 unfold Gd;rw[zbA];show(splice s.S a b).length=_;rw[xu_ _ _ _ hb];exact h
structure KeptZ (s:St) (x:SV) (ms:List (List ChV)):Prop where
  k:Kept s x ms
  z:LogZ s x.L x.P x.E ms x.used
  q:x.seq=ms.length
theorem zbf (ms:List (List ChV))(m:List ChV)(y:SV):(ms++[m]).foldl zY_ y=zY_ (ms.foldl zY_ y) m:=by rw[List.foldl_append];rfl
theorem KeptZ.com {s:St}{x:SV}{ms:List (List ChV)}{m:List ChV}(h:KeptZ s x ms)(hm:InL x.P m)(hf:x.used+(18+66*m.length)<=x.L*64):KeptZ (k4_ s x m) (zbL x m) (ms++[m]):=by
 have h1:=zj_.1 h.k.rt;have hl:(zcH x m).length=18+66*m.length:=by unfold zcH;rw[yM_,uk_ hm.1];omega
 have hgd:=h.k.gd;have hb:128+x.used+(zcH x m).length<=s.S.length:=by unfold Gd at hgd;omega
 have hV:(k4_ s x m).V.length=s.V.length:=zbA _ _ _;have hs:∀q,q<2\/2+x.L<=q->xZ_ (k4_ s x m) q=xZ_ s q:=fun q hq=>zkx hb q (by rcases hq with hq|hq<;>omega);have hz:=h.z.com hgd (by omega) h.q hm hf;have hrt:zq_ x.L x.P x.E (k4_ s x m).V.length=true:=by rw[hV];exact h.k.rt
 have hpg:z4_ (k4_ s x m) x.L x.P=z4_ s x.L x.P:=zdO (by rw[yK_,yK_]) (fun i hi=>by
  rw[yK_]at hi;rw[uX_ _ _ _ _ hi,uX_ _ _ _ _ hi,hs _ (by omega)]);have hhv:xp_ (k4_ s x m) ⟨x.L,x.P,x.E⟩=xp_ s ⟨x.L,x.P,x.E⟩:=by unfold xp_;simp only;rw[hpg]
 have hins:∀y∈ms++[m],InL x.P y:=fun y hy=>by
  rcases List.mem_append.1 hy with hy|hy
  · exact h.k.ins y hy
  · simp only[List.mem_cons,List.not_mem_nil,or_false]at hy;subst hy;exact hm
 refine⟨{ gd:=hgd.apS hb,rt:=hrt,ep:=h.k.ep,best:=?_,recs:=fun y=>hz.recT hrt h.k.ep y,ins:=hins,pages:=?_,named:=?_ },hz,by show x.seq+1=_;rw[h.q,List.length_append];rfl⟩
 · rw[vX_,hV,hs 0 (by omega),hs 1 (by omega),<-vX_];exact h.k.best
 · show zX_ x.pages m=((ms++[m]).foldl zY_ (xp_ (k4_ s x m) ⟨x.L,x.P,x.E⟩)).pages;rw[zbf,hhv,h.k.pages];rfl
 · show x8_ x.named m=((ms++[m]).foldl zY_ (xp_ (k4_ s x m) ⟨x.L,x.P,x.E⟩)).named;rw[zbf,hhv,h.k.named];rfl
theorem KeptZ.flA {s:St}{x:SV}{ms:List (List ChV)}(h:KeptZ s x ms):KeptZ (flA s) x ms:=⟨h.k.flA,h.z.flA,h.q⟩
theorem zdA {s:St}(h:Gd s)(L P:Nat)(hr:zq_ L P 1 s.V.length=true):Kept (fmt s L P) (xp_ (fmt s L P) ⟨L,P,1⟩) []/\LogZ (fmt s L P) L P 1 [] 0:=by
 have h1:=zj_.1 hr;have hz:LogZ (fmt s L P) L P 1 [] 0:=LogZ.none (by rw[kH_];omega) (fun j hj1 hj2=>by rw[uP_ h L P (by omega) j (by omega),if_neg (by omega)]);have hr':zq_ L P (1:Nat) (fmt s L P).V.length=true:=by rw[kH_];exact hr
 refine⟨{ gd:=h.fmt L P (by omega),rt:=hr',ep:=by show 1<_;omega,best:=zec h L P hr,recs:=fun y=>hz.recT hr' (by omega) y,ins:=fun m hm=>(by cases hm),pages:=rfl,named:=rfl },hz⟩
theorem zlj {s:St}(h:Gd s)(L P:Nat)(hr:zq_ L P 1 s.V.length=true):KeptZ (ckS (fmt s L P) (openV (fmt s L P) ⟨L,P,1⟩)) (ckV (openV (fmt s L P) ⟨L,P,1⟩)) []:=by
 have h1:=zj_.1 hr;obtain⟨hk,hz⟩:=zdA h L P hr;have ho:=hk.open_;have hlog:=hz.log;have hc:=hk.ck _ ho (by show 1+1<_;omega) (by show ¬zS_ (xL_ (fmt s L P) L) 2 0;rw[hlog];exact jx_ (by omega));obtain⟨o1,o2,o3,o4,o5⟩:=ho;obtain⟨l1,l2,l3⟩:=hk.lens;have o3':(openV (fmt s L P) ⟨L,P,1⟩).L=L:=o3;have o4':(openV (fmt s L P) ⟨L,P,1⟩).P=P:=o4;have o5':(openV (fmt s L P) ⟨L,P,1⟩).E=1:=o5;refine⟨hc,?_,rfl⟩;refine LogZ.none (by rw[vS_,kH_];show 2+(openV (fmt s L P) ⟨L,P,1⟩).L<=_;rw[o3'];omega) (fun j hj1 hj2=>?_);have hj2':j<2+L:=by rw[<-o3'];exact hj2
 have hgf:=hk.gd;rw[v6_ hgf (by rw[o3',o4',o5',kH_];exact hr) (by rw[o4'];exact(congrArg List.length o1).trans l1) (fun l hl=>l3 l (by rw[<-o1];exact hl)),if_neg (by omega),if_neg (by rw[o3'];omega),uP_ h L P (by omega) j (by omega),if_neg (by omega)]
end Go.Proofs.YtcbcfcdmdedefaaGreatDoor
