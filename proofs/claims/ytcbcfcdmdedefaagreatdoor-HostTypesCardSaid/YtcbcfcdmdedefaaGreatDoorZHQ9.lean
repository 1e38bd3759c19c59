import Derived.Test.YtcbcfcdmdedefaaGreatDoorZHQ8
set_option maxRecDepth 100000
set_option maxHeartbeats 16000000
namespace Go.Proofs.YtcbcfcdmdedefaaGreatDoor
open Go.RowKit
structure BkV where
  sign:Int
  base:Int
  other:Int
  left:Bool
def xU_ (name:Int):List FnV->Nat->Option Nat
  | [],_=>none
  | f::l,k=>if f.name=name then some k else xU_ name l (k+1)
def yQ_ (l:List FnV)(name:Int):Int:=match xU_ name l 0 with|some k=>(k:Int)|none=>-1
theorem zdV {name:Int}:∀{l:List FnV}{k j:Nat},xU_ name l k=some j->∃f,k<=j/\l[j-k]?=some f/\f.name=name
  | [],k,j,h=>by simp[xU_]at h
  | f::l,k,j,h=>by
    rw[xU_]at h;by_cases hn:f.name=name
    · rw[if_pos hn]at h;injection h with h;subst h;exact⟨f,Nat.le_refl _,by simp,hn⟩
    · rw[if_neg hn]at h;obtain⟨g,h1,h2,h3⟩:=zdV h;refine⟨g,by omega,?_,h3⟩;rw[show j-k=(j-(k+1))+1 from by omega];simpa using h2
def binL:List Nat:=[43,45,42,47,37,38,124,94,60,61,171,187]
def unL:List Nat:=[33,64,169,164,960]
def zeL:List Nat:=[58,59,91,93,126,161]
def inL (l:List Nat)(r:Int):Bool:=l.any fun x=>(x:Int)==r
def vH_ (l:List FnV)(name:Int):Int×Int×Bool :=
 match xU_ name l 0 with
 | none=>(0,0,false)
 | some k=>match l[k]? with
   | none=>(0,0,false)
   | some f=>if 0<=f.args/\f.args<=4 then (f.args,1,true) else (0,0,false)
def xe_ (l:List FnV)(s name:Int):Int×Int×Bool :=
 if (s=48\/(97<=s/\s<=122))\/s=35 then (0,1,true)
 else if (65<=s/\s<=90)\/s=44 then (1,0,true)
 else if s=46 then (1,2,true)
 else if inL binL s=true then (2,1,true)
 else if inL unL s=true then (1,1,true)
 else if s=36\/s=174 then (2,0,true)
 else if s=63 then (1,0,true)
 else if inL zeL s=true then (0,0,true)
 else if s=955 then vH_ l name
 else (0,0,false)
theorem zlO (l:List FnV)(name:Int):0<=(vH_ l name).1/\(vH_ l name).1<=4/\0<=(vH_ l name).2.1/\(vH_ l name).2.1<=2:=by
 unfold vH_;split
 · simp
 · split
   · simp
   · split
     · rename_i h;simp;omega
     · simp
theorem zaJ (l:List FnV)(s name:Int):0<=(xe_ l s name).1/\(xe_ l s name).1<=4/\0<=(xe_ l s name).2.1/\(xe_ l s name).2.1<=2:=by
 unfold xe_
 repeat' split
 all_goals first|exact zlO l name|simp
def xn_ (bs:List BkV):Int:=match bs.getLast? with|none=>0|some b=>b.base
def uB_ (h:Int)(ys:List BkV)(x:BkV)(r:Int):Bool×Int×List BkV :=
 if r=58 then (true,x.base,ys++[⟨58,x.base,h,x.left⟩])
 else if x.sign=58 then (if 0<=x.other/\0<=h/\x.other≠h then (false,h,ys) else (true,max h x.other,ys))
 else if 0<=h/\h≠x.base then (false,h,ys)
 else (true,(if x.sign=91/\x.left=false then -1 else x.base),ys)
def x8_ (h:Int) (bs:List BkV):Nat->Bool×Int×List BkV
  | 0=>(false,h,bs)
  | k+1=>match bs[k]? with
    | none=>(false,h,bs)
    | some x=>if x.sign=91 then (h==x.base,-1,bs.set k ⟨x.sign,x.base,x.other,true⟩) else x8_ h bs k
def vx_ (s:Int):Prop:=s=58\/s=59\/s=93
instance (s:Int):Decidable (vx_ s):=by unfold vx_;exact inferInstance
def qy_ (l:List FnV)(h:Int)(bs:List BkV)(s name:Int):Int×Int×List BkV :=
 if vx_ s then (match bs.getLast? with
   | none=>(14,h,bs)
   | some x=>match uB_ h bs.dropLast x s with|(true,h',bs')=>(0,h',bs')|(false,h',bs')=>(14,h',bs'))
 else if h<0 then (15,h,bs)
 else match xe_ l s name with
   | (_,_,false)=>(22,h,bs)
   | (p,g,true) =>
     if h-xn_ bs<p\/64<h-p+g then (14,h,bs)
     else if s=63\/s=91 then (0,h-p+g,bs++[⟨s,h-p+g,0,false⟩])
     else if s=126 then (match x8_ (h-p+g) bs bs.length with|(true,h',bs')=>(0,h',bs')|(false,h',bs')=>(14,h',bs'))
     else if s=161 then (0,-1,bs)
     else (0,h-p+g,bs)
def k9_ (l:List FnV):List TkV->Int->List BkV->List Int->Int×List Int
  | [],h,_,out=>if h≠1/\0<=h then (14,[]) else (0,out)
  | t::ts,h,bs,out=>match qy_ l h bs t.sign t.name with
    | (e,h',bs')=>if e=0 then k9_ l ts h' bs' (out++[h]) else (e,[])
def jR_ (l:List FnV)(code:ByteArray):Int×List Int :=
 match uJ_ code with
 | none=>(zeI code,[])
 | some ts=>match qC_ (yD_ ts) with
   | none=>(13,[])
   | some _=>k9_ l ts 0 [] []
def yC_ (pages most:Int)(A:Option Addr)(n c:Nat):Value:=.agg #[.int .i64 pages,.int .i64 most,.slice A n c]
structure Fnr (W:World) (A:Option Addr) (n c:Nat) (l:List FnV):Prop where
  len:l.length=n
  src:Src W A (kL_ l)
  cap:n<=c
  max:n<=1000
  spot:0<n->∀ad,A=some ad->ad.spot=none
  args:∀f∈l,-9223372036854775808<=f.args/\f.args<=9223372036854775807
section
variable {W W':World} {p:Nat} {A:Option Addr} {n c:Nat} {l:List FnV}
theorem Fnr.keep (h:Fnr W A n c l)(hc:Chg [] W W'):Fnr W' A n c l:=⟨h.len,h.src.keep hc,h.cap,h.max,h.spot,h.args⟩
theorem Fnr.cell (h:Fnr W A n c l){k:Nat}{t:FnV}(hk:l[k]?=some t):∃b o,A=some ⟨b,o,none⟩/\b<W.heap.size/\W.cell? ⟨b,o+k*3,none⟩=some (.int .i32 t.name)/\W.cell? ⟨b,o+k*3+1,none⟩=some (.int .i64 t.args)/\W.cell? ⟨b,o+k*3+2,none⟩=some (.string t.code):=by
 have hkl:=(List.getElem?_eq_some_iff.1 hk).1;obtain⟨⟨b,o,s⟩,e,hb,hx⟩:=h.src (by rw[y6_];omega);obtain rfl:s=none:=h.spot (by have:=h.len;omega) _ e;refine⟨b,o,e,hb,?_,?_,?_⟩
 · have:=hx _ _ ((jo_ l k t 0 hk (by omega)).trans rfl);rwa[zl_]at this
 · have:=hx _ _ ((jo_ l k t 1 hk (by omega)).trans rfl);rwa[zl_]at this
 · have:=hx _ _ ((jo_ l k t 2 hk (by omega)).trans rfl);rwa[zl_]at this
end
section
variable {w:World} {A:Option Addr} {n c:Nat} {l:List FnV} {pages most:Int}
def kj_ (i:Int)(w:World)(e:Ending)(w':World):Prop:=e=.returned (.int .i64 i)/\Chg [] w w'
end
section
variable {w:World} {A:Option Addr} {n c:Nat} {l:List FnV} {pages most:Int}
def zo_ (r:Int×Int×Bool)(w:World)(e:Ending)(w':World):Prop:=e=.returned (.tuple #[.int .i64 r.1,.int .i64 r.2.1,.bool r.2.2])/\Chg [] w w'
theorem zt_ {R:Int×Int×Bool}{w':World}(a b:Nat)(ok:Bool)(hR:R=((a:Int),(b:Int),ok))(h:Chg [] w w'):zo_ R w (.returned (.tuple #[.int .i64 (a:Int),.int .i64 (b:Int),.bool ok])) w':=by subst hR;exact⟨rfl,h⟩
end
section
variable {w:World} {A:Option Addr} {n c:Nat} {l:List FnV} {pages most:Int}
theorem xE_ (h:Fnr w A n c l)(name:Int):Calls Tryz.prog 50 #[yC_ pages most A n c,.int .i32 name] w (kj_ (yQ_ l name) w):=by
 unfold yC_;have hmax:=h.max;have H:=hQ_ h;have HL:=hQ_ h.len;have HI:=hQ_ (show xU_ name l 0=xU_ name (l.drop 0) 0 from rfl);have HN:=hQ_ (show yQ_ l name=match xU_ name l 0 with|some k=>(k:Int)|none=>-1 from rfl);generalize yQ_ l name=fi at HN⊢;clear h;go_enter Tryz.func50,Tryz.ntmps50;go_upto_region 1 with fail;have hN:=zb_.new w 25 [.int .i64 pages,.int .i64 most,.slice A n c];have hal:Chg [] w (w.alloc (.cells #[.int .i64 pages,.int .i64 most,.slice A n c] 25)):=(Chg.refl [] w).alloc _;have c2:=hN.cell 2;have HC:=hQ_ hal;have HF:=hQ_ (H.o.keep hal);obtain⟨g,hg⟩:∃g,g=w.heap.size:=⟨_,rfl⟩;rw[<-hg]at c2⊢;generalize w.alloc (.cells #[.int .i64 pages,.int .i64 most,.slice A n c] 25)=w1 at c2 HC HF⊢;clear hN hal hg;go_wp2_with fail;go_loopw [10] (fun i wr=>∃k:Nat,i=.int .i64 (k:Int)/\k<=n/\Hid (xU_ name l 0=xU_ name (l.drop k) k)/\Hid (Chg [] w1 wr)) (fun i _=>n-(intOf i).toNat);case atStart=>exact⟨0,rfl,by omega,HI,hQ_ (Chg.refl [] _)⟩
 case round =>
  obtain⟨k,rfl,hk,HK,HCr⟩:=hrel;by_cases hkn:k<n
  · have hkI:(k:Int)<(n:Int):=(by omega);obtain⟨t,htk⟩:∃t,l[k]?=some t:=⟨l[k]'(by rw[HF.o.len];exact hkn),by simp⟩;have HD:=hQ_ (show l.drop k=t::l.drop (k+1) from List.drop_eq_getElem?_toList_append.trans (by rw[htk];rfl));obtain⟨fb,fo,rfl,hfbl,e0,e1,e2⟩:=(HF.o.keep HCr.o).cell htk;obtain⟨tn,ta,tc⟩:=t;simp only at e0 e1 e2;clear htk;go_upto_region 4 with fail;have hX:=zb_.new wr 44 [.int .i32 tn,.int .i64 ta,.string tc];have x0:=hX.cell 0;have HC2:=hQ_ (HCr.o.new ((Chg.refl [] wr).alloc (.cells #[.int .i32 tn,.int .i64 ta,.string tc] 44)));generalize wr.heap.size=gx at x0⊢;generalize wr.alloc (.cells #[.int .i32 tn,.int .i64 ta,.string tc] 44)=w3 at x0 HC2⊢;clear hX e0 e1 e2 hfbl HCr;by_cases hnm:tn=name
    · have hq:(tn==name)=true:=(by simpa using hnm);have HP:=hQ_ (show kj_ fi w (.returned (.int .i64 (k:Int))) w3 from⟨by rw[HN.o,HK.o,HD.o,xU_,if_pos hnm],HC.o.new HC2.o⟩);clear hnm;go_wp2_with fail;go_ret;exact HP.o
    · have hq:(tn==name)=false:=(by simpa using hnm);have HK2:=hQ_ (show xU_ name l 0=xU_ name (l.drop (k+1)) (k+1) from by rw[HK.o,HD.o,xU_,if_neg hnm]);go_wp2_with fail;go_roundw;(case rel=>exact⟨k+1,by go_num,by omega,HK2,HC2⟩);case measure=>simp[intOf];omega
  · have hkI:(n:Int)<=(k:Int):=(by omega);have HP:=hQ_ (show kj_ fi w (.returned (.int .i64 (-1))) wr from⟨by rw[HN.o,HK.o,List.drop_eq_nil_of_le (by rw[HL.o];omega)];rfl,HC.o.new HCr.o⟩);go_wp2_with fail;go_ret;exact HP.o
theorem zfU (h:Fnr w A n c l)(name:Int):Calls Tryz.prog 165 #[yC_ pages most A n c,.int .i32 name] w (zo_ (vH_ l name) w):=by
 unfold yC_;have hmax:=h.max;have H:=hQ_ h;clear h;go_enter Tryz.func165,Tryz.ntmps165;go_upto_region 1 with fail;have hN:=zb_.new w 25 [.int .i64 pages,.int .i64 most,.slice A n c];have hal:Chg [] w (w.alloc (.cells #[.int .i64 pages,.int .i64 most,.slice A n c] 25)):=(Chg.refl [] w).alloc _;obtain⟨g,hg⟩:∃g,g=w.heap.size:=⟨_,rfl⟩;rw[<-hg]at hN⊢;have HU:=hQ_ hN;have HC:=hQ_ hal;have HF:=hQ_ (H.o.keep hal);generalize w.alloc (.cells #[.int .i64 pages,.int .i64 most,.slice A n c] 25)=w1 at HU HC HF⊢;clear hN hal hg;have c0:=HU.o.cell 0;have c1:=HU.o.cell 1;have c2:=HU.o.cell 2;go_wp2_with fail;refine(xE_ HF.o name).mono ?_;rintro e w2 ⟨rfl,hc2⟩;have HU2:=hQ_ (HU.o.keep hc2);have HF2:=hQ_ (HF.o.keep hc2);have HC2:=hQ_ (HC.o.new hc2);clear hc2 c0 c1 c2;have c2:=HU2.o.cell 2;cases hk:xU_ name l 0 with
 | none =>
   have HP:=hQ_ (show zo_ (vH_ l name) w (.returned (.tuple #[.int .i64 ((0:Nat):Int),.int .i64 ((0:Nat):Int),.bool false])) w2 from zt_ 0 0 false (by unfold vH_;rw[hk];rfl) HC2.o);rw[show yQ_ l name=-1 from by unfold yQ_;rw[hk]];clear hk;go_wp2_with fail;go_ret3;exact HP.o
 | some k =>
   rw[show yQ_ l name=(k:Int) from by unfold yQ_;rw[hk]];obtain⟨f,_,hf,hfn⟩:=zdV hk;rw[Nat.sub_zero]at hf;have hkn:k<n:=(by have:=(List.getElem?_eq_some_iff.1 hf).1;have:=HF2.o.len;omega);have hkI:(k:Int)<(n:Int):=(by omega);have hk0:¬(k:Int)<0:=(by omega);have hk0d:decide ((k:Int)<0)=false:=(by simp);obtain⟨fb,fo,rfl,hfbl,e0,e1,e2⟩:=HF2.o.cell hf;obtain⟨fn,fa,fc⟩:=f;simp only at e0 e1 e2;have HCA:=hQ_ (show vH_ l name=if 0<=fa/\fa<=4 then (fa,1,true) else (0,0,false) from by unfold vH_;rw[hk];simp only;rw[hf]);clear hk hf hfn e0 e2;by_cases h0:0<=fa
   · by_cases h4:fa<=4
     · obtain⟨a,rfl⟩:∃a:Nat,fa=(a:Int):=⟨fa.toNat,by omega⟩;have d0:decide ((a:Int)<0)=false:=(by simp);have d4:decide (4<(a:Int))=false:=(by simp;omega);have HP:=hQ_ (show zo_ (vH_ l name) w (.returned (.tuple #[.int .i64 ((a:Nat):Int),.int .i64 ((1:Nat):Int),.bool true])) w2 from zt_ a 1 true (by rw[HCA.o,if_pos ⟨h0,h4⟩];rfl) HC2.o);clear h0;go_wp2_with fail;go_ret3;exact HP.o
     · have d0:decide (fa<0)=false:=(by simp;omega);have d4:decide (4<fa)=true:=(by simp;omega);have h4':4<fa:=(by omega);have HP:=hQ_ (show zo_ (vH_ l name) w (.returned (.tuple #[.int .i64 ((0:Nat):Int),.int .i64 ((0:Nat):Int),.bool false])) w2 from zt_ 0 0 false (by rw[HCA.o,if_neg (fun h=>h4 h.2)];rfl) HC2.o);clear h4;go_wp2_with fail;go_ret3;exact HP.o
   · have d0:decide (fa<0)=true:=(by simp;omega);have h0':fa<0:=(by omega);have HP:=hQ_ (show zo_ (vH_ l name) w (.returned (.tuple #[.int .i64 ((0:Nat):Int),.int .i64 ((0:Nat):Int),.bool false])) w2 from zt_ 0 0 false (by rw[HCA.o,if_neg (fun h=>h0 h.1)];rfl) HC2.o);clear h0;go_wp2_with fail;go_ret3;exact HP.o
theorem zcw {l:List Nat}{r:Int}(h:∀x∈l,r≠(x:Int)):inL l r=false:=by
 unfold inL;rw[Bool.eq_false_iff];intro ht;obtain⟨x,hx,e⟩:=List.any_eq_true.1 ht;exact h x hx (by have:=of_decide_eq_true e;exact this.symm)
theorem zfV (h:Fnr w A n c l)(t:TkV):Calls Tryz.prog 140 #[yC_ pages most A n c,.agg (tkC t).toArray] w (zo_ (xe_ l t.sign t.name) w):=by
 unfold yC_;obtain⟨r,tn,nm⟩:=t;simp only[tkC];have H:=hQ_ h;clear h;obtain⟨R,hR⟩:∃R,R=xe_ l r nm:=⟨_,rfl⟩;rw[<-hR];have HR:=hQ_ hR;clear hR;go_enter Tryz.func140,Tryz.ntmps140;go_upto_region 1 with fail;have hN:=zb_.new w 25 [.int .i64 pages,.int .i64 most,.slice A n c];have hal:Chg [] w (w.alloc (.cells #[.int .i64 pages,.int .i64 most,.slice A n c] 25)):=(Chg.refl [] w).alloc _;have hsz:(w.alloc (.cells #[.int .i64 pages,.int .i64 most,.slice A n c] 25)).heap.size=w.heap.size+1:=Array.size_push _;obtain⟨w1,hw1⟩:∃w1,w1=w.alloc (.cells #[.int .i64 pages,.int .i64 most,.slice A n c] 25):=⟨_,rfl⟩;rw[<-hw1]at hN hal hsz⊢;have hN2:=zb_.new w1 132 [.int .i32 r,.int .i64 tn,.int .i32 nm];have hal2:Chg [] w1 (w1.alloc (.cells #[.int .i32 r,.int .i64 tn,.int .i32 nm] 132)):=(Chg.refl [] w1).alloc _;rw[hsz]at hN2;have hU2:=hN.keep hal2;have hc:=hal.trans hal2;generalize w1.alloc (.cells #[.int .i32 r,.int .i64 tn,.int .i32 nm] 132)=w2 at hN2 hU2 hc⊢;have HF2:=hQ_ (H.o.keep hc);generalize w.heap.size=g at hU2 hN2⊢;have HU2:=hQ_ hU2;have HT2:=hQ_ hN2;have HC2:=hQ_ hc;clear hN hal hsz hw1 hN2 hal2 hU2 hc;have t0:=HT2.o.cell 0;have t2:=HT2.o.cell 2;have u0:=HU2.o.cell 0;have u1:=HU2.o.cell 1;have u2:=HU2.o.cell 2;go_upto_region 2 with fail;by_cases h33:r=33
 · subst h33;have HP:=hQ_ (show zo_ R w (.returned (.tuple #[.int .i64 ((1:Nat):Int),.int .i64 ((1:Nat):Int),.bool true])) w2 from zt_ 1 1 true (by rw[HR.o];rfl) HC2.o);go_wp2_with fail;go_ret3;exact HP.o
 have q33:(r==33)=false:=by simpa using h33
 by_cases h35:r=35
 · subst h35;have HP:=hQ_ (show zo_ R w (.returned (.tuple #[.int .i64 ((0:Nat):Int),.int .i64 ((1:Nat):Int),.bool true])) w2 from zt_ 0 1 true (by rw[HR.o];rfl) HC2.o);go_wp2_with fail;go_ret3;exact HP.o
 have q35:(r==35)=false:=by simpa using h35
 by_cases h36:r=36
 · subst h36;have HP:=hQ_ (show zo_ R w (.returned (.tuple #[.int .i64 ((2:Nat):Int),.int .i64 ((0:Nat):Int),.bool true])) w2 from zt_ 2 0 true (by rw[HR.o];rfl) HC2.o);go_wp2_with fail;go_ret3;exact HP.o
 have q36:(r==36)=false:=by simpa using h36
 by_cases h37:r=37
 · subst h37;have HP:=hQ_ (show zo_ R w (.returned (.tuple #[.int .i64 ((2:Nat):Int),.int .i64 ((1:Nat):Int),.bool true])) w2 from zt_ 2 1 true (by rw[HR.o];rfl) HC2.o);go_wp2_with fail;go_ret3;exact HP.o
 have q37:(r==37)=false:=by simpa using h37
 by_cases h38:r=38
 · subst h38;have HP:=hQ_ (show zo_ R w (.returned (.tuple #[.int .i64 ((2:Nat):Int),.int .i64 ((1:Nat):Int),.bool true])) w2 from zt_ 2 1 true (by rw[HR.o];rfl) HC2.o);go_wp2_with fail;go_ret3;exact HP.o
 have q38:(r==38)=false:=by simpa using h38
 by_cases h42:r=42
 · subst h42;have HP:=hQ_ (show zo_ R w (.returned (.tuple #[.int .i64 ((2:Nat):Int),.int .i64 ((1:Nat):Int),.bool true])) w2 from zt_ 2 1 true (by rw[HR.o];rfl) HC2.o);go_wp2_with fail;go_ret3;exact HP.o
 have q42:(r==42)=false:=by simpa using h42
 by_cases h43:r=43
 · subst h43;have HP:=hQ_ (show zo_ R w (.returned (.tuple #[.int .i64 ((2:Nat):Int),.int .i64 ((1:Nat):Int),.bool true])) w2 from zt_ 2 1 true (by rw[HR.o];rfl) HC2.o);go_wp2_with fail;go_ret3;exact HP.o
 have q43:(r==43)=false:=by simpa using h43
 by_cases h44:r=44
 · subst h44;have HP:=hQ_ (show zo_ R w (.returned (.tuple #[.int .i64 ((1:Nat):Int),.int .i64 ((0:Nat):Int),.bool true])) w2 from zt_ 1 0 true (by rw[HR.o];rfl) HC2.o);go_wp2_with fail;go_ret3;exact HP.o
 have q44:(r==44)=false:=by simpa using h44
 by_cases h45:r=45
 · subst h45;have HP:=hQ_ (show zo_ R w (.returned (.tuple #[.int .i64 ((2:Nat):Int),.int .i64 ((1:Nat):Int),.bool true])) w2 from zt_ 2 1 true (by rw[HR.o];rfl) HC2.o);go_wp2_with fail;go_ret3;exact HP.o
 have q45:(r==45)=false:=by simpa using h45
 by_cases h46:r=46
 · subst h46;have HP:=hQ_ (show zo_ R w (.returned (.tuple #[.int .i64 ((1:Nat):Int),.int .i64 ((2:Nat):Int),.bool true])) w2 from zt_ 1 2 true (by rw[HR.o];rfl) HC2.o);go_wp2_with fail;go_ret3;exact HP.o
 have q46:(r==46)=false:=by simpa using h46
 by_cases h47:r=47
 · subst h47;have HP:=hQ_ (show zo_ R w (.returned (.tuple #[.int .i64 ((2:Nat):Int),.int .i64 ((1:Nat):Int),.bool true])) w2 from zt_ 2 1 true (by rw[HR.o];rfl) HC2.o);go_wp2_with fail;go_ret3;exact HP.o
 have q47:(r==47)=false:=by simpa using h47
 by_cases h48:r=48
 · subst h48;have HP:=hQ_ (show zo_ R w (.returned (.tuple #[.int .i64 ((0:Nat):Int),.int .i64 ((1:Nat):Int),.bool true])) w2 from zt_ 0 1 true (by rw[HR.o];rfl) HC2.o);go_wp2_with fail;go_ret3;exact HP.o
 have q48:(r==48)=false:=by simpa using h48
 by_cases h58:r=58
 · subst h58;have HP:=hQ_ (show zo_ R w (.returned (.tuple #[.int .i64 ((0:Nat):Int),.int .i64 ((0:Nat):Int),.bool true])) w2 from zt_ 0 0 true (by rw[HR.o];rfl) HC2.o);go_wp2_with fail;go_ret3;exact HP.o
 have q58:(r==58)=false:=by simpa using h58
 by_cases h59:r=59
 · subst h59;have HP:=hQ_ (show zo_ R w (.returned (.tuple #[.int .i64 ((0:Nat):Int),.int .i64 ((0:Nat):Int),.bool true])) w2 from zt_ 0 0 true (by rw[HR.o];rfl) HC2.o);go_wp2_with fail;go_ret3;exact HP.o
 have q59:(r==59)=false:=by simpa using h59
 by_cases h60:r=60
 · subst h60;have HP:=hQ_ (show zo_ R w (.returned (.tuple #[.int .i64 ((2:Nat):Int),.int .i64 ((1:Nat):Int),.bool true])) w2 from zt_ 2 1 true (by rw[HR.o];rfl) HC2.o);go_wp2_with fail;go_ret3;exact HP.o
 have q60:(r==60)=false:=by simpa using h60
 by_cases h61:r=61
 · subst h61;have HP:=hQ_ (show zo_ R w (.returned (.tuple #[.int .i64 ((2:Nat):Int),.int .i64 ((1:Nat):Int),.bool true])) w2 from zt_ 2 1 true (by rw[HR.o];rfl) HC2.o);go_wp2_with fail;go_ret3;exact HP.o
 have q61:(r==61)=false:=by simpa using h61
 by_cases h63:r=63
 · subst h63;have HP:=hQ_ (show zo_ R w (.returned (.tuple #[.int .i64 ((1:Nat):Int),.int .i64 ((0:Nat):Int),.bool true])) w2 from zt_ 1 0 true (by rw[HR.o];rfl) HC2.o);go_wp2_with fail;go_ret3;exact HP.o
 have q63:(r==63)=false:=by simpa using h63
 by_cases h64:r=64
 · subst h64;have HP:=hQ_ (show zo_ R w (.returned (.tuple #[.int .i64 ((1:Nat):Int),.int .i64 ((1:Nat):Int),.bool true])) w2 from zt_ 1 1 true (by rw[HR.o];rfl) HC2.o);go_wp2_with fail;go_ret3;exact HP.o
 have q64:(r==64)=false:=by simpa using h64
 by_cases h91:r=91
 · subst h91;have HP:=hQ_ (show zo_ R w (.returned (.tuple #[.int .i64 ((0:Nat):Int),.int .i64 ((0:Nat):Int),.bool true])) w2 from zt_ 0 0 true (by rw[HR.o];rfl) HC2.o);go_wp2_with fail;go_ret3;exact HP.o
 have q91:(r==91)=false:=by simpa using h91
 by_cases h93:r=93
 · subst h93;have HP:=hQ_ (show zo_ R w (.returned (.tuple #[.int .i64 ((0:Nat):Int),.int .i64 ((0:Nat):Int),.bool true])) w2 from zt_ 0 0 true (by rw[HR.o];rfl) HC2.o);go_wp2_with fail;go_ret3;exact HP.o
 have q93:(r==93)=false:=by simpa using h93
 by_cases h94:r=94
 · subst h94;have HP:=hQ_ (show zo_ R w (.returned (.tuple #[.int .i64 ((2:Nat):Int),.int .i64 ((1:Nat):Int),.bool true])) w2 from zt_ 2 1 true (by rw[HR.o];rfl) HC2.o);go_wp2_with fail;go_ret3;exact HP.o
 have q94:(r==94)=false:=by simpa using h94
 by_cases h124:r=124
 · subst h124;have HP:=hQ_ (show zo_ R w (.returned (.tuple #[.int .i64 ((2:Nat):Int),.int .i64 ((1:Nat):Int),.bool true])) w2 from zt_ 2 1 true (by rw[HR.o];rfl) HC2.o);go_wp2_with fail;go_ret3;exact HP.o
 have q124:(r==124)=false:=by simpa using h124
 by_cases h126:r=126
 · subst h126;have HP:=hQ_ (show zo_ R w (.returned (.tuple #[.int .i64 ((0:Nat):Int),.int .i64 ((0:Nat):Int),.bool true])) w2 from zt_ 0 0 true (by rw[HR.o];rfl) HC2.o);go_wp2_with fail;go_ret3;exact HP.o
 have q126:(r==126)=false:=by simpa using h126
 by_cases h161:r=161
 · subst h161;have HP:=hQ_ (show zo_ R w (.returned (.tuple #[.int .i64 ((0:Nat):Int),.int .i64 ((0:Nat):Int),.bool true])) w2 from zt_ 0 0 true (by rw[HR.o];rfl) HC2.o);go_wp2_with fail;go_ret3;exact HP.o
 have q161:(r==161)=false:=by simpa using h161
 by_cases h164:r=164
 · subst h164;have HP:=hQ_ (show zo_ R w (.returned (.tuple #[.int .i64 ((1:Nat):Int),.int .i64 ((1:Nat):Int),.bool true])) w2 from zt_ 1 1 true (by rw[HR.o];rfl) HC2.o);go_wp2_with fail;go_ret3;exact HP.o
 have q164:(r==164)=false:=by simpa using h164
 by_cases h169:r=169
 · subst h169;have HP:=hQ_ (show zo_ R w (.returned (.tuple #[.int .i64 ((1:Nat):Int),.int .i64 ((1:Nat):Int),.bool true])) w2 from zt_ 1 1 true (by rw[HR.o];rfl) HC2.o);go_wp2_with fail;go_ret3;exact HP.o
 have q169:(r==169)=false:=by simpa using h169
 by_cases h171:r=171
 · subst h171;have HP:=hQ_ (show zo_ R w (.returned (.tuple #[.int .i64 ((2:Nat):Int),.int .i64 ((1:Nat):Int),.bool true])) w2 from zt_ 2 1 true (by rw[HR.o];rfl) HC2.o);go_wp2_with fail;go_ret3;exact HP.o
 have q171:(r==171)=false:=by simpa using h171
 by_cases h174:r=174
 · subst h174;have HP:=hQ_ (show zo_ R w (.returned (.tuple #[.int .i64 ((2:Nat):Int),.int .i64 ((0:Nat):Int),.bool true])) w2 from zt_ 2 0 true (by rw[HR.o];rfl) HC2.o);go_wp2_with fail;go_ret3;exact HP.o
 have q174:(r==174)=false:=by simpa using h174
 by_cases h187:r=187
 · subst h187;have HP:=hQ_ (show zo_ R w (.returned (.tuple #[.int .i64 ((2:Nat):Int),.int .i64 ((1:Nat):Int),.bool true])) w2 from zt_ 2 1 true (by rw[HR.o];rfl) HC2.o);go_wp2_with fail;go_ret3;exact HP.o
 have q187:(r==187)=false:=by simpa using h187
 by_cases h960:r=960
 · subst h960;have HP:=hQ_ (show zo_ R w (.returned (.tuple #[.int .i64 ((1:Nat):Int),.int .i64 ((1:Nat):Int),.bool true])) w2 from zt_ 1 1 true (by rw[HR.o];rfl) HC2.o);go_wp2_with fail;go_ret3;exact HP.o
 have q960:(r==960)=false:=by simpa using h960
 by_cases h955:r=955
 · subst h955;have HE:=hQ_ (show R=vH_ l nm from by rw[HR.o];rfl);go_wp2_with fail;refine(zfU HF2.o nm).mono ?_;rw[<-HE.o];obtain⟨a,b,ok⟩:=R;rintro e w3 ⟨rfl,hc3⟩;have HP:=hQ_ (show zo_ (a,b,ok) w (.returned (.tuple #[.int .i64 a,.int .i64 b,.bool ok])) w3 from⟨rfl,HC2.o.new hc3⟩);clear hc3;go_wp2_with fail;go_ret3;exact HP.o
 have q955:(r==955)=false:=by simpa using h955
 have hb:inL binL r=false:=zcw (by intro x hx;simp[binL]at hx;omega);have hu:inL unL r=false:=zcw (by intro x hx;simp[unL]at hx;omega);have hz:inL zeL r=false:=zcw (by intro x hx;simp[zeL]at hx;omega);have HE:=hQ_ (show R=if 97<=r/\r<=122 then (0,1,true) else if 65<=r/\r<=90 then (1,0,true) else (0,0,false) from by
  rw[HR.o];unfold xe_;rw[hb,hu,hz];by_cases c1:97<=r/\r<=122
  · rw[if_pos (.inl (.inr c1)),if_pos c1]
  · rw[if_neg (by omega),if_neg c1];by_cases c2:65<=r/\r<=90
    · rw[if_pos (.inl c2),if_pos c2]
    · rw[if_neg (by omega),if_neg c2,if_neg (by omega),if_neg (by decide),if_neg (by decide),if_neg (by omega),if_neg (by omega),if_neg (by decide),if_neg (by omega)]);clear hb hu hz;clear h33 h35 h36 h37 h38 h42 h43 h44 h45 h46 h47 h48 h58 h59 h60 h61 h63 h64 h91 h93 h94 h124 h126 h161 h164 h169 h171 h174 h187 h960 h955;by_cases a1:97<=r
 · have d1:decide (97<=r)=true:=(by simpa using a1);by_cases a2:r<=122
   · have d2:decide (r<=122)=true:=(by simpa using a2);have HP:=hQ_ (show zo_ R w (.returned (.tuple #[.int .i64 ((0:Nat):Int),.int .i64 ((1:Nat):Int),.bool true])) w2 from zt_ 0 1 true (by rw[HE.o,if_pos ⟨a1,a2⟩];rfl) HC2.o);go_wp2_with fail;go_ret3;exact HP.o
   · have d2:decide (r<=122)=false:=(by simpa using a2);have d3:decide (65<=r)=true:=(by simp;omega);have d4:decide (r<=90)=false:=(by simp;omega);have HP:=hQ_ (show zo_ R w (.returned (.tuple #[.int .i64 ((0:Nat):Int),.int .i64 ((0:Nat):Int),.bool false])) w2 from zt_ 0 0 false (by rw[HE.o,if_neg (by omega),if_neg (by omega)];rfl) HC2.o);go_wp2_with fail;go_ret3;exact HP.o
 · have d1:decide (97<=r)=false:=(by simpa using a1);by_cases a3:65<=r
   · have d3:decide (65<=r)=true:=(by simpa using a3);by_cases a4:r<=90
     · have d4:decide (r<=90)=true:=(by simpa using a4);have HP:=hQ_ (show zo_ R w (.returned (.tuple #[.int .i64 ((1:Nat):Int),.int .i64 ((0:Nat):Int),.bool true])) w2 from zt_ 1 0 true (by rw[HE.o,if_neg (by omega),if_pos ⟨a3,a4⟩];rfl) HC2.o);go_wp2_with fail;go_ret3;exact HP.o
     · have d4:decide (r<=90)=false:=(by simpa using a4);have HP:=hQ_ (show zo_ R w (.returned (.tuple #[.int .i64 ((0:Nat):Int),.int .i64 ((0:Nat):Int),.bool false])) w2 from zt_ 0 0 false (by rw[HE.o,if_neg (by omega),if_neg (by omega)];rfl) HC2.o);go_wp2_with fail;go_ret3;exact HP.o
   · have d3:decide (65<=r)=false:=(by simpa using a3);have HP:=hQ_ (show zo_ R w (.returned (.tuple #[.int .i64 ((0:Nat):Int),.int .i64 ((0:Nat):Int),.bool false])) w2 from zt_ 0 0 false (by rw[HE.o,if_neg (by omega),if_neg (by omega)];rfl) HC2.o);go_wp2_with fail;go_ret3;exact HP.o
end
section
variable {W W':World} {gs B:Nat} {h:Int} {vo:Value} {bs:List BkV}
def ju_ (b:Int)(W:World)(e:Ending)(w':World):Prop:=e=.returned (.int .i64 b)/\Chg [] W w'
end
section
variable {W:World} {gm gt B n:Nat} {m:NSt} {vo:Value}
theorem zfs (h:Mt W gm gt B n m vo [])(i:Nat):Calls Tryz.prog 174 #[.pointer (some ⟨gm,0,none⟩),.int .i64 (i:Int)] W (ye_ false W):=by
 go_enter Tryz.func174,Tryz.ntmps174;go_wp2_with fail;refine(kF_ h).mono ?_;rintro e w1 ⟨rfl,hc1⟩;have HC:=hQ_ (hc1.alloc (.cells #[.bool false,.int .i64 0,.int .i64 0,.slice none 0 0] 265));clear hc1 h;go_wp2_with fail;go_ret;exact⟨rfl,HC.o⟩
theorem zlr {ys:List PV}{x:PV}(h:Mt W gm gt B n m vo (ys++[x]))(hn:x.p.loop=true\/x.p.waits≠x.p.at_)(i:Nat):Calls Tryz.prog 174 #[.pointer (some ⟨gm,0,none⟩),.int .i64 (i:Int)] W (ye_ false W):=by
 have hin:=xz_ h;obtain⟨⟨lp,at_,wt,lf⟩,vx⟩:=x;obtain⟨Av,cv,e,_⟩:=zr_ (h.left ⟨⟨lp,at_,wt,lf⟩,vx⟩ (by simp));simp only at e;subst e;simp only at hin hn;clear h;go_enter Tryz.func174,Tryz.ntmps174;go_wp2_with fail;refine hin.mono ?_;rintro e w1 ⟨rfl,hc1⟩;have HC:=hQ_ (hc1.alloc (.cells #[.bool lp,.int .i64 (at_:Int),.int .i64 (wt:Int),.slice Av lf.length cv] 265));clear hc1 hin;by_cases hl:lp=true
 · subst hl;go_wp2_with fail;go_ret;exact⟨rfl,HC.o⟩
 · obtain rfl:lp=false:=(by simpa using hl);have hne:wt≠at_:=(by simpa using hn);have hd:((wt:Int) != (at_:Int))=true:=(by simp;omega);go_wp2_with fail;go_ret;exact⟨rfl,HC.o⟩
def vZ_ (gm gt B n:Nat)(m':NSt)(W:World)(e:Ending)(w':World):Prop:=e=.returned (.bool true)/\(∃vo' xs',Mt w' gm gt B n m' vo' xs')/\Lo B [gm,gt] W w'
theorem zip {ys:List PV}{x:PV}(h:Mt W gm gt B n m vo (ys++[x]))(hl:x.p.loop=false)(hw:x.p.waits=x.p.at_)(i:Nat)(hi:i<n):Calls Tryz.prog 174 #[.pointer (some ⟨gm,0,none⟩),.int .i64 (i:Int)] W
    (vZ_ gm gt B n ⟨m.tO.set x.p.at_ ((i:Int)+1),m.deep,⟨x.p.loop,x.p.at_,i,x.p.left⟩::(ys.map (·.p)).reverse⟩ W):=by
      have hin:=xz_ h;obtain⟨⟨lp,at_,wt,lf⟩,vx⟩:=x;obtain⟨Av,cv,e,_⟩:=zr_ (h.left ⟨⟨lp,at_,wt,lf⟩,vx⟩ (by simp));simp only at e hl hw;have hw':=hw.symm;subst e hl hw';simp only at hin;have H:=hQ_ h;clear h;go_enter Tryz.func174,Tryz.ntmps174;go_wp2_with fail;refine hin.mono ?_;rintro e w1 ⟨rfl,hc1⟩;clear hin;go_upto_region 2 with fail;have hal:Chg [] w1 (w1.alloc (.cells #[.bool false,.int .i64 (at_:Int),.int .i64 (at_:Int),.slice Av lf.length cv] 265)):=(Chg.refl [] w1).alloc _;have hN:zb_ (w1.alloc (.cells #[.bool false,.int .i64 (at_:Int),.int .i64 (at_:Int),.slice Av lf.length cv] 265)) w1.heap.size 265 [.bool false,.int .i64 (at_:Int),.int .i64 (at_:Int),.slice Av lf.length cv]:=zb_.new w1 265 [.bool false,.int .i64 (at_:Int),.int .i64 (at_:Int),.slice Av lf.length cv];obtain⟨g5,hg5⟩:∃g,g=w1.heap.size:=⟨_,rfl⟩;rw[<-hg5]at hN⊢;generalize w1.alloc (.cells #[.bool false,.int .i64 (at_:Int),.int .i64 (at_:Int),.slice Av lf.length cv] 265)=w2 at hal hN⊢;have HC2:=hQ_ (hc1.new hal);have H2:=hQ_ (H.o.keep HC2.o);have HN:=hQ_ hN;have HG:=hQ_ (show gm<w1.heap.size/\gt<w1.heap.size from⟨(H.o.rec_.keep hc1).lt,(H.o.to_.keep hc1).lt⟩);have HG5:=hQ_ hg5;clear hal hN hc1 hg5;have hlo:=H2.o.lo;have hat:=(H2.o.wf _ (List.mem_append_right _ (List.mem_singleton_self _))).1;simp only at hat;obtain⟨b0,b1,b2⟩:=(show w2.cell? ⟨g5,0,none⟩=some (.bool false)/\w2.cell? ⟨g5,1,none⟩=some (.int .i64 (at_:Int))/\w2.cell? ⟨g5,2,none⟩=some (.int .i64 (at_:Int)) from⟨HN.o.cell 0,HN.o.cell 1,HN.o.cell 2⟩);have c0:=H2.o.rec_.cell 0;have t0:w2.cell? ⟨gt,at_,none⟩=some (.int .i64 (m.tO[at_]'(by rw[H2.o.len];exact hat))):=(H2.o.to_.cell at_).trans (jY_ _ _ (by rw[H2.o.len];exact hat));have f0:=H2.o.to_.frozen at_;have hat0:(0:Int)<=(at_:Int):=(by omega);have hat1:(at_:Int)<(n:Int):=(by omega);have hbig:=H2.o.big;have hsum:IntKind.i64.wrap ((i:Int)+1)=(i:Int)+1:=IntWalk.i64_in _ (by omega);have hdn:((at_:Int) != (at_:Int))=false:=(by simp);go_wp2_with fail;go_region;have H3:=hQ_ ((H2.o.poke at_ ((i:Int)+1)).keep (Chg.refl [] _).drew);have HL3:=hQ_ (show Lo B [gm,gt] W (w2.setCell ⟨gt,at_,none⟩ (.int .i64 ((i:Int)+1))).drew from Lo.of_chg ((HC2.o.sub (T':=[gt]) (by simp)).setCell (p:=⟨gt,at_,none⟩) (by simp) (.int .i64 ((i:Int)+1))).drew (by simp));generalize (w2.setCell ⟨gt,at_,none⟩ (.int .i64 ((i:Int)+1))).drew=w3 at H3 HL3⊢;clear b0 b1 b2 c0 t0 f0 hsum hdn;obtain⟨A,c,rfl,hc1,hc2,_⟩:=zh_ H3.o.own;have hll:(ys++[(⟨⟨false,at_,at_,lf⟩,.slice Av lf.length cv⟩:PV)]).length=ys.length+1:=(by simp);have c2:=H3.o.rec_.cell 2;obtain⟨g,rfl,j2⟩:=zv_ H3.o.own rfl ((y4_ _ ys.length _ 2 (by simp) (by omega)).trans (show(pvC ⟨⟨false,at_,at_,lf⟩,.slice Av lf.length cv⟩)[2]?=some (.int .i64 (at_:Int)) from rfl));rw[hll]at c2;have f2:w3.frozen? ⟨g,ys.length*4+2,none⟩=false:=y0_ H3.o.own;have H4:=hQ_ (H3.o.waits rfl i hi);have hfew:=H3.o.few;have HGB:=hQ_ (H3.o.own.lt g rfl).1;rw[hll]at hfew;obtain⟨q,hq⟩:∃q,q=ys.length:=⟨_,rfl⟩;rw[<-hq]at c2 j2 f2 hfew H4;have hsub:IntKind.i64.wrap (((q+1:Nat):Int)-1)=(q:Int):=(by rw[IntWalk.i64_in _ (by omega)];omega);have hq0:(0:Int)<=(q:Int):=(by omega);have hq1:(q:Int)<((q+1:Nat):Int):=(by omega);clear hq hll H3;go_wp2_with fail;go_region;have HL4:=hQ_ (show Lo B [gm,gt] W (w3.setCell ⟨g,q*4+2,none⟩ (.int .i64 (i:Int))).drew from HL3.o.trans (Lo.of_chg ((Chg.refl [g] w3).setCell (p:=⟨g,q*4+2,none⟩) (by simp) _).drew (by have:=HGB.o;simp;omega)));have H5:=hQ_ (H4.o.keep (Chg.refl [] _).drew);generalize (w3.setCell ⟨g,q*4+2,none⟩ (.int .i64 (i:Int))).drew=w4 at HL4 H5⊢;clear c2 j2 f2 hsub;go_wp2_with fail;go_ret;exact⟨rfl,⟨_,_,H5.o⟩,HL4.o⟩
end
section
variable {W:World} {gm gt B n:Nat} {m:NSt} {vo:Value}
theorem zfO (h:Mt W gm gt B n m vo [])(i:Nat):Calls Tryz.prog 175 #[.pointer (some ⟨gm,0,none⟩),.int .i64 (i:Int)] W (ye_ false W):=by
 go_enter Tryz.func175,Tryz.ntmps175;go_wp2_with fail;refine(kF_ h).mono ?_;rintro e w1 ⟨rfl,hc1⟩;have HC:=hQ_ (hc1.alloc (.cells #[.bool false,.int .i64 0,.int .i64 0,.slice none 0 0] 265));clear hc1 h;go_wp2_with fail;go_ret;exact⟨rfl,HC.o⟩
theorem zlE {ys:List PV}{x:PV}(h:Mt W gm gt B n m vo (ys++[x]))(hn:x.p.loop=true)(i:Nat):Calls Tryz.prog 175 #[.pointer (some ⟨gm,0,none⟩),.int .i64 (i:Int)] W (ye_ false W):=by
 have hin:=xz_ h;obtain⟨⟨lp,at_,wt,lf⟩,vx⟩:=x;obtain⟨Av,cv,e,_⟩:=zr_ (h.left ⟨⟨lp,at_,wt,lf⟩,vx⟩ (by simp));simp only at e;subst e;simp only at hin hn;clear h;subst hn;go_enter Tryz.func175,Tryz.ntmps175;go_wp2_with fail;refine hin.mono ?_;rintro e w1 ⟨rfl,hc1⟩;have HC:=hQ_ (hc1.alloc (.cells #[.bool true,.int .i64 (at_:Int),.int .i64 (wt:Int),.slice Av lf.length cv] 265));clear hc1 hin;go_wp2_with fail;go_ret;exact⟨rfl,HC.o⟩
theorem ziT {ys:List PV}{x:PV}(h:Mt W gm gt B n m vo (ys++[x]))(hl:x.p.loop=false)(i:Nat):Calls Tryz.prog 175 #[.pointer (some ⟨gm,0,none⟩),.int .i64 (i:Int)] W
    (vZ_ gm gt B n ⟨m.tO.set x.p.waits (i:Int),m.deep,(ys.map (·.p)).reverse⟩ W):=by
      have hin:=xz_ h;obtain⟨⟨lp,at_,wt,lf⟩,vx⟩:=x;obtain⟨Av,cv,e,_⟩:=zr_ (h.left ⟨⟨lp,at_,wt,lf⟩,vx⟩ (by simp));simp only at e hl;subst e hl;simp only at hin;have H:=hQ_ h;clear h;go_enter Tryz.func175,Tryz.ntmps175;go_wp2_with fail;refine hin.mono ?_;rintro e w1 ⟨rfl,hc1⟩;clear hin;go_upto_region 2 with fail;have hal:Chg [] w1 (w1.alloc (.cells #[.bool false,.int .i64 (at_:Int),.int .i64 (wt:Int),.slice Av lf.length cv] 265)):=(Chg.refl [] w1).alloc _;have hN:zb_ (w1.alloc (.cells #[.bool false,.int .i64 (at_:Int),.int .i64 (wt:Int),.slice Av lf.length cv] 265)) w1.heap.size 265 [.bool false,.int .i64 (at_:Int),.int .i64 (wt:Int),.slice Av lf.length cv]:=zb_.new w1 265 [.bool false,.int .i64 (at_:Int),.int .i64 (wt:Int),.slice Av lf.length cv];obtain⟨g5,hg5⟩:∃g,g=w1.heap.size:=⟨_,rfl⟩;rw[<-hg5]at hN⊢;generalize w1.alloc (.cells #[.bool false,.int .i64 (at_:Int),.int .i64 (wt:Int),.slice Av lf.length cv] 265)=w2 at hal hN⊢;have HC2:=hQ_ (hc1.new hal);have H2:=hQ_ (H.o.keep HC2.o);have HN:=hQ_ hN;clear hal hN hc1 hg5;have hwt:=(H2.o.wf _ (List.mem_append_right _ (List.mem_singleton_self _))).2.1;simp only at hwt;obtain⟨b0,b2⟩:=(show w2.cell? ⟨g5,0,none⟩=some (.bool false)/\w2.cell? ⟨g5,2,none⟩=some (.int .i64 (wt:Int)) from⟨HN.o.cell 0,HN.o.cell 2⟩);have c0:=H2.o.rec_.cell 0;have t0:w2.cell? ⟨gt,wt,none⟩=some (.int .i64 (m.tO[wt]'(by rw[H2.o.len];exact hwt))):=(H2.o.to_.cell wt).trans (jY_ _ _ (by rw[H2.o.len];exact hwt));have f0:=H2.o.to_.frozen wt;have hat0:(0:Int)<=(wt:Int):=(by omega);have hat1:(wt:Int)<(n:Int):=(by omega);have hbig:=H2.o.big;go_wp2_with fail;go_region;have H3:=hQ_ ((H2.o.poke wt (i:Int)).keep (Chg.refl [] _).drew);have HL3:=hQ_ (show Lo B [gm,gt] W (w2.setCell ⟨gt,wt,none⟩ (.int .i64 (i:Int))).drew from Lo.of_chg ((HC2.o.sub (T':=[gt]) (by simp)).setCell (p:=⟨gt,wt,none⟩) (by simp) (.int .i64 (i:Int))).drew (by simp));generalize (w2.setCell ⟨gt,wt,none⟩ (.int .i64 (i:Int))).drew=w3 at H3 HL3⊢;clear b0 b2 c0 t0 f0;obtain⟨A,c,rfl,hc1,hc2,_⟩:=zh_ H3.o.own;have hll:(ys++[(⟨⟨false,at_,wt,lf⟩,.slice Av lf.length cv⟩:PV)]).length=ys.length+1:=(by simp);have c2:=H3.o.rec_.cell 2;have f2:=H3.o.rec_.frozen 2;rw[hll]at c2 hc1;obtain⟨g,rfl,_⟩:=zv_ H3.o.own rfl ((y4_ _ ys.length _ 2 (by simp) (by omega)).trans (show(pvC ⟨⟨false,at_,wt,lf⟩,.slice Av lf.length cv⟩)[2]?=some (.int .i64 (wt:Int)) from rfl));have H4:=hQ_ (H3.o.drop rfl);have hfew:=H3.o.few;rw[hll]at hfew;obtain⟨q,hq⟩:∃q,q=ys.length:=⟨_,rfl⟩;rw[<-hq]at c2 hfew H4 hc1;have hsub:IntKind.i64.wrap (((q+1:Nat):Int)-1)=(q:Int):=(by rw[IntWalk.i64_in _ (by omega)];omega);have hq0:(0:Int)<=(q:Int):=(by omega);have hq1:(q:Int)<((q+1:Nat):Int):=(by omega);have hq2:(q:Int)<=(c:Int):=(by omega);have hqt:(q:Int).toNat=q:=Int.toNat_natCast _;clear hq hll H3;go_wp2_with fail;go_region;have HL4:=hQ_ (show Lo B [gm,gt] W (w3.setCell ⟨gm,2,none⟩ (.slice (some ⟨g,0,none⟩) q c)).drew from HL3.o.trans (Lo.of_chg ((Chg.refl [gm] w3).setCell (p:=⟨gm,2,none⟩) (by simp) _).drew (by simp)));have H5:=hQ_ (H4.o.keep (Chg.refl [] _).drew);generalize (w3.setCell ⟨gm,2,none⟩ (.slice (some ⟨g,0,none⟩) q c)).drew=w4 at HL4 H5⊢;clear c2 f2 hsub;go_wp2_with fail;go_ret;exact⟨rfl,⟨_,_,H5.o⟩,HL4.o⟩
end
theorem jL_ (v:Int)(j:Nat):∀(l:List Nat)(t:List Int),xa_ v (l++[j]) t=(xa_ v l t).set j v
  | [],t=>rfl
  | k::l,t=>by rw[List.cons_append,xa_,jL_ v j l,xa_]
section
variable {W:World} {gm gt B n:Nat} {m:NSt} {vo:Value}
theorem zbt (h:Mt W gm gt B n m vo [])(i:Nat):Calls Tryz.prog 176 #[.pointer (some ⟨gm,0,none⟩),.int .i64 (i:Int)] W (ye_ false W):=by
 go_enter Tryz.func176,Tryz.ntmps176;go_wp2_with fail;refine(kF_ h).mono ?_;rintro e w1 ⟨rfl,hc1⟩;have HC:=hQ_ (hc1.alloc (.cells #[.bool false,.int .i64 0,.int .i64 0,.slice none 0 0] 265));clear hc1 h;go_wp2_with fail;go_ret;exact⟨rfl,HC.o⟩
theorem zfN {ys:List PV}{x:PV}(h:Mt W gm gt B n m vo (ys++[x]))(hn:x.p.loop=false)(i:Nat):Calls Tryz.prog 176 #[.pointer (some ⟨gm,0,none⟩),.int .i64 (i:Int)] W (ye_ false W):=by
 have hin:=xz_ h;obtain⟨⟨lp,at_,wt,lf⟩,vx⟩:=x;obtain⟨Av,cv,e,_⟩:=zr_ (h.left ⟨⟨lp,at_,wt,lf⟩,vx⟩ (by simp));simp only at e;subst e;simp only at hin hn;clear h;subst hn;go_enter Tryz.func176,Tryz.ntmps176;go_wp2_with fail;refine hin.mono ?_;rintro e w1 ⟨rfl,hc1⟩;have HC:=hQ_ (hc1.alloc (.cells #[.bool false,.int .i64 (at_:Int),.int .i64 (wt:Int),.slice Av lf.length cv] 265));clear hc1 hin;go_wp2_with fail;go_ret;exact⟨rfl,HC.o⟩
theorem zcI {ys:List PV}{x:PV}(h:Mt W gm gt B n m vo (ys++[x]))(hl:x.p.loop=true)(i:Nat)(hi:i<n):Calls Tryz.prog 176 #[.pointer (some ⟨gm,0,none⟩),.int .i64 (i:Int)] W
    (vZ_ gm gt B n ⟨xa_ ((i:Int)+1) x.p.left (m.tO.set i (x.p.at_:Int)),m.deep,(ys.map (·.p)).reverse⟩ W):=by
      have hin:=xz_ h;obtain⟨⟨lp,at_,wt,lf⟩,vx⟩:=x;obtain⟨Av,cv,e,_⟩:=zr_ (h.left ⟨⟨lp,at_,wt,lf⟩,vx⟩ (by simp));simp only at e hl;subst e hl;simp only at hin;have H:=hQ_ h;clear h;go_enter Tryz.func176,Tryz.ntmps176;go_wp2_with fail;refine hin.mono ?_;rintro e w1 ⟨rfl,hc1⟩;clear hin;go_upto_region 2 with fail;have hal:Chg [] w1 (w1.alloc (.cells #[.bool true,.int .i64 (at_:Int),.int .i64 (wt:Int),.slice Av lf.length cv] 265)):=(Chg.refl [] w1).alloc _;have hN:zb_ (w1.alloc (.cells #[.bool true,.int .i64 (at_:Int),.int .i64 (wt:Int),.slice Av lf.length cv] 265)) w1.heap.size 265 [.bool true,.int .i64 (at_:Int),.int .i64 (wt:Int),.slice Av lf.length cv]:=zb_.new w1 265 [.bool true,.int .i64 (at_:Int),.int .i64 (wt:Int),.slice Av lf.length cv];obtain⟨g5,hg5⟩:∃g,g=w1.heap.size:=⟨_,rfl⟩;rw[<-hg5]at hN⊢;generalize w1.alloc (.cells #[.bool true,.int .i64 (at_:Int),.int .i64 (wt:Int),.slice Av lf.length cv] 265)=w2 at hal hN⊢;have HC2:=hQ_ (hc1.new hal);have H2:=hQ_ (H.o.keep HC2.o);have HN:=hQ_ hN;have HG:=hQ_ (show gt<g5 by rw[hg5];exact(H.o.to_.keep hc1).lt);clear hal hN hc1 hg5;obtain⟨b0,b1⟩:=(show w2.cell? ⟨g5,0,none⟩=some (.bool true)/\w2.cell? ⟨g5,1,none⟩=some (.int .i64 (at_:Int)) from⟨HN.o.cell 0,HN.o.cell 1⟩);have c0:=H2.o.rec_.cell 0;have t0:w2.cell? ⟨gt,i,none⟩=some (.int .i64 (m.tO[i]'(by rw[H2.o.len];exact hi))):=(H2.o.to_.cell i).trans (jY_ _ _ (by rw[H2.o.len];exact hi));have f0:=H2.o.to_.frozen i;have hat0:(0:Int)<=(i:Int):=(by omega);have hat1:(i:Int)<(n:Int):=(by omega);have hbig:=H2.o.big;go_wp2_with fail;go_region;have H3:=hQ_ ((H2.o.poke i (at_:Int)).keep (Chg.refl [] _).drew);have HL3:=hQ_ (show Lo B [gm,gt] W (w2.setCell ⟨gt,i,none⟩ (.int .i64 (at_:Int))).drew from Lo.of_chg ((HC2.o.sub (T':=[gt]) (by simp)).setCell (p:=⟨gt,i,none⟩) (by simp) (.int .i64 (at_:Int))).drew (by simp));have HN3:=hQ_ (show zb_ (w2.setCell ⟨gt,i,none⟩ (.int .i64 (at_:Int))).drew g5 265 [.bool true,.int .i64 (at_:Int),.int .i64 (wt:Int),.slice Av lf.length cv] from(HN.o.far (by have:=HG.o;simp only;omega) _).drew);generalize (w2.setCell ⟨gt,i,none⟩ (.int .i64 (at_:Int))).drew=w3 at H3 HL3 HN3⊢;clear b0 b1 c0 t0 f0;have b3:=HN3.o.cell 3;have hsum:IntKind.i64.wrap ((i:Int)+1)=(i:Int)+1:=IntWalk.i64_in _ (by omega);obtain⟨T,hT⟩:∃T,T=m.tO.set i (at_:Int):=⟨_,rfl⟩;rw[<-hT]at H3;have HTT:=hQ_ hT;obtain⟨N,hN⟩:∃N,N=lf.length:=⟨_,rfl⟩;have HLF:=hQ_ (H3.o.wf _ (List.mem_append_right _ (List.mem_singleton_self _))).2.2;have hNb:N<=100000:=(by have:=HLF.o.1;simp only at this;omega);rw[<-hN]at b3;have HNN:=hQ_ hN;clear hT hN;go_wp2_with fail;go_loopw [8,32] (fun _ s wr=>∃k:Nat,k<=N/\s=.int .i64 (k:Int)/\Hid (Mt wr gm gt B n ⟨xa_ ((i:Int)+1) (lf.take k) T,m.deep,m.op⟩ vo (ys++[⟨⟨true,at_,wt,lf⟩,.slice Av lf.length cv⟩]))/\Hid (Lo B [gm,gt] W wr)) (fun _ s _=>N-(intOf s).toNat);(case atStart=>exact⟨0,Nat.zero_le _,rfl,H3,HL3⟩);case round =>
       obtain⟨k,hk,rfl,HM,HLr⟩:=hrel;by_cases hlt:k<N
       · have hltI:(k:Int)<(N:Int):=(by omega);have hkl:k<lf.length:=(by rw[<-HNN.o];exact hlt);obtain⟨Av',cv',e,_,_,hs,hsp⟩:=zr_ (HM.o.left _ (List.mem_append_right _ (List.mem_singleton_self _)));simp only at e;injection e with e1 _ e3;subst e1 e3;obtain⟨⟨bA,oA,sA⟩,rfl,_,hx⟩:=hs (by rw[znP];simp only;omega);obtain rfl:sA=none:=(hsp _ rfl).1;have hx1:=hx k (.int .i64 ((lf[k]'hkl:Nat):Int)) (by simp[nts,hkl]);rw[zl_]at hx1;have hj:=HLF.o.2 lf[k] (List.getElem_mem hkl);have HTK:=hQ_ (show lf.take (k+1)=lf.take k++[lf[k]] by rw[List.take_succ_eq_append_getElem hkl]);generalize lf[k]=j at hx1 hj HTK;have hj0:(0:Int)<=(j:Int):=(by omega);have hj1:(j:Int)<(n:Int):=(by omega);have c0:=HM.o.rec_.cell 0;obtain⟨T2,hT2⟩:∃T9,T9=xa_ ((i:Int)+1) (lf.take k) T:=⟨_,rfl⟩;have HM':=HM;rw[<-hT2]at HM';have t0:wr.cell? ⟨gt,j,none⟩=some (.int .i64 (T2[j]'(by rw[HM'.out.len];exact hj))):=(HM'.out.to_.cell j).trans (jY_ _ _ (by rw[HM'.out.len];exact hj));have f0:=HM'.out.to_.frozen j;have HMz:=hQ_ (show Mt (wr.setCell ⟨gt,j,none⟩ (.int .i64 ((i:Int)+1))) gm gt B n ⟨xa_ ((i:Int)+1) (lf.take (k+1)) T,m.deep,m.op⟩ vo (ys++[⟨⟨true,at_,wt,lf⟩,.slice (some ⟨bA,oA,none⟩) lf.length cv⟩]) from by
          have h:=HM'.out.poke j ((i:Int)+1);rw[HTK.o,jL_,<-hT2];exact h);have HLz:=hQ_ (show Lo B [gm,gt] W (wr.setCell ⟨gt,j,none⟩ (.int .i64 ((i:Int)+1))) from HLr.o.trans (Lo.of_chg ((Chg.refl [gt] wr).setCell (p:=⟨gt,j,none⟩) (by simp) _) (by simp)));clear hx hs hsp hT2;go_wp2_with fail;go_roundw;(case rel=>exact⟨k+1,by omega,by go_num,HMz,HLz⟩);case measure=>simp[intOf];omega
       · have hltI:¬(k:Int)<(N:Int):=(by omega);have H3':=HM;rw[List.take_of_length_le (by rw[<-HNN.o];omega)]at H3';obtain⟨T2,hT2⟩:∃T2,T2=xa_ ((i:Int)+1) lf T:=⟨_,rfl⟩;rw[<-hT2]at H3';have HT2:=hQ_ hT2;clear hT2;obtain⟨A,c,rfl,hc1,hc2,_⟩:=zh_ H3'.out.own;have hll:(ys++[(⟨⟨true,at_,wt,lf⟩,.slice Av lf.length cv⟩:PV)]).length=ys.length+1:=(by simp);have c2:=H3'.out.rec_.cell 2;have f2:=H3'.out.rec_.frozen 2;rw[hll]at c2 hc1;obtain⟨g,rfl,_⟩:=zv_ H3'.out.own rfl ((y4_ _ ys.length _ 2 (by simp) (by omega)).trans (show(pvC ⟨⟨true,at_,wt,lf⟩,.slice Av lf.length cv⟩)[2]?=some (.int .i64 (wt:Int)) from rfl));have H4:=hQ_ (H3'.out.drop rfl);have hfew:=H3'.out.few;rw[hll]at hfew;obtain⟨q,hq⟩:∃q,q=ys.length:=⟨_,rfl⟩;rw[<-hq]at c2 hfew H4 hc1;have hsub:IntKind.i64.wrap (((q+1:Nat):Int)-1)=(q:Int):=(by rw[IntWalk.i64_in _ (by omega)];omega);have hq0:(0:Int)<=(q:Int):=(by omega);have hq1:(q:Int)<((q+1:Nat):Int):=(by omega);have hq2:(q:Int)<=(c:Int):=(by omega);have hqt:(q:Int).toNat=q:=Int.toNat_natCast _;clear hq hll;go_wp2_with fail;go_region;have HL4:=hQ_ (show Lo B [gm,gt] W (wr.setCell ⟨gm,2,none⟩ (.slice (some ⟨g,0,none⟩) q c)).drew from HLr.o.trans (Lo.of_chg ((Chg.refl [gm] wr).setCell (p:=⟨gm,2,none⟩) (by simp) _).drew (by simp)));have H5:=hQ_ (H4.o.keep (Chg.refl [] _).drew);generalize (wr.setCell ⟨gm,2,none⟩ (.slice (some ⟨g,0,none⟩) q c)).drew=w4 at HL4 H5⊢;clear c2 f2 hsub;go_wp2_with fail;go_ret;have h:=H5.o;rw[HT2.o,HTT.o]at h;exact⟨rfl,⟨_,_,h⟩,HL4.o⟩
end
theorem q4_ (i:Nat)(ys:List NPart)(x:NPart)(hx:x.loop=true):∀zs:List NPart,(∀z∈zs,z.loop=false)->yM_ i (zs++x::ys)=some (zs++⟨x.loop,x.at_,x.waits,x.left++[i]⟩::ys)
  | [],_=>by simp[yM_,hx]
  | z::zs,h=>by
    have hz:=h z (List.mem_cons_self ..);rw[List.cons_append,yM_,if_neg (by simp[hz]),q4_ i ys x hx zs fun y hy=>h y (List.mem_cons_of_mem _ hy)];rfl
theorem zaX (i:Nat):∀zs:List NPart,(∀z∈zs,z.loop=false)->yM_ i zs=none
  | [],_=>rfl
  | z::zs,h=>by
    have hz:=h z (List.mem_cons_self ..);rw[yM_,if_neg (by simp[hz]),zaX i zs fun y hy=>h y (List.mem_cons_of_mem _ hy)];rfl
theorem ko_ {P:Program}{w:World}{ops:Array Oper}{o:Oper}{a:Act}{K:Act->World->Prop}{Q:Exit->Act->World->Prop}{E:Prop}(hgd:o.guard=none)(s x:Operand)(t:TypeId)
    (ho:o.op=.call { callee:=.builtin .append,args:=#[s,x],argTypes:=#[t,t] })
    (base:Nat) (e:TypeId) (i:TypeInfo) (z:Value) (bytes:Nat) (ht:P.underlying t=some (.slice e)) (hi:P.info? e=some i) (hz:i.zero=some z)
    (hsize:i.size=1) (hby:i.bytes=bytes) (hzs:z.cells.size=1)
    (v:Value) (n:Nat) (xs:List Value) (hse:a.eval s=v) (hown:w.ownsRow base e 1 v n xs)
    (A:Option Addr) (m c:Nat) (news:List Value) (hxe:a.eval x=.slice A m c) (hl:news.length=m) (hs:Src w A news) (h1:∀u∈news,u.oneCell'=true)
    (h63:n+m<=maxLen) (hbytes:(n+m)*bytes<=140737488355328) (hbase:base<=w.heap.size)
    (h:∀v' w',w'.ownsRow base e 1 v' (n+m) (xs++news)->w.grownBy w' v.ownBlock->(v'.ownBlock=v.ownBlock\/v'.ownBlock=some w.heap.size)->K (a.put o.dst v') w') :
    if Region.wanted o (yielded ops a.tmps)=true then Oper.wp P o a w K Q else E:=by
 have hw:Region.wanted o (yielded ops a.tmps)=true:=by simp[Region.wanted,hgd]
 rw[if_pos hw];obtain⟨v',w',hrun,h2,h3,h4⟩:=xP_ (P:=P) w base t o.type e i z bytes ht hi hz hsize hby hzs v n xs hown A m c news hl hs h1 h63 hbytes hbase;unfold Oper.wp execOp;simp only[ho,resolve,invoke,builtin,Sem.run_bind,Sem.run_pure,Result.andThen_ok,List.map_toArray,List.map_cons,List.map_nil,hse,hxe,hrun];exact h v' w' h2 h3 h4
section
variable {W:World} {gm gt B n:Nat} {m:NSt} {vo:Value}
theorem Mt.leave {ys zs:List PV}{x:PV}{g c q i:Nat}{W1 w':World}{v':Value}(h:Mt W gm gt B n m vo (ys++x::zs))(hv:vo=.slice (some ⟨g,0,none⟩) q c)(hi:i<n)(hfl:x.p.left.length<n)(hc:Chg [] W W1)
    (ho:w'.ownsRow B 3 1 v' (x.p.left.length+1) (nts x.p.left++[.int .i64 (i:Int)])) (hg:W1.grownBy w' x.v.ownBlock) (hb:v'.ownBlock=x.v.ownBlock\/v'.ownBlock=some W1.heap.size) :
    Mt (w'.setCell ⟨g,ys.length*4+3,none⟩ v') gm gt B n ⟨m.tO,m.deep,(zs.map (·.p)).reverse++⟨x.p.loop,x.p.at_,x.p.waits,x.p.left++[i]⟩::(ys.map (·.p)).reverse⟩ vo (ys++⟨⟨x.p.loop,x.p.at_,x.p.waits,x.p.left++[i]⟩,v'⟩::zs):=by
 have h1:=h.keep hc;subst hv;have hxm:=h1.left x (by simp);have hq:q=(ys++x::zs).length:=by
  rcases h.own.2 with⟨e,_⟩|⟨_,_,_,e,_⟩
  · cases e
  · injection e
 subst hq;have hB:=(h.own.lt g rfl).1;have hlo:=h.lo;have hopen:=yl_ h1.own hxm (by decide) hg;have hfar:∀{k q2:Nat}{u:Value}{cs:List Value},w'.ownsRow B 3 k u q2 cs->(w'.setCell ⟨g,ys.length*4+3,none⟩ v').ownsRow B 3 k u q2 cs:=fun hu=>zG_ hu (zdA hopen hu (by decide) rfl);have hoth:∀y∈ys++zs,(y.v.ownBlock=none\/y.v.ownBlock≠x.v.ownBlock):=by
  have hp:=h.apart;rw[List.pairwise_append,List.pairwise_cons]at hp;intro y hy;rcases List.mem_append.1 hy with hy|hy
  · exact hp.2.2 y hy x (by simp)
  · rcases hp.2.1.1 y hy with h|h
    · cases hyb:y.v.ownBlock with
      | none=>exact .inl rfl
      | some b=>exact .inr (by rw[h];simp)
    · exact .inr (Ne.symm h)
 have hnew:∀y∈ys++zs,(y.v.ownBlock=none\/y.v.ownBlock≠v'.ownBlock):=fun y hy=>by
  rcases hb with e|e
  · rw[e];exact hoth y hy
  · cases hyb:y.v.ownBlock with
    | none=>exact .inl rfl
    | some b =>
      refine .inr (fun hh=>?_);rw[e]at hh;injection hh with hh;have hm:y∈ys++x::zs:=by
       rcases List.mem_append.1 hy with hy|hy
       · exact List.mem_append_left _ hy
       · exact List.mem_append_right _ (List.mem_cons_of_mem _ hy)
      have:=((h1.left y hm).lt b hyb).2;omega
 have hleft:∀y∈ys++zs,(w'.setCell ⟨g,ys.length*4+3,none⟩ v').ownsRow B 3 1 y.v y.p.left.length (nts y.p.left):=fun y hy=>by
  have hm:y∈ys++x::zs:=by
   rcases List.mem_append.1 hy with hy|hy
   · exact List.mem_append_left _ hy
   · exact List.mem_append_right _ (List.mem_cons_of_mem _ hy)
  exact hfar ((h1.left y hm).kept hg (hoth y hy))
 refine⟨(zn_ h1.rec_ hxm (by decide) hg).far (by simp only;omega) _,?_,h.len,by simp,?_,fun y hy=>?_,?_,h.lo,by have:=h.few;simpa using this,h.deep,fun y hy=>?_,h.big,by rw[yw_];exact Nat.le_trans h1.room hg.size⟩
 · refine zb_.far ?_ (by simp only;omega) _;unfold zb_;rw[hg.block gt h1.to_.lt (fun hc=>by have:=(hxm.lt gt hc.symm).1;omega)];exact h1.to_
 · have ho2:=v7_ (j:=ys.length*4+3) (u:=v') hopen;have e1:(ys++(⟨⟨x.p.loop,x.p.at_,x.p.waits,x.p.left++[i]⟩,v'⟩:PV)::zs).length=(ys++x::zs).length:=(by simp);have e2:(kl_ (ys++x::zs)).set (ys.length*4+3) v'=kl_ (ys++⟨⟨x.p.loop,x.p.at_,x.p.waits,x.p.left++[i]⟩,v'⟩::zs):=(by
    rw[vs_,vs_,kl_,kl_,List.set_append_right _ _ (by rw[v8_];omega),v8_];rw[show ys.length*4+3-ys.length*4=3 by omega];rfl);rw[e1,<-e2];exact ho2
 · rcases List.mem_append.1 hy with hy|hy
   · exact hleft y (List.mem_append_left _ hy)
   · rcases List.mem_cons.1 hy with rfl|hy
     · have:=hfar ho;simp only[znQ,List.length_append,List.length_cons,List.length_nil];exact this
     · exact hleft y (List.mem_append_right _ hy)
 · have hp:=h.apart;rw[List.pairwise_append,List.pairwise_cons]at hp⊢;refine⟨hp.1,⟨fun z hz=>?_,hp.2.1.2⟩,fun y hy z hz=>?_⟩
   · rcases hnew z (List.mem_append_right _ hz) with h|h
     · cases hvb:v'.ownBlock with
       | none=>exact .inl (by simp)
       | some b=>exact .inr (by simp[h])
     · exact .inr (Ne.symm h)
   · rcases List.mem_cons.1 hz with rfl|hz
     · exact hnew y (List.mem_append_left _ hy)
     · exact hp.2.2 y hy z (List.mem_cons_of_mem _ hz)
 · rcases List.mem_append.1 hy with hy|hy
   · exact h.wf y (List.mem_append_left _ hy)
   · rcases List.mem_cons.1 hy with rfl|hy
     · have:=h.wf x (by simp);refine⟨this.1,this.2.1,by simp only[List.length_append,List.length_cons,List.length_nil];omega,fun j hj=>?_⟩;rcases List.mem_append.1 hj with hj|hj
       · exact this.2.2.2 j hj
       · simp only[List.mem_cons,List.not_mem_nil,or_false]at hj;rw[hj];exact hi
     · exact h.wf y (by simp[hy])
theorem zld {xs:List PV}(h:Mt W gm gt B n m vo xs)(hn:∀x∈xs,x.p.loop=false)(i:Nat):Calls Tryz.prog 177 #[.pointer (some ⟨gm,0,none⟩),.int .i64 (i:Int)] W (ye_ false W):=by
 have c2:=h.rec_.cell 2;obtain⟨A,c,rfl,hc1,hc2,_⟩:=zh_ h.own;have H:=hQ_ h;have HN:=hQ_ hn;have hfew:=h.few;obtain⟨q,hq⟩:∃q,q=xs.length:=⟨_,rfl⟩;rw[<-hq]at c2 hfew hc1;have HQ:=hQ_ hq;clear h hn hq;have hsub:∀k:Nat,k<=17->IntKind.i64.wrap ((k:Int)-1)=(k:Int)-1:=fun k hk=>IntWalk.i64_in _ (by omega);have hsq:=hsub q (by omega);have HSUB:=hQ_ hsub;clear hsub;go_enter Tryz.func177,Tryz.ntmps177;go_wp2_with fail;go_loop [5] (fun s=>∃k:Nat,k<=q/\s=.int .i64 ((k:Int)-1)) (fun s=>(intOf s+1).toNat);case atStart=>exact⟨q,Nat.le_refl _,rfl⟩
 case round =>
  obtain⟨k,hk,rfl⟩:=hrel;by_cases hlt:0<k
  · obtain⟨j,rfl⟩:∃j,k=j+1:=⟨k-1,by omega⟩;have he:((j+1:Nat):Int)-1=(j:Int):=(by omega);rw[he];have hj0:(0:Int)<=(j:Int):=(by omega);have hj1:(j:Int)<(q:Int):=(by omega);have hjx:j<xs.length:=(by rw[<-HQ.o];omega);have hlp:=HN.o xs[j] (List.getElem_mem hjx);obtain⟨g,rfl,j0⟩:=zv_ H.o.own (by rw[<-HQ.o]) ((y4_ xs j xs[j] 0 (List.getElem?_eq_getElem hjx) (by omega)).trans (show(pvC xs[j])[0]?=some (.bool xs[j].p.loop) from rfl));rw[Nat.add_zero,hlp]at j0;have hsj:=HSUB.o j (by omega);clear hlp hsq;go_wp2_with fail;go_round;(case rel=>exact⟨j,by omega,rfl⟩);case measure=>simp[intOf]
  · obtain rfl:k=0:=(by omega);have hz:¬(0:Int)<=((0:Nat):Int)-1:=(by omega);go_wp2_with fail;go_ret;exact⟨rfl,Chg.refl _ _⟩
theorem zhX {ys zs:List PV} {x:PV} (h:Mt W gm gt B n m vo (ys++x::zs)) (hl:x.p.loop=true) (hn:∀z∈zs,z.p.loop=false) (i:Nat) (hi:i<n) (hfl:x.p.left.length<n):Calls Tryz.prog 177 #[.pointer (some ⟨gm,0,none⟩),.int .i64 (i:Int)] W
    (vZ_ gm gt B n ⟨m.tO,m.deep,(zs.map (·.p)).reverse++⟨x.p.loop,x.p.at_,x.p.waits,x.p.left++[i]⟩::(ys.map (·.p)).reverse⟩ W):=by
      have HHL:=hQ_ hl;clear hl;have c2:=h.rec_.cell 2;obtain⟨A,c,rfl,hc1,hc2,_⟩:=zh_ h.own;have H:=hQ_ h;have HN:=hQ_ hn;obtain⟨i0,hi0,hz0,hz1,hz2⟩:=info_parts gH_;have hfew:=h.few;obtain⟨q,hq⟩:∃q,q=(ys++x::zs).length:=⟨_,rfl⟩;obtain⟨b,hb⟩:∃b,b=ys.length:=⟨_,rfl⟩;have hbq:b<q:=(by rw[hb,hq];simp);have hxb:(ys++x::zs)[b]?=some x:=(by rw[hb];simp);have hzs:∀(j:Nat) (hj:j<(ys++x::zs).length),b<j->((ys++x::zs)[j]).p.loop=false:=fun j hj hbj=>(by
       have:(ys++x::zs)[j]∈zs:=(by
        rw[List.getElem_append_right (by omega)];obtain⟨d,hd⟩:∃d,j-ys.length=d+1:=⟨j-ys.length-1,by omega⟩;simp only[hd,List.getElem_cons_succ];exact List.getElem_mem _);exact hn _ this);rw[<-hq]at c2 hfew hc1;have HQ:=hQ_ hq;have HBB:=hQ_ hb;have HXB:=hQ_ hxb;have HZS:=hQ_ hzs;clear h hn hq hb hxb hzs;have hsub:∀k:Nat,k<=17->IntKind.i64.wrap ((k:Int)-1)=(k:Int)-1:=fun k hk=>IntWalk.i64_in _ (by omega);have hsq:=hsub q (by omega);have HSUB:=hQ_ hsub;clear hsub;go_enter Tryz.func177,Tryz.ntmps177;go_wp2_with fail;go_loop [5] (fun s=>∃k:Nat,k<=q/\b<k/\s=.int .i64 ((k:Int)-1)) (fun s=>(intOf s+1).toNat);(case atStart=>exact⟨q,Nat.le_refl _,hbq,rfl⟩);case round =>
       obtain⟨k,hk,hbk,rfl⟩:=hrel;obtain⟨j,rfl⟩:∃j,k=j+1:=⟨k-1,by omega⟩;have he:((j+1:Nat):Int)-1=(j:Int):=(by omega);rw[he];have hj0:(0:Int)<=(j:Int):=(by omega);have hj1:(j:Int)<(q:Int):=(by omega);by_cases hlt:b<j
       · have hjx:j<(ys++x::zs).length:=(by rw[<-HQ.o];omega);have hlp:=HZS.o j hjx hlt;obtain⟨g,rfl,j0⟩:=zv_ H.o.own (by rw[<-HQ.o]) ((y4_ _ j (ys++x::zs)[j] 0 (List.getElem?_eq_getElem hjx) (by omega)).trans (show(pvC (ys++x::zs)[j])[0]?=some (.bool (ys++x::zs)[j].p.loop) from rfl));rw[Nat.add_zero,hlp]at j0;have hsj:=HSUB.o j (by omega);clear hlp hsq;go_wp2_with fail;go_round;(case rel=>exact⟨j,by omega,by omega,rfl⟩);case measure=>simp[intOf]
       · obtain rfl:b=j:=(by omega);obtain⟨g,rfl,j0⟩:=zv_ H.o.own (by rw[<-HQ.o]) ((y4_ _ b x 0 HXB.o (by omega)).trans (show(pvC x)[0]?=some (.bool x.p.loop) from rfl));obtain⟨g',e,j3⟩:=zv_ H.o.own (by rw[<-HQ.o]) ((y4_ _ b x 3 HXB.o (by omega)).trans (show(pvC x)[3]?=some x.v from rfl));injection e with e;injection e with e;subst e;rw[Nat.add_zero,HHL.o]at j0;have hxm:=H.o.left x (by simp);obtain⟨Av,cv,e,_⟩:=zr_ hxm;rw[e]at j3 hxm;have HE:=hQ_ e;have HXM:=hQ_ hxm;have hLL:=(H.o.wf x (by simp)).2.2.1;have hbig:=H.o.big;have hBW:B<=W.heap.size:=Nat.le_trans (H.o.own.lt g rfl).1 (Nat.le_of_lt (H.o.own.lt g rfl).2);clear e hxm hsq;have q3:(W.alloc (.cells #[.int .i64 (i:Int)] 3)).cell? ⟨g,b*4+3,none⟩=some (.slice Av x.p.left.length cv):=zd_ j3 ((Chg.refl [] W).alloc _);have q2:(W.alloc (.cells #[.int .i64 (i:Int)] 3)).cell? ⟨gm,2,none⟩=some (.slice (some ⟨g,0,none⟩) q c):=zd_ (by simpa using c2) ((Chg.refl [] W).alloc _);go_wp2_with fail;go_region_law (
           (refine ko_ rfl (.tmp 36) (.tmp 38) 126 rfl B 3 i0 _ 8 Tryz.underlying126 hi0 hz0 hz1 hz2 rfl (.slice Av x.p.left.length cv) x.p.left.length (nts x.p.left) rfl (zk_ HXM.o (((Chg.refl [] W).alloc _).drew)) (some ⟨W.heap.size,0,none⟩) 1 1 [.int .i64 (i:Int)] rfl rfl ((Src.of_all (zb_.new W 3 [.int .i64 (i:Int)])).drew) (by simp[Value.oneCell']) (by unfold maxLen;omega) (by omega) (by simp;omega) ?_;intro v' w' ho hg hwb;obtain⟨A',c',rfl,_⟩:=zr_ ho;have HO:=hQ_ ho;have HGR:=hQ_ hg;have HAL:=hQ_ (show Chg [] W (W.alloc (.cells #[.int .i64 (i:Int)] 3)).drew from((Chg.refl [] W).alloc _).drew);have HO2:=hQ_ (yl_ (zf_ H.o.own HAL.o) (zk_ HXM.o HAL.o) (by decide) hg);obtain⟨g',e,k3⟩:=zv_ HO2.o (by rw[<-HQ.o]) ((y4_ _ b x 3 HXB.o (by omega)).trans (show(pvC x)[3]?=some x.v from rfl));injection e with e;injection e with e;subst e;have kf:w'.frozen? ⟨g,b*4+3,none⟩=false:=(by
             have h:=HO2.o;rw[<-HQ.o]at h;exact y0_ h);have k2:w'.cell? ⟨gm,2,none⟩=some (.slice (some ⟨g,0,none⟩) q c):=(by
             have h:=(zn_ (H.o.rec_.keep HAL.o) (zk_ HXM.o HAL.o) (by decide) hg).cell 2;rw[<-HQ.o]at h;simpa using h);have HWB:=hQ_ hwb;have hsv:(∀j,w'.heap.size=j->True):=fun _ _=>trivial;clear ho hg hwb hsv));all_goals
           have HM:=hQ_ (H.o.leave rfl hi hfl HAL.o HO.o (by rw[HE.o];exact HGR.o) (by rw[HE.o];exact HWB.o));rw[<-HBB.o]at HM;have HL:=hQ_ (show Lo B [gm,gt] W (w'.setCell ⟨g,b*4+3,none⟩ (.slice A' (x.p.left.length+1) c')) from((Lo.of_chg HAL.o (by simp)).trans (Lo.of_grown (zk_ HXM.o HAL.o) (Nat.le_refl _) HGR.o)).trans (Lo.of_chg ((Chg.refl [g] w').setCell (p:=⟨g,b*4+3,none⟩) (by simp) _) (by have:=(H.o.own.lt g rfl).1;simp;omega)));generalize w'.setCell ⟨g,b*4+3,none⟩ (.slice A' (x.p.left.length+1) c')=w9 at HM HL⊢;clear k2 k3 kf;go_wp2_with fail;go_ret;exact⟨rfl,⟨_,_,HM.o⟩,HL.o⟩
end
section
variable {W:World} {gm gt B n:Nat} {m:NSt} {vo:Value} {xs:List PV}
theorem Mt.push {W1 w':World}{v':Value}{lp:Bool}{i:Nat}(h:Mt W gm gt B n m vo xs)(hc:Chg [] W W1)(hi:i<n)(hn:xs.length<16)
    (ho:w'.ownsRow B 265 4 v' (xs.length+1) (kl_ xs++[.bool lp,.int .i64 (i:Int),.int .i64 (i:Int),.slice none 0 0])) (hg:W1.grownBy w' vo.ownBlock) :
    Mt (w'.setCell ⟨gm,2,none⟩ v') gm gt B n ⟨m.tO,m.deep,⟨lp,i,i,[]⟩::m.op⟩ v' (xs++[⟨⟨lp,i,i,[]⟩,.slice none 0 0⟩]):=by
 have h1:=h.keep hc;have hlo:=h.lo;have hown:∀{e k q:Nat}{v:Value}{cs:List Value},w'.ownsRow B e k v q cs->v.ownBlock≠some gm:=fun ho hc=>by
  have:=(ho.lt gm hc).1;omega
 have hw:zb_ w' gm 244 [.slice (some ⟨gt,0,none⟩) n n,.int .i64 (m.deep:Int),vo]:=zn_ h1.rec_ h1.own (by decide) hg;refine⟨?_,(zn_ h1.to_ h1.own (by decide) hg).far (by simp only;omega) _,h.len,by rw[h.op];simp,?_,fun y hy=>?_,?_,h.lo,by simp;omega,h.deep,fun y hy=>?_,h.big,by rw[yw_];exact Nat.le_trans h1.room hg.size⟩
 · have:=hw.set_ 2 v';simpa using this
 · have ho2:=zG_ (u:=v') (p:=⟨gm,2,none⟩) ho (hown ho);rw[List.length_append,vs_,gx_];exact ho2
 · rcases List.mem_append.1 hy with hy|hy
   · have:=yl_ (h1.left y hy) h1.own (by decide) hg;exact zG_ this (hown this)
   · simp only[List.mem_cons,List.not_mem_nil,or_false]at hy;subst hy;exact⟨rfl,.inl ⟨rfl,rfl⟩⟩
 · rw[List.pairwise_append];refine⟨h.apart,List.pairwise_singleton _ _,fun y hy z hz=>?_⟩;simp only[List.mem_cons,List.not_mem_nil,or_false]at hz;subst hz;cases hy2:y.v.ownBlock with
   | none=>exact .inl rfl
   | some b=>exact .inr (by simp[Value.ownBlock])
 · rcases List.mem_append.1 hy with hy|hy
   · exact h.wf y hy
   · simp only[List.mem_cons,List.not_mem_nil,or_false]at hy;subst hy;exact⟨hi,hi,Nat.zero_le _,fun j hj=>by cases hj⟩
theorem Mt.deeper (h:Mt W gm gt B n m vo xs)(d:Nat)(hd:d<=16):Mt (W.setCell ⟨gm,1,none⟩ (.int .i64 (d:Int))) gm gt B n ⟨m.tO,d,m.op⟩ vo xs:=by
 have hlo:=h.lo;have hown:∀{e k q:Nat}{v:Value}{cs:List Value},W.ownsRow B e k v q cs->v.ownBlock≠some gm:=fun ho hc=>by
  have:=(ho.lt gm hc).1;omega
 refine { h with rec_:=?_,to_:=h.to_.far (by simp only;omega) _,own:=zG_ h.own (hown h.own),left:=fun y hy=>zG_ (h.left y hy) (hown (h.left y hy)),deep:=hd,room:=by rw[yw_];exact h.room };have:=h.rec_.set_ 1 (.int .i64 (d:Int));simpa using this
theorem zbd:(Tryz.prog.info? 265).map (fun i=>(i.zero,i.size,i.bytes))=some (some (.agg #[.bool false,.int .i64 0,.int .i64 0,.slice none 0 0]),4,48):=by kernel_rfl
def yu_ (gm gt B n i:Nat)(s:Int)(m:NSt)(W:World)(e:Ending)(w':World):Prop :=
 (∃m',yZ_ i s m=some m'/\vZ_ gm gt B n m' W e w')\/(yZ_ i s m=none/\e=.returned (.bool false)/\Lo B [gm,gt] W w')
theorem zmY (h:Mt W gm gt B n m vo xs)(i:Nat)(hi:i<n):Calls Tryz.prog 154 #[.pointer (some ⟨gm,0,none⟩),.int .i64 (i:Int),.int .i32 63] W (yu_ gm gt B n i 63 m W):=by
 obtain⟨i0,hi0,hz0,hz1,hz2⟩:=info_parts zbd;have hBW:=h.room;obtain⟨A,c,rfl,hc1,hc2,_⟩:=zh_ h.own;have c2:=h.rec_.cell 2;have hfew:=h.few;have hop:m.op.length=xs.length:=by rw[h.op];simp
 have hdp:=h.deep;have H:=hQ_ h;obtain⟨q,hq⟩:∃q,q=xs.length:=⟨_,rfl⟩;rw[<-hq]at c2 hfew hc1;have HQ:=hQ_ hq;have HOP:=hQ_ hop;have HDP:=hQ_ hdp;have hal:Chg [] W (W.alloc (.cells #[.bool false,.int .i64 (i:Int),.int .i64 (i:Int),.slice none 0 0] 265)):=(Chg.refl [] W).alloc _;have HAL:=hQ_ hal;have HO1:=hQ_ (show(W.alloc (.cells #[.bool false,.int .i64 (i:Int),.int .i64 (i:Int),.slice none 0 0] 265)).ownsRow B 265 4 (.slice A q c) q (kl_ xs) from by
  have h:=zf_ H.o.own hal;rw[<-hq]at h;exact h);have q2:(W.alloc (.cells #[.bool false,.int .i64 (i:Int),.int .i64 (i:Int),.slice none 0 0] 265)).cell? ⟨gm,2,none⟩=some (.slice A q c):=zd_ (by simpa using c2) hal;clear h hq hop hdp hal;go_enter Tryz.func154,Tryz.ntmps154;go_wp2_with (
  at_builtin;refine wpList_append_own _ rfl (.tmp 15) (.tmp 21) _ rfl B 265 i0 _ 4 48 Tryz.underlying242 hi0 hz0 hz1 hz2 rfl (by decide) (.slice A q c) q (kl_ xs) rfl HO1.o ⟨W.heap.size,0,none⟩ 1 1 [.bool false,.int .i64 (i:Int),.int .i64 (i:Int),.slice none 0 0] rfl rfl ?c1 ?c2 ?c3 ?c4 ?c5 ?_;case c1=>exact zK_ _ _ _
  case c2=>simp[Value.oneCell']
  case c3=>simp only[maxLen];omega
  case c4=>omega
  case c5=>simp;omega
  intro v' w6 ho6 hg6 _;obtain⟨A6,c6,rfl,hc61,_,_⟩:=zh_ ho6;have HO6:=hQ_ ho6;have HG6:=hQ_ hg6;have HW6:=hQ_ (zn_ (H.o.rec_.keep HAL.o) HO1.o (by decide) hg6);have k2:w6.cell? ⟨gm,2,none⟩=some (.slice A q c):=by
   have h:=HW6.o.cell 2;rw[<-HQ.o]at h;simpa using h
  have f2:=HW6.o.frozen 2;clear ho6 hg6);go_upto_region 5 with fail;have HW7:=hQ_ (HW6.o.set_ 2 (.slice A6 (q+1) c6));simp only[List.set_cons_zero,List.set_cons_succ]at HW7;have HL7:=hQ_ (show Lo B [gm,gt] W (w6.setCell ⟨gm,2,none⟩ (.slice A6 (q+1) c6)) from((Lo.of_chg HAL.o (by simp)).trans (Lo.of_grown HO1.o (Nat.le_refl _) HG6.o)).trans (Lo.of_chg ((Chg.refl [gm] w6).setCell (p:=⟨gm,2,none⟩) (by simp) _) (by simp)));have HM7:=hQ_ (fun hq16:xs.length<16=>show Mt (w6.setCell ⟨gm,2,none⟩ (.slice A6 (q+1) c6)) gm gt B n ⟨m.tO,m.deep,⟨false,i,i,[]⟩::m.op⟩ (.slice A6 (q+1) c6) (xs++[⟨⟨false,i,i,[]⟩,.slice none 0 0⟩]) from H.o.push HAL.o hi hq16 (by rw[<-HQ.o];exact HO6.o) (by rw[<-HQ.o];exact HG6.o));generalize w6.setCell ⟨gm,2,none⟩ (.slice A6 (q+1) c6)=w7 at HW7 HL7 HM7⊢;clear k2 f2 c2 q2;have k1:=HW7.o.cell 1;have k2:=HW7.o.cell 2;have f1:=HW7.o.frozen 1;go_wp2_with fail;go_region;have hmx:max (m.deep:Int) ((q:Int)+1)=((max m.deep (q+1):Nat):Int):=by omega
 rw[hmx];clear hmx;have HL8:=hQ_ (show Lo B [gm,gt] W (w7.setCell ⟨gm,1,none⟩ (.int .i64 ((max m.deep (q+1):Nat):Int))).drew from HL7.o.trans (Lo.of_chg ((Chg.refl [gm] w7).setCell (p:=⟨gm,1,none⟩) (by simp) _).drew (by simp)));have HW8:=hQ_ (HW7.o.set_ 1 (.int .i64 ((max m.deep (q+1):Nat):Int))).drew;have HM8:=hQ_ (fun hq16:xs.length<16=>(((HM7.o hq16).deeper (max m.deep (q+1)) (by have:=HDP.o;have:=HQ.o;omega)).keep (Chg.refl [] _).drew));generalize (w7.setCell ⟨gm,1,none⟩ (.int .i64 ((max m.deep (q+1):Nat):Int))).drew=w8 at HL8 HW8 HM8⊢;clear k1 k2 f1;have k2:=HW8.o.cell 2;by_cases hq16:q<16
 · have hle:(q:Int)+1<=16:=(by omega);have HPO:=hQ_ (show yu_ gm gt B n i 63 m W (.returned (.bool true)) w8 from .inl ⟨_,by unfold yZ_;rw[if_pos (by decide),HOP.o,<-HQ.o,if_pos (by omega)];rfl,rfl,⟨_,_,HM8.o (by rw[<-HQ.o];exact hq16)⟩,HL8.o⟩);go_wp2_with fail;go_ret;exact HPO.o
 · have hle:¬(q:Int)+1<=16:=(by omega);have HPO:=hQ_ (show yu_ gm gt B n i 63 m W (.returned (.bool false)) w8 from .inr ⟨by unfold yZ_;rw[if_pos (by decide),HOP.o,<-HQ.o,if_neg (by omega)],rfl,HL8.o⟩);go_wp2_with fail;go_ret;exact HPO.o
theorem zgv (h:Mt W gm gt B n m vo xs)(i:Nat)(hi:i<n):Calls Tryz.prog 154 #[.pointer (some ⟨gm,0,none⟩),.int .i64 (i:Int),.int .i32 91] W (yu_ gm gt B n i 91 m W):=by
 obtain⟨i0,hi0,hz0,hz1,hz2⟩:=info_parts zbd;have hBW:=h.room;obtain⟨A,c,rfl,hc1,hc2,_⟩:=zh_ h.own;have c2:=h.rec_.cell 2;have hfew:=h.few;have hop:m.op.length=xs.length:=by rw[h.op];simp
 have hdp:=h.deep;have H:=hQ_ h;obtain⟨q,hq⟩:∃q,q=xs.length:=⟨_,rfl⟩;rw[<-hq]at c2 hfew hc1;have HQ:=hQ_ hq;have HOP:=hQ_ hop;have HDP:=hQ_ hdp;have hal:Chg [] W (W.alloc (.cells #[.bool true,.int .i64 (i:Int),.int .i64 (i:Int),.slice none 0 0] 265)):=(Chg.refl [] W).alloc _;have HAL:=hQ_ hal;have HO1:=hQ_ (show(W.alloc (.cells #[.bool true,.int .i64 (i:Int),.int .i64 (i:Int),.slice none 0 0] 265)).ownsRow B 265 4 (.slice A q c) q (kl_ xs) from by
  have h:=zf_ H.o.own hal;rw[<-hq]at h;exact h);have q2:(W.alloc (.cells #[.bool true,.int .i64 (i:Int),.int .i64 (i:Int),.slice none 0 0] 265)).cell? ⟨gm,2,none⟩=some (.slice A q c):=zd_ (by simpa using c2) hal;clear h hq hop hdp hal;go_enter Tryz.func154,Tryz.ntmps154;go_wp2_with (
  at_builtin;refine wpList_append_own _ rfl (.tmp 15) (.tmp 21) _ rfl B 265 i0 _ 4 48 Tryz.underlying242 hi0 hz0 hz1 hz2 rfl (by decide) (.slice A q c) q (kl_ xs) rfl HO1.o ⟨W.heap.size,0,none⟩ 1 1 [.bool true,.int .i64 (i:Int),.int .i64 (i:Int),.slice none 0 0] rfl rfl ?c1 ?c2 ?c3 ?c4 ?c5 ?_;case c1=>exact zK_ _ _ _
  case c2=>simp[Value.oneCell']
  case c3=>simp only[maxLen];omega
  case c4=>omega
  case c5=>simp;omega
  intro v' w6 ho6 hg6 _;obtain⟨A6,c6,rfl,hc61,_,_⟩:=zh_ ho6;have HO6:=hQ_ ho6;have HG6:=hQ_ hg6;have HW6:=hQ_ (zn_ (H.o.rec_.keep HAL.o) HO1.o (by decide) hg6);have k2:w6.cell? ⟨gm,2,none⟩=some (.slice A q c):=by
   have h:=HW6.o.cell 2;rw[<-HQ.o]at h;simpa using h
  have f2:=HW6.o.frozen 2;clear ho6 hg6);go_upto_region 5 with fail;have HW7:=hQ_ (HW6.o.set_ 2 (.slice A6 (q+1) c6));simp only[List.set_cons_zero,List.set_cons_succ]at HW7;have HL7:=hQ_ (show Lo B [gm,gt] W (w6.setCell ⟨gm,2,none⟩ (.slice A6 (q+1) c6)) from((Lo.of_chg HAL.o (by simp)).trans (Lo.of_grown HO1.o (Nat.le_refl _) HG6.o)).trans (Lo.of_chg ((Chg.refl [gm] w6).setCell (p:=⟨gm,2,none⟩) (by simp) _) (by simp)));have HM7:=hQ_ (fun hq16:xs.length<16=>show Mt (w6.setCell ⟨gm,2,none⟩ (.slice A6 (q+1) c6)) gm gt B n ⟨m.tO,m.deep,⟨true,i,i,[]⟩::m.op⟩ (.slice A6 (q+1) c6) (xs++[⟨⟨true,i,i,[]⟩,.slice none 0 0⟩]) from H.o.push HAL.o hi hq16 (by rw[<-HQ.o];exact HO6.o) (by rw[<-HQ.o];exact HG6.o));generalize w6.setCell ⟨gm,2,none⟩ (.slice A6 (q+1) c6)=w7 at HW7 HL7 HM7⊢;clear k2 f2 c2 q2;have k1:=HW7.o.cell 1;have k2:=HW7.o.cell 2;have f1:=HW7.o.frozen 1;go_wp2_with fail;go_region;have hmx:max (m.deep:Int) ((q:Int)+1)=((max m.deep (q+1):Nat):Int):=by omega
 rw[hmx];clear hmx;have HL8:=hQ_ (show Lo B [gm,gt] W (w7.setCell ⟨gm,1,none⟩ (.int .i64 ((max m.deep (q+1):Nat):Int))).drew from HL7.o.trans (Lo.of_chg ((Chg.refl [gm] w7).setCell (p:=⟨gm,1,none⟩) (by simp) _).drew (by simp)));have HW8:=hQ_ (HW7.o.set_ 1 (.int .i64 ((max m.deep (q+1):Nat):Int))).drew;have HM8:=hQ_ (fun hq16:xs.length<16=>(((HM7.o hq16).deeper (max m.deep (q+1)) (by have:=HDP.o;have:=HQ.o;omega)).keep (Chg.refl [] _).drew));generalize (w7.setCell ⟨gm,1,none⟩ (.int .i64 ((max m.deep (q+1):Nat):Int))).drew=w8 at HL8 HW8 HM8⊢;clear k1 k2 f1;have k2:=HW8.o.cell 2;by_cases hq16:q<16
 · have hle:(q:Int)+1<=16:=(by omega);have HPO:=hQ_ (show yu_ gm gt B n i 91 m W (.returned (.bool true)) w8 from .inl ⟨_,by unfold yZ_;rw[if_pos (by decide),HOP.o,<-HQ.o,if_pos (by omega)];rfl,rfl,⟨_,_,HM8.o (by rw[<-HQ.o];exact hq16)⟩,HL8.o⟩);go_wp2_with fail;go_ret;exact HPO.o
 · have hle:¬(q:Int)+1<=16:=(by omega);have HPO:=hQ_ (show yu_ gm gt B n i 91 m W (.returned (.bool false)) w8 from .inr ⟨by unfold yZ_;rw[if_pos (by decide),HOP.o,<-HQ.o,if_neg (by omega)],rfl,HL8.o⟩);go_wp2_with fail;go_ret;exact HPO.o
theorem zeN {i:Nat}{Q:Bool->World->Prop}(h:Calls Tryz.prog 174 #[.pointer (some ⟨gm,0,none⟩),.int .i64 (i:Int)] W fun e w'=>∃b,e=.returned (.bool b)/\Hid (Q b w')) :
    Calls Tryz.prog 154 #[.pointer (some ⟨gm,0,none⟩),.int .i64 (i:Int),.int .i32 58] W fun e w'=>∃b,e=.returned (.bool b)/\Hid (Q b w'):=by
 go_enter Tryz.func154,Tryz.ntmps154;go_wp2_with fail;refine h.mono ?_;rintro e w1 ⟨b,rfl,hq⟩;clear h;go_wp2_with fail;go_ret;exact⟨_,rfl,hq⟩
theorem zeO {i:Nat}{Q:Bool->World->Prop}(h:Calls Tryz.prog 175 #[.pointer (some ⟨gm,0,none⟩),.int .i64 (i:Int)] W fun e w'=>∃b,e=.returned (.bool b)/\Hid (Q b w')) :
    Calls Tryz.prog 154 #[.pointer (some ⟨gm,0,none⟩),.int .i64 (i:Int),.int .i32 59] W fun e w'=>∃b,e=.returned (.bool b)/\Hid (Q b w'):=by
 go_enter Tryz.func154,Tryz.ntmps154;go_wp2_with fail;refine h.mono ?_;rintro e w1 ⟨b,rfl,hq⟩;clear h;go_wp2_with fail;go_ret;exact⟨_,rfl,hq⟩
theorem zas {i:Nat}{Q:Bool->World->Prop}(h:Calls Tryz.prog 176 #[.pointer (some ⟨gm,0,none⟩),.int .i64 (i:Int)] W fun e w'=>∃b,e=.returned (.bool b)/\Hid (Q b w')) :
    Calls Tryz.prog 154 #[.pointer (some ⟨gm,0,none⟩),.int .i64 (i:Int),.int .i32 93] W fun e w'=>∃b,e=.returned (.bool b)/\Hid (Q b w'):=by
 go_enter Tryz.func154,Tryz.ntmps154;go_wp2_with fail;refine h.mono ?_;rintro e w1 ⟨b,rfl,hq⟩;clear h;go_wp2_with fail;go_ret;exact⟨_,rfl,hq⟩
theorem zeM {i:Nat}{Q:Bool->World->Prop}(h:Calls Tryz.prog 177 #[.pointer (some ⟨gm,0,none⟩),.int .i64 (i:Int)] W fun e w'=>∃b,e=.returned (.bool b)/\Hid (Q b w')) :
    Calls Tryz.prog 154 #[.pointer (some ⟨gm,0,none⟩),.int .i64 (i:Int),.int .i32 126] W fun e w'=>∃b,e=.returned (.bool b)/\Hid (Q b w'):=by
 go_enter Tryz.func154,Tryz.ntmps154;go_wp2_with fail;refine h.mono ?_;rintro e w1 ⟨b,rfl,hq⟩;clear h;go_wp2_with fail;go_ret;exact⟨_,rfl,hq⟩
theorem zeK {i:Nat}(s:Int)(h1:s≠63)(h2:s≠91)(h3:s≠58)(h4:s≠59)(h5:s≠93)(h6:s≠126) :
    Calls Tryz.prog 154 #[.pointer (some ⟨gm,0,none⟩),.int .i64 (i:Int),.int .i32 s] W fun e w'=>e=.returned (.bool true)/\W=w':=by
 have k1:(s==63)=false:=by simpa using h1
 have k2:(s==91)=false:=by simpa using h2
 have k3:(s==58)=false:=by simpa using h3
 have k4:(s==59)=false:=by simpa using h4
 have k5:(s==93)=false:=by simpa using h5
 have k6:(s==126)=false:=by simpa using h6
 clear h1 h2 h3 h4 h5 h6;go_enter Tryz.func154,Tryz.ntmps154;go_wp2_with fail;go_ret;exact⟨rfl,rfl⟩
def Few (i:Nat)(m:NSt):Prop:=∀p∈m.op,p.left.length<=i
theorem ziN {i:Nat}:∀{l o:List NPart},(∀p∈l,p.left.length<=i)->yM_ i l=some o->∀p∈o,p.left.length<=i+1:=fun {l o} h ho=>by
 obtain⟨a,p,r,rfl,_,_,rfl⟩:=k3_ ho;intro q hq;rcases List.mem_append.1 hq with hq|hq
 · have:=h q (List.mem_append_left _ hq);omega
 · rcases List.mem_cons.1 hq with rfl|hq
   · have:=h p (by simp);simp;omega
   · have:=h q (by simp[hq]);omega
theorem zlB {i:Nat}{s:Int}{m m':NSt}(h:Few i m)(ht:yZ_ i s m=some m'):Few (i+1) m':=by
 have hm:∀p∈m.op,p.left.length<=i+1:=fun p hp=>by have:=h p hp;omega
 unfold yZ_ at ht;split at ht
 · split at ht
   · injection ht with ht;subst ht;intro p hp;rcases List.mem_cons.1 hp with rfl|hp
     · simp
     · exact hm p hp
   · cases ht
 split at ht
 · split at ht
   · rename_i p r hop;split at ht
     · injection ht with ht;subst ht;intro q hq;rcases List.mem_cons.1 hq with rfl|hq
       · exact hm p (by rw[hop];simp)
       · exact hm q (by rw[hop];simp[hq])
     · cases ht
   · cases ht
 split at ht
 · split at ht
   · rename_i p r hop;split at ht
     · injection ht with ht;subst ht;exact fun q hq=>hm q (by rw[hop];simp only at hq;simp[hq])
     · cases ht
   · cases ht
 split at ht
 · split at ht
   · rename_i p r hop;split at ht
     · injection ht with ht;subst ht;exact fun q hq=>hm q (by rw[hop];simp only at hq;simp[hq])
     · cases ht
   · cases ht
 split at ht
 · cases ho:yM_ i m.op with
   | none=>rw[ho]at ht;cases ht
   | some o =>
     rw[ho]at ht;injection ht with ht;subst ht;exact ziN h ho
 · injection ht with ht;subst ht;exact hm
theorem kD_ {α:Type}(l:List α):l=[]\/∃ys x,l=ys++[x]:=by
 rcases List.eq_nil_or_concat l with h|⟨ys,x,h⟩
 · exact .inl h
 · exact .inr ⟨ys,x,by simpa using h⟩
theorem q1_:∀l:List PV,(∀x∈l,x.p.loop=false)\/∃ys x zs,l=ys++x::zs/\x.p.loop=true/\∀z∈zs,z.p.loop=false
  | []=>.inl fun x hx=>by cases hx
  | a :: l=>by
    rcases q1_ l with h|⟨ys,x,zs,rfl,h1,h2⟩
    · by_cases hl:a.p.loop=true
      · exact .inr ⟨[],a,l,rfl,hl,h⟩
      · refine .inl fun x hx=>?_;rcases List.mem_cons.1 hx with rfl|hx
        · simpa using hl
        · exact h x hx
    · exact .inr ⟨a::ys,x,zs,rfl,h1,h2⟩
theorem zkc (h:Mt W gm gt B n m vo xs) (i:Nat) (hi:i<n) (s:Int) (hf:Few i m):Calls Tryz.prog 154 #[.pointer (some ⟨gm,0,none⟩),.int .i64 (i:Int),.int .i32 s] W (yu_ gm gt B n i s m W):=by
 have hlo:∀{w':World},Chg [] W w'->Lo B [gm,gt] W w':=fun hc=>Lo.of_chg hc (by simp);by_cases s1:s=63
 · subst s1;exact zmY h i hi
 by_cases s2:s=91
 · subst s2;exact zgv h i hi
 have e12:¬(s=63\/s=91):=by simp[s1,s2]
 have hop:=h.op;by_cases s3:s=58
 · subst s3;refine(zeN (Q:=fun b w'=>yu_ gm gt B n i 58 m W (.returned (.bool b)) w') ?_).mono fun e w' ⟨b,he,hq⟩=>(by rw[he];exact hq.out);rcases kD_ xs with rfl|⟨ys,x,rfl⟩
   · refine(zfs h i).mono fun e w' ⟨he,hc⟩=>⟨false,he,hQ_ (.inr ⟨?_,rfl,hlo hc⟩)⟩;simp only[List.map_nil,List.reverse_nil]at hop;unfold yZ_;rw[if_neg e12,if_pos rfl,hop]
   · simp only[List.map_append,List.map_cons,List.map_nil,List.reverse_append,List.reverse_cons,List.reverse_nil,List.nil_append,List.cons_append]at hop;by_cases hc:x.p.loop=false/\x.p.waits=x.p.at_
     · refine(zip h hc.1 hc.2 i hi).mono fun e w' hp=>⟨true,hp.1,hQ_ (.inl ⟨_,?_,hp.1 ▸ hp⟩)⟩;unfold yZ_;rw[if_neg e12,if_pos rfl,hop];simp only;rw[if_pos hc]
     · refine(zlr h (by
        by_cases hl:x.p.loop=true
        · exact .inl hl
        · exact .inr fun e=>hc ⟨by simpa using hl,e⟩) i).mono fun e w' ⟨he,hcc⟩=>⟨false,he,hQ_ (.inr ⟨?_,rfl,hlo hcc⟩)⟩;unfold yZ_;rw[if_neg e12,if_pos rfl,hop];simp only;rw[if_neg hc]
 by_cases s4:s=59
 · subst s4;refine(zeO (Q:=fun b w'=>yu_ gm gt B n i 59 m W (.returned (.bool b)) w') ?_).mono fun e w' ⟨b,he,hq⟩=>(by rw[he];exact hq.out);rcases kD_ xs with rfl|⟨ys,x,rfl⟩
   · refine(zfO h i).mono fun e w' ⟨he,hc⟩=>⟨false,he,hQ_ (.inr ⟨?_,rfl,hlo hc⟩)⟩;simp only[List.map_nil,List.reverse_nil]at hop;unfold yZ_;rw[if_neg e12,if_neg s3,if_pos rfl,hop]
   · simp only[List.map_append,List.map_cons,List.map_nil,List.reverse_append,List.reverse_cons,List.reverse_nil,List.nil_append,List.cons_append]at hop;by_cases hc:x.p.loop=false
     · refine(ziT h hc i).mono fun e w' hp=>⟨true,hp.1,hQ_ (.inl ⟨_,?_,hp.1 ▸ hp⟩)⟩;unfold yZ_;rw[if_neg e12,if_neg s3,if_pos rfl,hop];simp only;rw[if_pos hc]
     · refine(zlE h (by simpa using hc) i).mono fun e w' ⟨he,hcc⟩=>⟨false,he,hQ_ (.inr ⟨?_,rfl,hlo hcc⟩)⟩;unfold yZ_;rw[if_neg e12,if_neg s3,if_pos rfl,hop];simp only;rw[if_neg hc]
 by_cases s5:s=93
 · subst s5;refine(zas (Q:=fun b w'=>yu_ gm gt B n i 93 m W (.returned (.bool b)) w') ?_).mono fun e w' ⟨b,he,hq⟩=>(by rw[he];exact hq.out);rcases kD_ xs with rfl|⟨ys,x,rfl⟩
   · refine(zbt h i).mono fun e w' ⟨he,hc⟩=>⟨false,he,hQ_ (.inr ⟨?_,rfl,hlo hc⟩)⟩;simp only[List.map_nil,List.reverse_nil]at hop;unfold yZ_;rw[if_neg e12,if_neg s3,if_neg s4,if_pos rfl,hop]
   · simp only[List.map_append,List.map_cons,List.map_nil,List.reverse_append,List.reverse_cons,List.reverse_nil,List.nil_append,List.cons_append]at hop;by_cases hc:x.p.loop=true
     · refine(zcI h hc i hi).mono fun e w' hp=>⟨true,hp.1,hQ_ (.inl ⟨_,?_,hp.1 ▸ hp⟩)⟩;unfold yZ_;rw[if_neg e12,if_neg s3,if_neg s4,if_pos rfl,hop];simp only;rw[if_pos hc]
     · refine(zfN h (by simpa using hc) i).mono fun e w' ⟨he,hcc⟩=>⟨false,he,hQ_ (.inr ⟨?_,rfl,hlo hcc⟩)⟩;unfold yZ_;rw[if_neg e12,if_neg s3,if_neg s4,if_pos rfl,hop];simp only;rw[if_neg hc]
 by_cases s6:s=126
 · subst s6;refine(zeM (Q:=fun b w'=>yu_ gm gt B n i 126 m W (.returned (.bool b)) w') ?_).mono fun e w' ⟨b,he,hq⟩=>(by rw[he];exact hq.out);rcases q1_ xs with hno|⟨ys,x,zs,rfl,hx,hz⟩
   · refine(zld h hno i).mono fun e w' ⟨he,hc⟩=>⟨false,he,hQ_ (.inr ⟨?_,rfl,hlo hc⟩)⟩;unfold yZ_;rw[if_neg e12,if_neg s3,if_neg s4,if_neg s5,if_pos rfl,hop,zaX]
     · rfl
     · intro z hz;simp only[List.mem_reverse,List.mem_map]at hz;obtain⟨y,hy,rfl⟩:=hz;exact hno y hy
   · have hop2:m.op=(zs.map (·.p)).reverse++x.p::(ys.map (·.p)).reverse:=(by rw[hop];simp);have hfx:x.p.left.length<=i:=hf x.p (by rw[hop2];simp);refine(zhX h hx hz i hi (by omega)).mono fun e w' hp=>⟨true,hp.1,hQ_ (.inl ⟨_,?_,hp.1 ▸ hp⟩)⟩;unfold yZ_;rw[if_neg e12,if_neg s3,if_neg s4,if_neg s5,if_pos rfl,hop2,q4_ i _ _ hx]
     · rfl
     · intro z hz2;simp only[List.mem_reverse,List.mem_map]at hz2;obtain⟨y,hy,rfl⟩:=hz2;exact hz y hy
 · refine(zeK s s1 s2 s3 s4 s5 s6).mono fun e w' ⟨he,hw⟩=>?_;subst hw;exact .inl ⟨m,by unfold yZ_;rw[if_neg e12,if_neg s3,if_neg s4,if_neg s5,if_neg s6],he,⟨_,_,h⟩,Lo.refl _ _ _⟩
end
theorem zhQ (W:World)(n:Nat)(hn:n<=100000):(Instr.makeSlice 126 (.int .i64 (n:Int)) (.int .i64 (n:Int))).run Tryz.prog W=.ok (.slice (some ⟨W.heap.size,0,none⟩) n n) (W.alloc (.cells (nms (List.replicate n 0)).toArray 3)):=by
 obtain⟨i,hi,hz,hs1,hb⟩:=info_parts gH_;have:nms (List.replicate n 0)=List.replicate n (.int .i64 0):=by simp[nms]
 rw[this];exact x4_ 126 3 i (.int .i64 0) rfl Tryz.underlying126 hi hz hs1 n (by rw[hb];omega) (by omega) W
def qv_ (n:Nat)(r:Option (List Int×Nat))(W:World)(e:Ending)(w':World):Prop :=
 Chg [] W w'/\((∃t d g,r=some (t,d)/\t.length=n/\e=.returned (.tuple #[.slice (some ⟨g,0,none⟩) n n,.int .i64 (d:Int),.bool true])/\zb_ w' g 3 (nms t)/\d<=16) \/
   (r=none/\∃v d,e=.returned (.tuple #[v,.int .i64 d,.bool false])))
section
variable {W:World} {A:Option Addr} {n c:Nat} {l:List TkV}
theorem zhM (h:Tks W A n c l):Calls Tryz.prog 131 #[.slice A n c] W (qv_ n (kB_ (yD_ l)) W):=by
 have hmax:=h.max;have hmk:=fun W:World=>zhQ W n hmax;have H:=hQ_ h;have hsl:(yD_ l).length=n:=by unfold yD_;rw[List.length_map];exact h.len
 have HSL:=hQ_ hsl;clear h hsl;go_enter Tryz.func131,Tryz.ntmps131;go_upto_region 2 with fail;have hT:=zb_.new W 3 (nms (List.replicate n 0));have hc1:Chg [] W (W.alloc (.cells (nms (List.replicate n 0)).toArray 3)):=(Chg.refl [] W).alloc _;obtain⟨gt,hgt⟩:∃g,g=W.heap.size:=⟨_,rfl⟩;rw[<-hgt]at hT;have hsz:(W.alloc (.cells (nms (List.replicate n 0)).toArray 3)).heap.size=gt+1:=by rw[hgt];simp
 have hM:=zb_.new (W.alloc (.cells (nms (List.replicate n 0)).toArray 3)) 244 [.slice (some ⟨gt,0,none⟩) n n,.int .i64 0,.slice none 0 0];rw[hsz]at hM;have hal2:Chg [] (W.alloc (.cells (nms (List.replicate n 0)).toArray 3)) ((W.alloc (.cells (nms (List.replicate n 0)).toArray 3)).alloc (.cells #[.slice (some ⟨gt,0,none⟩) n n,.int .i64 0,.slice none 0 0] 244)):=(Chg.refl [] _).alloc _;have hT2:=hT.keep hal2;have hc2:=hc1.new hal2;have hsz2:((W.alloc (.cells (nms (List.replicate n 0)).toArray 3)).alloc (.cells #[.slice (some ⟨gt,0,none⟩) n n,.int .i64 0,.slice none 0 0] 244)).heap.size=gt+2:=by rw[hgt];simp
 rw[<-hgt];generalize (W.alloc (.cells (nms (List.replicate n 0)).toArray 3)).alloc (.cells #[.slice (some ⟨gt,0,none⟩) n n,.int .i64 0,.slice none 0 0] 244)=w2 at hM hT2 hc2 hsz2⊢;have HM0:=hQ_ (show Mt w2 (gt+1) gt (gt+2) n ⟨List.replicate (yD_ l).length 0,0,[]⟩ (.slice none 0 0) [] from
   ⟨hM,by rw[HSL.o];exact hT2,by rw[List.length_replicate];exact HSL.o,rfl,World.ownsRow_nil _ _ _ _,fun x hx=>(by cases hx),List.Pairwise.nil,by omega,by simp,by simp,fun x hx=>(by cases hx),hmax,by omega⟩);have HC2:=hQ_ hc2;have HGT:=hQ_ hgt;clear hT hc1 hsz hM hal2 hT2 hc2 hsz2 hgt hmk;go_wp2_with fail;go_loopw [6,7,14] (fun _ _ s wr=>∃k:Nat,k<=n/\s=.int .i64 (k:Int)/\(∃m vo xs,Hid (Mt wr (gt+1) gt (gt+2) n m vo xs)/\Few k m/\gE_ 0 (yD_ l) ⟨List.replicate (yD_ l).length 0,0,[]⟩=gE_ k ((yD_ l).drop k) m)/\Hid (Chg [] W wr)) (fun _ _ s _=>n-(intOf s).toNat);case atStart=>exact⟨0,Nat.zero_le _,rfl,⟨_,_,_,HM0,fun p hp=>(by cases hp),rfl⟩,HC2⟩
 case round =>
  obtain⟨k,hk,rfl,⟨m,vo,xs,HM,hfew,hrun⟩,HCr⟩:=hrel;have HF:=hQ_ hfew;have HRUN:=hQ_ hrun;clear hfew hrun;by_cases hlt:k<n
  · have hltI:(k:Int)<(n:Int):=(by omega);have hk0:(0:Int)<=(k:Int):=(by omega);have hkl:k<l.length:=(by rw[H.o.len];exact hlt);obtain⟨b,o,rfl,hb,t0,t1,t2⟩:=(H.o.keep HCr.o).cell (List.getElem?_eq_getElem hkl);have HS:=hQ_ (show(yD_ l).drop k=(l[k]).sign::(yD_ l).drop (k+1) from by
     rw[List.drop_eq_getElem_cons (by rw[HSL.o];exact hlt)];congr 1;simp[yD_]);generalize l[k]=t at t0 t1 t2 HS;obtain⟨ts,tn,tm⟩:=t;simp only at t0 t1 t2 HS;go_upto_region 5 with fail;have hal:Chg [] wr (wr.alloc (.cells #[.int .i32 ts,.int .i64 tn,.int .i32 tm] 132)):=(Chg.refl [] wr).alloc _;have hN:zb_ (wr.alloc (.cells #[.int .i32 ts,.int .i64 tn,.int .i32 tm] 132)) wr.heap.size 132 [.int .i32 ts,.int .i64 tn,.int .i32 tm]:=zb_.new wr 132 [.int .i32 ts,.int .i64 tn,.int .i32 tm];have hbt:gt<wr.heap.size:=HM.o.to_.lt;obtain⟨g7,hg7⟩:∃g,g=wr.heap.size:=⟨_,rfl⟩;rw[<-hg7]at hN hbt⊢;generalize wr.alloc (.cells #[.int .i32 ts,.int .i64 tn,.int .i32 tm] 132)=w3 at hal hN⊢;have HM3:=hQ_ (HM.o.keep hal);have HC3:=hQ_ (HCr.o.new hal);have HN3:=hQ_ hN;clear hal hN hg7 t0 t1 t2;have c0:=HM3.o.rec_.cell 0;have hkt:k<m.tO.length:=(by rw[HM3.o.len];exact hlt);have t0:w3.cell? ⟨gt,k,none⟩=some (.int .i64 (m.tO[k]'hkt)):=(HM3.o.to_.cell k).trans (jY_ _ _ hkt);have f0:=HM3.o.to_.frozen k;go_upto_region 6 with fail;have HM4:=hQ_ (HM3.o.poke k (-1));have HL4:=hQ_ (show Lo (gt+2) [gt+1,gt] w3 (w3.setCell ⟨gt,k,none⟩ (.int .i64 (-1))) from Lo.of_chg ((Chg.refl [gt] w3).setCell (p:=⟨gt,k,none⟩) (by simp) _) (by simp));have HC4:=hQ_ (HL4.o.chg HC3.o (by have:=HGT.o;omega) (by have:=HGT.o;simp;omega));have HN4:=hQ_ (HN3.o.far (p:=⟨gt,k,none⟩) (by simp only;omega) (.int .i64 (-1)));generalize w3.setCell ⟨gt,k,none⟩ (.int .i64 (-1))=w4 at HM4 HL4 HC4 HN4⊢;clear c0 t0 f0;have n0:=HN4.o.cell 0;go_wp2_with fail;refine(zkc HM4.o k hlt ts HF.o).mono ?_;rintro e w5 (⟨m',ht,rfl,⟨vo',xs',hM5⟩,hL5⟩|⟨ht,rfl,hL5⟩)
    · have HM5:=hQ_ hM5;have HF5:=hQ_ (zlB (m:=⟨m.tO.set k (-1),m.deep,m.op⟩) HF.o ht);have HR5:=hQ_ (show gE_ 0 (yD_ l) ⟨List.replicate (yD_ l).length 0,0,[]⟩=gE_ (k+1) ((yD_ l).drop (k+1)) m' from by rw[HRUN.o,HS.o,gE_,ht];rfl);have HC5:=hQ_ (hL5.chg HC4.o (by have:=HGT.o;omega) (by have:=HGT.o;simp;omega));clear hM5 hL5 ht n0;go_wp2_with fail;go_roundw;(case rel=>exact⟨k+1,by omega,by go_num,⟨_,_,_,HM5,HF5.o,HR5.o⟩,HC5⟩);case measure=>simp[intOf];omega
    · have HR5:=hQ_ (show kB_ (yD_ l)=none from by unfold kB_;rw[HRUN.o,HS.o,gE_,ht];rfl);have HC5:=hQ_ (hL5.chg HC4.o (by have:=HGT.o;omega) (by have:=HGT.o;simp;omega));have HPO:=hQ_ (show qv_ n (kB_ (yD_ l)) W (.returned (.tuple #[.slice none 0 0,.int .i64 0,.bool false])) w5 from⟨HC5.o,.inr ⟨HR5.o,_,_,rfl⟩⟩);clear hL5 ht n0;go_wp2_with fail;go_ret3;exact HPO.o
  · have hltI:¬(k:Int)<(n:Int):=(by omega);have HR5:=hQ_ (show gE_ 0 (yD_ l) ⟨List.replicate (yD_ l).length 0,0,[]⟩=some m from by rw[HRUN.o,List.drop_eq_nil_of_le (by rw[HSL.o];omega)];rfl);have c0:=HM.o.rec_.cell 0;have c1:=HM.o.rec_.cell 1;have c2:=HM.o.rec_.cell 2;obtain⟨Ao,co,rfl,_,_,_⟩:=zh_ HM.o.own;have hop:m.op.length=xs.length:=(by rw[HM.o.op];simp);obtain⟨q,hq⟩:∃q,q=xs.length:=⟨_,rfl⟩;rw[<-hq]at c2 hop;have HOP:=hQ_ hop;have hfq:=HM.o.few;rw[<-hq]at hfq;clear hop hq;have hdec:((q:Int)==0)=decide (q=0):=(by rw[Bool.eq_iff_iff];simp);go_wp2_with fail;go_quiet (fail);have HPO:=hQ_ (show qv_ n (kB_ (yD_ l)) W (.returned (.tuple #[.slice (some ⟨gt,0,none⟩) n n,.int .i64 (m.deep:Int),.bool (decide (q=0))])) (wr.drewN nq) from by
     refine⟨HCr.o.drewN _,?_⟩;by_cases h0:q=0
     · refine .inl ⟨m.tO,m.deep,gt,?_,HM.o.len,by simp[h0],(HM.o.to_.drewN _),HM.o.deep⟩;unfold kB_;have:m.op=[]:=List.eq_nil_of_length_eq_zero (by rw[HOP.o];exact h0);rw[HR5.o];simp[this]
     · refine .inr ⟨?_,_,_,by simp[h0];exact⟨rfl,rfl⟩⟩;unfold kB_;have:m.op≠[]:=fun e=>h0 (by rw[<-HOP.o,e];rfl);rw[HR5.o];simp[this]);go_wp2_with fail;go_ret3;exact HPO.o
end
section
variable {W:World} {A:Option Addr} {n c gt:Nat} {l:List TkV} {t:List Int}
theorem Tks.sign (h:Tks W A n c l){k:Nat}{s:Int}(hk:(yD_ l)[k]?=some s):∃b o,A=some ⟨b,o,none⟩/\b<W.heap.size/\W.cell? ⟨b,o+k*3,none⟩=some (.int .i32 s):=by
 unfold yD_ at hk;rw[List.getElem?_map]at hk;cases hl:l[k]? with
 | none=>rw[hl]at hk;cases hk
 | some t =>
   rw[hl]at hk;injection hk with hk;subst hk;obtain⟨b,o,e,hb,h0,_,_⟩:=h.cell hl;exact⟨b,o,e,hb,h0⟩
end
def rFn (l:List FnV)(k:Int):Int×List Int :=
 if k<0\/(l.length:Int)<=k then (23,[]) else match l[k.toNat]? with|none=>(23,[])|some f=>jR_ l f.code
def v0_ (R:Int×List Int)(w:World)(e:Ending)(w':World):Prop :=
 ∃v,e=.returned (.tuple #[v,.int .i64 R.1])/\w'.ownsRow w.heap.size 3 1 v R.2.length (nms R.2)/\Chg [] w w'
theorem zfz {w w':World}{R:Int×List Int}(er:Int)(hR:R=(er,[]))(hc:Chg [] w w'):v0_ R w (.returned (.tuple #[.slice none 0 0,.int .i64 er])) w':=by
 subst hR;exact⟨_,rfl,World.ownsRow_nil _ _ _ _,hc⟩
theorem kv_ (l:List FnV)(t:TkV)(ts:List TkV)(h:Int)(bs:List BkV)(out:List Int):k9_ l (t::ts) h bs out=if (qy_ l h bs t.sign t.name).1=0 then k9_ l ts (qy_ l h bs t.sign t.name).2.1 (qy_ l h bs t.sign t.name).2.2 (out++[h]) else ((qy_ l h bs t.sign t.name).1,[]):=by
 rw[k9_]
def zcU (n:Nat)(r:Option (List Int×Nat))(W:World)(e:Ending)(w':World):Prop :=
 Chg [] W w'/\((∃t d g,r=some (t,d)/\t.length=n/\e=.returned (.tuple #[.slice (some ⟨g,0,none⟩) n n,.int .i64 0])/\zb_ w' g 3 (nms t)) \/
   (r=none/\e=.returned (.tuple #[.slice none 0 0,.int .i64 13])))
section
variable {W:World} {A:Option Addr} {n c:Nat} {l:List TkV}
theorem zhE (h:Tks W A n c l):Calls Tryz.prog 91 #[.slice A n c] W (zcU n (kB_ (yD_ l)) W):=by
 go_enter Tryz.func91,Tryz.ntmps91;go_wp2_with fail;refine(zhM h).mono ?_;rintro e w1 ⟨hc,⟨t,d,g,hr,htl,rfl,hT,_⟩|⟨hr,v,d,rfl⟩⟩
 · have HPO:=hQ_ (show zcU n (kB_ (yD_ l)) W (.returned (.tuple #[.slice (some ⟨g,0,none⟩) n n,.int .i64 0])) w1 from⟨hc,.inl ⟨t,d,g,hr,htl,rfl,hT⟩⟩);clear hr htl hT hc h;go_wp2_with fail;go_ret2;exact HPO.o
 · have HPO:=hQ_ (show zcU n (kB_ (yD_ l)) W (.returned (.tuple #[.slice none 0 0,.int .i64 13])) w1 from⟨hc,.inr ⟨hr,rfl⟩⟩);clear hr hc h;go_wp2_with fail;go_ret2;exact HPO.o
end
end Go.Proofs.YtcbcfcdmdedefaaGreatDoor
