import Derived.Test.YtcbcfcdmdedefaaGreatDoorZTA22
set_option maxRecDepth 100000
set_option maxHeartbeats 16000000
namespace Go.Proofs.YtcbcfcdmdedefaaGreatDoor
open Go.RowKit
abbrev mmT:List TypeId:=[105,5,4]
theorem zmC:∀t:TypeId,t∈mmT->t=105\/t=5\/t=4:=by intro t h;simpa using h
theorem zhH:∀t:TypeId,t∈mmT->t∈egT:=by intro t h;simp only[List.mem_cons,List.not_mem_nil,or_false]at h⊢;rcases h with h|h|h<;>subst h<;>simp
theorem Mm.fe {K:Nat->Prop}{w w':World}{p gC gD:Nat}{L:List UInt8}{X:List Value}{V:List Bool}{Y:List Value}{most:Nat}(h:Mm w p gC gD L X V Y most)(hc:Chg [p,gC,gD] w w')(hp:K p)(h1:K gC)(h2:K gD):Fe K mmT w w':=by
 refine Fe.of_chgT hc (fun i hi=>?_) (fun i hi=>?_)
 · simp only[List.mem_cons,List.not_mem_nil,or_false]at hi;rcases hi with rfl|rfl|rfl
   · exact⟨hp,fun cs t fz e=>by have:=h.rec_;unfold zb_ at this;rw[this]at e;injection e with e;injection e with _ e _;subst e;simp[mmT]⟩
   · exact⟨h1,fun cs t fz e=>by have:=h.cel;unfold zb_ at this;rw[this]at e;injection e with e;injection e with _ e _;subst e;simp[mmT]⟩
   · exact⟨h2,fun cs t fz e=>by have:=h.dir;unfold zb_ at this;rw[this]at e;injection e with e;injection e with _ e _;subst e;simp[mmT]⟩
 · simp only[List.mem_cons,List.not_mem_nil,or_false]at hi;rcases hi with rfl|rfl|rfl
   · exact⟨_,_,_,h.rec_⟩
   · exact⟨_,_,_,h.cel⟩
   · exact⟨_,_,_,h.dir⟩
section
variable {P:EP} {W W':World} {vs vc:Value} {s:EgV}
def kF_ (most:Nat)(x:Int)(s:EgV):Int×EgV:=if x<0\/(most:Int)-s.V.length<x then (-1,s)
  else ((s.V.length:Int),⟨s.fuel,s.st,s.cs,s.L++List.replicate (64*x.toNat) 0,s.V++List.replicate x.toNat true,s.qs⟩)
theorem ziV (h:Eg P W vs vc s)(x:Int):Calls Tryz.prog 155 #[.pointer (some ⟨P.p,0,none⟩),.int .i64 x] W (fun e w'=>e=.returned (.int .i64 (kF_ P.most x s).1)/\Hid (Eg P w' vs vc (kF_ P.most x s).2)/\Hid (Fe P.K egT W w')):=by
 obtain⟨gC,gD,X,Y,hM,k1,k2⟩:=h.mem;by_cases hx:x<0\/(P.most:Int)-s.V.length<x
 · have e:kF_ P.most x s=(-1,s):=if_pos hx;rw[e];refine(znX hM x hx).mono ?_;rintro e w' ⟨rfl,rfl⟩;exact⟨rfl,hQ_ h,hQ_ (Fe.refl _ _ _)⟩
 · have e:kF_ P.most x s=((s.V.length:Int),⟨s.fuel,s.st,s.cs,s.L++List.replicate (64*x.toNat) 0,s.V++List.replicate x.toNat true,s.qs⟩):=if_neg hx;rw[e];obtain⟨k,rfl⟩:=Int.eq_ofNat_of_zero_le (show 0<=x by omega);refine(zlw hM k (by omega)).mono ?_;rintro e w' ⟨gC',gD',X',Y',rfl,hM',hc,hC,hD⟩;have hf:=hM.fe hc h.pK k1 k2;have kC:P.K gC':=by
    rcases hC with rfl|hC
    · exact k1
    · exact .inl (Nat.le_trans h.room hC)
   have kD:P.K gD':=by
    rcases hD with rfl|hD
    · exact k2
    · exact .inl (Nat.le_trans h.room hD)
   exact⟨rfl,hQ_ (h.memd hM' kC kD hf zmC),hQ_ (hf.sub zhH)⟩
theorem ziU (h:Eg P W vs vc s)(x:Int)(wide:Bool):Calls Tryz.prog 156 #[.pointer (some ⟨P.p,0,none⟩),.int .i64 x,.bool wide] W (fun e w'=>e=.returned (.tuple #[.int .i64 ((zhS s.L x (if wide then 8 else 1)).getD 0),.bool (zhS s.L x (if wide then 8 else 1)).isSome])/\W=w'):=by
 obtain⟨gC,gD,X,Y,hM,k1,k2⟩:=h.mem;obtain⟨sz,hs⟩:∃sz:Nat,sz=if wide then 8 else 1:=⟨_,rfl⟩;rw[<-hs];unfold zhS;by_cases hx:0<=x/\x+sz<=s.L.length
 · rw[if_pos hx];obtain⟨k,rfl⟩:=Int.eq_ofNat_of_zero_le hx.1;exact zle hM k wide sz hs (by omega)
 · rw[if_neg hx];exact znQ hM x wide sz hs (by omega)
def kU_ (wide:Bool)(k x:Int)(s:EgV):Bool×EgV:=if 0<=k/\k+(if wide then 8 else 1)<=s.L.length then
  (true,⟨s.fuel,s.st,s.cs,stL s.L k.toNat x (if wide then 8 else 1),stV s.V k.toNat (if wide then 8 else 1),s.qs⟩) else (false,s)
theorem zfA (h:Eg P W vs vc s)(k x:Int)(wide:Bool):Calls Tryz.prog 157 #[.pointer (some ⟨P.p,0,none⟩),.int .i64 k,.int .i64 x,.bool wide] W (fun e w'=>e=.returned (.bool (kU_ wide k x s).1)/\Hid (Eg P w' vs vc (kU_ wide k x s).2)/\Hid (Fe P.K egT W w')):=by
 obtain⟨gC,gD,X,Y,hM,k1,k2⟩:=h.mem;obtain⟨sz,hs⟩:∃sz:Nat,sz=if wide then 8 else 1:=⟨_,rfl⟩;have hsI:(if wide then (8:Int) else 1)=(sz:Int):=by rw[hs];cases wide<;>rfl
 by_cases hx:0<=k/\k+(if wide then 8 else 1)<=s.L.length
 · have e:kU_ wide k x s=(true,⟨s.fuel,s.st,s.cs,stL s.L k.toNat x (if wide then 8 else 1),stV s.V k.toNat (if wide then 8 else 1),s.qs⟩):=if_pos hx;rw[e];rw[hsI]at hx;obtain⟨j,rfl⟩:=Int.eq_ofNat_of_zero_le hx.1;refine(zgC hM j x wide sz hs (by omega)).mono ?_;rintro e w' ⟨rfl,hM',hc⟩;have hf:=hM.fe (hc.sub (T':=[P.p,gC,gD]) (by simp)) h.pK k1 k2;rw[hs]at hM';exact⟨rfl,hQ_ (h.memd hM' k1 k2 hf zmC),hQ_ (hf.sub zhH)⟩
 · have e:kU_ wide k x s=(false,s):=if_neg hx;rw[e];rw[hsI]at hx;refine(zkl hM k x wide sz hs (by omega)).mono ?_;rintro e w' ⟨rfl,rfl⟩;exact⟨rfl,hQ_ h,hQ_ (Fe.refl _ _ _)⟩
theorem zfF (h:Eg P W vs vc s):Calls Tryz.prog 57 #[.pointer (some ⟨P.p,0,none⟩)] W (fun e w'=>e=.returned (.int .i64 (s.V.length:Int))/\W=w'):=by
 obtain⟨gC,gD,X,Y,hM,k1,k2⟩:=h.mem;exact xe_ hM
end
theorem zhl {x:Int}{t t':EgV}(hp:t.pop=some (x,t')):t'.st.length+t'.fuel+1=t.st.length+t.fuel:=by
 obtain⟨st,e1,e2⟩:=xI_ hp;subst e2;rw[e1];simp;omega
theorem zdl {x:Int}{t t':EgV}(hp:t.pop=some (x,t')):t'.L=t.L/\t'.V=t.V/\t'.qs=t.qs:=by
 obtain⟨st,e1,e2⟩:=xI_ hp;subst e2;exact⟨rfl,rfl,rfl⟩
section
variable {P:EP} {W W':World} {vs vc:Value} {s:EgV}
theorem zpb {tr:Int}{s':EgV}(h:Eg P W vs vc s)(hr:zbK P.most 35 s=some (tr,s'))(hroom:s.st.length+s.fuel<=2999999):Calls Tryz.prog 134 #[.pointer (some ⟨P.g,0,none⟩),.int .i32 35] W (zu_ P W s' (.int .i64 tr)):=by
 unfold zbK at hr;rw[if_pos rfl]at hr;injection hr with hr;injection hr with hr1 hr2;subst hr1;subst hr2;have k4:W.cell? ⟨P.g,4,none⟩=some (.pointer (some ⟨P.p,0,none⟩)):=h.rec_.cell 4;have HPG:=hQ_ (zfF h);have HPU:=hQ_ (xH_ h (s.V.length:Int) hroom);generalize P.g=gp at *;clear h;go_enter Tryz.func134,Tryz.ntmps134;go_wp2_with fail;refine HPG.o.mono ?_;rintro e w1 ⟨rfl,rfl⟩;go_wp2_with fail;refine HPU.o.mono ?_;rintro e w2 ⟨rfl,h2,hf2⟩;have HP:=hQ_ (show zu_ P W (s.push (s.V.length:Int)) (.int .i64 0) (.returned (.int .i64 0)) w2 from⟨rfl,h2,hf2⟩);clear h2 hf2;go_wp2_with fail;go_ret;exact HP.o
theorem znu {tr:Int}{s':EgV}(h:Eg P W vs vc s)(hr:zbK P.most 164 s=some (tr,s')):Calls Tryz.prog 134 #[.pointer (some ⟨P.g,0,none⟩),.int .i32 164] W (zu_ P W s' (.int .i64 tr)):=by
 unfold zbK at hr;rw[if_neg (by decide)]at hr;cases hp:s.pop with
 | none=>rw[hp]at hr;cases hr
 | some q =>
   obtain⟨x,s1⟩:=q;rw[hp]at hr;simp only[if_pos]at hr;have hq:tr=0/\s'=(kF_ P.most x s1).2.push (kF_ P.most x s1).1:=(by
    have e:=zdl hp;unfold kF_;rw[e.2.1];by_cases hx:x<0\/(P.most:Int)-s.V.length<x
    · rw[if_pos hx]at hr⊢;injection hr with hr;injection hr with h1 h2;exact⟨h1.symm,h2.symm⟩
    · rw[if_neg hx]at hr⊢;injection hr with hr;injection hr with h1 h2;refine⟨h1.symm,?_⟩;rw[<-h2,e.1,e.2.1,e.2.2];rfl);obtain⟨rfl,hs'⟩:=hq;have HS':=hQ_ hs';have k4:W.cell? ⟨P.g,4,none⟩=some (.pointer (some ⟨P.p,0,none⟩)):=h.rec_.cell 4;have hl:=zhl hp;have hsb:=h.stkb;have HL:=hQ_ (show(kF_ P.most x s1).2.st.length+(kF_ P.most x s1).2.fuel<=2999999 from by unfold kF_;split<;>(simp only;omega));have HPOP:=hQ_ (fun (W1:World)(hc:Chg [] W W1)=>xt_ (h.keep hc) hp);have HGR:=hQ_ (fun (w1:World)(vs1 vc1:Value)(k1:Eg P w1 vs1 vc1 s1)=>ziV k1 x);have HPU:=hQ_ (fun (w2:World)(vs2 vc2:Value)(k2:Eg P w2 vs2 vc2 (kF_ P.most x s1).2)=>xH_ k2 (kF_ P.most x s1).1 HL.o);obtain⟨G,hG⟩:∃G,G=kF_ P.most x s1:=⟨_,rfl⟩;rw[<-hG]at HGR HPU HS' HL;obtain⟨gp,hgp⟩:∃gp,gp=P.g:=⟨_,rfl⟩;have HGP:=hQ_ hgp;rw[<-hgp]at HPOP HPU k4⊢;clear h hp hs' hG hgp hr;go_enter Tryz.func134,Tryz.ntmps134;go_wp2_with fail;go_region_with (first
    | (go_at_call 55;refine(HPOP.o _ ((Chg.refl [] W).drew)).mono ?_;rintro e w1 ⟨rfl,⟨vs1,vc1,h1⟩,hf1⟩;have m4:w1.cell? ⟨gp,4,none⟩=some (.pointer (some ⟨P.p,0,none⟩)):=(by rw[HGP.o];exact h1.rec_.cell 4);have H1:=hQ_ h1;have HF1:=hQ_ ((Fe.of_chg ((Chg.refl [] W).drew)).trans hf1);clear h1 hf1)
    | (go_at_call 155;refine(HGR.o w1 vs1 vc1 H1.o).mono ?_;rintro e w2 ⟨rfl,H2,HF2⟩)
    | (go_at_call 132;refine(HPU.o w2 vs1 vc1 H2.o).mono ?_;rintro e w3 ⟨rfl,h3,hf3⟩;have HP:=hQ_ (show zu_ P W s' (.int .i64 0) (.returned (.int .i64 0)) w3 from⟨rfl,by rw[HS'.out];exact h3,(HF1.o.trans HF2.o).trans hf3⟩);clear h3 hf3));all_goals
     go_wp2_with fail;go_ret;exact HP.o
end
section
variable {P:EP} {W W':World} {vs vc:Value} {s:EgV}
theorem zdd {sg tr:Int}{s':EgV}(hs:sg=64\/sg=169)(h:Eg P W vs vc s)(hr:zbK P.most sg s=some (tr,s')):Calls Tryz.prog 134 #[.pointer (some ⟨P.g,0,none⟩),.int .i32 sg] W (zu_ P W s' (.int .i64 tr)):=by
 unfold zbK at hr;rw[if_neg (by omega)]at hr;cases hp:s.pop with
 | none=>rw[hp]at hr;cases hr
 | some q =>
   obtain⟨x,s1⟩:=q;rw[hp]at hr;simp only at hr;rw[if_neg (by omega),if_pos hs]at hr;obtain⟨wide,hw⟩:∃wide,wide=(sg==64):=⟨_,rfl⟩;have hwi:(if sg=64 then 8 else 1)=(if wide then 8 else 1):=(by rw[hw];simp);rw[hwi]at hr;obtain⟨o,ho⟩:∃o,o=zhS s1.L x (if wide then 8 else 1):=⟨_,rfl⟩;rw[<-ho]at hr;have k4:W.cell? ⟨P.g,4,none⟩=some (.pointer (some ⟨P.p,0,none⟩)):=h.rec_.cell 4;have hl:=zhl hp;have hsb:=h.stkb;have HL:=hQ_ (show s1.st.length+s1.fuel<=2999999 from by omega);have HPOP:=hQ_ (fun (W1:World)(hc:Chg [] W W1)=>xt_ (h.keep hc) hp);have HLD:=hQ_ (fun (w1:World)(vs1 vc1:Value)(k1:Eg P w1 vs1 vc1 s1)=>ziU k1 x wide);rw[<-ho]at HLD;have HPU:=hQ_ (fun (w2:World)(vs2 vc2:Value)(k2:Eg P w2 vs2 vc2 s1)(n:Int)=>xH_ k2 n HL.o);have HR:=hQ_ hr;obtain⟨gp,hgp⟩:∃gp,gp=P.g:=⟨_,rfl⟩;have HGP:=hQ_ hgp;rw[<-hgp]at HPOP HPU k4⊢;have hw2:(sg==64)=wide:=hw.symm;clear h hp hgp hr ho hwi hw;rcases hs with rfl|rfl <;>
   · go_enter Tryz.func134,Tryz.ntmps134;simp only[show((64:Int)==64)=true from rfl,show((169:Int)==64)=false from rfl]at hw2;subst hw2;go_wp2_with fail;go_region_with (first
      | (go_at_call 55;refine(HPOP.o _ ((Chg.refl [] W).drew)).mono ?_;rintro e w1 ⟨rfl,⟨vs1,vc1,h1⟩,hf1⟩;have m4:w1.cell? ⟨gp,4,none⟩=some (.pointer (some ⟨P.p,0,none⟩)):=(by rw[HGP.o];exact h1.rec_.cell 4);have H1:=hQ_ h1;have HF1:=hQ_ ((Fe.of_chg ((Chg.refl [] W).drew)).trans hf1);clear h1 hf1)
      | (go_at_call 156;refine(HLD.o w1 vs1 vc1 H1.o).mono ?_;rintro e w2 ⟨rfl,rfl⟩));all_goals
       cases o with
       | none =>
         have hre:=HR.o;simp only at hre;injection hre with hre;injection hre with hr1 hr2;have HP:=hQ_ (show zu_ P W s' (.int .i64 tr) (.returned (.int .i64 5)) w1 from by rw[<-hr1,<-hr2];exact⟨rfl,⟨_,_,H1.o⟩,HF1.o⟩);simp only[Option.getD_none,Option.isSome_none];clear hr1 hr2;go_wp2_with fail;go_ret;exact HP.o
       | some n =>
         have hre:=HR.o;simp only at hre;injection hre with hre;injection hre with hr1 hr2;have HPX:=hQ_ (HPU.o w1 vs1 vc1 H1.o n);have HE:=hQ_ (And.intro hr1 hr2);simp only[Option.getD_some,Option.isSome_some];clear hr1 hr2;go_wp2_with fail;refine HPX.o.mono ?_;rintro e w3 ⟨rfl,h3,hf3⟩;have HP:=hQ_ (show zu_ P W s' (.int .i64 tr) (.returned (.int .i64 0)) w3 from by rw[<-HE.o.1,<-HE.o.2];exact⟨rfl,h3,HF1.o.trans hf3⟩);clear h3 hf3;go_wp2_with fail;go_ret;exact HP.o
theorem zaA {sg tr:Int}{s':EgV}(hs:sg=36\/sg=174)(h:Eg P W vs vc s)(hr:zbK P.most sg s=some (tr,s')):Calls Tryz.prog 134 #[.pointer (some ⟨P.g,0,none⟩),.int .i32 sg] W (zu_ P W s' (.int .i64 tr)):=by
 unfold zbK at hr;rw[if_neg (by omega)]at hr;cases hp:s.pop with
 | none=>rw[hp]at hr;cases hr
 | some q =>
   obtain⟨x,s1⟩:=q;rw[hp]at hr;simp only at hr;rw[if_neg (by omega),if_neg (by omega)]at hr;cases hp2:s1.pop with
   | none=>rw[hp2]at hr;cases hr
   | some q =>
   obtain⟨k,s2⟩:=q;rw[hp2]at hr;simp only at hr;obtain⟨wide,hw⟩:∃wide,wide=(sg==36):=⟨_,rfl⟩;have hwi:(if sg=36 then 8 else 1)=(if wide then 8 else 1):=(by rw[hw];simp);have hwI:(if sg=36 then (8:Int) else 1)=(if wide then (8:Int) else 1):=(by rw[hw];simp);rw[hwi,hwI]at hr;have hq:tr=(if (kU_ wide k x s2).1 then 0 else 5)/\s'=(kU_ wide k x s2).2:=(by
    unfold kU_;by_cases hx:0<=k/\k+(if wide then 8 else 1)<=s2.L.length
    · rw[if_pos hx]at hr⊢;injection hr with hr;injection hr with h1 h2;exact⟨h1.symm,h2.symm⟩
    · rw[if_neg hx]at hr⊢;injection hr with hr;injection hr with h1 h2;exact⟨h1.symm,h2.symm⟩);have HR:=hQ_ hq;have k4:W.cell? ⟨P.g,4,none⟩=some (.pointer (some ⟨P.p,0,none⟩)):=h.rec_.cell 4;have HPOP:=hQ_ (xt_ h hp);have HPOP2:=hQ_ (fun (w1:World)(vs1 vc1:Value)(k1:Eg P w1 vs1 vc1 s1)=>xt_ k1 hp2);have HST:=hQ_ (fun (w1:World)(vs1 vc1:Value)(k1:Eg P w1 vs1 vc1 s2)=>zfA k1 k x wide);obtain⟨G,hG⟩:∃G,G=kU_ wide k x s2:=⟨_,rfl⟩;rw[<-hG]at HST HR;obtain⟨gp,hgp⟩:∃gp,gp=P.g:=⟨_,rfl⟩;have HGP:=hQ_ hgp;rw[<-hgp]at HPOP HPOP2 k4⊢;have hw2:(sg==36)=wide:=hw.symm;clear h hp hp2 hgp hr hwi hwI hw hq hG;rcases hs with rfl|rfl <;>
   · go_enter Tryz.func134,Tryz.ntmps134;simp only[show((36:Int)==36)=true from rfl,show((174:Int)==36)=false from rfl]at hw2;subst hw2;go_wp2_with fail;refine HPOP.o.mono ?_;rintro e w1 ⟨rfl,⟨vs1,vc1,h1⟩,hf1⟩;have m4:w1.cell? ⟨gp,4,none⟩=some (.pointer (some ⟨P.p,0,none⟩)):=(by rw[HGP.o];exact h1.rec_.cell 4);have H1:=hQ_ h1;have HF1:=hQ_ hf1;have HPD:=hQ_ (HPOP2.o w1.drew vs1 vc1 (h1.keep ((Chg.refl [] w1).drew)));clear h1 hf1;go_wp2_with fail;go_region_with (first
      | (go_at_call 55;refine HPD.o.mono ?_;rintro e w2 ⟨rfl,⟨vs2,vc2,h2⟩,hf2⟩;have n4:w2.cell? ⟨gp,4,none⟩=some (.pointer (some ⟨P.p,0,none⟩)):=(by rw[HGP.o];exact h2.rec_.cell 4);have H2:=hQ_ h2;have HF2:=hQ_ ((HF1.o.new ((Chg.refl [] w1).drew)).trans hf2);clear h2 hf2)
      | (go_at_call 157;refine(HST.o w2 vs2 vc2 H2.o).mono ?_;rintro e w3 ⟨rfl,H3,HF3⟩));all_goals
       have HP:=hQ_ (show zu_ P W s' (.int .i64 tr) (.returned (.int .i64 (if G.1 then 0 else 5))) w3 from by rw[HR.o.1,HR.o.2];exact⟨rfl,⟨_,_,H3.o⟩,HF2.o.trans HF3.o⟩);generalize G.1=b at HP⊢;cases b <;>
       · go_wp2_with fail;go_ret;exact HP.o
theorem znt {sg tr:Int}{s':EgV}(hs:sg=35\/sg=164\/sg=64\/sg=169\/sg=36\/sg=174)(h:Eg P W vs vc s)(hr:zbK P.most sg s=some (tr,s'))(hroom:s.st.length+s.fuel<=2999999):Calls Tryz.prog 134 #[.pointer (some ⟨P.g,0,none⟩),.int .i32 sg] W (zu_ P W s' (.int .i64 tr)):=by
 rcases hs with rfl|rfl|hs|hs|hs|hs
 · exact zpb h hr hroom
 · exact znu h hr
 · exact zdd (.inl hs) h hr
 · exact zdd (.inr hs) h hr
 · exact zaA (.inl hs) h hr
 · exact zaA (.inr hs) h hr
end
section
variable {P:EP} {W W':World} {vs vc:Value} {s:EgV}
theorem kk_ {x:TkV}(h:Eg P W vs vc s):Eg P (W.alloc (.cells #[.int .i32 x.sign,.int .i64 x.n,.int .i32 x.name] 132)) vs vc s:=h.keep ((Chg.refl [] W).alloc _)
def xT_ (P:EP)(W:World)(t:TkV)(go:Int)(tr:Int)(s':EgV):Prop:=Calls Tryz.prog 93 #[.pointer (some ⟨P.g,0,none⟩),.agg (tkC t).toArray,.int .i64 go] W (zu_ P W s' (.int .i64 tr))
theorem zu_.boxed {o:Obj}{s':EgV}{r:Value}{e:Ending}{w':World}(h:zu_ P (W.alloc o) s' r e w'):zu_ P W s' r e w':=⟨h.1,h.2.1,(Fe.of_chg ((Chg.refl [] W).alloc o)).trans h.2.2⟩
theorem ziO {n nm go:Int}(h:Eg P W vs vc s)(hroom:s.st.length+s.fuel<=2999999):xT_ P W ⟨48,n,nm⟩ go 0 (s.push n):=by
 unfold xT_;simp only[tkC];have hN:=zb_.new W 132 [.int .i32 48,.int .i64 n,.int .i32 nm];have HPU:=hQ_ (xH_ (kk_ (x:=⟨48,n,nm⟩) h) n hroom);generalize P.g=gp at *;have t0:=hN.cell 0;have t1:=hN.cell 1;clear h hN;go_enter Tryz.func93,Tryz.ntmps93;go_wp2_with fail;refine HPU.o.mono ?_;rintro e w2 ⟨rfl,h2,hf2⟩;have HP:=hQ_ (zu_.boxed (show zu_ P _ (s.push n) (.int .i64 0) (.returned (.int .i64 0)) w2 from⟨rfl,h2,hf2⟩));clear h2 hf2;go_wp2_with fail;go_ret;exact HP.o
theorem zfD {x n nm go:Int}{s':EgV}(h:Eg P W vs vc s)(hp:s.pop=some (x,s')):xT_ P W ⟨44,n,nm⟩ go 0 s':=by
 unfold xT_;simp only[tkC];have hN:=zb_.new W 132 [.int .i32 44,.int .i64 n,.int .i32 nm];have HPU:=hQ_ (xt_ (kk_ (x:=⟨44,n,nm⟩) h) hp);generalize P.g=gp at *;have t0:=hN.cell 0;clear h hN hp;go_enter Tryz.func93,Tryz.ntmps93;go_wp2_with fail;refine HPU.o.mono ?_;rintro e w2 ⟨rfl,h2,hf2⟩;have HP:=hQ_ (zu_.boxed (show zu_ P _ s' (.int .i64 0) (.returned (.int .i64 0)) w2 from⟨rfl,h2,hf2⟩));clear h2 hf2;go_wp2_with fail;go_ret;exact HP.o
theorem zfB {n nm go:Int}(h:Eg P W vs vc s):xT_ P W ⟨161,n,nm⟩ go 2 s:=by
 unfold xT_;simp only[tkC];have hN:=zb_.new W 132 [.int .i32 161,.int .i64 n,.int .i32 nm];have HP:=hQ_ (zu_.of_chg (r:=.int .i64 2) h ((Chg.refl [] W).alloc (.cells #[.int .i32 161,.int .i64 n,.int .i32 nm] 132)));generalize P.g=gp at *;have t0:=hN.cell 0;clear h hN;go_enter Tryz.func93,Tryz.ntmps93;go_wp2_with fail;go_ret;exact HP.o
theorem kI_ {sg n nm go:Int}{s':EgV}(hs:sg=63\/sg=58\/sg=59\/sg=91\/sg=93\/sg=126)(HT:Calls Tryz.prog 133 #[.pointer (some ⟨P.g,0,none⟩),.int .i32 sg,.int .i64 go] (W.alloc (.cells #[.int .i32 sg,.int .i64 n,.int .i32 nm] 132)) (zu_ P (W.alloc (.cells #[.int .i32 sg,.int .i64 n,.int .i32 nm] 132)) s' (.tuple #[]))):xT_ P W ⟨sg,n,nm⟩ go 0 s':=by
 unfold xT_;simp only[tkC];have hN:=zb_.new W 132 [.int .i32 sg,.int .i64 n,.int .i32 nm];have HTT:=hQ_ HT;generalize P.g=gp at *;have t0:=hN.cell 0;clear hN HT;rcases hs with rfl|rfl|rfl|rfl|rfl|rfl <;>
 · go_enter Tryz.func93,Tryz.ntmps93;go_wp2_with fail;refine HTT.o.mono ?_;rintro e w2 ⟨rfl,h2,hf2⟩;have HP:=hQ_ (zu_.boxed (show zu_ P _ s' (.int .i64 0) (.returned (.int .i64 0)) w2 from⟨rfl,h2,hf2⟩));clear h2 hf2;go_wp2_with fail;go_ret;exact HP.o
theorem ziP {sg n nm go tr:Int}{s':EgV}(hs:sg=35\/sg=164\/sg=64\/sg=169\/sg=36\/sg=174)(HT:Calls Tryz.prog 134 #[.pointer (some ⟨P.g,0,none⟩),.int .i32 sg] (W.alloc (.cells #[.int .i32 sg,.int .i64 n,.int .i32 nm] 132)) (zu_ P (W.alloc (.cells #[.int .i32 sg,.int .i64 n,.int .i32 nm] 132)) s' (.int .i64 tr))):xT_ P W ⟨sg,n,nm⟩ go tr s':=by
 unfold xT_;simp only[tkC];have hN:=zb_.new W 132 [.int .i32 sg,.int .i64 n,.int .i32 nm];have HTT:=hQ_ HT;generalize P.g=gp at *;have t0:=hN.cell 0;clear hN HT;rcases hs with rfl|rfl|rfl|rfl|rfl|rfl <;>
 · go_enter Tryz.func93,Tryz.ntmps93;go_wp2_with fail;refine HTT.o.mono ?_;rintro e w2 ⟨rfl,h2,hf2⟩;have HP:=hQ_ (zu_.boxed (show zu_ P _ s' (.int .i64 tr) (.returned (.int .i64 tr)) w2 from⟨rfl,h2,hf2⟩));clear h2 hf2;go_wp2_with fail;go_ret;exact HP.o
theorem ziR {n nm go tr:Int}{s':EgV}(HT:Calls Tryz.prog 136 #[.pointer (some ⟨P.g,0,none⟩),.int .i32 nm] (W.alloc (.cells #[.int .i32 960,.int .i64 n,.int .i32 nm] 132)) (zu_ P (W.alloc (.cells #[.int .i32 960,.int .i64 n,.int .i32 nm] 132)) s' (.int .i64 tr))):xT_ P W ⟨960,n,nm⟩ go tr s':=by
 unfold xT_;simp only[tkC];have hN:=zb_.new W 132 [.int .i32 960,.int .i64 n,.int .i32 nm];have HTT:=hQ_ HT;generalize P.g=gp at *;have t0:=hN.cell 0;have t2:=hN.cell 2;clear hN HT;go_enter Tryz.func93,Tryz.ntmps93;go_wp2_with fail;refine HTT.o.mono ?_;rintro e w2 ⟨rfl,h2,hf2⟩;have HP:=hQ_ (zu_.boxed (show zu_ P _ s' (.int .i64 tr) (.returned (.int .i64 tr)) w2 from⟨rfl,h2,hf2⟩));clear h2 hf2;go_wp2_with fail;go_ret;exact HP.o
end
section
variable {P:EP} {W W':World} {vs vc:Value} {s:EgV}
theorem ziQ {x n nm go:Int}(h:Eg P W vs vc s)(hx:s.st.getLast?=some x)(hroom:s.st.length+s.fuel<=2999999):xT_ P W ⟨46,n,nm⟩ go 0 (s.push x):=by
 unfold xT_;simp only[tkC];have hpop:s.pop=some (x,⟨s.fuel,s.st.dropLast,s.cs,s.L,s.V,s.qs⟩):=by unfold EgV.pop;rw[hx]
 obtain⟨st,hst,_⟩:=xI_ hpop;have hN:=zb_.new W 132 [.int .i32 46,.int .i64 n,.int .i32 nm];have hal:Chg [] W (W.alloc (.cells #[.int .i32 46,.int .i64 n,.int .i32 nm] 132)):=(Chg.refl [] W).alloc _;have t0:=hN.cell 0;have HH:=hQ_ h;have HST:=hQ_ hst;have HAL:=hQ_ hal;have HR:=hQ_ hroom;have hl:st.length<=3000000:=by have hb:=h.stkb;rw[hst]at hb;simp at hb;omega
 obtain⟨gp,hgp⟩:∃gp,gp=P.g:=⟨_,rfl⟩;have HGP:=hQ_ hgp;rw[<-hgp];obtain⟨s',hs'⟩:∃s',s'=s.push x:=⟨_,rfl⟩;have HS':=hQ_ hs';rw[<-hs'];clear h hst hal hN hpop hx hgp hs' hroom;go_enter Tryz.func93,Tryz.ntmps93;go_upto_region 6 with fail;generalize W.alloc (.cells #[.int .i32 46,.int .i64 n,.int .i32 nm] 132)=w1 at HAL⊢;clear t0;have h1:=HH.o.keep HAL.o;obtain⟨gs,c,rfl,hc,hx1⟩:=h1.top HST.o;have k7:w1.cell? ⟨gp,7,none⟩=some (.slice (some ⟨gs,0,none⟩) (st.length+1) c):=by rw[HGP.o];exact h1.rec_.cell 7
 have HPU:=hQ_ (xH_ (h1.keep ((Chg.refl [] w1).drew)) x HR.o);rw[<-HGP.o,<-HS'.out]at HPU;clear h1;generalize st.length=q at *;have hsub:IntKind.i64.wrap (((q+1:Nat):Int)-1)=(q:Int):=by rw[IntWalk.i64_in _ (by omega)];omega
 have hq0:(0:Int)<=(q:Int):=by omega
 have hq1:(q:Int)<((q+1:Nat):Int):=by omega
 have hk1:IntKind.i64.wrap ((q:Int)+1-1)=(q:Int):=by rw[show(q:Int)+1-1=(q:Int) from by omega];exact IntWalk.i64_in _ (by omega)
 have hk2:IntKind.i64.wrap (q:Int)=(q:Int):=IntWalk.i64_in _ (by omega);have hk3:(q:Int).toNat=q:=Int.toNat_natCast _;have hk5:(q:Int)<(q:Int)+1:=by omega
 have d7:w1.drew.cell? ⟨gp,7,none⟩=some (.slice (some ⟨gs,0,none⟩) (q+1) c):=k7;have dx:w1.drew.cell? ⟨gs,q,none⟩=some (.int .i64 x):=hx1;go_still_tail 13,(by kernel_rfl);change wpList _ _ _ _ _ w1.drew;go_wp2_with fail;refine HPU.o.mono ?_;rintro e w2 ⟨rfl,h2,hf2⟩;have HP:=hQ_ (show zu_ P W s' (.int .i64 0) (.returned (.int .i64 0)) w2 from⟨rfl,h2,(Fe.of_chg (HAL.o.drew)).trans hf2⟩);clear h2 hf2;go_wp2_with fail;go_ret;exact HP.o
theorem zfE {n nm go tr:Int}{s':EgV}(h:Eg P W vs vc s)(HT:∀w1,Chg [] W w1->Calls Tryz.prog 135 #[.pointer (some ⟨P.g,0,none⟩),.int .i64 (yY_ P.us nm)] w1 (zu_ P w1 s' (.int .i64 tr))):xT_ P W ⟨955,n,nm⟩ go tr s':=by
 unfold xT_;simp only[tkC];have hN:=zb_.new W 132 [.int .i32 955,.int .i64 n,.int .i32 nm];have hal:Chg [] W (W.alloc (.cells #[.int .i32 955,.int .i64 n,.int .i32 nm] 132)):=(Chg.refl [] W).alloc _;have t0:=hN.cell 0;have HH:=hQ_ h;have HAL:=hQ_ hal;have HTT:=hQ_ HT;have HN:=hQ_ hN;obtain⟨gp,hgp⟩:∃gp,gp=P.g:=⟨_,rfl⟩;have HGP:=hQ_ hgp;rw[<-hgp]at HTT⊢;clear h hal hN hgp HT;go_enter Tryz.func93,Tryz.ntmps93;go_upto_region 24 with fail;generalize hw1:W.alloc (.cells #[.int .i32 955,.int .i64 n,.int .i32 nm] 132)=w1 at HAL HN t0⊢;have H1:=hQ_ (HH.o.keep HAL.o);have t2:w1.cell? ⟨W.heap.size,2,none⟩=some (.int .i32 nm):=HN.o.cell 2;have k0:w1.cell? ⟨gp,0,none⟩=some (.int .i64 P.pages):=by rw[HGP.o];exact H1.o.rec_.cell 0
 have k1:w1.cell? ⟨gp,1,none⟩=some (.int .i64 P.mst):=by rw[HGP.o];exact H1.o.rec_.cell 1
 have k2:w1.cell? ⟨gp,2,none⟩=some (.slice P.A P.n P.c):=by rw[HGP.o];exact H1.o.rec_.cell 2
 have HFI:=hQ_ (vf_ (pages:=P.pages) (most:=P.mst) (H1.o.keep ((Chg.refl [] w1).drew)).fns nm);unfold yH_ at HFI;clear t0 hw1;generalize W.heap.size=gt at *;go_region_with (first
  | (go_at_call 50;refine HFI.o.mono ?_;rintro e w2 ⟨rfl,hc2⟩;have HC2:=hQ_ ((HAL.o.drew).new hc2);clear hc2)
  | (go_at_call 135;refine(HTT.o w2 HC2.o).mono ?_;rintro e w3 ⟨rfl,h3,hf3⟩;have HP:=hQ_ (show zu_ P W s' (.int .i64 tr) (.returned (.int .i64 tr)) w3 from⟨rfl,h3,(Fe.of_chg HC2.o).trans hf3⟩);clear h3 hf3));all_goals
   go_wp2_with fail;go_ret;exact HP.o
theorem zfC {sg n nm go tr:Int}{s':EgV}(hs:sg≠48/\sg≠46/\sg≠44/\sg≠63/\sg≠58/\sg≠59/\sg≠91/\sg≠93/\sg≠126/\sg≠35/\sg≠164/\sg≠64/\sg≠169/\sg≠36/\sg≠174/\sg≠955/\sg≠960/\sg≠161)(HT:Calls Tryz.prog 137 #[.pointer (some ⟨P.g,0,none⟩),.int .i32 sg] (W.alloc (.cells #[.int .i32 sg,.int .i64 n,.int .i32 nm] 132)) (zu_ P (W.alloc (.cells #[.int .i32 sg,.int .i64 n,.int .i32 nm] 132)) s' (.int .i64 tr))):xT_ P W ⟨sg,n,nm⟩ go tr s':=by
 unfold xT_;simp only[tkC];have hN:=zb_.new W 132 [.int .i32 sg,.int .i64 n,.int .i32 nm];have HTT:=hQ_ HT;generalize P.g=gp at *;have t0:=hN.cell 0;obtain⟨h1,h2,h3,h4,h5,h6,h7,h8,h9,h10,h11,h12,h13,h14,h15,h16,h17,h18⟩:=hs;have q1:(sg==48)=false:=by simpa using h1
 have q2:(sg==46)=false:=by simpa using h2
 have q3:(sg==44)=false:=by simpa using h3
 have q4:(sg==63)=false:=by simpa using h4
 have q5:(sg==58)=false:=by simpa using h5
 have q6:(sg==59)=false:=by simpa using h6
 have q7:(sg==91)=false:=by simpa using h7
 have q8:(sg==93)=false:=by simpa using h8
 have q9:(sg==126)=false:=by simpa using h9
 have q10:(sg==35)=false:=by simpa using h10
 have q11:(sg==164)=false:=by simpa using h11
 have q12:(sg==64)=false:=by simpa using h12
 have q13:(sg==169)=false:=by simpa using h13
 have q14:(sg==36)=false:=by simpa using h14
 have q15:(sg==174)=false:=by simpa using h15
 have q16:(sg==955)=false:=by simpa using h16
 have q17:(sg==960)=false:=by simpa using h17
 have q18:(sg==161)=false:=by simpa using h18
 clear hN HT h1 h2 h3 h4 h5 h6 h7 h8 h9 h10 h11 h12 h13 h14 h15 h16 h17 h18;go_enter Tryz.func93,Tryz.ntmps93;go_wp2_with fail;refine HTT.o.mono ?_;rintro e w2 ⟨rfl,h2,hf2⟩;have HP:=hQ_ (zu_.boxed (show zu_ P _ s' (.int .i64 tr) (.returned (.int .i64 tr)) w2 from⟨rfl,h2,hf2⟩));clear h2 hf2;go_wp2_with fail;go_ret;exact HP.o
theorem ziS {t:TkV}{go tr:Int}{s':EgV}(h:Eg P W vs vc s)(hr:kb_ P.us P.cd P.rs P.most t go s=some (tr,s'))(hroom:s.st.length+s.fuel<=2999999)(hq:s.qs.length+s.fuel<=899999999):xT_ P W t go tr s':=by
 obtain⟨sg,n,nm⟩:=t;have hb:=kk_ (x:=⟨sg,n,nm⟩) h;simp only at hb;have fin:∀{q:Option EgV},q.map (fun z=>((0:Int),z))=some (tr,s')->q=some s'/\tr=0:=fun {q} hh=>by
  cases q with
  | none=>cases hh
  | some z=>simp only[Option.map_some]at hh;injection hh with hh;injection hh with h1 h2;exact⟨by rw[h2],h1.symm⟩
 unfold kb_ at hr;simp only at hr;by_cases c1:sg=48
 · subst c1;rw[if_pos rfl]at hr;injection hr with hr;injection hr with h1 h2;subst h1;subst h2;exact ziO h hroom
 rw[if_neg c1]at hr;by_cases c2:sg=46
 · subst c2;rw[if_pos rfl]at hr;cases hx:s.st.getLast? with
   | none=>rw[hx]at hr;cases hr
   | some x =>
     rw[hx]at hr;injection hr with hr;injection hr with h1 h2;subst h1;subst h2;exact ziQ h hx hroom
 rw[if_neg c2]at hr;by_cases c3:sg=44
 · subst c3;rw[if_pos rfl]at hr;cases hp:s.pop with
   | none=>rw[hp]at hr;cases hr
   | some q =>
     rw[hp]at hr;simp only[Option.map_some]at hr;injection hr with hr;injection hr with h1 h2;subst h1;subst h2;exact zfD h hp
 rw[if_neg c3]at hr;by_cases c4:sg=63
 · subst c4;rw[if_pos rfl]at hr;cases hp:s.pop with
   | none=>rw[hp]at hr;cases hr
   | some q =>
     obtain⟨x,s1⟩:=q;rw[hp]at hr;simp only at hr;have hj:(if x=0 then s1.jump go else some s1)=some s'/\tr=0:=(by
      by_cases hx:x=0
      · rw[if_pos hx]at hr⊢;exact fin hr
      · rw[if_neg hx]at hr⊢;injection hr with hr;injection hr with h1 h2;exact⟨by rw[h2],h1.symm⟩);obtain⟨hj,rfl⟩:=hj;exact kI_ (.inl rfl) (zkd hb hp hj)
 rw[if_neg c4]at hr;by_cases c5:sg=58\/sg=93\/sg=126
 · rw[if_pos c5]at hr;obtain⟨hj,rfl⟩:=fin hr;exact kI_ (by omega) (zmZ hb hj c5)
 rw[if_neg c5]at hr;by_cases c6:sg=59\/sg=91
 · rw[if_pos c6]at hr;injection hr with hr;injection hr with h1 h2;subst h1;subst h2;exact kI_ (by omega) (zkc hb c6)
 rw[if_neg c6]at hr;by_cases c7:sg=35\/sg=164\/sg=64\/sg=169\/sg=36\/sg=174
 · rw[if_pos c7]at hr;exact ziP c7 (znt c7 hb hr hroom)
 rw[if_neg c7]at hr;by_cases c8:sg=955
 · subst c8;rw[if_pos rfl]at hr;refine zfE h fun w1 hc1=>?_;by_cases hd:32<=s.cs.length
   · rw[if_pos hd]at hr;injection hr with hr;injection hr with h1 h2;subst h1;subst h2;exact zfG (h.keep hc1) hd _
   · rw[if_neg hd]at hr;by_cases hf:yY_ P.us nm<0
     · rw[if_pos hf]at hr;cases hr
     · rw[if_neg hf]at hr;obtain⟨hj,rfl⟩:=fin hr;have:=zlG (h.keep hc1) hj (by omega);rwa[Int.toNat_of_nonneg (by omega)]at this
 rw[if_neg c8]at hr;by_cases c9:sg=960
 · subst c9;rw[if_pos rfl]at hr;cases hp:s.pop with
   | none=>rw[hp]at hr;cases hr
   | some q =>
     obtain⟨x,s1⟩:=q;rw[hp]at hr;simp only at hr;have he:zpU P.rs nm x s1=(tr,s'):=by
      unfold zpU askO;cases ho:zoS P.rs s1.qs.length with
      | none=>rw[ho]at hr;simp only at hr;injection hr
      | some y=>rw[ho]at hr;simp only at hr;injection hr
     have:=zlJ hb hp nm hq;rw[he]at this;exact ziR this
 rw[if_neg c9]at hr;by_cases c10:sg=161
 · subst c10;rw[if_pos rfl]at hr;injection hr with hr;injection hr with h1 h2;subst h1;subst h2;exact zfB h
 rw[if_neg c10]at hr;refine zfC (by omega) ?_;by_cases l1:97<=sg/\sg<=122
 · exact zkO hb l1 hr hroom
 by_cases l2:65<=sg/\sg<=90
 · exact znv hb l2 hr
 · exact zhb hb l1 l2 hr
end
theorem uV_ {s s1:EgV}{x:Int}(h:s.pop=some (x,s1)):s1.fuel=s.fuel:=by
 unfold EgV.pop at h;split at h
 · cases h
 · injection h with h;injection h with _ h;subst h;rfl
theorem zic {s s1:EgV}{v:Int}(h:s.jump v=some s1):s1.fuel=s.fuel:=by
 unfold EgV.jump at h;split at h
 · cases h
 · split at h
   · cases h
   · injection h with h;subst h;rfl
theorem zoo {cd:List CodeV}{k:Nat}{s s1:EgV}(h:uG_ cd k s=some s1):s1.fuel=s.fuel:=by
 unfold uG_ at h;split at h
 · cases h
 · split at h
   · cases h
   · injection h with h;subst h;rfl
theorem zph {most:Nat}{sg tr:Int}{s s1:EgV}(h:zbK most sg s=some (tr,s1)):s1.fuel=s.fuel:=by
 unfold zbK at h;split at h
 · injection h with h;injection h with _ h;subst h;rfl
 · split at h
   · cases h
   · rename_i x s2 hp;have e:=uV_ hp;split at h
     · split at h<;>(injection h with h;injection h with _ h;subst h;exact e)
     · split at h
       · split at h<;>(injection h with h;injection h with _ h;subst h;exact e)
       · split at h
         · cases h
         · rename_i k s3 hp3;have e3:=uV_ hp3;by_cases hc:0<=k/\k+(if sg=36 then 8 else 1)<=(s3.L.length:Int)
           · rw[if_pos hc]at h;injection h with h;injection h with _ h;subst h;exact e3.trans e
           · rw[if_neg hc]at h;injection h with h;injection h with _ h;subst h;exact e3.trans e
theorem zgZ {sg tr:Int}{s s1:EgV}(h:y1_ sg s=some (tr,s1)):s1.fuel=s.fuel:=by
 unfold y1_ at h;split at h
 · split at h
   · cases h
   · split at h
     · cases h
     · injection h with h;injection h with _ h;subst h;rfl
 · split at h
   · split at h
     · cases h
     · rename_i x s2 hp;have e:=uV_ hp;split at h
       · cases h
       · injection h with h;injection h with _ h;subst h;exact e
   · have hb:∀b s2,(if sg=33 then some ((0:Int),s) else s.pop)=some (b,s2)->s2.fuel=s.fuel:=fun b s2 hh=>(by
      by_cases h33:sg=33
      · rw[if_pos h33]at hh;injection hh with hh;injection hh with _ hh;subst hh;rfl
      · rw[if_neg h33]at hh;exact uV_ hh);generalize (if sg=33 then some ((0:Int),s) else s.pop)=q at h hb;cases q with
     | none=>cases h
     | some q =>
       obtain⟨b,s2⟩:=q;have e:=hb b s2 rfl;simp only at h;split at h
       · cases h
       · rename_i a s3 hp;have e3:=uV_ hp;injection h with h;injection h with _ h;subst h;split
         · exact e3.trans e
         · exact e3.trans e
theorem zgE {us:List FnV}{cd:List CodeV}{rs:List (Option Int)}{most:Nat}{t:TkV}{v tr:Int}{s s1:EgV}(h:kb_ us cd rs most t v s=some (tr,s1)):s1.fuel=s.fuel:=by
 have fin:∀{q:Option EgV},(∀z,q=some z->z.fuel=s.fuel)->q.map (fun z=>((0:Int),z))=some (tr,s1)->s1.fuel=s.fuel:=fun {q} hq hh=>by
  cases q with
  | none=>cases hh
  | some z=>simp only[Option.map_some]at hh;injection hh with hh;injection hh with _ hh;subst hh;exact hq z rfl
 unfold kb_ at h;by_cases c1:t.sign=48
 · rw[if_pos c1]at h;injection h with h;injection h with _ h;subst h;rfl
 rw[if_neg c1]at h;by_cases c2:t.sign=46
 · rw[if_pos c2]at h;split at h
   · cases h
   · injection h with h;injection h with _ h;subst h;rfl
 rw[if_neg c2]at h;by_cases c3:t.sign=44
 · rw[if_pos c3]at h;cases hp:s.pop with
   | none=>rw[hp]at h;cases h
   | some q =>
     obtain⟨x,s2⟩:=q;rw[hp]at h;simp only[Option.map_some]at h;injection h with h;injection h with _ h;subst h;exact uV_ hp
 rw[if_neg c3]at h;by_cases c4:t.sign=63
 · rw[if_pos c4]at h;split at h
   · cases h
   · rename_i x s2 hp;have e:=uV_ hp;split at h
     · exact fin (fun z hz=>(zic hz).trans e) h
     · injection h with h;injection h with _ h;subst h;exact e
 rw[if_neg c4]at h;by_cases c5:t.sign=58\/t.sign=93\/t.sign=126
 · rw[if_pos c5]at h;exact fin (fun z hz=>zic hz) h
 rw[if_neg c5]at h;by_cases c6:t.sign=59\/t.sign=91
 · rw[if_pos c6]at h;injection h with h;injection h with _ h;subst h;rfl
 rw[if_neg c6]at h;by_cases c7:t.sign=35\/t.sign=164\/t.sign=64\/t.sign=169\/t.sign=36\/t.sign=174
 · rw[if_pos c7]at h;exact zph h
 rw[if_neg c7]at h;by_cases c8:t.sign=955
 · rw[if_pos c8]at h;split at h
   · injection h with h;injection h with _ h;subst h;rfl
   · split at h
     · cases h
     · exact fin (fun z hz=>zoo hz) h
 rw[if_neg c8]at h;by_cases c9:t.sign=960
 · rw[if_pos c9]at h;split at h
   · cases h
   · rename_i x s2 hp;have e:=uV_ hp;split at h
     · injection h with h;injection h with _ h;subst h;exact e
     · injection h with h;injection h with _ h;subst h;exact e
 rw[if_neg c9]at h;by_cases c10:t.sign=161
 · rw[if_pos c10]at h;injection h with h;injection h with _ h;subst h;rfl
 · rw[if_neg c10]at h;exact zgZ h
inductive OneR where
  | stuck
  | stop (r:Int×EgV)
  | on (s:EgV)
def zfJ (us:List FnV) (cd:List CodeV) (rs:List (Option Int)) (most:Nat) (s:EgV):OneR:=match s.cs.getLast? with
  | none=>.stop (0,s)
  | some c=>match cd[c.fn]? with
    | none=>.stuck
    | some f=>if c.next=f.ts.length then .on (s.calls s.cs.dropLast)
      else if s.fuel=0 then .stop (1,s)
      else match f.ts[c.next]?,f.go[c.next]? with
        | some t,some go=>(match kb_ us cd rs most t go ⟨s.fuel-1,s.st,s.cs.dropLast++[c.at_ (c.next+1)],s.L,s.V,s.qs⟩ with
          | none=>.stuck
          | some (trap,s')=>if trap=0 then .on s' else .stop (trap,s'))
        | _,_=>.stuck
theorem gN_ {us:List FnV}{cd:List CodeV}{rs:List (Option Int)}{most n:Nat}{s:EgV}:ziX us cd rs most (n+1) s=match zfJ us cd rs most s with
    | .stuck=>none
    | .stop r=>some r
    | .on s'=>ziX us cd rs most n s':=by
       rw[ziX,zfJ];cases hc:s.cs.getLast? with
       | none=>rfl
       | some c =>
         simp only;cases hf:cd[c.fn]? with
         | none=>rfl
         | some f =>
           simp only;by_cases h1:c.next=f.ts.length
           · rw[if_pos h1,if_pos h1]
           rw[if_neg h1,if_neg h1];by_cases h2:s.fuel=0
           · rw[if_pos h2,if_pos h2]
           rw[if_neg h2,if_neg h2];cases ht:f.ts[c.next]? with
           | none=>rfl
           | some t =>
             cases hg:f.go[c.next]? with
             | none=>rfl
             | some go =>
               simp only;cases hs:kb_ us cd rs most t go ⟨s.fuel-1,s.st,s.cs.dropLast++[c.at_ (c.next+1)],s.L,s.V,s.qs⟩ with
               | none=>rfl
               | some q =>
                 obtain⟨tr,s'⟩:=q;simp only;by_cases h3:tr=0
                 · rw[if_pos h3,if_pos h3]
                 · rw[if_neg h3,if_neg h3]
theorem ziY {us:List FnV}{cd:List CodeV}{rs:List (Option Int)}{most:Nat}{s s':EgV}(h:zfJ us cd rs most s=.on s'):2*s'.fuel+s'.cs.length<2*s.fuel+s.cs.length:=by
 unfold zfJ at h;split at h
 · cases h
 · rename_i c hc;have hcl:0<s.cs.length:=List.length_pos_iff.2 (fun e=>by rw[e]at hc;simp at hc);split at h
   · cases h
   · split at h
     · injection h with h;subst h;simp[EgV.calls];omega
     · split at h
       · cases h
       · rename_i hf0;split at h
         · split at h
           · cases h
           · rename_i tr s2 hs;split at h
             · injection h with h;subst h;have e1:=zgE hs;have e2:=zgF hs;simp only[List.length_append,List.length_dropLast,List.length_singleton]at e1 e2;omega
             · cases h
         · cases h
inductive Rn (us:List FnV) (cd:List CodeV) (rs:List (Option Int)) (most:Nat):EgV->Int×EgV->Prop
  | stop {s:EgV} {r:Int×EgV}:zfJ us cd rs most s=.stop r->Rn us cd rs most s r
  | on {s s':EgV} {r:Int×EgV}:zfJ us cd rs most s=.on s'->Rn us cd rs most s' r->Rn us cd rs most s r
theorem Rn.run {us:List FnV}{cd:List CodeV}{rs:List (Option Int)}{most:Nat}{s:EgV}{r:Int×EgV}(h:Rn us cd rs most s r):∀n,2*s.fuel+s.cs.length<n->ziX us cd rs most n s=some r:=by
 induction h with
 | stop h =>
   intro n hn;obtain⟨m,rfl⟩:∃m,n=m+1:=⟨n-1,by omega⟩;rw[gN_,h]
 | on h _ ih =>
   intro n hn;obtain⟨m,rfl⟩:∃m,n=m+1:=⟨n-1,by omega⟩;rw[gN_,h];exact ih m (by have:=ziY h;omega)
theorem Rn.of_run {us:List FnV}{cd:List CodeV}{rs:List (Option Int)}{most:Nat}:∀(n:Nat){s:EgV}{r:Int×EgV},ziX us cd rs most n s=some r->Rn us cd rs most s r
  | 0,s,r,h=>by rw[ziX]at h;cases h
  | n+1,s,r,h=>by
    rw[gN_]at h;cases h1:zfJ us cd rs most s with
    | stuck=>rw[h1]at h;cases h
    | stop q=>rw[h1]at h;injection h with h;subst h;exact .stop h1
    | on s'=>rw[h1]at h;exact .on h1 (Rn.of_run n h)
theorem zht {P:EP} {s:EgV} {r:Int×EgV} (h:Rn P.us P.cd P.rs P.most s r):(s.cs=[]/\r=(0,s))\/∃ys c x,s.cs=ys++[c]/\P.xs[c.fn]?=some x /\
    ((c.next=x.c.ts.length/\Rn P.us P.cd P.rs P.most (s.calls ys) r)\/(c.next≠x.c.ts.length/\s.fuel=0/\r=(1,s)) \/
      (c.next≠x.c.ts.length/\s.fuel≠0/\∃t go tr s3,x.c.ts[c.next]?=some t/\x.c.go[c.next]?=some go/\kb_ P.us P.cd P.rs P.most t go ⟨s.fuel-1,s.st,ys++[c.at_ (c.next+1)],s.L,s.V,s.qs⟩=some (tr,s3) /\
        ((tr=0/\Rn P.us P.cd P.rs P.most s3 r)\/(tr≠0/\r=(tr,s3))))):=by
           have key:∀R,zfJ P.us P.cd P.rs P.most s=R->(R=.stop r\/∃s',R=.on s'/\Rn P.us P.cd P.rs P.most s' r)->(s.cs=[]/\r=(0,s))\/∃ys c x,s.cs=ys++[c]/\P.xs[c.fn]?=some x /\
             ((c.next=x.c.ts.length/\Rn P.us P.cd P.rs P.most (s.calls ys) r)\/(c.next≠x.c.ts.length/\s.fuel=0/\r=(1,s)) \/
               (c.next≠x.c.ts.length/\s.fuel≠0/\∃t go tr s3,x.c.ts[c.next]?=some t/\x.c.go[c.next]?=some go/\kb_ P.us P.cd P.rs P.most t go ⟨s.fuel-1,s.st,ys++[c.at_ (c.next+1)],s.L,s.V,s.qs⟩=some (tr,s3) /\
                 ((tr=0/\Rn P.us P.cd P.rs P.most s3 r)\/(tr≠0/\r=(tr,s3))))):=by
             intro R hR hq;unfold zfJ at hR;cases hl:s.cs.getLast? with
             | none =>
               rw[hl]at hR;simp only at hR;subst hR;refine .inl ⟨by simpa using hl,?_⟩;rcases hq with hq|⟨s',hq,_⟩
               · injection hq with hq;exact hq.symm
               · cases hq
             | some c =>
               obtain⟨ys,hcs,hdl⟩:=vQ_ hl;rw[hl,hdl]at hR;simp only at hR;unfold EP.cd at hR;rw[List.getElem?_map]at hR;cases hx:P.xs[c.fn]? with
               | none =>
                 rw[hx]at hR;simp only[Option.map_none]at hR;subst hR;rcases hq with hq|⟨s',hq,_⟩<;>cases hq
               | some x =>
                 rw[hx]at hR;simp only[Option.map_some]at hR;refine .inr ⟨ys,c,x,hcs,hx,?_⟩;by_cases h1:c.next=x.c.ts.length
                 · rw[if_pos h1]at hR;subst hR;rcases hq with hq|⟨s',hq,hs'⟩
                   · cases hq
                   · injection hq with hq;subst hq;exact .inl ⟨h1,hs'⟩
                 rw[if_neg h1]at hR;by_cases h2:s.fuel=0
                 · rw[if_pos h2]at hR;subst hR;rcases hq with hq|⟨s',hq,hs'⟩
                   · injection hq with hq;exact .inr (.inl ⟨h1,h2,hq.symm⟩)
                   · cases hq
                 rw[if_neg h2]at hR;cases ht:x.c.ts[c.next]? with
                 | none =>
                   rw[ht]at hR;simp only at hR;subst hR;rcases hq with hq|⟨s',hq,_⟩<;>cases hq
                 | some t =>
                   cases hg:x.c.go[c.next]? with
                   | none =>
                     rw[ht,hg]at hR;simp only at hR;subst hR;rcases hq with hq|⟨s',hq,_⟩<;>cases hq
                   | some go =>
                     rw[ht,hg]at hR;simp only at hR;have hcd:List.map (fun x=>x.c) P.xs=P.cd:=rfl;rw[hcd]at hR;cases hs:kb_ P.us P.cd P.rs P.most t go ⟨s.fuel-1,s.st,ys++[c.at_ (c.next+1)],s.L,s.V,s.qs⟩ with
                     | none =>
                       rw[hs]at hR;simp only at hR;subst hR;rcases hq with hq|⟨s',hq,_⟩<;>cases hq
                     | some q =>
                       obtain⟨tr,s3⟩:=q;rw[hs]at hR;simp only at hR;refine .inr (.inr ⟨h1,h2,t,go,tr,s3,rfl,rfl,hs,?_⟩);by_cases h3:tr=0
                       · rw[if_pos h3]at hR;subst hR;rcases hq with hq|⟨s',hq,hs'⟩
                         · cases hq
                         · injection hq with hq;subst hq;exact .inl ⟨h3,hs'⟩
                       · rw[if_neg h3]at hR;subst hR;rcases hq with hq|⟨s',hq,hs'⟩
                         · injection hq with hq;exact .inr ⟨h3,hq.symm⟩
                         · cases hq
           cases h with
           | stop h=>exact key _ h (.inl rfl)
           | on h h2=>exact key _ h (.inr ⟨_,rfl,h2⟩)
def runM (g:Nat)(w:World):Nat:=(match w.cell? ⟨g,6,none⟩ with|some (.int _ f)=>2*f.toNat|_=>0)+(match w.cell? ⟨g,8,none⟩ with|some (.slice _ n _)=>n|_=>0)
section
variable {P:EP} {W W':World} {vs vc:Value} {s:EgV}
theorem Eg.runM (h:Eg P W vs vc s):runM P.g W=2*s.fuel+s.cs.length:=by
 obtain⟨A,n,c,rfl,hn,_⟩:=h.cslice;have k6:W.cell? ⟨P.g,6,none⟩=some (.int .i64 (s.fuel:Int)):=h.rec_.cell 6;have k8:W.cell? ⟨P.g,8,none⟩=some (.slice A n c):=h.rec_.cell 8;unfold Go.Proofs.YtcbcfcdmdedefaaGreatDoor.runM;rw[k6,k8];simp only[Int.toNat_natCast];omega
theorem Eg.back (h:Eg P W vs vc s){ys:List CallV}{c:CallV}(hcs:s.cs=ys++[c]){g cap:Nat}(hv:vc=.slice (some ⟨g,0,none⟩) (ys.length+1) cap){W2:World}(hc:Chg [] W W2) :
    Eg P (W2.setCell ⟨P.g,8,none⟩ (.slice (some ⟨g,0,none⟩) ys.length cap)) vs (.slice (some ⟨g,0,none⟩) ys.length cap) (s.calls ys)/\Fe P.K egT W (W2.setCell ⟨P.g,8,none⟩ (.slice (some ⟨g,0,none⟩) ys.length cap)):=by
 subst hv;have h2:=h.keep hc;have hloc:=h.loc;rw[hcs]at hloc;have ho:=h2.cal;rw[hcs,show(ys++[c]).length=ys.length+1 from by simp]at ho;have ht:=x2_ (q':=ys.length) ho (by omega) (by simp);rw[uh_,List.take_left' (by rw[ug_ (xD_.app.1 hloc).1])]at ht;have hf:Fe P.K eg3 W (W2.setCell ⟨P.g,8,none⟩ (.slice (some ⟨g,0,none⟩) ys.length cap)):=(Fe.of_chg hc).setw h2.rec_ h.kg (by simp[eg3]) _;exact⟨h.upd hf k2_ (h2.rec_.set_ 8 _) (z1_ h2.stk h2.rec_ (by decide)) (z1_ ht h2.rec_ (by decide)) (xD_.app.1 hloc).1 (Nat.le_refl _) h.stkb (by have:=h.calb;rw[hcs]at this;simp at this;omega),hf.sub vR_⟩
theorem Eg.burn (h:Eg P W vs vc s)(hf0:s.fuel≠0):Eg P (W.setCell ⟨P.g,6,none⟩ (.int .i64 ((s.fuel:Int)-1))) vs vc ⟨s.fuel-1,s.st,s.cs,s.L,s.V,s.qs⟩/\Fe P.K egT W (W.setCell ⟨P.g,6,none⟩ (.int .i64 ((s.fuel:Int)-1))):=by
 have hf:Fe P.K eg3 W (W.setCell ⟨P.g,6,none⟩ (.int .i64 ((s.fuel:Int)-1))):=(Fe.refl _ _ _).setw h.rec_ h.kg (by simp[eg3]) _;refine⟨h.upd hf k2_ ?_ (z1_ h.stk h.rec_ (by decide)) (z1_ h.cal h.rec_ (by decide)) h.loc (by omega) (by have:=h.stkb;omega) h.calb,hf.sub vR_⟩;have:=h.rec_.set_ 6 (.int .i64 ((s.fuel:Int)-1));rw[show(s.fuel:Int)-1=((s.fuel-1:Nat):Int) from by omega]at this⊢;exact this
end
section
variable {P:EP} {W W':World} {vs vc:Value} {s:EgV}
theorem zlF {tr:Int} {s':EgV} (h:Eg P W vs vc s) (hr:Rn P.us P.cd P.rs P.most s (tr,s')):Calls Tryz.prog 54 #[.pointer (some ⟨P.g,0,none⟩)] W (zu_ P W s' (.int .i64 tr)):=by
 obtain⟨gp,hgp⟩:∃gp,gp=P.g:=⟨_,rfl⟩;have HGP:=hQ_ hgp;rw[<-hgp];have H0:=hQ_ h;have HR0:=hQ_ hr;clear h hr hgp;go_enter Tryz.func54,Tryz.ntmps54;go_wp2_with fail;go_loopw [] (fun wr=>∃s2 vs2 vc2,Hid (Eg P wr vs2 vc2 s2)/\Hid (Rn P.us P.cd P.rs P.most s2 (tr,s'))/\Hid (Fe P.K egT W wr)) (fun wr=>runM gp wr);case atStart=>exact⟨s,vs,vc,H0,HR0,hQ_ (Fe.refl _ _ _)⟩
 case round =>
  obtain⟨s2,vs2,vc2,H2,HR2,HF2⟩:=hrel;have HM:=hQ_ (show runM gp wr=2*s2.fuel+s2.cs.length from by rw[HGP.o];exact H2.o.runM);obtain⟨A8,n8,c8,hv8,hn8,_⟩:=H2.o.cslice;have k8:wr.cell? ⟨gp,8,none⟩=some (.slice A8 n8 c8):=by rw[HGP.o,<-hv8];exact H2.o.rec_.cell 8
  rcases zht HR2.o with⟨hcs,hr⟩|⟨ys,c,x,hcs,hx,hway⟩
  · have h0:n8=0:=(by rw[hn8,hcs];rfl);subst h0;injection hr with hr1 hr2;have HP:=hQ_ (show zu_ P W s' (.int .i64 tr) (.returned (.int .i64 0)) wr from by rw[hr1,hr2];exact⟨rfl,⟨_,_,H2.o⟩,HF2.o⟩);clear hr1 hr2 hcs hn8 hv8;go_wp2_with fail;go_ret;exact HP.o
  · clear k8 hv8 hn8;obtain⟨gc,cap,hv,hcap,hk,hlen,hcell,hfro⟩:=H2.o.cur hcs;obtain⟨k,hkk⟩:∃k,k=ys.length:=⟨_,rfl⟩;rw[<-hkk]at hv hcap hk;have HK:=hQ_ hkk;have HV:=hQ_ hv;have HCS:=hQ_ hcs;have HX:=hQ_ hx;have HLEN:=hQ_ hlen;have k8:wr.cell? ⟨gp,8,none⟩=some (.slice (some ⟨gc,0,none⟩) (k+1) cap):=(by rw[HGP.o,<-hv];exact H2.o.rec_.cell 8);have HNOW:=hQ_ (jZ_ H2.o hv hk);rw[<-HGP.o]at HNOW;have c0:wr.cell? ⟨gc,k*28,none⟩=some (.int .i64 (c.fn:Int)):=(by rw[hkk];exact hcell 0 _ rfl);have c1:wr.cell? ⟨gc,k*28+1,none⟩=some (.int .i64 (c.next:Int)):=(by rw[hkk];exact hcell 1 _ rfl);clear hcell hfro hkk hv hcs hx;go_wp2_with fail;refine HNOW.o.mono ?_;rintro e w1 ⟨rfl,hc1⟩;have H3:=hQ_ (H2.o.keep hc1);have HC1:=hQ_ hc1;have d0:=zd_ c0 hc1;have d1:=zd_ c1 hc1;have d8:=zd_ k8 hc1;clear hc1 c0 c1 k8 HNOW;have d3:w1.cell? ⟨gp,3,none⟩=some P.cv:=(by rw[HGP.o];exact H3.o.rec_.cell 3);obtain⟨Av,cv,hcv,_⟩:=zh_ H3.o.cod.own;have hkx:c.fn<P.xs.length:=(List.getElem?_eq_some_iff.1 HX.o).1;have hx32:=H3.o.cod.lenb;obtain⟨gv,rfl,e0⟩:=zv_ H3.o.cod.own hcv ((ke_ P.xs c.fn x 0 HX.o (by omega)).trans rfl);obtain⟨_,hq,e1⟩:=zv_ H3.o.cod.own hcv ((ke_ P.xs c.fn x 1 HX.o (by omega)).trans rfl);injection hq with hq;injection hq with hq;subst hq;obtain⟨_,hq,e2⟩:=zv_ H3.o.cod.own hcv ((ke_ P.xs c.fn x 2 HX.o (by omega)).trans rfl);injection hq with hq;injection hq with hq;subst hq;rw[Nat.add_zero]at e0;rw[hcv]at d3;have hmem:x∈P.xs:=List.mem_of_getElem? HX.o;have htok:=H3.o.cod.toks x hmem;have hgo:=H3.o.cod.gos x hmem;obtain⟨hts,hgl⟩:=H3.o.cod.few x hmem;obtain⟨At,ct,htv,htc,_⟩:=zh_ htok;obtain⟨Ag,cg,hgv,hgc,_⟩:=zh_ hgo;rw[htv]at e1;rw[hgv]at e2;have HTOK:=hQ_ htok;have HGO:=hQ_ hgo;have HTV:=hQ_ htv;have HGV:=hQ_ hgv;have HGL:=hQ_ hgl;generalize hnt:x.c.ts.length=nt at e1 htc hts hway;generalize hng:x.c.go.length=ng at e2 hgc;have HNT:=hQ_ hnt;have HNG:=hQ_ hng;have hngt:ng=nt:=(by rw[<-hng,<-hnt];exact hgl);subst hngt;generalize hfn:c.fn=fn at d0 e0 e1 e2 hkx;have HFN:=hQ_ hfn;generalize hnx:c.next=nx at d1 hway;have HNX:=hQ_ hnx;generalize P.xs.length=np at *;generalize (x.c.args:Int)=xa at e0;clear hcv hmem htok hgo htv hgv hgl hnt hng hfn hnx;have hfn0:(0:Int)<=(fn:Int):=(by omega);have hfn1:(fn:Int)<(np:Int):=(by omega);go_wp2_with fail;have hal:=(Chg.refl [] w1).alloc (.cells #[.int .i64 0,.slice none 0 0,.slice none 0 0] 165);have q0:=zd_ d0 hal;have q3:=zd_ d3 hal;have p0:=zd_ e0 hal;have p1:=zd_ e1 hal;have p2:=zd_ e2 hal;go_region;have hX:=(zb_.new w1 165 [.int .i64 xa,.slice At ng ct,.slice Ag ng cg]).drew;have hc2:=((Chg.refl [] w1).alloc (.cells #[.int .i64 xa,.slice At ng ct,.slice Ag ng cg] 165)).drew;obtain⟨g4,hg4⟩:∃g4,g4=w1.heap.size:=⟨_,rfl⟩;rw[<-hg4]at hX⊢;have HG4:=hQ_ (show P.g<g4 from by rw[hg4];exact H3.o.rec_.lt);generalize (w1.alloc (.cells #[.int .i64 xa,.slice At ng ct,.slice Ag ng cg] 165)).drew=w2 at hX hc2⊢;have H4:=hQ_ (H3.o.keep hc2);have HX4:=hQ_ hX;have HC2:=hQ_ (HC1.o.new hc2);have c1:=zd_ d1 hc2;have c8:=zd_ d8 hc2;clear d0 d1 d3 d8 e0 e1 e2 q0 q3 p0 p1 p2 hal hX hc2 hg4 H3 HC1;have x1:=HX4.o.cell 1;have x2:=HX4.o.cell 2;rcases hway with⟨hnn,hr⟩|⟨hnn,hf0,hr⟩|⟨hnn,hf0,t,go,tr1,s3,ht,hg,hst,hend⟩
    · subst hnn;have HRN:=hQ_ hr;clear hr;go_wp2_with fail;go_quiet (fail);have hc3:Chg [] w2 (w2.drewN nq):=(Chg.refl [] w2).drewN nq;generalize w2.drewN nq=w3 at hc3⊢;have H5:=hQ_ (H4.o.keep hc3);have HC3:=hQ_ (HC2.o.new hc3);have b8:=zd_ c8 hc3;clear hc3 c1 c8 x1 x2 H4 HX4 HC2;have f8:w3.frozen? ⟨gp,8,none⟩=false:=(by rw[HGP.o];exact H5.o.rec_.frozen 8);have hkI:IntKind.i64.wrap ((k:Int)+1-1)=(k:Int):=(by rw[show(k:Int)+1-1=(k:Int) from by omega];exact IntWalk.i64_in _ (by omega));have hk2:IntKind.i64.wrap (k:Int)=(k:Int):=IntWalk.i64_in _ (by omega);have hk3:(k:Int).toNat=k:=Int.toNat_natCast _;have hk5:(k:Int)<=(cap:Int):=(by omega);have hk6:(0:Int)<=(k:Int):=(by omega);have hk7:k<=cap:=(by omega);have b8d:w3.drew.cell? ⟨gp,8,none⟩=some (.slice (some ⟨gc,0,none⟩) (k+1) cap):=b8;have f8d:w3.drew.frozen? ⟨gp,8,none⟩=false:=f8;have HB:=hQ_ (show Eg P (w3.drew.setCell ⟨gp,8,none⟩ (.slice (some ⟨gc,0,none⟩) k cap)) vs2 (.slice (some ⟨gc,0,none⟩) k cap) (s2.calls ys)/\Fe P.K egT w3 (w3.drew.setCell ⟨gp,8,none⟩ (.slice (some ⟨gc,0,none⟩) k cap)) from by
       have:=H5.o.back HCS.o (by rw[<-HK.o];exact HV.o) ((Chg.refl [] w3).drew);rw[<-HK.o]at this;rw[HGP.o];exact this);go_wp2_with fail;go_still_tail 14,(by kernel_rfl);change wpList _ _ _ _ _ w3.drew;go_wp2_with fail;go_roundw;(case rel=>exact⟨_,_,_,hQ_ HB.o.1,HRN,hQ_ ((HF2.o.new HC3.o).trans HB.o.2)⟩);case measure =>
       have:=HB.o.1.runM;rw[<-HGP.o]at this;change runM gp (w3.drew.setCell ⟨gp,8,none⟩ (.slice (some ⟨gc,0,none⟩) k cap))<runM gp wr;rw[this,HM.o];show 2*s2.fuel+ys.length<_;rw[HCS.o];simp
    · have hne:((nx:Int)==(ng:Int))=false:=(by simp;omega);injection hr with hr1 hr2;have HR:=hQ_ (And.intro hr1 hr2);clear hnn hr1 hr2;go_wp2_with fail;go_quiet (fail);have hc3:Chg [] w2 (w2.drewN nq):=(Chg.refl [] w2).drewN nq;generalize w2.drewN nq=w3 at hc3⊢;have H5:=hQ_ (H4.o.keep hc3);have HC3:=hQ_ (HC2.o.new hc3);clear hc3 c1 c8 x1 x2 H4 HX4 HC2;have b6:w3.cell? ⟨gp,6,none⟩=some (.int .i64 0):=(by rw[HGP.o];have:=H5.o.rec_.cell 6;rw[this];unfold wkC;rw[hf0];rfl);have HP:=hQ_ (show zu_ P W s' (.int .i64 tr) (.returned (.int .i64 1)) w3 from by rw[HR.o.1,HR.o.2];exact⟨rfl,⟨_,_,H5.o⟩,HF2.o.new HC3.o⟩);clear hf0;go_wp2_with fail;go_ret;exact HP.o
    · have hne:((nx:Int)==(ng:Int))=false:=(by simp;omega);have hlt:nx<ng:=(by rw[<-HNT.o];exact(List.getElem?_eq_some_iff.1 ht).1);clear hnn;go_wp2_with fail;go_quiet (fail);have hc3:Chg [] w2 (w2.drewN nq):=(Chg.refl [] w2).drewN nq;generalize w2.drewN nq=w3 at hc3⊢;have H5:=hQ_ (H4.o.keep hc3);have HC3:=hQ_ (HC2.o.new hc3);have HX5:=hQ_ (HX4.o.keep hc3);clear hc3 c1 c8 x1 x2 H4 HX4 HC2;have hfb:=H5.o.fuelb;have HBU:=hQ_ (H5.o.burn hf0);have b6:w3.cell? ⟨gp,6,none⟩=some (.int .i64 (s2.fuel:Int)):=(by rw[HGP.o];exact H5.o.rec_.cell 6);have f6:w3.frozen? ⟨gp,6,none⟩=false:=(by rw[HGP.o];exact H5.o.rec_.frozen 6);obtain⟨fu,hfu⟩:∃fu,fu=s2.fuel:=⟨_,rfl⟩;rw[<-hfu]at b6 hf0 hfb;have HFU:=hQ_ hfu;have hz:((fu:Int)==0)=false:=(by simp;omega);have hw6:IntKind.i64.wrap ((fu:Int)-1)=(fu:Int)-1:=IntWalk.i64_in _ (by omega);rw[<-HGP.o,<-hfu]at HBU;clear hfu;go_upto_region 9 with fail;have HX6:=hQ_ (HX5.o.far (p:=⟨gp,6,none⟩) (by have:=HG4.o;have:=HGP.o;simp only;omega) (.int .i64 ((fu:Int)-1)));generalize w3.setCell ⟨gp,6,none⟩ (.int .i64 ((fu:Int)-1))=w4 at HBU HX6⊢;have H6:=hQ_ HBU.o.1;have HF6:=hQ_ ((HF2.o.new HC3.o).trans HBU.o.2);clear b6 f6 HBU HX5 H5 HC3;obtain⟨_,_,hvv,_,_,_,hcell,hfro⟩:=H6.o.cur (ys:=ys) (c:=c) HCS.o;rw[HV.o]at hvv;injection hvv with hvv _ _;injection hvv with hvv;injection hvv with hvv;subst hvv;have d1:w4.cell? ⟨gc,k*28+1,none⟩=some (.int .i64 (nx:Int)):=(by rw[HK.o,<-HNX.o];exact hcell 1 _ rfl);clear hcell hfro;have hmem:x∈P.xs:=List.mem_of_getElem? HX.o;have htok:=H6.o.cod.toks x hmem;have hgo:=H6.o.cod.gos x hmem;rw[HTV.o,HNT.o]at htok;rw[HGV.o,HNG.o]at hgo;obtain⟨tsg,tn,tnm⟩:=t;obtain⟨gt,rfl,y0⟩:=zv_ htok rfl ((vl_ x.c.ts nx ⟨tsg,tn,tnm⟩ 0 ht (by omega)).trans (show(tkC ⟨tsg,tn,tnm⟩)[0]?=some (.int .i32 tsg) from rfl));obtain⟨_,hq,y1⟩:=zv_ htok rfl ((vl_ x.c.ts nx ⟨tsg,tn,tnm⟩ 1 ht (by omega)).trans (show(tkC ⟨tsg,tn,tnm⟩)[1]?=some (.int .i64 tn) from rfl));injection hq with hq;injection hq with hq;subst hq;obtain⟨_,hq,y2⟩:=zv_ htok rfl ((vl_ x.c.ts nx ⟨tsg,tn,tnm⟩ 2 ht (by omega)).trans (show(tkC ⟨tsg,tn,tnm⟩)[2]?=some (.int .i32 tnm) from rfl));injection hq with hq;injection hq with hq;subst hq;obtain⟨gg,rfl,z0⟩:=zv_ (j:=nx) (u:=.int .i64 go) hgo rfl (by simp[nms,hg]);rw[Nat.add_zero]at y0;have x1:=HX6.o.cell 1;have x2:=HX6.o.cell 2;have hal:=(Chg.refl [] w4).alloc (.cells #[.int .i32 0,.int .i64 0,.int .i32 0] 132);have q1:=zd_ d1 hal;have q2:=zd_ (show w4.cell? ⟨g4,1,none⟩=some (.slice (some ⟨gt,0,none⟩) ng ct) from x1) hal;have q3:=zd_ (show w4.cell? ⟨g4,2,none⟩=some (.slice (some ⟨gg,0,none⟩) ng cg) from x2) hal;have p0:=zd_ y0 hal;have p1:=zd_ y1 hal;have p2:=zd_ y2 hal;have p3:=zd_ z0 hal;have hal2:=(Chg.refl [] w4).alloc (.cells #[.int .i32 tsg,.int .i64 tn,.int .i32 tnm] 132);have v1:=zd_ d1 hal2;have v2:=zd_ (show w4.cell? ⟨g4,1,none⟩=some (.slice (some ⟨gt,0,none⟩) ng ct) from x1) hal2;have v3:=zd_ (show w4.cell? ⟨g4,2,none⟩=some (.slice (some ⟨gg,0,none⟩) ng cg) from x2) hal2;have v4:=zd_ z0 hal2;have hn0:(0:Int)<=(nx:Int):=(by omega);have hn1:(nx:Int)<(ng:Int):=(by omega);have HT:=hQ_ ht;have HG:=hQ_ hg;clear htok hgo hmem hlt ht hg;obtain⟨g5,hg5⟩:∃g5,g5=w4.heap.size:=⟨_,rfl⟩;have HG5:=hQ_ (show gc<g5 from by rw[hg5];have:=block_lt_of_cell d1;simpa using this);have HREL:=hQ_ (show ∃g5,Value.pointer (some ⟨w4.heap.size,0,none⟩)=.pointer (some ⟨g5,0,none⟩)/\Value.int .i64 go=.int .i64 go/\gc<g5/\Hid (Chg [] w4 (w4.alloc (.cells #[.int .i32 tsg,.int .i64 tn,.int .i32 tnm] 132)).drew)/\Hid (zb_ (w4.alloc (.cells #[.int .i32 tsg,.int .i64 tn,.int .i32 tnm] 132)).drew g5 132 [.int .i32 tsg,.int .i64 tn,.int .i32 tnm]) from
        ⟨g5,by rw[hg5],rfl,HG5.o,hQ_ hal2.drew,hQ_ (by rw[hg5];exact(zb_.new w4 132 [.int .i32 tsg,.int .i64 tn,.int .i32 tnm]).drew)⟩);clear hg5 HG5;go_cut [5,6] (fun a b wx=>∃g5,a=.pointer (some ⟨g5,0,none⟩)/\b=.int .i64 go/\gc<g5/\Hid (Chg [] w4 wx)/\Hid (zb_ wx g5 132 [.int .i32 tsg,.int .i64 tn,.int .i32 tnm]));case first =>
       go_region;go_wp2_with fail;go_meet;obtain⟨g5,e1,_,e3,e4,e5⟩:=HREL.o;exact⟨g5,e1,rfl,e3,e4,e5⟩
      case rest =>
      obtain⟨g5,rfl,rfl,hg5,HCW,HXW⟩:=hcut;clear q1 q2 q3 p0 p1 p2 p3 v1 v2 v3 v4 hal hal2 y0 y1 y2 z0 x1 x2 HREL;obtain⟨w5,hw5⟩:∃w5:World,w5=wc:=⟨_,rfl⟩;subst hw5;have hc5:=HCW.o;have hX:=HXW.o;have HG5:=hQ_ hg5;have H7:=hQ_ (H6.o.keep hc5);have HF7:=hQ_ (HF6.o.new hc5);have c1:=zd_ d1 hc5;have HX7:=hQ_ hX;have HSET:=hQ_ (H7.o.callset (ys:=ys) (c:=c) HCS.o HV.o (Chg.refl [] w5) (j:=1) (.int .i64 ((nx:Int)+1)) (gU_ c ((nx:Int)+1) (by omega)) HLEN.o);rw[<-HK.o]at HSET;have fc:w5.frozen? ⟨gc,k*28+1,none⟩=false:=(by
       obtain⟨_,_,hv2,_,_,_,_,hf2⟩:=H7.o.cur (ys:=ys) (c:=c) HCS.o;rw[HV.o]at hv2;injection hv2 with e _ _;injection e with e;injection e with e;rw[e];exact hf2 _);clear d1 hX hc5 hg5 H6 HX6 HCW HXW;have hwn:IntKind.i64.wrap ((nx:Int)+1)=(nx:Int)+1:=IntWalk.i64_in _ (by omega);go_upto_region 11 with fail;have HX8:=hQ_ (HX7.o.far (p:=⟨gc,k*28+1,none⟩) (by have:=HG5.o;simp only;omega) (.int .i64 ((nx:Int)+1)));generalize w5.setCell ⟨gc,k*28+1,none⟩ (.int .i64 ((nx:Int)+1))=w6 at HSET HX8⊢;clear c1 fc;have e0:=HX8.o.cell 0;have e1:=HX8.o.cell 1;have e2:=HX8.o.cell 2;have HSTP:=hQ_ (show xT_ P w6 ⟨tsg,tn,tnm⟩ go tr1 s3 from by
       have hEg:=HSET.o.1;rw[show((nx:Int)+1).toNat=nx+1 from by omega,HFU.o]at hEg;refine ziS (s:=⟨s2.fuel-1,s2.st,ys++[c.at_ (nx+1)],s2.L,s2.V,s2.qs⟩) hEg hst ?_ ?_
       · have:=H2.o.stkb;show s2.st.length+(s2.fuel-1)<=_;have:=HFU.o;omega
       · have:=H2.o.qsb;show s2.qs.length+(s2.fuel-1)<=_;have:=HFU.o;omega);unfold xT_ at HSTP;simp only[tkC]at HSTP;rw[<-HGP.o]at HSTP;have HF8:=hQ_ (HF7.o.trans HSET.o.2);have HLESS:=hQ_ (show 2*s3.fuel+s3.cs.length<2*s2.fuel+s2.cs.length from by
       have q1:=zgE hst;have q2:=zgF hst;have q3:=HCS.o;have q4:=HFU.o;simp only[List.length_append,List.length_singleton]at q1 q2;rw[q3,List.length_append,List.length_singleton];omega);clear hst;go_wp2_with fail;refine HSTP.o.mono ?_;rintro e w8 ⟨rfl,⟨vs8,vc8,h8⟩,hf8⟩;have H8:=hQ_ h8;have HF9:=hQ_ (HF8.o.trans hf8);clear h8 hf8 e0 e1 e2;rcases hend with⟨rfl,hrn⟩|⟨htr,hend⟩
      · have HRN:=hQ_ hrn;clear hrn;go_wp2_with fail;go_roundw;(case rel=>exact⟨_,_,_,H8,HRN,HF9⟩);case measure =>
         have:=H8.o.runM;rw[<-HGP.o]at this;rw[this,HM.o];exact HLESS.o
      · injection hend with he1 he2;have hz1:(tr1 != 0)=true:=(by simpa using htr);have HP:=hQ_ (show zu_ P W s' (.int .i64 tr) (.returned (.int .i64 tr1)) w8 from by rw[he1,he2];exact⟨rfl,⟨_,_,H8.o⟩,HF9.o⟩);clear he1 he2 htr;go_wp2_with fail;go_ret;exact HP.o
end
def QR (a b:EgV):Prop:=∃z,a.qs=b.qs++z
theorem QR.same {a b:EgV}(h:a.qs=b.qs):QR a b:=⟨[],by simp[h]⟩
theorem QR.trans {a b c:EgV}(h:QR a b)(k:QR b c):QR a c:=by
 obtain⟨z,hz⟩:=h;obtain⟨y,hy⟩:=k;exact⟨y++z,by rw[hz,hy,List.append_assoc]⟩
theorem kY_ {s s1:EgV}{x:Int}(h:s.pop=some (x,s1)):QR s1 s:=by
 unfold EgV.pop at h;split at h
 · cases h
 · injection h with h;injection h with _ h;subst h;exact QR.same rfl
theorem zib {s s1:EgV}{v:Int}(h:s.jump v=some s1):QR s1 s:=by
 unfold EgV.jump at h;split at h
 · cases h
 · split at h
   · cases h
   · injection h with h;subst h;exact QR.same rfl
theorem zon {cd:List CodeV}{k:Nat}{s s1:EgV}(h:uG_ cd k s=some s1):QR s1 s:=by
 unfold uG_ at h;split at h
 · cases h
 · split at h
   · cases h
   · injection h with h;subst h;exact QR.same rfl
theorem zpg {most:Nat}{sg tr:Int}{s s1:EgV}(h:zbK most sg s=some (tr,s1)):QR s1 s:=by
 unfold zbK at h;split at h
 · injection h with h;injection h with _ h;subst h;exact QR.same rfl
 · split at h
   · cases h
   · rename_i x s2 hp;have e:=kY_ hp;split at h
     · split at h<;>(injection h with h;injection h with _ h;subst h;exact(QR.same rfl).trans e)
     · split at h
       · split at h<;>(injection h with h;injection h with _ h;subst h;exact(QR.same rfl).trans e)
       · split at h
         · cases h
         · rename_i k s3 hp3;have e3:=kY_ hp3;by_cases hc:0<=k/\k+(if sg=36 then 8 else 1)<=(s3.L.length:Int)
           · rw[if_pos hc]at h;injection h with h;injection h with _ h;subst h;exact(QR.same rfl).trans (e3.trans e)
           · rw[if_neg hc]at h;injection h with h;injection h with _ h;subst h;exact(QR.same rfl).trans (e3.trans e)
theorem zgY {sg tr:Int}{s s1:EgV}(h:y1_ sg s=some (tr,s1)):QR s1 s:=by
 unfold y1_ at h;split at h
 · split at h
   · cases h
   · split at h
     · cases h
     · injection h with h;injection h with _ h;subst h;exact QR.same rfl
 · split at h
   · split at h
     · cases h
     · rename_i x s2 hp;have e:=kY_ hp;split at h
       · cases h
       · injection h with h;injection h with _ h;subst h;exact(QR.same rfl).trans e
   · have hb:∀b s2,(if sg=33 then some ((0:Int),s) else s.pop)=some (b,s2)->QR s2 s:=fun b s2 hh=>(by
      by_cases h33:sg=33
      · rw[if_pos h33]at hh;injection hh with hh;injection hh with _ hh;subst hh;exact QR.same rfl
      · rw[if_neg h33]at hh;exact kY_ hh);generalize (if sg=33 then some ((0:Int),s) else s.pop)=q at h hb;cases q with
     | none=>cases h
     | some q =>
       obtain⟨b,s2⟩:=q;have e:=hb b s2 rfl;simp only at h;split at h
       · cases h
       · rename_i a s3 hp;have e3:=kY_ hp;injection h with h;injection h with _ h;subst h;split
         · exact(QR.same rfl).trans (e3.trans e)
         · exact e3.trans e
theorem zni {us:List FnV}{cd:List CodeV}{rs:List (Option Int)}{most:Nat}{t:TkV}{v tr:Int}{s s1:EgV}(h:kb_ us cd rs most t v s=some (tr,s1)):QR s1 s:=by
 have fin:∀{q:Option EgV},(∀z,q=some z->QR z s)->q.map (fun z=>((0:Int),z))=some (tr,s1)->QR s1 s:=fun {q} hq hh=>by
  cases q with
  | none=>cases hh
  | some z=>simp only[Option.map_some]at hh;injection hh with hh;injection hh with _ hh;subst hh;exact hq z rfl
 unfold kb_ at h;by_cases c1:t.sign=48
 · rw[if_pos c1]at h;injection h with h;injection h with _ h;subst h;exact QR.same rfl
 rw[if_neg c1]at h;by_cases c2:t.sign=46
 · rw[if_pos c2]at h;split at h
   · cases h
   · injection h with h;injection h with _ h;subst h;exact QR.same rfl
 rw[if_neg c2]at h;by_cases c3:t.sign=44
 · rw[if_pos c3]at h;cases hp:s.pop with
   | none=>rw[hp]at h;cases h
   | some q =>
     obtain⟨x,s2⟩:=q;rw[hp]at h;simp only[Option.map_some]at h;injection h with h;injection h with _ h;subst h;exact kY_ hp
 rw[if_neg c3]at h;by_cases c4:t.sign=63
 · rw[if_pos c4]at h;split at h
   · cases h
   · rename_i x s2 hp;have e:=kY_ hp;split at h
     · exact fin (fun z hz=>(zib hz).trans e) h
     · injection h with h;injection h with _ h;subst h;exact e
 rw[if_neg c4]at h;by_cases c5:t.sign=58\/t.sign=93\/t.sign=126
 · rw[if_pos c5]at h;exact fin (fun z hz=>zib hz) h
 rw[if_neg c5]at h;by_cases c6:t.sign=59\/t.sign=91
 · rw[if_pos c6]at h;injection h with h;injection h with _ h;subst h;exact QR.same rfl
 rw[if_neg c6]at h;by_cases c7:t.sign=35\/t.sign=164\/t.sign=64\/t.sign=169\/t.sign=36\/t.sign=174
 · rw[if_pos c7]at h;exact zpg h
 rw[if_neg c7]at h;by_cases c8:t.sign=955
 · rw[if_pos c8]at h;split at h
   · injection h with h;injection h with _ h;subst h;exact QR.same rfl
   · split at h
     · cases h
     · exact fin (fun z hz=>zon hz) h
 rw[if_neg c8]at h;by_cases c9:t.sign=960
 · rw[if_pos c9]at h;split at h
   · cases h
   · rename_i x s2 hp;have e:=kY_ hp;split at h
     · injection h with h;injection h with _ h;subst h;exact QR.trans (b:=s2) ⟨_,rfl⟩ e
     · injection h with h;injection h with _ h;subst h;exact QR.trans (b:=s2) ⟨_,rfl⟩ e
 rw[if_neg c9]at h;by_cases c10:t.sign=161
 · rw[if_pos c10]at h;injection h with h;injection h with _ h;subst h;exact QR.same rfl
 · rw[if_neg c10]at h;exact zgY h
theorem zmA {us:List FnV} {cd:List CodeV} {rs:List (Option Int)} {most:Nat} {s:EgV}:(∀s',zfJ us cd rs most s=.on s'->QR s' s)/\(∀r,zfJ us cd rs most s=.stop r->QR r.2 s):=by
 have key:∀ R,zfJ us cd rs most s=R->(∀s',R=.on s'->QR s' s)/\(∀r,R=.stop r->QR r.2 s):=by
  intro R h;unfold zfJ at h;split at h
  · subst h;exact⟨fun s' e=>(by cases e),fun r e=>by injection e with e;subst e;exact QR.same rfl⟩
  · split at h
    · subst h;exact⟨fun s' e=>(by cases e),fun r e=>(by cases e)⟩
    · split at h
      · subst h;exact⟨fun s' e=>by injection e with e;subst e;exact QR.same rfl,fun r e=>(by cases e)⟩
      · split at h
        · subst h;exact⟨fun s' e=>(by cases e),fun r e=>by injection e with e;subst e;exact QR.same rfl⟩
        · split at h
          · split at h
            · subst h;exact⟨fun s' e=>(by cases e),fun r e=>(by cases e)⟩
            · rename_i hs;have e1:=zni hs;split at h
              · subst h;exact⟨fun s' e=>by injection e with e;subst e;exact e1.trans (QR.same rfl),fun r e=>(by cases e)⟩
              · subst h;exact⟨fun s' e=>(by cases e),fun r e=>by injection e with e;subst e;exact e1.trans (QR.same rfl)⟩
          · subst h;exact⟨fun s' e=>(by cases e),fun r e=>(by cases e)⟩
 exact key _ rfl
theorem Rn.qs {us:List FnV}{cd:List CodeV}{rs:List (Option Int)}{most:Nat}{s:EgV}{r:Int×EgV}(h:Rn us cd rs most s r):QR r.2 s:=by
 induction h with
 | stop h=>exact zmA.2 _ h
 | on h _ ih=>exact ih.trans (zmA.1 _ h)
end Go.Proofs.YtcbcfcdmdedefaaGreatDoor
