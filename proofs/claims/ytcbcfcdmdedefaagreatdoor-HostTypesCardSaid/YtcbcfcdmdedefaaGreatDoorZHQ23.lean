import Derived.Test.YtcbcfcdmdedefaaGreatDoorZHQ22
set_option maxRecDepth 100000
set_option maxHeartbeats 16000000
namespace Go.Proofs.YtcbcfcdmdedefaaGreatDoor
open Go.RowKit
def yY_ (s a b:Int)(w:World)(e:Ending)(w':World):Prop:=e=.returned (.tuple #[.int .i64 (doR s a b).1,.int .i64 (doR s a b).2])/\w=w'
theorem z8_ {s a b x y:Int}{w:World}(h:doR s a b=(x,y)):yY_ s a b w (.returned (.tuple #[.int .i64 x,.int .i64 y])) w:=by unfold yY_;rw[h];exact⟨rfl,rfl⟩
theorem zpS (a b:Int):doR 43 a b=(wrap64 (a+b),0):=by simp[doR]
theorem zpR (a b:Int):doR 45 a b=(wrap64 (a-b),0):=by simp[doR]
theorem zpT (a b:Int):doR 42 a b=(wrap64 (a*b),0):=by simp[doR]
theorem zpU (a b:Int):doR 38 a b=(bits .and .i64 a b,0):=by simp[doR]
theorem zos (a b:Int):doR 124 a b=(bits .or .i64 a b,0):=by simp[doR]
theorem zpO (a b:Int):doR 94 a b=(bits .xor .i64 a b,0):=by simp[doR]
theorem zpQ (a b:Int):doR 60 a b=(if a<b then 1 else 0,0):=by simp[doR]
theorem zpP (a b:Int):doR 61 a b=(if a=b then 1 else 0,0):=by simp[doR]
theorem zor (a b:Int):doR 171 a b=(wrap64 (a*2^(b%64).toNat),0):=by simp[doR]
theorem zoq (a b:Int):doR 187 a b=(a/2^(b%64).toNat,0):=by simp[doR]
theorem zpV (a b:Int):doR 33 a b=(if a=0 then 1 else 0,0):=by simp[doR]
theorem zdZ (a b:Int):doR 47 a b=(if b=0 then (0,3) else if a=-9223372036854775808/\b=-1 then (0,4) else (wrap64 (a.tdiv b),0)):=by simp[doR]
theorem zmB (a b:Int):doR 37 a b=(if b=0 then (0,3) else (a.tmod b,0)):=by simp[doR]
theorem zoV {x y:Int}{u v:Int}(h:x=u)(k:y=v):((x,y):Int×Int)=(u,v):=by rw[h,k]
section
variable {w:World}
theorem xZ_ (b:Bool):Calls Tryz.prog 181 #[.bool b] w fun e w'=>e=.returned (.int .i64 (if b then 1 else 0))/\w=w':=by
 cases b <;>
 · go_enter Tryz.func181,Tryz.ntmps181;go_wp2_with fail;go_ret;exact⟨rfl,rfl⟩
theorem zpN (a b:Int):Calls Tryz.prog 159 #[.int .i32 43,.int .i64 a,.int .i64 b] w (yY_ 43 a b w):=by
 go_enter Tryz.func159,Tryz.ntmps159;go_wp2_with fail;go_ret2;exact z8_ (zpS a b)
theorem zpH (a b:Int):Calls Tryz.prog 159 #[.int .i32 45,.int .i64 a,.int .i64 b] w (yY_ 45 a b w):=by
 go_enter Tryz.func159,Tryz.ntmps159;go_wp2_with fail;go_ret2;exact z8_ (zpR a b)
theorem zpL (a b:Int):Calls Tryz.prog 159 #[.int .i32 42,.int .i64 a,.int .i64 b] w (yY_ 42 a b w):=by
 go_enter Tryz.func159,Tryz.ntmps159;go_wp2_with fail;go_ret2;exact z8_ (zpT a b)
theorem zpM (a b:Int):Calls Tryz.prog 159 #[.int .i32 38,.int .i64 a,.int .i64 b] w (yY_ 38 a b w):=by
 go_enter Tryz.func159,Tryz.ntmps159;go_wp2_with fail;go_ret2;exact z8_ (zpU a b)
theorem do_or (a b:Int):Calls Tryz.prog 159 #[.int .i32 124,.int .i64 a,.int .i64 b] w (yY_ 124 a b w):=by
 go_enter Tryz.func159,Tryz.ntmps159;go_wp2_with fail;go_ret2;exact z8_ (zos a b)
theorem zpG (a b:Int):Calls Tryz.prog 159 #[.int .i32 94,.int .i64 a,.int .i64 b] w (yY_ 94 a b w):=by
 go_enter Tryz.func159,Tryz.ntmps159;go_wp2_with fail;go_ret2;exact z8_ (zpO a b)
theorem do_lt (a b:Int):Calls Tryz.prog 159 #[.int .i32 60,.int .i64 a,.int .i64 b] w (yY_ 60 a b w):=by
 have HR:=hQ_ (zpQ a b);by_cases h:a<b
 · have HH:=hQ_ h;have hd:decide (a<b)=true:=(by simpa using h);clear h;go_enter Tryz.func159,Tryz.ntmps159;go_wp2_with (go_at_call 181;refine(xZ_ _).mono ?_;rintro e w' ⟨rfl,rfl⟩);go_ret2;exact z8_ (by rw[HR.o];exact zoV (by simp[HH.o]) rfl)
 · have HH:=hQ_ h;have hd:decide (a<b)=false:=(by simpa using h);clear h;go_enter Tryz.func159,Tryz.ntmps159;go_wp2_with (go_at_call 181;refine(xZ_ _).mono ?_;rintro e w' ⟨rfl,rfl⟩);go_ret2;exact z8_ (by rw[HR.o];exact zoV (by simp[HH.o]) rfl)
theorem do_eq (a b:Int):Calls Tryz.prog 159 #[.int .i32 61,.int .i64 a,.int .i64 b] w (yY_ 61 a b w):=by
 have HR:=hQ_ (zpP a b);by_cases h:a=b
 · have HH:=hQ_ h;have hd:(a==b)=true:=(by simpa using h);clear h;go_enter Tryz.func159,Tryz.ntmps159;go_wp2_with (go_at_call 181;refine(xZ_ _).mono ?_;rintro e w' ⟨rfl,rfl⟩);go_ret2;exact z8_ (by rw[HR.o];exact zoV (by simp[HH.o]) rfl)
 · have HH:=hQ_ h;have hd:(a==b)=false:=(by simpa using h);clear h;go_enter Tryz.func159,Tryz.ntmps159;go_wp2_with (go_at_call 181;refine(xZ_ _).mono ?_;rintro e w' ⟨rfl,rfl⟩);go_ret2;exact z8_ (by rw[HR.o];exact zoV (by simp[HH.o]) rfl)
theorem zpK (a b:Int):Calls Tryz.prog 159 #[.int .i32 33,.int .i64 a,.int .i64 b] w (yY_ 33 a b w):=by
 have HR:=hQ_ (zpV a b);by_cases h:a=0
 · have HH:=hQ_ h;have hd:(a==0)=true:=(by simpa using h);clear h;go_enter Tryz.func159,Tryz.ntmps159;go_wp2_with (go_at_call 181;refine(xZ_ _).mono ?_;rintro e w' ⟨rfl,rfl⟩);go_ret2;exact z8_ (by rw[HR.o];exact zoV (by simp[HH.o]) rfl)
 · have HH:=hQ_ h;have hd:(a==0)=false:=(by simpa using h);clear h;go_enter Tryz.func159,Tryz.ntmps159;go_wp2_with (go_at_call 181;refine(xZ_ _).mono ?_;rintro e w' ⟨rfl,rfl⟩);go_ret2;exact z8_ (by rw[HR.o];exact zoV (by simp[HH.o]) rfl)
theorem zpJ (a b:Int):Calls Tryz.prog 159 #[.int .i32 171,.int .i64 a,.int .i64 b] w (yY_ 171 a b w):=by
 have H6:=zbf b;have h0:0<=b%64:=by omega
 have h1:b%64<=64:=by omega
 go_enter Tryz.func159,Tryz.ntmps159;go_wp2_with fail;go_ret2;exact z8_ (zor a b)
theorem zpI (a b:Int):Calls Tryz.prog 159 #[.int .i32 187,.int .i64 a,.int .i64 b] w (yY_ 187 a b w):=by
 have H6:=zbf b;have h0:0<=b%64:=by omega
 have h1:b%64<=64:=by omega
 go_enter Tryz.func159,Tryz.ntmps159;go_wp2_with fail;go_ret2;exact z8_ (zoq a b)
end
section
variable {w:World}
theorem zdz (s a b:Int)(hs:s=47\/s=37):Calls Tryz.prog 180 #[.int .i32 s,.int .i64 a,.int .i64 b] w (yY_ s a b w):=by
 by_cases hb:b=0
 · subst hb;have HR:Hid (doR s a 0=(0,3)):=hQ_ (by rcases hs with rfl|rfl;(rw[zdZ];rfl);(rw[zmB];rfl));clear hs;go_enter Tryz.func180,Tryz.ntmps180;go_wp2_with fail;go_ret2;exact z8_ HR.o
 have HB:=hQ_ hb;have hb0:(b==0)=false:=by simpa using hb
 clear hb;rcases hs with rfl|rfl
 · by_cases ha:a=-9223372036854775808
   · subst ha;by_cases h1:b=-1
     · subst h1;have HR:Hid (doR 47 (-9223372036854775808) (-1)=(0,4)):=hQ_ (by rw[zdZ];rfl);go_enter Tryz.func180,Tryz.ntmps180;go_wp2_with fail;go_ret2;exact z8_ HR.o
     · have HR:Hid (doR 47 (-9223372036854775808) b=(wrap64 ((-9223372036854775808:Int).tdiv b),0)):=hQ_ (by rw[zdZ,if_neg HB.o,if_neg (fun h=>h1 h.2)]);have hb1:(b == -1)=false:=(by simpa using h1);clear h1;go_enter Tryz.func180,Tryz.ntmps180;go_wp2_with fail;go_ret2;exact z8_ (by rw[HR.o,Int.neg_tdiv])
   · have HR:Hid (doR 47 a b=(wrap64 (a.tdiv b),0)):=hQ_ (by rw[zdZ,if_neg HB.o,if_neg (fun h=>ha h.1)]);have ha1:(a == -9223372036854775808)=false:=(by simpa using ha);clear ha;go_enter Tryz.func180,Tryz.ntmps180;go_wp2_with fail;go_ret2;exact z8_ HR.o
 · have HR:Hid (doR 37 a b=(a.tmod b,0)):=hQ_ (by rw[zmB,if_neg HB.o]);go_enter Tryz.func180,Tryz.ntmps180;go_wp2_with fail;go_ret2;exact z8_ HR.o
theorem zmz (s a b:Int)(hs:s=47\/s=37):Calls Tryz.prog 159 #[.int .i32 s,.int .i64 a,.int .i64 b] w (yY_ s a b w):=by
 rcases hs with rfl|rfl
 · go_enter Tryz.func159,Tryz.ntmps159;go_wp2_with (go_at_call 180;refine(zdz 47 a b (.inl rfl)).mono ?_;rintro e w' ⟨rfl,rfl⟩);go_ret2;exact⟨rfl,rfl⟩
 · go_enter Tryz.func159,Tryz.ntmps159;go_wp2_with (go_at_call 180;refine(zdz 37 a b (.inr rfl)).mono ?_;rintro e w' ⟨rfl,rfl⟩);go_ret2;exact⟨rfl,rfl⟩
theorem kS_ {a b:Int}(h:a≠b):(a==b)=false:=by simpa using h
def zqj (s:Int):Prop:=s≠43/\s≠45/\s≠42/\s≠47/\s≠37/\s≠38/\s≠124/\s≠94/\s≠60/\s≠61/\s≠171/\s≠187/\s≠33
theorem zop (s a b:Int)(hs:zqj s):Calls Tryz.prog 159 #[.int .i32 s,.int .i64 a,.int .i64 b] w (yY_ s a b w):=by
 have HR:=hQ_ (zlG a b hs);obtain⟨h1,h2,h3,h4,h5,h6,h7,h8,h9,h10,h11,h12,h13⟩:=hs;have k1:=kS_ h1;have k2:=kS_ h2;have k3:=kS_ h3;have k4:=kS_ h4;have k5:=kS_ h5;have k6:=kS_ h6;have k7:=kS_ h7;have k8:=kS_ h8;have k9:=kS_ h9;have k10:=kS_ h10;have k11:=kS_ h11;have k12:=kS_ h12;have k13:=kS_ h13;clear h1 h2 h3 h4 h5 h6 h7 h8 h9 h10 h11 h12 h13;go_enter Tryz.func159,Tryz.ntmps159;go_wp2_with fail;go_ret2;exact z8_ HR.o
theorem zmA (s a b:Int):Calls Tryz.prog 159 #[.int .i32 s,.int .i64 a,.int .i64 b] w (yY_ s a b w):=by
 by_cases h1:s=43;· subst h1;exact zpN a b
 by_cases h2:s=45;· subst h2;exact zpH a b
 by_cases h3:s=42;· subst h3;exact zpL a b
 by_cases h4:s=47;· exact zmz s a b (.inl h4)
 by_cases h5:s=37;· exact zmz s a b (.inr h5)
 by_cases h6:s=38;· subst h6;exact zpM a b
 by_cases h7:s=124;· subst h7;exact do_or a b
 by_cases h8:s=94;· subst h8;exact zpG a b
 by_cases h9:s=60;· subst h9;exact do_lt a b
 by_cases h10:s=61;· subst h10;exact do_eq a b
 by_cases h11:s=171;· subst h11;exact zpJ a b
 by_cases h12:s=187;· subst h12;exact zpI a b
 by_cases h13:s=33;· subst h13;exact zpK a b
 exact zop s a b ⟨h1,h2,h3,h4,h5,h6,h7,h8,h9,h10,h11,h12,h13⟩
end
def zoS (P:EP)(W:World)(vc:Value)(s':EgV)(r:Value)(e:Ending)(w':World):Prop:=e=.returned r/\(∃vs',Eg P w' vs' vc s')/\Fe P.K egT W w'
section
variable {P:EP} {W W':World} {vs vc:Value} {s:EgV}
theorem zpB {x:Int}{s':EgV}(h:Eg P W vs vc s)(hp:s.pop=some (x,s')):Calls Tryz.prog 55 #[.pointer (some ⟨P.g,0,none⟩)] W (zoS P W vc s' (.int .i64 x)):=by
 obtain⟨st,hst,rfl⟩:=xL_ hp;obtain⟨gs,c,rfl,hc,hx⟩:=h.top hst;have k7:W.cell? ⟨P.g,7,none⟩=some (.slice (some ⟨gs,0,none⟩) (st.length+1) c):=h.rec_.cell 7;have f7:=h.rec_.frozen 7;have hb:=h.stkb;have hl:s.st.length=st.length+1:=by rw[hst];simp
 have HQ:=hQ_ (h.popped rfl (Chg.refl [] W) hst);have HQ2:=hQ_ (h.popped rfl ((Chg.refl [] W).drew) hst);obtain⟨n,hn⟩:∃n,n=st.length:=⟨_,rfl⟩;rw[<-hn]at HQ HQ2 k7 hx hc hl;have hn9:n<=3000000:=by omega
 generalize P.g=g at k7 f7 HQ HQ2⊢;clear h hp hst hn hb;have hsub:IntKind.i64.wrap (((n+1:Nat):Int)-1)=(n:Int):=by rw[IntWalk.i64_in _ (by omega)];omega
 have hq0:(0:Int)<=(n:Int):=by omega
 have hq1:(n:Int)<((n+1:Nat):Int):=by omega
 have hq2:(n:Int)<=(c:Int):=by omega
 go_enter Tryz.func55,Tryz.ntmps55;go_wp2_with fail;go_ret;exact⟨rfl,⟨_,HQ.o.1⟩,HQ.o.2⟩
theorem zfL (h:Eg P W vs vc s)(hd:32<=s.cs.length)(f:Int):Calls Tryz.prog 135 #[.pointer (some ⟨P.g,0,none⟩),.int .i64 f] W (zu_ P W s (.int .i64 6)):=by
 obtain⟨A8,n8,c8,rfl,hn8,_⟩:=h.cslice;have k8:W.cell? ⟨P.g,8,none⟩=some (.slice A8 n8 c8):=h.rec_.cell 8;have HP:=hQ_ (zu_.of_chg (r:=.int .i64 6) h (Chg.refl [] W));have hd8:(32:Int)<=(n8:Int):=by omega
 generalize P.g=gp at *;clear h hn8 hd;go_enter Tryz.func135,Tryz.ntmps135;go_wp2_with fail;go_ret;exact HP.o
theorem zlD {k:Nat}{s':EgV}(h:Eg P W vs vc s)(hc:ke_ P.cd k s=some s')(hcs:s.cs.length<=31):Calls Tryz.prog 135 #[.pointer (some ⟨P.g,0,none⟩),.int .i64 (k:Int)] W (zu_ P W s' (.int .i64 0)):=by
 obtain⟨A8,n8,c8,rfl,hn8,_⟩:=h.cslice;have k8:W.cell? ⟨P.g,8,none⟩=some (.slice A8 n8 c8):=h.rec_.cell 8;have HC:=hQ_ (zbu h hc hcs);have hd8:(n8:Int)<32:=by omega
 generalize P.g=gp at *;clear h hn8 hc;go_enter Tryz.func135,Tryz.ntmps135;go_wp2_with fail;refine HC.o.mono ?_;rintro e w1 ⟨rfl,h1,hf1⟩;have HP:=hQ_ (show zu_ P W s' (.int .i64 0) (.returned (.int .i64 0)) w1 from⟨rfl,h1,hf1⟩);clear h1 hf1;go_wp2_with fail;go_ret;exact HP.o
theorem zkI {sg:Int}{tr:Int}{s':EgV}(h:Eg P W vs vc s)(hs:97<=sg/\sg<=122)(hr:y1_ sg s=some (tr,s'))(hroom:s.st.length+s.fuel<=2999999):Calls Tryz.prog 137 #[.pointer (some ⟨P.g,0,none⟩),.int .i32 sg] W (zu_ P W s' (.int .i64 tr)):=by
 unfold y1_ at hr;rw[if_pos hs]at hr;cases hl:s.cs.getLast? with
 | none=>rw[hl]at hr;cases hr
 | some c =>
   rw[hl]at hr;simp only at hr;cases hx:c.loc[(sg-97).toNat]? with
   | none=>rw[hx]at hr;cases hr
   | some x =>
     rw[hx]at hr;simp only at hr;injection hr with hr;injection hr with hr1 hr2;subst hr1;subst hr2;obtain⟨i,hi⟩:∃i:Nat,i=(sg-97).toNat:=⟨_,rfl⟩;rw[<-hi]at hx;have hiI:sg-97=(i:Int):=(by omega);have hi26:i<=25:=(by omega);obtain⟨ys,hcs,hdl⟩:=vS_ hl;obtain⟨g,cap,hv,hcap,hk,hlen,hcell,hfro⟩:=h.cur hcs;have HNOW:=hQ_ (jX_ h hv hk);have n1:W.cell? ⟨g,ys.length*28+2+i,none⟩=some (.int .i64 x):=(by rw[Nat.add_assoc];exact hcell (2+i) _ (zjm c i x hx));have HPUSH:=hQ_ (fun (W1:World)(hc:Chg [] W W1)=>xK_ (h.keep hc) x hroom);have hsub:IntKind.i32.wrap (sg-97)=(i:Int):=(by rw[hiI];exact IntWalk.i32_in _ (by omega));have hd1:decide (97<=sg)=true:=(by simpa using hs.1);have hd2:decide (sg<=122)=true:=(by simpa using hs.2);have hi0:(0:Int)<=(i:Int):=(by omega);have hi1:(i:Int)<26:=(by omega);generalize ys.length=k at *;generalize P.g=gp at *;clear h hl hcs hv hcell hfro hx hi hdl;go_enter Tryz.func137,Tryz.ntmps137;go_wp2_with fail;refine HNOW.o.mono ?_;rintro e w1 ⟨rfl,hc1⟩;have m1:=zd_ n1 hc1;have HPU:=hQ_ (HPUSH.o w1 hc1);have HC1:=hQ_ hc1;clear hc1;go_wp2_with fail;refine HPU.o.mono ?_;rintro e w2 ⟨rfl,h2,hf2⟩;have HP:=hQ_ (show zu_ P W (s.push x) (.int .i64 0) (.returned (.int .i64 0)) w2 from⟨rfl,h2,(Fe.of_chg HC1.o).trans hf2⟩);clear h2 hf2;go_wp2_with fail;go_ret;exact HP.o
theorem Eg.cellC (h:Eg P W vs vc s){ys:List CallV}{c:CallV}(hcs:s.cs=ys++[c]){g n cap:Nat}(hv:vc=.slice (some ⟨g,0,none⟩) n cap)(i:Nat)(hi:i<c.loc.length):(∃y,W.cell? ⟨g,ys.length*28+(2+i),none⟩=some (.int .i64 y))/\W.frozen? ⟨g,ys.length*28+(2+i),none⟩=false:=by
 obtain⟨g',cap',hv',_,_,_,hcell,hfro⟩:=h.cur hcs;rw[hv]at hv';injection hv' with e _ _;injection e with e;injection e with e;subst e;exact⟨⟨c.loc[i],hcell (2+i) _ (zjm c i _ (List.getElem?_eq_getElem hi))⟩,hfro _⟩
theorem znu {sg:Int}{tr:Int}{s':EgV}(h:Eg P W vs vc s)(hs:65<=sg/\sg<=90)(hr:y1_ sg s=some (tr,s')):Calls Tryz.prog 137 #[.pointer (some ⟨P.g,0,none⟩),.int .i32 sg] W (zu_ P W s' (.int .i64 tr)):=by
 unfold y1_ at hr;rw[if_neg (by omega),if_pos hs]at hr;cases hp:s.pop with
 | none=>rw[hp]at hr;cases hr
 | some q =>
   obtain⟨x,s1⟩:=q;rw[hp]at hr;simp only at hr;cases hl:s1.cs.getLast? with
   | none=>rw[hl]at hr;cases hr
   | some c =>
     rw[hl]at hr;simp only at hr;injection hr with hr;injection hr with hr1 hr2;subst hr1;obtain⟨i,hi⟩:∃i:Nat,i=(sg-65).toNat:=⟨_,rfl⟩;rw[<-hi]at hr2;have hiI:sg-65=(i:Int):=(by omega);have hi26:i<=25:=(by omega);obtain⟨ys,hcs1,hdl⟩:=vS_ hl;rw[hdl]at hr2;have hcs:s.cs=ys++[c]:=(by rw[<-uX_ hp];exact hcs1);obtain⟨g,cap,hv,hcap,hk,hlen,hcell,hfro⟩:=h.cur hcs;have HNOW:=hQ_ (fun (W1:World)(hc:Chg [] W W1)=>jX_ (h.keep hc) hv hk);have HPOP:=hQ_ (fun (W1:World)(hc:Chg [] W W1)=>zpB (h.keep hc) hp);have HCS:=hQ_ hcs1;have HS':=hQ_ hr2;have HLEN:=hQ_ hlen;have hsub:IntKind.i32.wrap (sg-65)=(i:Int):=(by rw[hiI];exact IntWalk.i32_in _ (by omega));have hd0:decide (97<=sg)=false:=(by simp;omega);have hd1:decide (65<=sg)=true:=(by simpa using hs.1);have hd2:decide (sg<=90)=true:=(by simpa using hs.2);have hi0:(0:Int)<=(i:Int):=(by omega);have hi1:(i:Int)<26:=(by omega);have hwi:IntKind.i32.wrap (i:Int)=(i:Int):=IntWalk.i32_in _ (by omega);obtain⟨k,hkk⟩:∃k,k=ys.length:=⟨_,rfl⟩;rw[<-hkk]at HNOW;have HK:=hQ_ hkk;have HV:=hQ_ hv;obtain⟨gp,hgp⟩:∃gp,gp=P.g:=⟨_,rfl⟩;have HGP:=hQ_ hgp;rw[<-hgp]at HNOW HPOP⊢;clear h hl hcs hcs1 hv hcell hfro hi hdl hp hr2 hkk hgp hlen;go_enter Tryz.func137,Tryz.ntmps137;go_wp2_with fail;go_region_with (first
      | (go_at_call 92;refine(HNOW.o _ ((Chg.refl [] W).drew)).mono ?_;rintro e w1 ⟨rfl,hc1⟩;have HC1:=hQ_ (((Chg.refl [] W).drew).new hc1);clear hc1)
      | (go_at_call 55;refine(HPOP.o w1 HC1.o).mono ?_;rintro e w2 ⟨rfl,⟨vs2,h2⟩,hf2⟩;have HSET:=hQ_ (h2.callset HCS.o HV.o (Chg.refl [] w2) (j:=2+i) (.int .i64 x) (zjl c i x) (by rw[List.length_set];exact HLEN.o));have HF2:=hQ_ ((Fe.of_chg HC1.o).trans hf2);rw[<-HK.o,<-Nat.add_assoc]at HSET;obtain⟨⟨y2,m2⟩,fm2⟩:=h2.cellC HCS.o HV.o i (by have:=HLEN.o;omega);rw[<-HK.o,<-Nat.add_assoc]at m2 fm2;clear h2 hf2));all_goals
       have HP:=hQ_ (show zu_ P W s' (.int .i64 0) (.returned (.int .i64 0)) _ from⟨rfl,⟨_,_,by rw[<-HS'.out];exact HSET.o.1⟩,HF2.o.trans HSET.o.2⟩);go_wp2_with fail;go_ret;exact HP.o
end
section
variable {P:EP} {W W':World} {vs vc:Value} {s:EgV}
theorem zhe {sg:Int}{tr:Int}{s':EgV}(h:Eg P W vs vc s)(h1:¬(97<=sg/\sg<=122))(h2:¬(65<=sg/\sg<=90))(hr:y1_ sg s=some (tr,s')):Calls Tryz.prog 137 #[.pointer (some ⟨P.g,0,none⟩),.int .i32 sg] W (zu_ P W s' (.int .i64 tr)):=by
 unfold y1_ at hr;rw[if_neg h1,if_neg h2]at hr;have fin:∀(b:Int)(s1:EgV)(w1:World)(vs1 vc1:Value),Eg P w1 vs1 vc1 s1->Fe P.K egT W w1->∀(a:Int)(s2:EgV),s1.pop=some (a,s2)->tr=(doR sg a b).2->s'=(if (doR sg a b).2=0 then s2.push (doR sg a b).1 else s2) ->
     Hid (Calls Tryz.prog 55 #[.pointer (some ⟨P.g,0,none⟩)] w1 (fun e w2=>e=.returned (.int .i64 a)/\Hid (Fe P.K egT W w2)/\Hid (∃vs2 vc2,Eg P w2 vs2 vc2 s2))):=by
  intro b s1 w1 vs1 vc1 k1 kf a s2 hp _ _;refine hQ_ ((xu_ k1 hp).mono ?_);rintro e w2 ⟨he,hv,hf⟩;exact⟨he,hQ_ (kf.trans hf),hQ_ hv⟩
 have hpush:∀(a b:Int)(s2:EgV)(w2:World),(∃vs2 vc2,Eg P w2 vs2 vc2 s2)->Fe P.K egT W w2->s2.st.length+s2.fuel<=2999999->(doR sg a b).2=0->tr=(doR sg a b).2->s'=(if (doR sg a b).2=0 then s2.push (doR sg a b).1 else s2) ->
     Hid (Calls Tryz.prog 132 #[.pointer (some ⟨P.g,0,none⟩),.int .i64 (doR sg a b).1] w2 (fun e w3=>e=.returned (.tuple #[])/\Hid (zu_ P W s' (.int .i64 tr) (.returned (.int .i64 0)) w3))):=by
  intro a b s2 w2 ⟨vs2,vc2,k2⟩ kf hroom h0 htr hs;refine hQ_ ((xK_ k2 _ hroom).mono ?_);rintro e w3 ⟨he,hv,hf⟩;refine⟨he,hQ_ ?_⟩;rw[if_pos h0]at hs;subst hs;rw[htr,h0];exact⟨rfl,hv,kf.trans hf⟩
 have hstop:∀(a b:Int)(s2:EgV)(w2:World),(∃vs2 vc2,Eg P w2 vs2 vc2 s2)->Fe P.K egT W w2->(doR sg a b).2≠0->tr=(doR sg a b).2->s'=(if (doR sg a b).2=0 then s2.push (doR sg a b).1 else s2) ->
     Hid (zu_ P W s' (.int .i64 tr) (.returned (.int .i64 (doR sg a b).2)) w2):=by
  intro a b s2 w2 hv kf h0 htr hs;rw[if_neg h0]at hs;subst hs;subst htr;exact hQ_ ⟨rfl,hv,kf⟩
 have stl:∀{x:Int}{t t':EgV},t.pop=some (x,t')->t'.st.length+t'.fuel+1=t.st.length+t.fuel:=by
  intro x t t' hp;obtain⟨st,e1,e2⟩:=xL_ hp;subst e2;rw[e1];simp;omega
 have FIN:=hQ_ fin;have HPU:=hQ_ hpush;have HSTOP:=hQ_ hstop;have hsb:=h.stkb;by_cases h33:sg=33
 · subst h33;rw[if_pos rfl]at hr;simp only at hr;cases hp:s.pop with
   | none=>rw[hp]at hr;cases hr
   | some q =>
     obtain⟨a,s2⟩:=q;rw[hp]at hr;simp only at hr;injection hr with hr;injection hr with hr1 hr2;have HR1:=hQ_ hr1.symm;have HR2:=hQ_ hr2.symm;have hst2:s2.st.length+s2.fuel<=2999999:=(by have:=stl hp;omega);have HPOP:=FIN.out 0 s W _ _ h (Fe.refl _ _ _) a s2 hp hr1.symm hr2.symm;obtain⟨D,hD⟩:∃D,D=doR 33 a 0:=⟨_,rfl⟩;have HD:=hQ_ hD;have HDO:=hQ_ (fun w=>zmA (w:=w) 33 a 0);unfold yY_ at HDO;rw[<-hD]at HDO;generalize P.g=gp at *;clear h hp hr1 hr2 fin hpush hstop hD h1 h2;go_enter Tryz.func137,Tryz.ntmps137;go_wp2_with fail;refine HPOP.o.mono ?_;rintro e w2 ⟨rfl,HF2,HV2⟩;go_wp2_with fail;refine(HDO.o _).mono ?_;rintro e w3 ⟨rfl,rfl⟩;by_cases h0:D.2=0
     · have hz:(D.2==0)=true:=(by simpa using h0);have HPX:=HPU.o a 0 s2 w2 HV2.o HF2.o hst2 (by rw[<-HD.o];exact h0) HR1.o HR2.o;rw[<-HD.o]at HPX;have HZ:=hQ_ h0;rw[h0];clear h0 hz;go_wp2_with fail;refine HPX.o.mono ?_;rintro e w4 ⟨rfl,HP⟩;go_wp2_with fail;go_ret;exact HP.o
     · have hz:(D.2==0)=false:=(by simpa using h0);have HP:=HSTOP.o a 0 s2 w2 HV2.o HF2.o (by rw[<-HD.o];exact h0) HR1.o HR2.o;rw[<-HD.o]at HP;generalize D.2=d2' at *;clear h0;go_wp2_with fail;go_ret;exact HP.o
 · rw [if_neg h33]at hr;cases hq:s.pop with
   | none=>rw[hq]at hr;cases hr
   | some q =>
   obtain⟨b,s1⟩:=q;rw[hq]at hr;simp only at hr;cases hp:s1.pop with
   | none=>rw[hp]at hr;cases hr
   | some q =>
     obtain⟨a,s2⟩:=q;rw[hp]at hr;simp only at hr;injection hr with hr;injection hr with hr1 hr2;have HR1:=hQ_ hr1.symm;have HR2:=hQ_ hr2.symm;have hst2:s2.st.length+s2.fuel<=2999999:=(by have:=stl hp;have:=stl hq;omega);have HPOP1:=hQ_ (xu_ h hq);have HPOP:=hQ_ (fun w1 vs1 vc1 k1 kf=>FIN.out b s1 w1 vs1 vc1 k1 kf a s2 hp hr1.symm hr2.symm);obtain⟨D,hD⟩:∃D,D=doR sg a b:=⟨_,rfl⟩;have HD:=hQ_ hD;have HDO:=hQ_ (fun w=>zmA (w:=w) sg a b);unfold yY_ at HDO;rw[<-hD]at HDO;have hb33:(sg != 33)=true:=(by simpa using h33);generalize P.g=gp at *;have hk:(decide (97<=sg)=false/\decide (sg<=122)=true/\decide (65<=sg)=false/\decide (sg<=90)=true)\/(decide (97<=sg)=false/\decide (sg<=122)=true/\decide (65<=sg)=true/\decide (sg<=90)=false)\/(decide (97<=sg)=true/\decide (sg<=122)=false/\decide (65<=sg)=true/\decide (sg<=90)=false):=(by
      simp only[decide_eq_true_eq,decide_eq_false_iff_not];omega);clear h hp hq hr1 hr2 fin hpush hstop hD h1 h2 h33;rcases hk with⟨k1,k2,k3,k4⟩|⟨k1,k2,k3,k4⟩|⟨k1,k2,k3,k4⟩ <;>
     · go_enter Tryz.func137,Tryz.ntmps137;go_wp2_with fail;refine HPOP1.o.mono ?_;rintro e w1 ⟨rfl,⟨vs1,vc1,kk⟩,kf⟩;have HPP:=HPOP.o w1 vs1 vc1 kk kf;clear kk kf;go_wp2_with fail;refine HPP.o.mono ?_;rintro e w2 ⟨rfl,HF2,HV2⟩;go_wp2_with fail;refine(HDO.o _).mono ?_;rintro e w3 ⟨rfl,rfl⟩;by_cases h0:D.2=0
       · have hz:(D.2==0)=true:=(by simpa using h0);have HPX:=HPU.o a b s2 w2 HV2.o HF2.o hst2 (by rw[<-HD.o];exact h0) HR1.o HR2.o;rw[<-HD.o]at HPX;have HZ:=hQ_ h0;rw[h0];clear h0 hz;go_wp2_with fail;refine HPX.o.mono ?_;rintro e w4 ⟨rfl,HP⟩;go_wp2_with fail;go_ret;exact HP.o
       · have hz:(D.2==0)=false:=(by simpa using h0);have HP:=HSTOP.o a b s2 w2 HV2.o HF2.o (by rw[<-HD.o];exact h0) HR1.o HR2.o;rw[<-HD.o]at HP;generalize D.2=d2' at *;clear h0;go_wp2_with fail;go_ret;exact HP.o
end
abbrev mmT:List TypeId:=[105,5,4]
theorem zmw:∀t:TypeId,t∈mmT->t=105\/t=5\/t=4:=by intro t h;simpa using h
theorem zhK:∀t:TypeId,t∈mmT->t∈egT:=by intro t h;simp only[List.mem_cons,List.not_mem_nil,or_false]at h⊢;rcases h with h|h|h<;>subst h<;>simp
theorem Mm.fe {K:Nat->Prop}{w w':World}{p gC gD:Nat}{L:List UInt8}{X:List Value}{V:List Bool}{Y:List Value}{most:Nat}(h:Mm w p gC gD L X V Y most)(hc:Chg [p,gC,gD] w w')(hp:K p)(h1:K gC)(h2:K gD):Fe K mmT w w':=by
 refine Fe.of_chgT hc (fun i hi=>?_) (fun i hi=>?_)
 · simp only[List.mem_cons,List.not_mem_nil,or_false]at hi;rcases hi with rfl|rfl|rfl
   · exact⟨hp,fun cs t fz e=>by have:=h.rec_;unfold zb_ at this;rw[this]at e;injection e with e;injection e with _ e _;subst e;simp[mmT]⟩
   · exact⟨h1,fun cs t fz e=>by have:=h.cel;unfold zb_ at this;rw[this]at e;injection e with e;injection e with _ e _;subst e;simp[mmT]⟩
   · exact⟨h2,fun cs t fz e=>by have:=h.dir;unfold zb_ at this;rw[this]at e;injection e with e;injection e with _ e _;subst e;simp[mmT]⟩
 · simp only[List.mem_cons,List.not_mem_nil,or_false]at hi;rcases hi with rfl|rfl|rfl
   · exact⟨_,_,_,h.rec_⟩
   · exact⟨_,_,_,h.cel⟩
   · exact⟨_,_,_,h.dir⟩
section
variable {P:EP} {W W':World} {vs vc:Value} {s:EgV}
def kJ_ (most:Nat)(x:Int)(s:EgV):Int×EgV:=if x<0\/(most:Int)-s.V.length<x then (-1,s)
  else ((s.V.length:Int),⟨s.fuel,s.st,s.cs,s.L++List.replicate (64*x.toNat) 0,s.V++List.replicate x.toNat true,s.qs⟩)
theorem ziV (h:Eg P W vs vc s)(x:Int):Calls Tryz.prog 155 #[.pointer (some ⟨P.p,0,none⟩),.int .i64 x] W (fun e w'=>e=.returned (.int .i64 (kJ_ P.most x s).1)/\Hid (Eg P w' vs vc (kJ_ P.most x s).2)/\Hid (Fe P.K egT W w')):=by
 obtain⟨gC,gD,X,Y,hM,k1,k2⟩:=h.mem;by_cases hx:x<0\/(P.most:Int)-s.V.length<x
 · have e:kJ_ P.most x s=(-1,s):=if_pos hx;rw[e];refine(zok hM x hx).mono ?_;rintro e w' ⟨rfl,rfl⟩;exact⟨rfl,hQ_ h,hQ_ (Fe.refl _ _ _)⟩
 · have e:kJ_ P.most x s=((s.V.length:Int),⟨s.fuel,s.st,s.cs,s.L++List.replicate (64*x.toNat) 0,s.V++List.replicate x.toNat true,s.qs⟩):=if_neg hx;rw[e];obtain⟨k,rfl⟩:=Int.eq_ofNat_of_zero_le (show 0<=x by omega);refine(zlt hM k (by omega)).mono ?_;rintro e w' ⟨gC',gD',X',Y',rfl,hM',hc,hC,hD⟩;have hf:=hM.fe hc h.pK k1 k2;have kC:P.K gC':=by
    rcases hC with rfl|hC
    · exact k1
    · exact .inl (Nat.le_trans h.room hC)
   have kD:P.K gD':=by
    rcases hD with rfl|hD
    · exact k2
    · exact .inl (Nat.le_trans h.room hD)
   exact⟨rfl,hQ_ (h.memd hM' kC kD hf zmw),hQ_ (hf.sub zhK)⟩
theorem ziU (h:Eg P W vs vc s)(x:Int)(wide:Bool):Calls Tryz.prog 156 #[.pointer (some ⟨P.p,0,none⟩),.int .i64 x,.bool wide] W (fun e w'=>e=.returned (.tuple #[.int .i64 ((zhU s.L x (if wide then 8 else 1)).getD 0),.bool (zhU s.L x (if wide then 8 else 1)).isSome])/\W=w'):=by
 obtain⟨gC,gD,X,Y,hM,k1,k2⟩:=h.mem;obtain⟨sz,hs⟩:∃sz:Nat,sz=if wide then 8 else 1:=⟨_,rfl⟩;rw[<-hs];unfold zhU;by_cases hx:0<=x/\x+sz<=s.L.length
 · rw[if_pos hx];obtain⟨k,rfl⟩:=Int.eq_ofNat_of_zero_le hx.1;exact zla hM k wide sz hs (by omega)
 · rw[if_neg hx];exact znW hM x wide sz hs (by omega)
def kX_ (wide:Bool)(k x:Int)(s:EgV):Bool×EgV:=if 0<=k/\k+(if wide then 8 else 1)<=s.L.length then
  (true,⟨s.fuel,s.st,s.cs,stL s.L k.toNat x (if wide then 8 else 1),stV s.V k.toNat (if wide then 8 else 1),s.qs⟩) else (false,s)
theorem zfF (h:Eg P W vs vc s)(k x:Int)(wide:Bool):Calls Tryz.prog 157 #[.pointer (some ⟨P.p,0,none⟩),.int .i64 k,.int .i64 x,.bool wide] W (fun e w'=>e=.returned (.bool (kX_ wide k x s).1)/\Hid (Eg P w' vs vc (kX_ wide k x s).2)/\Hid (Fe P.K egT W w')):=by
 obtain⟨gC,gD,X,Y,hM,k1,k2⟩:=h.mem;obtain⟨sz,hs⟩:∃sz:Nat,sz=if wide then 8 else 1:=⟨_,rfl⟩;have hsI:(if wide then (8:Int) else 1)=(sz:Int):=by rw[hs];cases wide<;>rfl
 by_cases hx:0<=k/\k+(if wide then 8 else 1)<=s.L.length
 · have e:kX_ wide k x s=(true,⟨s.fuel,s.st,s.cs,stL s.L k.toNat x (if wide then 8 else 1),stV s.V k.toNat (if wide then 8 else 1),s.qs⟩):=if_pos hx;rw[e];rw[hsI]at hx;obtain⟨j,rfl⟩:=Int.eq_ofNat_of_zero_le hx.1;refine(zgE hM j x wide sz hs (by omega)).mono ?_;rintro e w' ⟨rfl,hM',hc⟩;have hf:=hM.fe (hc.sub (T':=[P.p,gC,gD]) (by simp)) h.pK k1 k2;rw[hs]at hM';exact⟨rfl,hQ_ (h.memd hM' k1 k2 hf zmw),hQ_ (hf.sub zhK)⟩
 · have e:kX_ wide k x s=(false,s):=if_neg hx;rw[e];rw[hsI]at hx;refine(zke hM k x wide sz hs (by omega)).mono ?_;rintro e w' ⟨rfl,rfl⟩;exact⟨rfl,hQ_ h,hQ_ (Fe.refl _ _ _)⟩
theorem zfK (h:Eg P W vs vc s):Calls Tryz.prog 57 #[.pointer (some ⟨P.p,0,none⟩)] W (fun e w'=>e=.returned (.int .i64 (s.V.length:Int))/\W=w'):=by
 obtain⟨gC,gD,X,Y,hM,k1,k2⟩:=h.mem;exact xf_ hM
end
theorem zho {x:Int}{t t':EgV}(hp:t.pop=some (x,t')):t'.st.length+t'.fuel+1=t.st.length+t.fuel:=by
 obtain⟨st,e1,e2⟩:=xL_ hp;subst e2;rw[e1];simp;omega
theorem zds {x:Int}{t t':EgV}(hp:t.pop=some (x,t')):t'.L=t.L/\t'.V=t.V/\t'.qs=t.qs:=by
 obtain⟨st,e1,e2⟩:=xL_ hp;subst e2;exact⟨rfl,rfl,rfl⟩
section
variable {P:EP} {W W':World} {vs vc:Value} {s:EgV}
theorem zpj {tr:Int}{s':EgV}(h:Eg P W vs vc s)(hr:zbR P.most 35 s=some (tr,s'))(hroom:s.st.length+s.fuel<=2999999):Calls Tryz.prog 134 #[.pointer (some ⟨P.g,0,none⟩),.int .i32 35] W (zu_ P W s' (.int .i64 tr)):=by
 unfold zbR at hr;rw[if_pos rfl]at hr;injection hr with hr;injection hr with hr1 hr2;subst hr1;subst hr2;have k4:W.cell? ⟨P.g,4,none⟩=some (.pointer (some ⟨P.p,0,none⟩)):=h.rec_.cell 4;have HPG:=hQ_ (zfK h);have HPU:=hQ_ (xK_ h (s.V.length:Int) hroom);generalize P.g=gp at *;clear h;go_enter Tryz.func134,Tryz.ntmps134;go_wp2_with fail;refine HPG.o.mono ?_;rintro e w1 ⟨rfl,rfl⟩;go_wp2_with fail;refine HPU.o.mono ?_;rintro e w2 ⟨rfl,h2,hf2⟩;have HP:=hQ_ (show zu_ P W (s.push (s.V.length:Int)) (.int .i64 0) (.returned (.int .i64 0)) w2 from⟨rfl,h2,hf2⟩);clear h2 hf2;go_wp2_with fail;go_ret;exact HP.o
theorem znt {tr:Int}{s':EgV}(h:Eg P W vs vc s)(hr:zbR P.most 164 s=some (tr,s')):Calls Tryz.prog 134 #[.pointer (some ⟨P.g,0,none⟩),.int .i32 164] W (zu_ P W s' (.int .i64 tr)):=by
 unfold zbR at hr;rw[if_neg (by decide)]at hr;cases hp:s.pop with
 | none=>rw[hp]at hr;cases hr
 | some q =>
   obtain⟨x,s1⟩:=q;rw[hp]at hr;simp only[if_pos]at hr;have hq:tr=0/\s'=(kJ_ P.most x s1).2.push (kJ_ P.most x s1).1:=(by
    have e:=zds hp;unfold kJ_;rw[e.2.1];by_cases hx:x<0\/(P.most:Int)-s.V.length<x
    · rw[if_pos hx]at hr⊢;injection hr with hr;injection hr with h1 h2;exact⟨h1.symm,h2.symm⟩
    · rw[if_neg hx]at hr⊢;injection hr with hr;injection hr with h1 h2;refine⟨h1.symm,?_⟩;rw[<-h2,e.1,e.2.1,e.2.2];rfl);obtain⟨rfl,hs'⟩:=hq;have HS':=hQ_ hs';have k4:W.cell? ⟨P.g,4,none⟩=some (.pointer (some ⟨P.p,0,none⟩)):=h.rec_.cell 4;have hl:=zho hp;have hsb:=h.stkb;have HL:=hQ_ (show(kJ_ P.most x s1).2.st.length+(kJ_ P.most x s1).2.fuel<=2999999 from by unfold kJ_;split<;>(simp only;omega));have HPOP:=hQ_ (fun (W1:World)(hc:Chg [] W W1)=>xu_ (h.keep hc) hp);have HGR:=hQ_ (fun (w1:World)(vs1 vc1:Value)(k1:Eg P w1 vs1 vc1 s1)=>ziV k1 x);have HPU:=hQ_ (fun (w2:World)(vs2 vc2:Value)(k2:Eg P w2 vs2 vc2 (kJ_ P.most x s1).2)=>xK_ k2 (kJ_ P.most x s1).1 HL.o);obtain⟨G,hG⟩:∃G,G=kJ_ P.most x s1:=⟨_,rfl⟩;rw[<-hG]at HGR HPU HS' HL;obtain⟨gp,hgp⟩:∃gp,gp=P.g:=⟨_,rfl⟩;have HGP:=hQ_ hgp;rw[<-hgp]at HPOP HPU k4⊢;clear h hp hs' hG hgp hr;go_enter Tryz.func134,Tryz.ntmps134;go_wp2_with fail;go_region_with (first
    | (go_at_call 55;refine(HPOP.o _ ((Chg.refl [] W).drew)).mono ?_;rintro e w1 ⟨rfl,⟨vs1,vc1,h1⟩,hf1⟩;have m4:w1.cell? ⟨gp,4,none⟩=some (.pointer (some ⟨P.p,0,none⟩)):=(by rw[HGP.o];exact h1.rec_.cell 4);have H1:=hQ_ h1;have HF1:=hQ_ ((Fe.of_chg ((Chg.refl [] W).drew)).trans hf1);clear h1 hf1)
    | (go_at_call 155;refine(HGR.o w1 vs1 vc1 H1.o).mono ?_;rintro e w2 ⟨rfl,H2,HF2⟩)
    | (go_at_call 132;refine(HPU.o w2 vs1 vc1 H2.o).mono ?_;rintro e w3 ⟨rfl,h3,hf3⟩;have HP:=hQ_ (show zu_ P W s' (.int .i64 0) (.returned (.int .i64 0)) w3 from⟨rfl,by rw[HS'.out];exact h3,(HF1.o.trans HF2.o).trans hf3⟩);clear h3 hf3));all_goals
     go_wp2_with fail;go_ret;exact HP.o
end
section
variable {P:EP} {W W':World} {vs vc:Value} {s:EgV}
theorem zdk {sg tr:Int}{s':EgV}(hs:sg=64\/sg=169)(h:Eg P W vs vc s)(hr:zbR P.most sg s=some (tr,s')):Calls Tryz.prog 134 #[.pointer (some ⟨P.g,0,none⟩),.int .i32 sg] W (zu_ P W s' (.int .i64 tr)):=by
 unfold zbR at hr;rw[if_neg (by omega)]at hr;cases hp:s.pop with
 | none=>rw[hp]at hr;cases hr
 | some q =>
   obtain⟨x,s1⟩:=q;rw[hp]at hr;simp only at hr;rw[if_neg (by omega),if_pos hs]at hr;obtain⟨wide,hw⟩:∃wide,wide=(sg==64):=⟨_,rfl⟩;have hwi:(if sg=64 then 8 else 1)=(if wide then 8 else 1):=(by rw[hw];simp);rw[hwi]at hr;obtain⟨o,ho⟩:∃o,o=zhU s1.L x (if wide then 8 else 1):=⟨_,rfl⟩;rw[<-ho]at hr;have k4:W.cell? ⟨P.g,4,none⟩=some (.pointer (some ⟨P.p,0,none⟩)):=h.rec_.cell 4;have hl:=zho hp;have hsb:=h.stkb;have HL:=hQ_ (show s1.st.length+s1.fuel<=2999999 from by omega);have HPOP:=hQ_ (fun (W1:World)(hc:Chg [] W W1)=>xu_ (h.keep hc) hp);have HLD:=hQ_ (fun (w1:World)(vs1 vc1:Value)(k1:Eg P w1 vs1 vc1 s1)=>ziU k1 x wide);rw[<-ho]at HLD;have HPU:=hQ_ (fun (w2:World)(vs2 vc2:Value)(k2:Eg P w2 vs2 vc2 s1)(n:Int)=>xK_ k2 n HL.o);have HR:=hQ_ hr;obtain⟨gp,hgp⟩:∃gp,gp=P.g:=⟨_,rfl⟩;have HGP:=hQ_ hgp;rw[<-hgp]at HPOP HPU k4⊢;have hw2:(sg==64)=wide:=hw.symm;clear h hp hgp hr ho hwi hw;rcases hs with rfl|rfl <;>
   · go_enter Tryz.func134,Tryz.ntmps134;simp only[show((64:Int)==64)=true from rfl,show((169:Int)==64)=false from rfl]at hw2;subst hw2;go_wp2_with fail;go_region_with (first
      | (go_at_call 55;refine(HPOP.o _ ((Chg.refl [] W).drew)).mono ?_;rintro e w1 ⟨rfl,⟨vs1,vc1,h1⟩,hf1⟩;have m4:w1.cell? ⟨gp,4,none⟩=some (.pointer (some ⟨P.p,0,none⟩)):=(by rw[HGP.o];exact h1.rec_.cell 4);have H1:=hQ_ h1;have HF1:=hQ_ ((Fe.of_chg ((Chg.refl [] W).drew)).trans hf1);clear h1 hf1)
      | (go_at_call 156;refine(HLD.o w1 vs1 vc1 H1.o).mono ?_;rintro e w2 ⟨rfl,rfl⟩));all_goals
       cases o with
       | none =>
         have hre:=HR.o;simp only at hre;injection hre with hre;injection hre with hr1 hr2;have HP:=hQ_ (show zu_ P W s' (.int .i64 tr) (.returned (.int .i64 5)) w1 from by rw[<-hr1,<-hr2];exact⟨rfl,⟨_,_,H1.o⟩,HF1.o⟩);simp only[Option.getD_none,Option.isSome_none];clear hr1 hr2;go_wp2_with fail;go_ret;exact HP.o
       | some n =>
         have hre:=HR.o;simp only at hre;injection hre with hre;injection hre with hr1 hr2;have HPX:=hQ_ (HPU.o w1 vs1 vc1 H1.o n);have HE:=hQ_ (And.intro hr1 hr2);simp only[Option.getD_some,Option.isSome_some];clear hr1 hr2;go_wp2_with fail;refine HPX.o.mono ?_;rintro e w3 ⟨rfl,h3,hf3⟩;have HP:=hQ_ (show zu_ P W s' (.int .i64 tr) (.returned (.int .i64 0)) w3 from by rw[<-HE.o.1,<-HE.o.2];exact⟨rfl,h3,HF1.o.trans hf3⟩);clear h3 hf3;go_wp2_with fail;go_ret;exact HP.o
theorem zaF {sg tr:Int}{s':EgV}(hs:sg=36\/sg=174)(h:Eg P W vs vc s)(hr:zbR P.most sg s=some (tr,s')):Calls Tryz.prog 134 #[.pointer (some ⟨P.g,0,none⟩),.int .i32 sg] W (zu_ P W s' (.int .i64 tr)):=by
 unfold zbR at hr;rw[if_neg (by omega)]at hr;cases hp:s.pop with
 | none=>rw[hp]at hr;cases hr
 | some q =>
   obtain⟨x,s1⟩:=q;rw[hp]at hr;simp only at hr;rw[if_neg (by omega),if_neg (by omega)]at hr;cases hp2:s1.pop with
   | none=>rw[hp2]at hr;cases hr
   | some q =>
   obtain⟨k,s2⟩:=q;rw[hp2]at hr;simp only at hr;obtain⟨wide,hw⟩:∃wide,wide=(sg==36):=⟨_,rfl⟩;have hwi:(if sg=36 then 8 else 1)=(if wide then 8 else 1):=(by rw[hw];simp);have hwI:(if sg=36 then (8:Int) else 1)=(if wide then (8:Int) else 1):=(by rw[hw];simp);rw[hwi,hwI]at hr;have hq:tr=(if (kX_ wide k x s2).1 then 0 else 5)/\s'=(kX_ wide k x s2).2:=(by
    unfold kX_;by_cases hx:0<=k/\k+(if wide then 8 else 1)<=s2.L.length
    · rw[if_pos hx]at hr⊢;injection hr with hr;injection hr with h1 h2;exact⟨h1.symm,h2.symm⟩
    · rw[if_neg hx]at hr⊢;injection hr with hr;injection hr with h1 h2;exact⟨h1.symm,h2.symm⟩);have HR:=hQ_ hq;have k4:W.cell? ⟨P.g,4,none⟩=some (.pointer (some ⟨P.p,0,none⟩)):=h.rec_.cell 4;have HPOP:=hQ_ (xu_ h hp);have HPOP2:=hQ_ (fun (w1:World)(vs1 vc1:Value)(k1:Eg P w1 vs1 vc1 s1)=>xu_ k1 hp2);have HST:=hQ_ (fun (w1:World)(vs1 vc1:Value)(k1:Eg P w1 vs1 vc1 s2)=>zfF k1 k x wide);obtain⟨G,hG⟩:∃G,G=kX_ wide k x s2:=⟨_,rfl⟩;rw[<-hG]at HST HR;obtain⟨gp,hgp⟩:∃gp,gp=P.g:=⟨_,rfl⟩;have HGP:=hQ_ hgp;rw[<-hgp]at HPOP HPOP2 k4⊢;have hw2:(sg==36)=wide:=hw.symm;clear h hp hp2 hgp hr hwi hwI hw hq hG;rcases hs with rfl|rfl <;>
   · go_enter Tryz.func134,Tryz.ntmps134;simp only[show((36:Int)==36)=true from rfl,show((174:Int)==36)=false from rfl]at hw2;subst hw2;go_wp2_with fail;refine HPOP.o.mono ?_;rintro e w1 ⟨rfl,⟨vs1,vc1,h1⟩,hf1⟩;have m4:w1.cell? ⟨gp,4,none⟩=some (.pointer (some ⟨P.p,0,none⟩)):=(by rw[HGP.o];exact h1.rec_.cell 4);have H1:=hQ_ h1;have HF1:=hQ_ hf1;have HPD:=hQ_ (HPOP2.o w1.drew vs1 vc1 (h1.keep ((Chg.refl [] w1).drew)));clear h1 hf1;go_wp2_with fail;go_region_with (first
      | (go_at_call 55;refine HPD.o.mono ?_;rintro e w2 ⟨rfl,⟨vs2,vc2,h2⟩,hf2⟩;have n4:w2.cell? ⟨gp,4,none⟩=some (.pointer (some ⟨P.p,0,none⟩)):=(by rw[HGP.o];exact h2.rec_.cell 4);have H2:=hQ_ h2;have HF2:=hQ_ ((HF1.o.new ((Chg.refl [] w1).drew)).trans hf2);clear h2 hf2)
      | (go_at_call 157;refine(HST.o w2 vs2 vc2 H2.o).mono ?_;rintro e w3 ⟨rfl,H3,HF3⟩));all_goals
       have HP:=hQ_ (show zu_ P W s' (.int .i64 tr) (.returned (.int .i64 (if G.1 then 0 else 5))) w3 from by rw[HR.o.1,HR.o.2];exact⟨rfl,⟨_,_,H3.o⟩,HF2.o.trans HF3.o⟩);generalize G.1=b at HP⊢;cases b <;>
       · go_wp2_with fail;go_ret;exact HP.o
theorem zns {sg tr:Int}{s':EgV}(hs:sg=35\/sg=164\/sg=64\/sg=169\/sg=36\/sg=174)(h:Eg P W vs vc s)(hr:zbR P.most sg s=some (tr,s'))(hroom:s.st.length+s.fuel<=2999999):Calls Tryz.prog 134 #[.pointer (some ⟨P.g,0,none⟩),.int .i32 sg] W (zu_ P W s' (.int .i64 tr)):=by
 rcases hs with rfl|rfl|hs|hs|hs|hs
 · exact zpj h hr hroom
 · exact znt h hr
 · exact zdk (.inl hs) h hr
 · exact zdk (.inr hs) h hr
 · exact zaF (.inl hs) h hr
 · exact zaF (.inr hs) h hr
end
section
variable {P:EP} {W W':World} {vs vc:Value} {s:EgV}
theorem kn_ {x:TkV}(h:Eg P W vs vc s):Eg P (W.alloc (.cells #[.int .i32 x.sign,.int .i64 x.n,.int .i32 x.name] 132)) vs vc s:=h.keep ((Chg.refl [] W).alloc _)
def xV_ (P:EP)(W:World)(t:TkV)(go:Int)(tr:Int)(s':EgV):Prop:=Calls Tryz.prog 93 #[.pointer (some ⟨P.g,0,none⟩),.agg (tkC t).toArray,.int .i64 go] W (zu_ P W s' (.int .i64 tr))
theorem zu_.boxed {o:Obj}{s':EgV}{r:Value}{e:Ending}{w':World}(h:zu_ P (W.alloc o) s' r e w'):zu_ P W s' r e w':=⟨h.1,h.2.1,(Fe.of_chg ((Chg.refl [] W).alloc o)).trans h.2.2⟩
theorem ziO {n nm go:Int}(h:Eg P W vs vc s)(hroom:s.st.length+s.fuel<=2999999):xV_ P W ⟨48,n,nm⟩ go 0 (s.push n):=by
 unfold xV_;simp only[tkC];have hN:=zb_.new W 132 [.int .i32 48,.int .i64 n,.int .i32 nm];have HPU:=hQ_ (xK_ (kn_ (x:=⟨48,n,nm⟩) h) n hroom);generalize P.g=gp at *;have t0:=hN.cell 0;have t1:=hN.cell 1;clear h hN;go_enter Tryz.func93,Tryz.ntmps93;go_wp2_with fail;refine HPU.o.mono ?_;rintro e w2 ⟨rfl,h2,hf2⟩;have HP:=hQ_ (zu_.boxed (show zu_ P _ (s.push n) (.int .i64 0) (.returned (.int .i64 0)) w2 from⟨rfl,h2,hf2⟩));clear h2 hf2;go_wp2_with fail;go_ret;exact HP.o
theorem zfI {x n nm go:Int}{s':EgV}(h:Eg P W vs vc s)(hp:s.pop=some (x,s')):xV_ P W ⟨44,n,nm⟩ go 0 s':=by
 unfold xV_;simp only[tkC];have hN:=zb_.new W 132 [.int .i32 44,.int .i64 n,.int .i32 nm];have HPU:=hQ_ (xu_ (kn_ (x:=⟨44,n,nm⟩) h) hp);generalize P.g=gp at *;have t0:=hN.cell 0;clear h hN hp;go_enter Tryz.func93,Tryz.ntmps93;go_wp2_with fail;refine HPU.o.mono ?_;rintro e w2 ⟨rfl,h2,hf2⟩;have HP:=hQ_ (zu_.boxed (show zu_ P _ s' (.int .i64 0) (.returned (.int .i64 0)) w2 from⟨rfl,h2,hf2⟩));clear h2 hf2;go_wp2_with fail;go_ret;exact HP.o
theorem zfG {n nm go:Int}(h:Eg P W vs vc s):xV_ P W ⟨161,n,nm⟩ go 2 s:=by
 unfold xV_;simp only[tkC];have hN:=zb_.new W 132 [.int .i32 161,.int .i64 n,.int .i32 nm];have HP:=hQ_ (zu_.of_chg (r:=.int .i64 2) h ((Chg.refl [] W).alloc (.cells #[.int .i32 161,.int .i64 n,.int .i32 nm] 132)));generalize P.g=gp at *;have t0:=hN.cell 0;clear h hN;go_enter Tryz.func93,Tryz.ntmps93;go_wp2_with fail;go_ret;exact HP.o
theorem kN_ {sg n nm go:Int}{s':EgV}(hs:sg=63\/sg=58\/sg=59\/sg=91\/sg=93\/sg=126)(HT:Calls Tryz.prog 133 #[.pointer (some ⟨P.g,0,none⟩),.int .i32 sg,.int .i64 go] (W.alloc (.cells #[.int .i32 sg,.int .i64 n,.int .i32 nm] 132)) (zu_ P (W.alloc (.cells #[.int .i32 sg,.int .i64 n,.int .i32 nm] 132)) s' (.tuple #[]))):xV_ P W ⟨sg,n,nm⟩ go 0 s':=by
 unfold xV_;simp only[tkC];have hN:=zb_.new W 132 [.int .i32 sg,.int .i64 n,.int .i32 nm];have HTT:=hQ_ HT;generalize P.g=gp at *;have t0:=hN.cell 0;clear hN HT;rcases hs with rfl|rfl|rfl|rfl|rfl|rfl <;>
 · go_enter Tryz.func93,Tryz.ntmps93;go_wp2_with fail;refine HTT.o.mono ?_;rintro e w2 ⟨rfl,h2,hf2⟩;have HP:=hQ_ (zu_.boxed (show zu_ P _ s' (.int .i64 0) (.returned (.int .i64 0)) w2 from⟨rfl,h2,hf2⟩));clear h2 hf2;go_wp2_with fail;go_ret;exact HP.o
theorem ziP {sg n nm go tr:Int}{s':EgV}(hs:sg=35\/sg=164\/sg=64\/sg=169\/sg=36\/sg=174)(HT:Calls Tryz.prog 134 #[.pointer (some ⟨P.g,0,none⟩),.int .i32 sg] (W.alloc (.cells #[.int .i32 sg,.int .i64 n,.int .i32 nm] 132)) (zu_ P (W.alloc (.cells #[.int .i32 sg,.int .i64 n,.int .i32 nm] 132)) s' (.int .i64 tr))):xV_ P W ⟨sg,n,nm⟩ go tr s':=by
 unfold xV_;simp only[tkC];have hN:=zb_.new W 132 [.int .i32 sg,.int .i64 n,.int .i32 nm];have HTT:=hQ_ HT;generalize P.g=gp at *;have t0:=hN.cell 0;clear hN HT;rcases hs with rfl|rfl|rfl|rfl|rfl|rfl <;>
 · go_enter Tryz.func93,Tryz.ntmps93;go_wp2_with fail;refine HTT.o.mono ?_;rintro e w2 ⟨rfl,h2,hf2⟩;have HP:=hQ_ (zu_.boxed (show zu_ P _ s' (.int .i64 tr) (.returned (.int .i64 tr)) w2 from⟨rfl,h2,hf2⟩));clear h2 hf2;go_wp2_with fail;go_ret;exact HP.o
theorem ziR {n nm go tr:Int}{s':EgV}(HT:Calls Tryz.prog 136 #[.pointer (some ⟨P.g,0,none⟩),.int .i32 nm] (W.alloc (.cells #[.int .i32 960,.int .i64 n,.int .i32 nm] 132)) (zu_ P (W.alloc (.cells #[.int .i32 960,.int .i64 n,.int .i32 nm] 132)) s' (.int .i64 tr))):xV_ P W ⟨960,n,nm⟩ go tr s':=by
 unfold xV_;simp only[tkC];have hN:=zb_.new W 132 [.int .i32 960,.int .i64 n,.int .i32 nm];have HTT:=hQ_ HT;generalize P.g=gp at *;have t0:=hN.cell 0;have t2:=hN.cell 2;clear hN HT;go_enter Tryz.func93,Tryz.ntmps93;go_wp2_with fail;refine HTT.o.mono ?_;rintro e w2 ⟨rfl,h2,hf2⟩;have HP:=hQ_ (zu_.boxed (show zu_ P _ s' (.int .i64 tr) (.returned (.int .i64 tr)) w2 from⟨rfl,h2,hf2⟩));clear h2 hf2;go_wp2_with fail;go_ret;exact HP.o
end
section
variable {P:EP} {W W':World} {vs vc:Value} {s:EgV}
theorem ziQ {x n nm go:Int}(h:Eg P W vs vc s)(hx:s.st.getLast?=some x)(hroom:s.st.length+s.fuel<=2999999):xV_ P W ⟨46,n,nm⟩ go 0 (s.push x):=by
 unfold xV_;simp only[tkC];have hpop:s.pop=some (x,⟨s.fuel,s.st.dropLast,s.cs,s.L,s.V,s.qs⟩):=by unfold EgV.pop;rw[hx]
 obtain⟨st,hst,_⟩:=xL_ hpop;have hN:=zb_.new W 132 [.int .i32 46,.int .i64 n,.int .i32 nm];have hal:Chg [] W (W.alloc (.cells #[.int .i32 46,.int .i64 n,.int .i32 nm] 132)):=(Chg.refl [] W).alloc _;have t0:=hN.cell 0;have HH:=hQ_ h;have HST:=hQ_ hst;have HAL:=hQ_ hal;have HR:=hQ_ hroom;have hl:st.length<=3000000:=by have hb:=h.stkb;rw[hst]at hb;simp at hb;omega
 obtain⟨gp,hgp⟩:∃gp,gp=P.g:=⟨_,rfl⟩;have HGP:=hQ_ hgp;rw[<-hgp];obtain⟨s',hs'⟩:∃s',s'=s.push x:=⟨_,rfl⟩;have HS':=hQ_ hs';rw[<-hs'];clear h hst hal hN hpop hx hgp hs' hroom;go_enter Tryz.func93,Tryz.ntmps93;go_upto_region 6 with fail;generalize W.alloc (.cells #[.int .i32 46,.int .i64 n,.int .i32 nm] 132)=w1 at HAL⊢;clear t0;have h1:=HH.o.keep HAL.o;obtain⟨gs,c,rfl,hc,hx1⟩:=h1.top HST.o;have k7:w1.cell? ⟨gp,7,none⟩=some (.slice (some ⟨gs,0,none⟩) (st.length+1) c):=by rw[HGP.o];exact h1.rec_.cell 7
 have HPU:=hQ_ (xK_ (h1.keep ((Chg.refl [] w1).drew)) x HR.o);rw[<-HGP.o,<-HS'.out]at HPU;clear h1;generalize st.length=q at *;have hsub:IntKind.i64.wrap (((q+1:Nat):Int)-1)=(q:Int):=by rw[IntWalk.i64_in _ (by omega)];omega
 have hq0:(0:Int)<=(q:Int):=by omega
 have hq1:(q:Int)<((q+1:Nat):Int):=by omega
 have hk1:IntKind.i64.wrap ((q:Int)+1-1)=(q:Int):=by rw[show(q:Int)+1-1=(q:Int) from by omega];exact IntWalk.i64_in _ (by omega)
 have hk2:IntKind.i64.wrap (q:Int)=(q:Int):=IntWalk.i64_in _ (by omega);have hk3:(q:Int).toNat=q:=Int.toNat_natCast _;have hk5:(q:Int)<(q:Int)+1:=by omega
 have d7:w1.drew.cell? ⟨gp,7,none⟩=some (.slice (some ⟨gs,0,none⟩) (q+1) c):=k7;have dx:w1.drew.cell? ⟨gs,q,none⟩=some (.int .i64 x):=hx1;go_still_tail 13,(by kernel_rfl);change wpList _ _ _ _ _ w1.drew;go_wp2_with fail;refine HPU.o.mono ?_;rintro e w2 ⟨rfl,h2,hf2⟩;have HP:=hQ_ (show zu_ P W s' (.int .i64 0) (.returned (.int .i64 0)) w2 from⟨rfl,h2,(Fe.of_chg (HAL.o.drew)).trans hf2⟩);clear h2 hf2;go_wp2_with fail;go_ret;exact HP.o
theorem zfJ {n nm go tr:Int}{s':EgV}(h:Eg P W vs vc s)(HT:∀w1,Chg [] W w1->Calls Tryz.prog 135 #[.pointer (some ⟨P.g,0,none⟩),.int .i64 (yQ_ P.us nm)] w1 (zu_ P w1 s' (.int .i64 tr))):xV_ P W ⟨955,n,nm⟩ go tr s':=by
 unfold xV_;simp only[tkC];have hN:=zb_.new W 132 [.int .i32 955,.int .i64 n,.int .i32 nm];have hal:Chg [] W (W.alloc (.cells #[.int .i32 955,.int .i64 n,.int .i32 nm] 132)):=(Chg.refl [] W).alloc _;have t0:=hN.cell 0;have HH:=hQ_ h;have HAL:=hQ_ hal;have HTT:=hQ_ HT;have HN:=hQ_ hN;obtain⟨gp,hgp⟩:∃gp,gp=P.g:=⟨_,rfl⟩;have HGP:=hQ_ hgp;rw[<-hgp]at HTT⊢;clear h hal hN hgp HT;go_enter Tryz.func93,Tryz.ntmps93;go_upto_region 24 with fail;generalize hw1:W.alloc (.cells #[.int .i32 955,.int .i64 n,.int .i32 nm] 132)=w1 at HAL HN t0⊢;have H1:=hQ_ (HH.o.keep HAL.o);have t2:w1.cell? ⟨W.heap.size,2,none⟩=some (.int .i32 nm):=HN.o.cell 2;have k0:w1.cell? ⟨gp,0,none⟩=some (.int .i64 P.pages):=by rw[HGP.o];exact H1.o.rec_.cell 0
 have k1:w1.cell? ⟨gp,1,none⟩=some (.int .i64 P.mst):=by rw[HGP.o];exact H1.o.rec_.cell 1
 have k2:w1.cell? ⟨gp,2,none⟩=some (.slice P.A P.n P.c):=by rw[HGP.o];exact H1.o.rec_.cell 2
 have HFI:=hQ_ (xE_ (pages:=P.pages) (most:=P.mst) (H1.o.keep ((Chg.refl [] w1).drew)).fns nm);unfold yC_ at HFI;clear t0 hw1;generalize W.heap.size=gt at *;go_region_with (first
  | (go_at_call 50;refine HFI.o.mono ?_;rintro e w2 ⟨rfl,hc2⟩;have HC2:=hQ_ ((HAL.o.drew).new hc2);clear hc2)
  | (go_at_call 135;refine(HTT.o w2 HC2.o).mono ?_;rintro e w3 ⟨rfl,h3,hf3⟩;have HP:=hQ_ (show zu_ P W s' (.int .i64 tr) (.returned (.int .i64 tr)) w3 from⟨rfl,h3,(Fe.of_chg HC2.o).trans hf3⟩);clear h3 hf3));all_goals
   go_wp2_with fail;go_ret;exact HP.o
theorem zfH {sg n nm go tr:Int}{s':EgV}(hs:sg≠48/\sg≠46/\sg≠44/\sg≠63/\sg≠58/\sg≠59/\sg≠91/\sg≠93/\sg≠126/\sg≠35/\sg≠164/\sg≠64/\sg≠169/\sg≠36/\sg≠174/\sg≠955/\sg≠960/\sg≠161)(HT:Calls Tryz.prog 137 #[.pointer (some ⟨P.g,0,none⟩),.int .i32 sg] (W.alloc (.cells #[.int .i32 sg,.int .i64 n,.int .i32 nm] 132)) (zu_ P (W.alloc (.cells #[.int .i32 sg,.int .i64 n,.int .i32 nm] 132)) s' (.int .i64 tr))):xV_ P W ⟨sg,n,nm⟩ go tr s':=by
 unfold xV_;simp only[tkC];have hN:=zb_.new W 132 [.int .i32 sg,.int .i64 n,.int .i32 nm];have HTT:=hQ_ HT;generalize P.g=gp at *;have t0:=hN.cell 0;obtain⟨h1,h2,h3,h4,h5,h6,h7,h8,h9,h10,h11,h12,h13,h14,h15,h16,h17,h18⟩:=hs;have q1:(sg==48)=false:=by simpa using h1
 have q2:(sg==46)=false:=by simpa using h2
 have q3:(sg==44)=false:=by simpa using h3
 have q4:(sg==63)=false:=by simpa using h4
 have q5:(sg==58)=false:=by simpa using h5
 have q6:(sg==59)=false:=by simpa using h6
 have q7:(sg==91)=false:=by simpa using h7
 have q8:(sg==93)=false:=by simpa using h8
 have q9:(sg==126)=false:=by simpa using h9
 have q10:(sg==35)=false:=by simpa using h10
 have q11:(sg==164)=false:=by simpa using h11
 have q12:(sg==64)=false:=by simpa using h12
 have q13:(sg==169)=false:=by simpa using h13
 have q14:(sg==36)=false:=by simpa using h14
 have q15:(sg==174)=false:=by simpa using h15
 have q16:(sg==955)=false:=by simpa using h16
 have q17:(sg==960)=false:=by simpa using h17
 have q18:(sg==161)=false:=by simpa using h18
 clear hN HT h1 h2 h3 h4 h5 h6 h7 h8 h9 h10 h11 h12 h13 h14 h15 h16 h17 h18;go_enter Tryz.func93,Tryz.ntmps93;go_wp2_with fail;refine HTT.o.mono ?_;rintro e w2 ⟨rfl,h2,hf2⟩;have HP:=hQ_ (zu_.boxed (show zu_ P _ s' (.int .i64 tr) (.returned (.int .i64 tr)) w2 from⟨rfl,h2,hf2⟩));clear h2 hf2;go_wp2_with fail;go_ret;exact HP.o
theorem ziS {t:TkV}{go tr:Int}{s':EgV}(h:Eg P W vs vc s)(hr:kd_ P.us P.cd P.rs P.most t go s=some (tr,s'))(hroom:s.st.length+s.fuel<=2999999)(hq:s.qs.length+s.fuel<=899999999):xV_ P W t go tr s':=by
 obtain⟨sg,n,nm⟩:=t;have hb:=kn_ (x:=⟨sg,n,nm⟩) h;simp only at hb;have fin:∀{q:Option EgV},q.map (fun z=>((0:Int),z))=some (tr,s')->q=some s'/\tr=0:=fun {q} hh=>by
  cases q with
  | none=>cases hh
  | some z=>simp only[Option.map_some]at hh;injection hh with hh;injection hh with h1 h2;exact⟨by rw[h2],h1.symm⟩
 unfold kd_ at hr;simp only at hr;by_cases c1:sg=48
 · subst c1;rw[if_pos rfl]at hr;injection hr with hr;injection hr with h1 h2;subst h1;subst h2;exact ziO h hroom
 rw[if_neg c1]at hr;by_cases c2:sg=46
 · subst c2;rw[if_pos rfl]at hr;cases hx:s.st.getLast? with
   | none=>rw[hx]at hr;cases hr
   | some x =>
     rw[hx]at hr;injection hr with hr;injection hr with h1 h2;subst h1;subst h2;exact ziQ h hx hroom
 rw[if_neg c2]at hr;by_cases c3:sg=44
 · subst c3;rw[if_pos rfl]at hr;cases hp:s.pop with
   | none=>rw[hp]at hr;cases hr
   | some q =>
     rw[hp]at hr;simp only[Option.map_some]at hr;injection hr with hr;injection hr with h1 h2;subst h1;subst h2;exact zfI h hp
 rw[if_neg c3]at hr;by_cases c4:sg=63
 · subst c4;rw[if_pos rfl]at hr;cases hp:s.pop with
   | none=>rw[hp]at hr;cases hr
   | some q =>
     obtain⟨x,s1⟩:=q;rw[hp]at hr;simp only at hr;have hj:(if x=0 then s1.jump go else some s1)=some s'/\tr=0:=(by
      by_cases hx:x=0
      · rw[if_pos hx]at hr⊢;exact fin hr
      · rw[if_neg hx]at hr⊢;injection hr with hr;injection hr with h1 h2;exact⟨by rw[h2],h1.symm⟩);obtain⟨hj,rfl⟩:=hj;exact kN_ (.inl rfl) (zjX hb hp hj)
 rw[if_neg c4]at hr;by_cases c5:sg=58\/sg=93\/sg=126
 · rw[if_pos c5]at hr;obtain⟨hj,rfl⟩:=fin hr;exact kN_ (by omega) (zmX hb hj c5)
 rw[if_neg c5]at hr;by_cases c6:sg=59\/sg=91
 · rw[if_pos c6]at hr;injection hr with hr;injection hr with h1 h2;subst h1;subst h2;exact kN_ (by omega) (zjW hb c6)
 rw[if_neg c6]at hr;by_cases c7:sg=35\/sg=164\/sg=64\/sg=169\/sg=36\/sg=174
 · rw[if_pos c7]at hr;exact ziP c7 (zns c7 hb hr hroom)
 rw[if_neg c7]at hr;by_cases c8:sg=955
 · subst c8;rw[if_pos rfl]at hr;refine zfJ h fun w1 hc1=>?_;by_cases hd:32<=s.cs.length
   · rw[if_pos hd]at hr;injection hr with hr;injection hr with h1 h2;subst h1;subst h2;exact zfL (h.keep hc1) hd _
   · rw[if_neg hd]at hr;by_cases hf:yQ_ P.us nm<0
     · rw[if_pos hf]at hr;cases hr
     · rw[if_neg hf]at hr;obtain⟨hj,rfl⟩:=fin hr;have:=zlD (h.keep hc1) hj (by omega);rwa[Int.toNat_of_nonneg (by omega)]at this
 rw[if_neg c8]at hr;by_cases c9:sg=960
 · subst c9;rw[if_pos rfl]at hr;cases hp:s.pop with
   | none=>rw[hp]at hr;cases hr
   | some q =>
     obtain⟨x,s1⟩:=q;rw[hp]at hr;simp only at hr;have he:zqc P.rs nm x s1=(tr,s'):=by
      unfold zqc askO;cases ho:zoZ P.rs s1.qs.length with
      | none=>rw[ho]at hr;simp only at hr;injection hr
      | some y=>rw[ho]at hr;simp only at hr;injection hr
     have:=zlF hb hp nm hq;rw[he]at this;exact ziR this
 rw[if_neg c9]at hr;by_cases c10:sg=161
 · subst c10;rw[if_pos rfl]at hr;injection hr with hr;injection hr with h1 h2;subst h1;subst h2;exact zfG h
 rw[if_neg c10]at hr;refine zfH (by omega) ?_;by_cases l1:97<=sg/\sg<=122
 · exact zkI hb l1 hr hroom
 by_cases l2:65<=sg/\sg<=90
 · exact znu hb l2 hr
 · exact zhe hb l1 l2 hr
end
end Go.Proofs.YtcbcfcdmdedefaaGreatDoor
