import Derived.Test.YtcbcfcdmdedefaaGreatDoorZHQ23
set_option maxRecDepth 100000
set_option maxHeartbeats 16000000
namespace Go.Proofs.YtcbcfcdmdedefaaGreatDoor
open Go.RowKit
theorem uW_ {s s1:EgV}{x:Int}(h:s.pop=some (x,s1)):s1.fuel=s.fuel:=by
 unfold EgV.pop at h;split at h
 · cases h
 · injection h with h;injection h with _ h;subst h;rfl
theorem zig {s s1:EgV}{v:Int}(h:s.jump v=some s1):s1.fuel=s.fuel:=by
 unfold EgV.jump at h;split at h
 · cases h
 · split at h
   · cases h
   · injection h with h;subst h;rfl
theorem zoy {cd:List CodeV}{k:Nat}{s s1:EgV}(h:ke_ cd k s=some s1):s1.fuel=s.fuel:=by
 unfold ke_ at h;split at h
 · cases h
 · split at h
   · cases h
   · injection h with h;subst h;rfl
theorem zpr {most:Nat}{sg tr:Int}{s s1:EgV}(h:zbR most sg s=some (tr,s1)):s1.fuel=s.fuel:=by
 unfold zbR at h;split at h
 · injection h with h;injection h with _ h;subst h;rfl
 · split at h
   · cases h
   · rename_i x s2 hp;have e:=uW_ hp;split at h
     · split at h<;>(injection h with h;injection h with _ h;subst h;exact e)
     · split at h
       · split at h<;>(injection h with h;injection h with _ h;subst h;exact e)
       · split at h
         · cases h
         · rename_i k s3 hp3;have e3:=uW_ hp3;by_cases hc:0<=k/\k+(if sg=36 then 8 else 1)<=(s3.L.length:Int)
           · rw[if_pos hc]at h;injection h with h;injection h with _ h;subst h;exact e3.trans e
           · rw[if_neg hc]at h;injection h with h;injection h with _ h;subst h;exact e3.trans e
theorem zhc {sg tr:Int}{s s1:EgV}(h:y1_ sg s=some (tr,s1)):s1.fuel=s.fuel:=by
 unfold y1_ at h;split at h
 · split at h
   · cases h
   · split at h
     · cases h
     · injection h with h;injection h with _ h;subst h;rfl
 · split at h
   · split at h
     · cases h
     · rename_i x s2 hp;have e:=uW_ hp;split at h
       · cases h
       · injection h with h;injection h with _ h;subst h;exact e
   · have hb:∀b s2,(if sg=33 then some ((0:Int),s) else s.pop)=some (b,s2)->s2.fuel=s.fuel:=fun b s2 hh=>(by
      by_cases h33:sg=33
      · rw[if_pos h33]at hh;injection hh with hh;injection hh with _ hh;subst hh;rfl
      · rw[if_neg h33]at hh;exact uW_ hh);generalize (if sg=33 then some ((0:Int),s) else s.pop)=q at h hb;cases q with
     | none=>cases h
     | some q =>
       obtain⟨b,s2⟩:=q;have e:=hb b s2 rfl;simp only at h;split at h
       · cases h
       · rename_i a s3 hp;have e3:=uW_ hp;injection h with h;injection h with _ h;subst h;split
         · exact e3.trans e
         · exact e3.trans e
theorem zgG {us:List FnV}{cd:List CodeV}{rs:List (Option Int)}{most:Nat}{t:TkV}{v tr:Int}{s s1:EgV}(h:kd_ us cd rs most t v s=some (tr,s1)):s1.fuel=s.fuel:=by
 have fin:∀{q:Option EgV},(∀z,q=some z->z.fuel=s.fuel)->q.map (fun z=>((0:Int),z))=some (tr,s1)->s1.fuel=s.fuel:=fun {q} hq hh=>by
  cases q with
  | none=>cases hh
  | some z=>simp only[Option.map_some]at hh;injection hh with hh;injection hh with _ hh;subst hh;exact hq z rfl
 unfold kd_ at h;by_cases c1:t.sign=48
 · rw[if_pos c1]at h;injection h with h;injection h with _ h;subst h;rfl
 rw[if_neg c1]at h;by_cases c2:t.sign=46
 · rw[if_pos c2]at h;split at h
   · cases h
   · injection h with h;injection h with _ h;subst h;rfl
 rw[if_neg c2]at h;by_cases c3:t.sign=44
 · rw[if_pos c3]at h;cases hp:s.pop with
   | none=>rw[hp]at h;cases h
   | some q =>
     obtain⟨x,s2⟩:=q;rw[hp]at h;simp only[Option.map_some]at h;injection h with h;injection h with _ h;subst h;exact uW_ hp
 rw[if_neg c3]at h;by_cases c4:t.sign=63
 · rw[if_pos c4]at h;split at h
   · cases h
   · rename_i x s2 hp;have e:=uW_ hp;split at h
     · exact fin (fun z hz=>(zig hz).trans e) h
     · injection h with h;injection h with _ h;subst h;exact e
 rw[if_neg c4]at h;by_cases c5:t.sign=58\/t.sign=93\/t.sign=126
 · rw[if_pos c5]at h;exact fin (fun z hz=>zig hz) h
 rw[if_neg c5]at h;by_cases c6:t.sign=59\/t.sign=91
 · rw[if_pos c6]at h;injection h with h;injection h with _ h;subst h;rfl
 rw[if_neg c6]at h;by_cases c7:t.sign=35\/t.sign=164\/t.sign=64\/t.sign=169\/t.sign=36\/t.sign=174
 · rw[if_pos c7]at h;exact zpr h
 rw[if_neg c7]at h;by_cases c8:t.sign=955
 · rw[if_pos c8]at h;split at h
   · injection h with h;injection h with _ h;subst h;rfl
   · split at h
     · cases h
     · exact fin (fun z hz=>zoy hz) h
 rw[if_neg c8]at h;by_cases c9:t.sign=960
 · rw[if_pos c9]at h;split at h
   · cases h
   · rename_i x s2 hp;have e:=uW_ hp;split at h
     · injection h with h;injection h with _ h;subst h;exact e
     · injection h with h;injection h with _ h;subst h;exact e
 rw[if_neg c9]at h;by_cases c10:t.sign=161
 · rw[if_pos c10]at h;injection h with h;injection h with _ h;subst h;rfl
 · rw[if_neg c10]at h;exact zhc h
inductive OneR where
  | stuck
  | stop (r:Int×EgV)
  | on (s:EgV)
def zfP (us:List FnV) (cd:List CodeV) (rs:List (Option Int)) (most:Nat) (s:EgV):OneR:=match s.cs.getLast? with
  | none=>.stop (0,s)
  | some c=>match cd[c.fn]? with
    | none=>.stuck
    | some f=>if c.next=f.ts.length then .on (s.calls s.cs.dropLast)
      else if s.fuel=0 then .stop (1,s)
      else match f.ts[c.next]?,f.go[c.next]? with
        | some t,some go=>(match kd_ us cd rs most t go ⟨s.fuel-1,s.st,s.cs.dropLast++[c.at_ (c.next+1)],s.L,s.V,s.qs⟩ with
          | none=>.stuck
          | some (trap,s')=>if trap=0 then .on s' else .stop (trap,s'))
        | _,_=>.stuck
theorem gU_ {us:List FnV}{cd:List CodeV}{rs:List (Option Int)}{most n:Nat}{s:EgV}:ziX us cd rs most (n+1) s=match zfP us cd rs most s with
    | .stuck=>none
    | .stop r=>some r
    | .on s'=>ziX us cd rs most n s':=by
       rw[ziX,zfP];cases hc:s.cs.getLast? with
       | none=>rfl
       | some c =>
         simp only;cases hf:cd[c.fn]? with
         | none=>rfl
         | some f =>
           simp only;by_cases h1:c.next=f.ts.length
           · rw[if_pos h1,if_pos h1]
           rw[if_neg h1,if_neg h1];by_cases h2:s.fuel=0
           · rw[if_pos h2,if_pos h2]
           rw[if_neg h2,if_neg h2];cases ht:f.ts[c.next]? with
           | none=>rfl
           | some t =>
             cases hg:f.go[c.next]? with
             | none=>rfl
             | some go =>
               simp only;cases hs:kd_ us cd rs most t go ⟨s.fuel-1,s.st,s.cs.dropLast++[c.at_ (c.next+1)],s.L,s.V,s.qs⟩ with
               | none=>rfl
               | some q =>
                 obtain⟨tr,s'⟩:=q;simp only;by_cases h3:tr=0
                 · rw[if_pos h3,if_pos h3]
                 · rw[if_neg h3,if_neg h3]
theorem ziY {us:List FnV}{cd:List CodeV}{rs:List (Option Int)}{most:Nat}{s s':EgV}(h:zfP us cd rs most s=.on s'):2*s'.fuel+s'.cs.length<2*s.fuel+s.cs.length:=by
 unfold zfP at h;split at h
 · cases h
 · rename_i c hc;have hcl:0<s.cs.length:=List.length_pos_iff.2 (fun e=>by rw[e]at hc;simp at hc);split at h
   · cases h
   · split at h
     · injection h with h;subst h;simp[EgV.calls];omega
     · split at h
       · cases h
       · rename_i hf0;split at h
         · split at h
           · cases h
           · rename_i tr s2 hs;split at h
             · injection h with h;subst h;have e1:=zgG hs;have e2:=zgH hs;simp only[List.length_append,List.length_dropLast,List.length_singleton]at e1 e2;omega
             · cases h
         · cases h
inductive Rn (us:List FnV) (cd:List CodeV) (rs:List (Option Int)) (most:Nat):EgV->Int×EgV->Prop
  | stop {s:EgV} {r:Int×EgV}:zfP us cd rs most s=.stop r->Rn us cd rs most s r
  | on {s s':EgV} {r:Int×EgV}:zfP us cd rs most s=.on s'->Rn us cd rs most s' r->Rn us cd rs most s r
theorem Rn.run {us:List FnV}{cd:List CodeV}{rs:List (Option Int)}{most:Nat}{s:EgV}{r:Int×EgV}(h:Rn us cd rs most s r):∀n,2*s.fuel+s.cs.length<n->ziX us cd rs most n s=some r:=by
 induction h with
 | stop h =>
   intro n hn;obtain⟨m,rfl⟩:∃m,n=m+1:=⟨n-1,by omega⟩;rw[gU_,h]
 | on h _ ih =>
   intro n hn;obtain⟨m,rfl⟩:∃m,n=m+1:=⟨n-1,by omega⟩;rw[gU_,h];exact ih m (by have:=ziY h;omega)
theorem Rn.of_run {us:List FnV}{cd:List CodeV}{rs:List (Option Int)}{most:Nat}:∀(n:Nat){s:EgV}{r:Int×EgV},ziX us cd rs most n s=some r->Rn us cd rs most s r
  | 0,s,r,h=>by rw[ziX]at h;cases h
  | n+1,s,r,h=>by
    rw[gU_]at h;cases h1:zfP us cd rs most s with
    | stuck=>rw[h1]at h;cases h
    | stop q=>rw[h1]at h;injection h with h;subst h;exact .stop h1
    | on s'=>rw[h1]at h;exact .on h1 (Rn.of_run n h)
theorem zhw {P:EP} {s:EgV} {r:Int×EgV} (h:Rn P.us P.cd P.rs P.most s r):(s.cs=[]/\r=(0,s))\/∃ys c x,s.cs=ys++[c]/\P.xs[c.fn]?=some x /\
    ((c.next=x.c.ts.length/\Rn P.us P.cd P.rs P.most (s.calls ys) r)\/(c.next≠x.c.ts.length/\s.fuel=0/\r=(1,s)) \/
      (c.next≠x.c.ts.length/\s.fuel≠0/\∃t go tr s3,x.c.ts[c.next]?=some t/\x.c.go[c.next]?=some go/\kd_ P.us P.cd P.rs P.most t go ⟨s.fuel-1,s.st,ys++[c.at_ (c.next+1)],s.L,s.V,s.qs⟩=some (tr,s3) /\
        ((tr=0/\Rn P.us P.cd P.rs P.most s3 r)\/(tr≠0/\r=(tr,s3))))):=by
           have key:∀R,zfP P.us P.cd P.rs P.most s=R->(R=.stop r\/∃s',R=.on s'/\Rn P.us P.cd P.rs P.most s' r)->(s.cs=[]/\r=(0,s))\/∃ys c x,s.cs=ys++[c]/\P.xs[c.fn]?=some x /\
             ((c.next=x.c.ts.length/\Rn P.us P.cd P.rs P.most (s.calls ys) r)\/(c.next≠x.c.ts.length/\s.fuel=0/\r=(1,s)) \/
               (c.next≠x.c.ts.length/\s.fuel≠0/\∃t go tr s3,x.c.ts[c.next]?=some t/\x.c.go[c.next]?=some go/\kd_ P.us P.cd P.rs P.most t go ⟨s.fuel-1,s.st,ys++[c.at_ (c.next+1)],s.L,s.V,s.qs⟩=some (tr,s3) /\
                 ((tr=0/\Rn P.us P.cd P.rs P.most s3 r)\/(tr≠0/\r=(tr,s3))))):=by
             intro R hR hq;unfold zfP at hR;cases hl:s.cs.getLast? with
             | none =>
               rw[hl]at hR;simp only at hR;subst hR;refine .inl ⟨by simpa using hl,?_⟩;rcases hq with hq|⟨s',hq,_⟩
               · injection hq with hq;exact hq.symm
               · cases hq
             | some c =>
               obtain⟨ys,hcs,hdl⟩:=vS_ hl;rw[hl,hdl]at hR;simp only at hR;unfold EP.cd at hR;rw[List.getElem?_map]at hR;cases hx:P.xs[c.fn]? with
               | none =>
                 rw[hx]at hR;simp only[Option.map_none]at hR;subst hR;rcases hq with hq|⟨s',hq,_⟩<;>cases hq
               | some x =>
                 rw[hx]at hR;simp only[Option.map_some]at hR;refine .inr ⟨ys,c,x,hcs,hx,?_⟩;by_cases h1:c.next=x.c.ts.length
                 · rw[if_pos h1]at hR;subst hR;rcases hq with hq|⟨s',hq,hs'⟩
                   · cases hq
                   · injection hq with hq;subst hq;exact .inl ⟨h1,hs'⟩
                 rw[if_neg h1]at hR;by_cases h2:s.fuel=0
                 · rw[if_pos h2]at hR;subst hR;rcases hq with hq|⟨s',hq,hs'⟩
                   · injection hq with hq;exact .inr (.inl ⟨h1,h2,hq.symm⟩)
                   · cases hq
                 rw[if_neg h2]at hR;cases ht:x.c.ts[c.next]? with
                 | none =>
                   rw[ht]at hR;simp only at hR;subst hR;rcases hq with hq|⟨s',hq,_⟩<;>cases hq
                 | some t =>
                   cases hg:x.c.go[c.next]? with
                   | none =>
                     rw[ht,hg]at hR;simp only at hR;subst hR;rcases hq with hq|⟨s',hq,_⟩<;>cases hq
                   | some go =>
                     rw[ht,hg]at hR;simp only at hR;have hcd:List.map (fun x=>x.c) P.xs=P.cd:=rfl;rw[hcd]at hR;cases hs:kd_ P.us P.cd P.rs P.most t go ⟨s.fuel-1,s.st,ys++[c.at_ (c.next+1)],s.L,s.V,s.qs⟩ with
                     | none =>
                       rw[hs]at hR;simp only at hR;subst hR;rcases hq with hq|⟨s',hq,_⟩<;>cases hq
                     | some q =>
                       obtain⟨tr,s3⟩:=q;rw[hs]at hR;simp only at hR;refine .inr (.inr ⟨h1,h2,t,go,tr,s3,rfl,rfl,hs,?_⟩);by_cases h3:tr=0
                       · rw[if_pos h3]at hR;subst hR;rcases hq with hq|⟨s',hq,hs'⟩
                         · cases hq
                         · injection hq with hq;subst hq;exact .inl ⟨h3,hs'⟩
                       · rw[if_neg h3]at hR;subst hR;rcases hq with hq|⟨s',hq,hs'⟩
                         · injection hq with hq;exact .inr ⟨h3,hq.symm⟩
                         · cases hq
           cases h with
           | stop h=>exact key _ h (.inl rfl)
           | on h h2=>exact key _ h (.inr ⟨_,rfl,h2⟩)
def runM (g:Nat)(w:World):Nat:=(match w.cell? ⟨g,6,none⟩ with|some (.int _ f)=>2*f.toNat|_=>0)+(match w.cell? ⟨g,8,none⟩ with|some (.slice _ n _)=>n|_=>0)
section
variable {P:EP} {W W':World} {vs vc:Value} {s:EgV}
theorem Eg.runM (h:Eg P W vs vc s):runM P.g W=2*s.fuel+s.cs.length:=by
 obtain⟨A,n,c,rfl,hn,_⟩:=h.cslice;have k6:W.cell? ⟨P.g,6,none⟩=some (.int .i64 (s.fuel:Int)):=h.rec_.cell 6;have k8:W.cell? ⟨P.g,8,none⟩=some (.slice A n c):=h.rec_.cell 8;unfold Go.Proofs.YtcbcfcdmdedefaaGreatDoor.runM;rw[k6,k8];simp only[Int.toNat_natCast];omega
theorem Eg.back (h:Eg P W vs vc s){ys:List CallV}{c:CallV}(hcs:s.cs=ys++[c]){g cap:Nat}(hv:vc=.slice (some ⟨g,0,none⟩) (ys.length+1) cap){W2:World}(hc:Chg [] W W2) :
    Eg P (W2.setCell ⟨P.g,8,none⟩ (.slice (some ⟨g,0,none⟩) ys.length cap)) vs (.slice (some ⟨g,0,none⟩) ys.length cap) (s.calls ys)/\Fe P.K egT W (W2.setCell ⟨P.g,8,none⟩ (.slice (some ⟨g,0,none⟩) ys.length cap)):=by
 subst hv;have h2:=h.keep hc;have hloc:=h.loc;rw[hcs]at hloc;have ho:=h2.cal;rw[hcs,show(ys++[c]).length=ys.length+1 from by simp]at ho;have ht:=x6_ (q':=ys.length) ho (by omega) (by simp);rw[uh_,List.take_left' (by rw[ug_ (xG_.app.1 hloc).1])]at ht;have hf:Fe P.K eg3 W (W2.setCell ⟨P.g,8,none⟩ (.slice (some ⟨g,0,none⟩) ys.length cap)):=(Fe.of_chg hc).setw h2.rec_ h.kg (by simp[eg3]) _;exact⟨h.upd hf k4_ (h2.rec_.set_ 8 _) (z1_ h2.stk h2.rec_ (by decide)) (z1_ ht h2.rec_ (by decide)) (xG_.app.1 hloc).1 (Nat.le_refl _) h.stkb (by have:=h.calb;rw[hcs]at this;simp at this;omega),hf.sub vT_⟩
theorem Eg.burn (h:Eg P W vs vc s)(hf0:s.fuel≠0):Eg P (W.setCell ⟨P.g,6,none⟩ (.int .i64 ((s.fuel:Int)-1))) vs vc ⟨s.fuel-1,s.st,s.cs,s.L,s.V,s.qs⟩/\Fe P.K egT W (W.setCell ⟨P.g,6,none⟩ (.int .i64 ((s.fuel:Int)-1))):=by
 have hf:Fe P.K eg3 W (W.setCell ⟨P.g,6,none⟩ (.int .i64 ((s.fuel:Int)-1))):=(Fe.refl _ _ _).setw h.rec_ h.kg (by simp[eg3]) _;refine⟨h.upd hf k4_ ?_ (z1_ h.stk h.rec_ (by decide)) (z1_ h.cal h.rec_ (by decide)) h.loc (by omega) (by have:=h.stkb;omega) h.calb,hf.sub vT_⟩;have:=h.rec_.set_ 6 (.int .i64 ((s.fuel:Int)-1));rw[show(s.fuel:Int)-1=((s.fuel-1:Nat):Int) from by omega]at this⊢;exact this
end
section
variable {P:EP} {W W':World} {vs vc:Value} {s:EgV}
theorem zlC {tr:Int} {s':EgV} (h:Eg P W vs vc s) (hr:Rn P.us P.cd P.rs P.most s (tr,s')):Calls Tryz.prog 54 #[.pointer (some ⟨P.g,0,none⟩)] W (zu_ P W s' (.int .i64 tr)):=by
 obtain⟨gp,hgp⟩:∃gp,gp=P.g:=⟨_,rfl⟩;have HGP:=hQ_ hgp;rw[<-hgp];have H0:=hQ_ h;have HR0:=hQ_ hr;clear h hr hgp;go_enter Tryz.func54,Tryz.ntmps54;go_wp2_with fail;go_loopw [] (fun wr=>∃s2 vs2 vc2,Hid (Eg P wr vs2 vc2 s2)/\Hid (Rn P.us P.cd P.rs P.most s2 (tr,s'))/\Hid (Fe P.K egT W wr)) (fun wr=>runM gp wr);case atStart=>exact⟨s,vs,vc,H0,HR0,hQ_ (Fe.refl _ _ _)⟩
 case round =>
  obtain⟨s2,vs2,vc2,H2,HR2,HF2⟩:=hrel;have HM:=hQ_ (show runM gp wr=2*s2.fuel+s2.cs.length from by rw[HGP.o];exact H2.o.runM);obtain⟨A8,n8,c8,hv8,hn8,_⟩:=H2.o.cslice;have k8:wr.cell? ⟨gp,8,none⟩=some (.slice A8 n8 c8):=by rw[HGP.o,<-hv8];exact H2.o.rec_.cell 8
  rcases zhw HR2.o with⟨hcs,hr⟩|⟨ys,c,x,hcs,hx,hway⟩
  · have h0:n8=0:=(by rw[hn8,hcs];rfl);subst h0;injection hr with hr1 hr2;have HP:=hQ_ (show zu_ P W s' (.int .i64 tr) (.returned (.int .i64 0)) wr from by rw[hr1,hr2];exact⟨rfl,⟨_,_,H2.o⟩,HF2.o⟩);clear hr1 hr2 hcs hn8 hv8;go_wp2_with fail;go_ret;exact HP.o
  · clear k8 hv8 hn8;obtain⟨gc,cap,hv,hcap,hk,hlen,hcell,hfro⟩:=H2.o.cur hcs;obtain⟨k,hkk⟩:∃k,k=ys.length:=⟨_,rfl⟩;rw[<-hkk]at hv hcap hk;have HK:=hQ_ hkk;have HV:=hQ_ hv;have HCS:=hQ_ hcs;have HX:=hQ_ hx;have HLEN:=hQ_ hlen;have k8:wr.cell? ⟨gp,8,none⟩=some (.slice (some ⟨gc,0,none⟩) (k+1) cap):=(by rw[HGP.o,<-hv];exact H2.o.rec_.cell 8);have HNOW:=hQ_ (jX_ H2.o hv hk);rw[<-HGP.o]at HNOW;have c0:wr.cell? ⟨gc,k*28,none⟩=some (.int .i64 (c.fn:Int)):=(by rw[hkk];exact hcell 0 _ rfl);have c1:wr.cell? ⟨gc,k*28+1,none⟩=some (.int .i64 (c.next:Int)):=(by rw[hkk];exact hcell 1 _ rfl);clear hcell hfro hkk hv hcs hx;go_wp2_with fail;refine HNOW.o.mono ?_;rintro e w1 ⟨rfl,hc1⟩;have H3:=hQ_ (H2.o.keep hc1);have HC1:=hQ_ hc1;have d0:=zd_ c0 hc1;have d1:=zd_ c1 hc1;have d8:=zd_ k8 hc1;clear hc1 c0 c1 k8 HNOW;have d3:w1.cell? ⟨gp,3,none⟩=some P.cv:=(by rw[HGP.o];exact H3.o.rec_.cell 3);obtain⟨Av,cv,hcv,_⟩:=zh_ H3.o.cod.own;have hkx:c.fn<P.xs.length:=(List.getElem?_eq_some_iff.1 HX.o).1;have hx32:=H3.o.cod.lenb;obtain⟨gv,rfl,e0⟩:=zv_ H3.o.cod.own hcv ((kh_ P.xs c.fn x 0 HX.o (by omega)).trans rfl);obtain⟨_,hq,e1⟩:=zv_ H3.o.cod.own hcv ((kh_ P.xs c.fn x 1 HX.o (by omega)).trans rfl);injection hq with hq;injection hq with hq;subst hq;obtain⟨_,hq,e2⟩:=zv_ H3.o.cod.own hcv ((kh_ P.xs c.fn x 2 HX.o (by omega)).trans rfl);injection hq with hq;injection hq with hq;subst hq;rw[Nat.add_zero]at e0;rw[hcv]at d3;have hmem:x∈P.xs:=List.mem_of_getElem? HX.o;have htok:=H3.o.cod.toks x hmem;have hgo:=H3.o.cod.gos x hmem;obtain⟨hts,hgl⟩:=H3.o.cod.few x hmem;obtain⟨At,ct,htv,htc,_⟩:=zh_ htok;obtain⟨Ag,cg,hgv,hgc,_⟩:=zh_ hgo;rw[htv]at e1;rw[hgv]at e2;have HTOK:=hQ_ htok;have HGO:=hQ_ hgo;have HTV:=hQ_ htv;have HGV:=hQ_ hgv;have HGL:=hQ_ hgl;generalize hnt:x.c.ts.length=nt at e1 htc hts hway;generalize hng:x.c.go.length=ng at e2 hgc;have HNT:=hQ_ hnt;have HNG:=hQ_ hng;have hngt:ng=nt:=(by rw[<-hng,<-hnt];exact hgl);subst hngt;generalize hfn:c.fn=fn at d0 e0 e1 e2 hkx;have HFN:=hQ_ hfn;generalize hnx:c.next=nx at d1 hway;have HNX:=hQ_ hnx;generalize P.xs.length=np at *;generalize (x.c.args:Int)=xa at e0;clear hcv hmem htok hgo htv hgv hgl hnt hng hfn hnx;have hfn0:(0:Int)<=(fn:Int):=(by omega);have hfn1:(fn:Int)<(np:Int):=(by omega);go_wp2_with fail;have hal:=(Chg.refl [] w1).alloc (.cells #[.int .i64 0,.slice none 0 0,.slice none 0 0] 165);have q0:=zd_ d0 hal;have q3:=zd_ d3 hal;have p0:=zd_ e0 hal;have p1:=zd_ e1 hal;have p2:=zd_ e2 hal;go_region;have hX:=(zb_.new w1 165 [.int .i64 xa,.slice At ng ct,.slice Ag ng cg]).drew;have hc2:=((Chg.refl [] w1).alloc (.cells #[.int .i64 xa,.slice At ng ct,.slice Ag ng cg] 165)).drew;obtain⟨g4,hg4⟩:∃g4,g4=w1.heap.size:=⟨_,rfl⟩;rw[<-hg4]at hX⊢;have HG4:=hQ_ (show P.g<g4 from by rw[hg4];exact H3.o.rec_.lt);generalize (w1.alloc (.cells #[.int .i64 xa,.slice At ng ct,.slice Ag ng cg] 165)).drew=w2 at hX hc2⊢;have H4:=hQ_ (H3.o.keep hc2);have HX4:=hQ_ hX;have HC2:=hQ_ (HC1.o.new hc2);have c1:=zd_ d1 hc2;have c8:=zd_ d8 hc2;clear d0 d1 d3 d8 e0 e1 e2 q0 q3 p0 p1 p2 hal hX hc2 hg4 H3 HC1;have x1:=HX4.o.cell 1;have x2:=HX4.o.cell 2;rcases hway with⟨hnn,hr⟩|⟨hnn,hf0,hr⟩|⟨hnn,hf0,t,go,tr1,s3,ht,hg,hst,hend⟩
    · subst hnn;have HRN:=hQ_ hr;clear hr;go_wp2_with fail;go_quiet (fail);have hc3:Chg [] w2 (w2.drewN nq):=(Chg.refl [] w2).drewN nq;generalize w2.drewN nq=w3 at hc3⊢;have H5:=hQ_ (H4.o.keep hc3);have HC3:=hQ_ (HC2.o.new hc3);have b8:=zd_ c8 hc3;clear hc3 c1 c8 x1 x2 H4 HX4 HC2;have f8:w3.frozen? ⟨gp,8,none⟩=false:=(by rw[HGP.o];exact H5.o.rec_.frozen 8);have hkI:IntKind.i64.wrap ((k:Int)+1-1)=(k:Int):=(by rw[show(k:Int)+1-1=(k:Int) from by omega];exact IntWalk.i64_in _ (by omega));have hk2:IntKind.i64.wrap (k:Int)=(k:Int):=IntWalk.i64_in _ (by omega);have hk3:(k:Int).toNat=k:=Int.toNat_natCast _;have hk5:(k:Int)<=(cap:Int):=(by omega);have hk6:(0:Int)<=(k:Int):=(by omega);have hk7:k<=cap:=(by omega);have b8d:w3.drew.cell? ⟨gp,8,none⟩=some (.slice (some ⟨gc,0,none⟩) (k+1) cap):=b8;have f8d:w3.drew.frozen? ⟨gp,8,none⟩=false:=f8;have HB:=hQ_ (show Eg P (w3.drew.setCell ⟨gp,8,none⟩ (.slice (some ⟨gc,0,none⟩) k cap)) vs2 (.slice (some ⟨gc,0,none⟩) k cap) (s2.calls ys)/\Fe P.K egT w3 (w3.drew.setCell ⟨gp,8,none⟩ (.slice (some ⟨gc,0,none⟩) k cap)) from by
       have:=H5.o.back HCS.o (by rw[<-HK.o];exact HV.o) ((Chg.refl [] w3).drew);rw[<-HK.o]at this;rw[HGP.o];exact this);go_wp2_with fail;go_still_tail 14,(by kernel_rfl);change wpList _ _ _ _ _ w3.drew;go_wp2_with fail;go_roundw;(case rel=>exact⟨_,_,_,hQ_ HB.o.1,HRN,hQ_ ((HF2.o.new HC3.o).trans HB.o.2)⟩);case measure =>
       have:=HB.o.1.runM;rw[<-HGP.o]at this;change runM gp (w3.drew.setCell ⟨gp,8,none⟩ (.slice (some ⟨gc,0,none⟩) k cap))<runM gp wr;rw[this,HM.o];show 2*s2.fuel+ys.length<_;rw[HCS.o];simp
    · have hne:((nx:Int)==(ng:Int))=false:=(by simp;omega);injection hr with hr1 hr2;have HR:=hQ_ (And.intro hr1 hr2);clear hnn hr1 hr2;go_wp2_with fail;go_quiet (fail);have hc3:Chg [] w2 (w2.drewN nq):=(Chg.refl [] w2).drewN nq;generalize w2.drewN nq=w3 at hc3⊢;have H5:=hQ_ (H4.o.keep hc3);have HC3:=hQ_ (HC2.o.new hc3);clear hc3 c1 c8 x1 x2 H4 HX4 HC2;have b6:w3.cell? ⟨gp,6,none⟩=some (.int .i64 0):=(by rw[HGP.o];have:=H5.o.rec_.cell 6;rw[this];unfold wkC;rw[hf0];rfl);have HP:=hQ_ (show zu_ P W s' (.int .i64 tr) (.returned (.int .i64 1)) w3 from by rw[HR.o.1,HR.o.2];exact⟨rfl,⟨_,_,H5.o⟩,HF2.o.new HC3.o⟩);clear hf0;go_wp2_with fail;go_ret;exact HP.o
    · have hne:((nx:Int)==(ng:Int))=false:=(by simp;omega);have hlt:nx<ng:=(by rw[<-HNT.o];exact(List.getElem?_eq_some_iff.1 ht).1);clear hnn;go_wp2_with fail;go_quiet (fail);have hc3:Chg [] w2 (w2.drewN nq):=(Chg.refl [] w2).drewN nq;generalize w2.drewN nq=w3 at hc3⊢;have H5:=hQ_ (H4.o.keep hc3);have HC3:=hQ_ (HC2.o.new hc3);have HX5:=hQ_ (HX4.o.keep hc3);clear hc3 c1 c8 x1 x2 H4 HX4 HC2;have hfb:=H5.o.fuelb;have HBU:=hQ_ (H5.o.burn hf0);have b6:w3.cell? ⟨gp,6,none⟩=some (.int .i64 (s2.fuel:Int)):=(by rw[HGP.o];exact H5.o.rec_.cell 6);have f6:w3.frozen? ⟨gp,6,none⟩=false:=(by rw[HGP.o];exact H5.o.rec_.frozen 6);obtain⟨fu,hfu⟩:∃fu,fu=s2.fuel:=⟨_,rfl⟩;rw[<-hfu]at b6 hf0 hfb;have HFU:=hQ_ hfu;have hz:((fu:Int)==0)=false:=(by simp;omega);have hw6:IntKind.i64.wrap ((fu:Int)-1)=(fu:Int)-1:=IntWalk.i64_in _ (by omega);rw[<-HGP.o,<-hfu]at HBU;clear hfu;go_upto_region 9 with fail;have HX6:=hQ_ (HX5.o.far (p:=⟨gp,6,none⟩) (by have:=HG4.o;have:=HGP.o;simp only;omega) (.int .i64 ((fu:Int)-1)));generalize w3.setCell ⟨gp,6,none⟩ (.int .i64 ((fu:Int)-1))=w4 at HBU HX6⊢;have H6:=hQ_ HBU.o.1;have HF6:=hQ_ ((HF2.o.new HC3.o).trans HBU.o.2);clear b6 f6 HBU HX5 H5 HC3;obtain⟨_,_,hvv,_,_,_,hcell,hfro⟩:=H6.o.cur (ys:=ys) (c:=c) HCS.o;rw[HV.o]at hvv;injection hvv with hvv _ _;injection hvv with hvv;injection hvv with hvv;subst hvv;have d1:w4.cell? ⟨gc,k*28+1,none⟩=some (.int .i64 (nx:Int)):=(by rw[HK.o,<-HNX.o];exact hcell 1 _ rfl);clear hcell hfro;have hmem:x∈P.xs:=List.mem_of_getElem? HX.o;have htok:=H6.o.cod.toks x hmem;have hgo:=H6.o.cod.gos x hmem;rw[HTV.o,HNT.o]at htok;rw[HGV.o,HNG.o]at hgo;obtain⟨tsg,tn,tnm⟩:=t;obtain⟨gt,rfl,y0⟩:=zv_ htok rfl ((vn_ x.c.ts nx ⟨tsg,tn,tnm⟩ 0 ht (by omega)).trans (show(tkC ⟨tsg,tn,tnm⟩)[0]?=some (.int .i32 tsg) from rfl));obtain⟨_,hq,y1⟩:=zv_ htok rfl ((vn_ x.c.ts nx ⟨tsg,tn,tnm⟩ 1 ht (by omega)).trans (show(tkC ⟨tsg,tn,tnm⟩)[1]?=some (.int .i64 tn) from rfl));injection hq with hq;injection hq with hq;subst hq;obtain⟨_,hq,y2⟩:=zv_ htok rfl ((vn_ x.c.ts nx ⟨tsg,tn,tnm⟩ 2 ht (by omega)).trans (show(tkC ⟨tsg,tn,tnm⟩)[2]?=some (.int .i32 tnm) from rfl));injection hq with hq;injection hq with hq;subst hq;obtain⟨gg,rfl,z0⟩:=zv_ (j:=nx) (u:=.int .i64 go) hgo rfl (by simp[nms,hg]);rw[Nat.add_zero]at y0;have x1:=HX6.o.cell 1;have x2:=HX6.o.cell 2;have hal:=(Chg.refl [] w4).alloc (.cells #[.int .i32 0,.int .i64 0,.int .i32 0] 132);have q1:=zd_ d1 hal;have q2:=zd_ (show w4.cell? ⟨g4,1,none⟩=some (.slice (some ⟨gt,0,none⟩) ng ct) from x1) hal;have q3:=zd_ (show w4.cell? ⟨g4,2,none⟩=some (.slice (some ⟨gg,0,none⟩) ng cg) from x2) hal;have p0:=zd_ y0 hal;have p1:=zd_ y1 hal;have p2:=zd_ y2 hal;have p3:=zd_ z0 hal;have hal2:=(Chg.refl [] w4).alloc (.cells #[.int .i32 tsg,.int .i64 tn,.int .i32 tnm] 132);have v1:=zd_ d1 hal2;have v2:=zd_ (show w4.cell? ⟨g4,1,none⟩=some (.slice (some ⟨gt,0,none⟩) ng ct) from x1) hal2;have v3:=zd_ (show w4.cell? ⟨g4,2,none⟩=some (.slice (some ⟨gg,0,none⟩) ng cg) from x2) hal2;have v4:=zd_ z0 hal2;have hn0:(0:Int)<=(nx:Int):=(by omega);have hn1:(nx:Int)<(ng:Int):=(by omega);have HT:=hQ_ ht;have HG:=hQ_ hg;clear htok hgo hmem hlt ht hg;obtain⟨g5,hg5⟩:∃g5,g5=w4.heap.size:=⟨_,rfl⟩;have HG5:=hQ_ (show gc<g5 from by rw[hg5];have:=block_lt_of_cell d1;simpa using this);have HREL:=hQ_ (show ∃g5,Value.pointer (some ⟨w4.heap.size,0,none⟩)=.pointer (some ⟨g5,0,none⟩)/\Value.int .i64 go=.int .i64 go/\gc<g5/\Hid (Chg [] w4 (w4.alloc (.cells #[.int .i32 tsg,.int .i64 tn,.int .i32 tnm] 132)).drew)/\Hid (zb_ (w4.alloc (.cells #[.int .i32 tsg,.int .i64 tn,.int .i32 tnm] 132)).drew g5 132 [.int .i32 tsg,.int .i64 tn,.int .i32 tnm]) from
        ⟨g5,by rw[hg5],rfl,HG5.o,hQ_ hal2.drew,hQ_ (by rw[hg5];exact(zb_.new w4 132 [.int .i32 tsg,.int .i64 tn,.int .i32 tnm]).drew)⟩);clear hg5 HG5;go_cut [5,6] (fun a b wx=>∃g5,a=.pointer (some ⟨g5,0,none⟩)/\b=.int .i64 go/\gc<g5/\Hid (Chg [] w4 wx)/\Hid (zb_ wx g5 132 [.int .i32 tsg,.int .i64 tn,.int .i32 tnm]));case first =>
       go_region;go_wp2_with fail;go_meet;obtain⟨g5,e1,_,e3,e4,e5⟩:=HREL.o;exact⟨g5,e1,rfl,e3,e4,e5⟩
      case rest =>
      obtain⟨g5,rfl,rfl,hg5,HCW,HXW⟩:=hcut;clear q1 q2 q3 p0 p1 p2 p3 v1 v2 v3 v4 hal hal2 y0 y1 y2 z0 x1 x2 HREL;obtain⟨w5,hw5⟩:∃w5:World,w5=wc:=⟨_,rfl⟩;subst hw5;have hc5:=HCW.o;have hX:=HXW.o;have HG5:=hQ_ hg5;have H7:=hQ_ (H6.o.keep hc5);have HF7:=hQ_ (HF6.o.new hc5);have c1:=zd_ d1 hc5;have HX7:=hQ_ hX;have HSET:=hQ_ (H7.o.callset (ys:=ys) (c:=c) HCS.o HV.o (Chg.refl [] w5) (j:=1) (.int .i64 ((nx:Int)+1)) (g1_ c ((nx:Int)+1) (by omega)) HLEN.o);rw[<-HK.o]at HSET;have fc:w5.frozen? ⟨gc,k*28+1,none⟩=false:=(by
       obtain⟨_,_,hv2,_,_,_,_,hf2⟩:=H7.o.cur (ys:=ys) (c:=c) HCS.o;rw[HV.o]at hv2;injection hv2 with e _ _;injection e with e;injection e with e;rw[e];exact hf2 _);clear d1 hX hc5 hg5 H6 HX6 HCW HXW;have hwn:IntKind.i64.wrap ((nx:Int)+1)=(nx:Int)+1:=IntWalk.i64_in _ (by omega);go_upto_region 11 with fail;have HX8:=hQ_ (HX7.o.far (p:=⟨gc,k*28+1,none⟩) (by have:=HG5.o;simp only;omega) (.int .i64 ((nx:Int)+1)));generalize w5.setCell ⟨gc,k*28+1,none⟩ (.int .i64 ((nx:Int)+1))=w6 at HSET HX8⊢;clear c1 fc;have e0:=HX8.o.cell 0;have e1:=HX8.o.cell 1;have e2:=HX8.o.cell 2;have HSTP:=hQ_ (show xV_ P w6 ⟨tsg,tn,tnm⟩ go tr1 s3 from by
       have hEg:=HSET.o.1;rw[show((nx:Int)+1).toNat=nx+1 from by omega,HFU.o]at hEg;refine ziS (s:=⟨s2.fuel-1,s2.st,ys++[c.at_ (nx+1)],s2.L,s2.V,s2.qs⟩) hEg hst ?_ ?_
       · have:=H2.o.stkb;show s2.st.length+(s2.fuel-1)<=_;have:=HFU.o;omega
       · have:=H2.o.qsb;show s2.qs.length+(s2.fuel-1)<=_;have:=HFU.o;omega);unfold xV_ at HSTP;simp only[tkC]at HSTP;rw[<-HGP.o]at HSTP;have HF8:=hQ_ (HF7.o.trans HSET.o.2);have HLESS:=hQ_ (show 2*s3.fuel+s3.cs.length<2*s2.fuel+s2.cs.length from by
       have q1:=zgG hst;have q2:=zgH hst;have q3:=HCS.o;have q4:=HFU.o;simp only[List.length_append,List.length_singleton]at q1 q2;rw[q3,List.length_append,List.length_singleton];omega);clear hst;go_wp2_with fail;refine HSTP.o.mono ?_;rintro e w8 ⟨rfl,⟨vs8,vc8,h8⟩,hf8⟩;have H8:=hQ_ h8;have HF9:=hQ_ (HF8.o.trans hf8);clear h8 hf8 e0 e1 e2;rcases hend with⟨rfl,hrn⟩|⟨htr,hend⟩
      · have HRN:=hQ_ hrn;clear hrn;go_wp2_with fail;go_roundw;(case rel=>exact⟨_,_,_,H8,HRN,HF9⟩);case measure =>
         have:=H8.o.runM;rw[<-HGP.o]at this;rw[this,HM.o];exact HLESS.o
      · injection hend with he1 he2;have hz1:(tr1 != 0)=true:=(by simpa using htr);have HP:=hQ_ (show zu_ P W s' (.int .i64 tr) (.returned (.int .i64 tr1)) w8 from by rw[he1,he2];exact⟨rfl,⟨_,_,H8.o⟩,HF9.o⟩);clear he1 he2 htr;go_wp2_with fail;go_ret;exact HP.o
end
def QR (a b:EgV):Prop:=∃z,a.qs=b.qs++z
theorem QR.same {a b:EgV}(h:a.qs=b.qs):QR a b:=⟨[],by simp[h]⟩
theorem QR.trans {a b c:EgV}(h:QR a b)(k:QR b c):QR a c:=by
 obtain⟨z,hz⟩:=h;obtain⟨y,hy⟩:=k;exact⟨y++z,by rw[hz,hy,List.append_assoc]⟩
theorem k1_ {s s1:EgV}{x:Int}(h:s.pop=some (x,s1)):QR s1 s:=by
 unfold EgV.pop at h;split at h
 · cases h
 · injection h with h;injection h with _ h;subst h;exact QR.same rfl
theorem zif {s s1:EgV}{v:Int}(h:s.jump v=some s1):QR s1 s:=by
 unfold EgV.jump at h;split at h
 · cases h
 · split at h
   · cases h
   · injection h with h;subst h;exact QR.same rfl
theorem zox {cd:List CodeV}{k:Nat}{s s1:EgV}(h:ke_ cd k s=some s1):QR s1 s:=by
 unfold ke_ at h;split at h
 · cases h
 · split at h
   · cases h
   · injection h with h;subst h;exact QR.same rfl
theorem zpq {most:Nat}{sg tr:Int}{s s1:EgV}(h:zbR most sg s=some (tr,s1)):QR s1 s:=by
 unfold zbR at h;split at h
 · injection h with h;injection h with _ h;subst h;exact QR.same rfl
 · split at h
   · cases h
   · rename_i x s2 hp;have e:=k1_ hp;split at h
     · split at h<;>(injection h with h;injection h with _ h;subst h;exact(QR.same rfl).trans e)
     · split at h
       · split at h<;>(injection h with h;injection h with _ h;subst h;exact(QR.same rfl).trans e)
       · split at h
         · cases h
         · rename_i k s3 hp3;have e3:=k1_ hp3;by_cases hc:0<=k/\k+(if sg=36 then 8 else 1)<=(s3.L.length:Int)
           · rw[if_pos hc]at h;injection h with h;injection h with _ h;subst h;exact(QR.same rfl).trans (e3.trans e)
           · rw[if_neg hc]at h;injection h with h;injection h with _ h;subst h;exact(QR.same rfl).trans (e3.trans e)
theorem zhb {sg tr:Int}{s s1:EgV}(h:y1_ sg s=some (tr,s1)):QR s1 s:=by
 unfold y1_ at h;split at h
 · split at h
   · cases h
   · split at h
     · cases h
     · injection h with h;injection h with _ h;subst h;exact QR.same rfl
 · split at h
   · split at h
     · cases h
     · rename_i x s2 hp;have e:=k1_ hp;split at h
       · cases h
       · injection h with h;injection h with _ h;subst h;exact(QR.same rfl).trans e
   · have hb:∀b s2,(if sg=33 then some ((0:Int),s) else s.pop)=some (b,s2)->QR s2 s:=fun b s2 hh=>(by
      by_cases h33:sg=33
      · rw[if_pos h33]at hh;injection hh with hh;injection hh with _ hh;subst hh;exact QR.same rfl
      · rw[if_neg h33]at hh;exact k1_ hh);generalize (if sg=33 then some ((0:Int),s) else s.pop)=q at h hb;cases q with
     | none=>cases h
     | some q =>
       obtain⟨b,s2⟩:=q;have e:=hb b s2 rfl;simp only at h;split at h
       · cases h
       · rename_i a s3 hp;have e3:=k1_ hp;injection h with h;injection h with _ h;subst h;split
         · exact(QR.same rfl).trans (e3.trans e)
         · exact e3.trans e
theorem zng {us:List FnV}{cd:List CodeV}{rs:List (Option Int)}{most:Nat}{t:TkV}{v tr:Int}{s s1:EgV}(h:kd_ us cd rs most t v s=some (tr,s1)):QR s1 s:=by
 have fin:∀{q:Option EgV},(∀z,q=some z->QR z s)->q.map (fun z=>((0:Int),z))=some (tr,s1)->QR s1 s:=fun {q} hq hh=>by
  cases q with
  | none=>cases hh
  | some z=>simp only[Option.map_some]at hh;injection hh with hh;injection hh with _ hh;subst hh;exact hq z rfl
 unfold kd_ at h;by_cases c1:t.sign=48
 · rw[if_pos c1]at h;injection h with h;injection h with _ h;subst h;exact QR.same rfl
 rw[if_neg c1]at h;by_cases c2:t.sign=46
 · rw[if_pos c2]at h;split at h
   · cases h
   · injection h with h;injection h with _ h;subst h;exact QR.same rfl
 rw[if_neg c2]at h;by_cases c3:t.sign=44
 · rw[if_pos c3]at h;cases hp:s.pop with
   | none=>rw[hp]at h;cases h
   | some q =>
     obtain⟨x,s2⟩:=q;rw[hp]at h;simp only[Option.map_some]at h;injection h with h;injection h with _ h;subst h;exact k1_ hp
 rw[if_neg c3]at h;by_cases c4:t.sign=63
 · rw[if_pos c4]at h;split at h
   · cases h
   · rename_i x s2 hp;have e:=k1_ hp;split at h
     · exact fin (fun z hz=>(zif hz).trans e) h
     · injection h with h;injection h with _ h;subst h;exact e
 rw[if_neg c4]at h;by_cases c5:t.sign=58\/t.sign=93\/t.sign=126
 · rw[if_pos c5]at h;exact fin (fun z hz=>zif hz) h
 rw[if_neg c5]at h;by_cases c6:t.sign=59\/t.sign=91
 · rw[if_pos c6]at h;injection h with h;injection h with _ h;subst h;exact QR.same rfl
 rw[if_neg c6]at h;by_cases c7:t.sign=35\/t.sign=164\/t.sign=64\/t.sign=169\/t.sign=36\/t.sign=174
 · rw[if_pos c7]at h;exact zpq h
 rw[if_neg c7]at h;by_cases c8:t.sign=955
 · rw[if_pos c8]at h;split at h
   · injection h with h;injection h with _ h;subst h;exact QR.same rfl
   · split at h
     · cases h
     · exact fin (fun z hz=>zox hz) h
 rw[if_neg c8]at h;by_cases c9:t.sign=960
 · rw[if_pos c9]at h;split at h
   · cases h
   · rename_i x s2 hp;have e:=k1_ hp;split at h
     · injection h with h;injection h with _ h;subst h;exact QR.trans (b:=s2) ⟨_,rfl⟩ e
     · injection h with h;injection h with _ h;subst h;exact QR.trans (b:=s2) ⟨_,rfl⟩ e
 rw[if_neg c9]at h;by_cases c10:t.sign=161
 · rw[if_pos c10]at h;injection h with h;injection h with _ h;subst h;exact QR.same rfl
 · rw[if_neg c10]at h;exact zhb h
theorem zmu {us:List FnV} {cd:List CodeV} {rs:List (Option Int)} {most:Nat} {s:EgV}:(∀s',zfP us cd rs most s=.on s'->QR s' s)/\(∀r,zfP us cd rs most s=.stop r->QR r.2 s):=by
 have key:∀ R,zfP us cd rs most s=R->(∀s',R=.on s'->QR s' s)/\(∀r,R=.stop r->QR r.2 s):=by
  intro R h;unfold zfP at h;split at h
  · subst h;exact⟨fun s' e=>(by cases e),fun r e=>by injection e with e;subst e;exact QR.same rfl⟩
  · split at h
    · subst h;exact⟨fun s' e=>(by cases e),fun r e=>(by cases e)⟩
    · split at h
      · subst h;exact⟨fun s' e=>by injection e with e;subst e;exact QR.same rfl,fun r e=>(by cases e)⟩
      · split at h
        · subst h;exact⟨fun s' e=>(by cases e),fun r e=>by injection e with e;subst e;exact QR.same rfl⟩
        · split at h
          · split at h
            · subst h;exact⟨fun s' e=>(by cases e),fun r e=>(by cases e)⟩
            · rename_i hs;have e1:=zng hs;split at h
              · subst h;exact⟨fun s' e=>by injection e with e;subst e;exact e1.trans (QR.same rfl),fun r e=>(by cases e)⟩
              · subst h;exact⟨fun s' e=>(by cases e),fun r e=>by injection e with e;subst e;exact e1.trans (QR.same rfl)⟩
          · subst h;exact⟨fun s' e=>(by cases e),fun r e=>(by cases e)⟩
 exact key _ rfl
theorem Rn.qs {us:List FnV}{cd:List CodeV}{rs:List (Option Int)}{most:Nat}{s:EgV}{r:Int×EgV}(h:Rn us cd rs most s r):QR r.2 s:=by
 induction h with
 | stop h=>exact zmu.2 _ h
 | on h _ ih=>exact ih.trans (zmu.1 _ h)
def zmK (w:World)(T:List Nat)(p most rp:Nat)(rs:List (Option Int))(nq:Nat)(val trap:Int)(s':EgV)(e:Ending)(w':World):Prop :=
 ∃ v,e=.returned (.tuple #[.agg #[.int .i64 val,.int .i64 trap,.int .i64 (s'.fuel:Int),v],.int .i64 0])/\QSl w' v (s'.qs.drop nq) /\
   (∃gC gD X Y,Mm w' p gC gD s'.L X s'.V Y most/\(w.heap.size<=gC\/gC∈T)/\(w.heap.size<=gD\/gD∈T))/\(∃a q,Rq w' rp rs s'.qs a q/\∀i,q.ownBlock=some i->w.heap.size<=i\/i∈T)/\Chg T w w'
section
variable {P:EP} {W W':World} {vs vc:Value} {s:EgV}
theorem Eg.popped3 (h:Eg P W vs vc s){A:Option Addr}{n c:Nat}(hv:vs=.slice A (n+1) c){W2:World}(hc:Chg [] W W2){st:List Int}{x:Int}(hst:s.st=st++[x]) :
    Eg P (W2.setCell ⟨P.g,7,none⟩ (.slice A n c)) (.slice A n c) vc ⟨s.fuel,st,s.cs,s.L,s.V,s.qs⟩/\Fe P.K eg3 W (W2.setCell ⟨P.g,7,none⟩ (.slice A n c)):=by
 subst hv;have h2:=h.keep hc;have hl:s.st.length=st.length+1:=by rw[hst];simp
 have hq:n+1=s.st.length:=by
  rcases h.stk.2 with⟨e,e2⟩|⟨_,_,_,e,_⟩
  · injection e with _ e _;omega
  · injection e
 have hA:A≠none:=by
  rintro rfl;rcases h.stk.2 with⟨e,_⟩|⟨_,_,_,e,_⟩
  · injection e with _ e _;simp at e
  · injection e with e _;cases e
 have ho:=h2.stk;rw[<-hq]at ho;have ht:=x6_ (q':=n) ho (by omega) hA;have e2:(nms s.st).take (n*1)=nms st:=by rw[hst,ky_,List.take_left' (by rw[xi_];omega)]
 rw[e2]at ht;have hf:Fe P.K eg3 W (W2.setCell ⟨P.g,7,none⟩ (.slice A n c)):=(Fe.of_chg hc).setw h2.rec_ h.kg (by simp[eg3]) _;refine⟨h.upd hf k4_ (h2.rec_.set_ 7 _) ?_ (z1_ h2.cal h2.rec_ (by decide)) h.loc (Nat.le_refl _) (by have:=h.stkb;omega) h.calb,hf⟩;have:=z1_ (j:=7) (u:=.slice A n c) ht h2.rec_ (by decide);rw[show st.length=n from by omega];exact this
theorem zpC {x:Int}{s':EgV}(h:Eg P W vs vc s)(hp:s.pop=some (x,s')):Calls Tryz.prog 55 #[.pointer (some ⟨P.g,0,none⟩)] W (fun e w'=>e=.returned (.int .i64 x)/\(∃vs' vc',Eg P w' vs' vc' s')/\Fe P.K eg3 W w'):=by
 obtain⟨st,hst,rfl⟩:=xL_ hp;obtain⟨gs,c,rfl,hc,hx⟩:=h.top hst;have k7:W.cell? ⟨P.g,7,none⟩=some (.slice (some ⟨gs,0,none⟩) (st.length+1) c):=h.rec_.cell 7;have f7:=h.rec_.frozen 7;have hb:=h.stkb;have hl:s.st.length=st.length+1:=by rw[hst];simp
 have HQ:=hQ_ (h.popped3 rfl (Chg.refl [] W) hst);have HQ2:=hQ_ (h.popped3 rfl ((Chg.refl [] W).drew) hst);obtain⟨n,hn⟩:∃n,n=st.length:=⟨_,rfl⟩;rw[<-hn]at HQ HQ2 k7 hx hc hl;have hn9:n<=3000000:=by omega
 generalize P.g=g at k7 f7 HQ HQ2⊢;clear h hp hst hn hb;have hsub:IntKind.i64.wrap (((n+1:Nat):Int)-1)=(n:Int):=by rw[IntWalk.i64_in _ (by omega)];omega
 have hq0:(0:Int)<=(n:Int):=by omega
 have hq1:(n:Int)<((n+1:Nat):Int):=by omega
 have hq2:(n:Int)<=(c:Int):=by omega
 go_enter Tryz.func55,Tryz.ntmps55;go_wp2_with fail;go_ret;exact⟨rfl,⟨_,_,HQ.o.1⟩,HQ.o.2⟩
end
theorem zpA {K:Nat->Prop}{TS:List TypeId}{w a b:World}{T:List Nat}(h:Chg [] w a)(hf:Fe K TS a b)(hK:∀k,K k->w.heap.size<=k\/k∈T):Chg T w b :=
 ⟨hf.os.trans h.os,hf.tape.trans h.tape,hf.output.trans h.output,Nat.le_trans h.size hf.size,fun k hk hn=>(hf.block k (Nat.lt_of_lt_of_le hk h.size) (.inl fun hc=>by
  rcases hK k hc with hc|hc
  · omega
  · exact hn hc)).trans (h.block k hk (by simp))⟩
theorem zgV {w w7 wx:World}{P:EP}{T:List Nat}{p most rp:Nat}{rs:List (Option Int)}{nq m9 gO:Nat}{val trap:Int}{s':EgV}{Ab Ax:Option Addr}{cb:Nat}{vs vc:Value}
    (hP:P.p=p/\P.most=most/\P.rp=rp/\P.rs=rs/\P.B=w.heap.size/\P.T=T) (h7:Chg [] w w7) (hf:Fe P.K egT w7 wx) {wy:World} (hE:Eg P wx vs vc s') (hy:Fe (fun _=>True) [32] wx wy) (hyc:Chg [] wx wy\/∃g u,w.heap.size<=g/\wy=wx.setCell ⟨g,0,none⟩ u)
    (hax:(if cb=nq then Ab else Option.map (fun x=>x.add (nq*2)) Ab)=Ax) (hro:wx.ownsRow 0 267 2 (.slice Ab m9 cb) m9 (qsC s'.qs)) (hm:m9=s'.qs.length) (hn:nq<=m9)
    (hO:zb_ wy gO 32 [.int .i64 0,.int .i64 0,.int .i64 0,.slice none 0 0]) (hgO:w.heap.size<=gO) :
    ∀wf,wf=((((wy.setCell ⟨gO,0,none⟩ (.int .i64 val)).setCell ⟨gO,1,none⟩ (.int .i64 trap)).setCell ⟨gO,2,none⟩ (.int .i64 (s'.fuel:Int))).setCell ⟨gO,3,none⟩ (.slice Ax (m9-nq) (cb-nq))) ->
    zb_ wf gO 32 [.int .i64 val,.int .i64 trap,.int .i64 (s'.fuel:Int),.slice Ax (m9-nq) (cb-nq)]/\zmK w T p most rp rs nq val trap s' (.returned (.tuple #[.agg #[.int .i64 val,.int .i64 trap,.int .i64 (s'.fuel:Int),.slice Ax (m9-nq) (cb-nq)],.int .i64 0])) wf:=by
 intro wf hwf;have kP:∀k,P.K k->w.heap.size<=k\/k∈T:=fun k hk=>by
  rcases hk with hk|hk
  · exact .inl (hP.2.2.2.2.1 ▸ hk)
  · exact .inr (hP.2.2.2.2.2 ▸ hk)
 have c0:Chg T w wx:=zpA h7 hf kP;have c1:Chg T w wy:=by
  rcases hyc with h|⟨g,u,hg,rfl⟩
  · exact c0.new h
  · exact c0.setCell (p:=⟨g,0,none⟩) (fun h=>by simp only at h;omega) u
 have h0:=hO.set_ 0 (.int .i64 val);have h1:=h0.set_ 1 (.int .i64 trap);have h2:=h1.set_ 2 (.int .i64 (s'.fuel:Int));have h3:=h2.set_ 3 (.slice Ax (m9-nq) (cb-nq));have hq:Fe (fun _=>True) [32] wx wf:=by
  rw[hwf];exact(((hy.setw hO trivial (by simp) _).setw h0 trivial (by simp) _).setw h1 trivial (by simp) _).setw h2 trivial (by simp) _
 have hW:zb_ wf gO 32 [.int .i64 val,.int .i64 trap,.int .i64 (s'.fuel:Int),.slice Ax (m9-nq) (cb-nq)]:=by
  rw[hwf];simpa using h3
 have hC:Chg T w wf:=by
  rw[hwf];exact(((c1.setCell (p:=⟨gO,0,none⟩) (fun h=>by simp only at h;omega) _).setCell (p:=⟨gO,1,none⟩) (fun h=>by simp only at h;omega) _).setCell (p:=⟨gO,2,none⟩) (fun h=>by simp only at h;omega) _).setCell (p:=⟨gO,3,none⟩) (fun h=>by simp only at h;omega) _
 clear hwf h0 h1 h2 h3 c0 c1;refine⟨hW,.slice Ax (m9-nq) (cb-nq),rfl,?_,?_,?_,hC⟩
 · rw[<-hax];exact zkM (hq.own hro (by decide)) hm hn
 · obtain⟨gC,gD,X,Y,hM,k1,k2⟩:=hE.mem;refine⟨gC,gD,X,Y,?_,kP _ k1,kP _ k2⟩;have:=hq.mm hM (by decide) (by decide) (by decide);rwa[hP.1,hP.2.1]at this
 · obtain⟨a,q,hR,k3⟩:=hE.row;refine⟨a,q,?_,fun i hi=>kP _ (k3 i hi)⟩;have:=hR.fe hq (by decide) (by decide) (by decide);rwa[hP.2.2.1,hP.2.2.2.1]at this
theorem zgl {w4 w5:World}{g:Nat}{z:List Value}(hz:z.length=9)(h:zb_ w5 g 112 z)(hc:Chg [] w4 w5)(hg:w4.heap.size<=g)(u0 u1 u2 u3 u4 u5 u6 u7 u8:Value) :
    let w6:=((((((((w5.setCell ⟨g,0,none⟩ u0).setCell ⟨g,1,none⟩ u1).setCell ⟨g,2,none⟩ u2).setCell ⟨g,3,none⟩ u3).setCell ⟨g,4,none⟩ u4).setCell ⟨g,5,none⟩ u5).setCell ⟨g,6,none⟩ u6).setCell ⟨g,7,none⟩ u7).setCell ⟨g,8,none⟩ u8
    zb_ w6 g 112 [u0,u1,u2,u3,u4,u5,u6,u7,u8]/\Fe (fun _=>True) [112] w5 w6/\Chg [] w4 w6:=by
 have h0:=h.set_ 0 u0;have h1:=h0.set_ 1 u1;have h2:=h1.set_ 2 u2;have h3:=h2.set_ 3 u3;have h4:=h3.set_ 4 u4;have h5:=h4.set_ 5 u5;have h6:=h5.set_ 6 u6;have h7:=h6.set_ 7 u7;have h8:=h7.set_ 8 u8;refine⟨?_,?_,?_⟩
 · obtain⟨a,b,c,d,e,f,i,j,k,rfl⟩:∃a b c d e f i j k,z=[a,b,c,d,e,f,i,j,k]:=(by
    match z,hz with
    | [a,b,c,d,e,f,i,j,k],_=>exact⟨a,b,c,d,e,f,i,j,k,rfl⟩);simpa using h8
 · exact((((((((((Fe.refl (fun _=>True) [112] w5).setw h trivial (by simp) u0).setw h0 trivial (by simp) u1).setw h1 trivial (by simp) u2).setw h2 trivial (by simp) u3).setw h3 trivial (by simp) u4).setw h4 trivial (by simp) u5).setw h5 trivial (by simp) u6).setw h6 trivial (by simp) u7).setw h7 trivial (by simp) u8)
 · exact((((((((hc.setCell (p:=⟨g,0,none⟩) (by simp;omega) u0).setCell (p:=⟨g,1,none⟩) (by simp;omega) u1).setCell (p:=⟨g,2,none⟩) (by simp;omega) u2).setCell (p:=⟨g,3,none⟩) (by simp;omega) u3).setCell (p:=⟨g,4,none⟩) (by simp;omega) u4).setCell (p:=⟨g,5,none⟩) (by simp;omega) u5).setCell (p:=⟨g,6,none⟩) (by simp;omega) u6).setCell (p:=⟨g,7,none⟩) (by simp;omega) u7).setCell (p:=⟨g,8,none⟩) (by simp;omega) u8
theorem zkH {w4 w5:World}{g:Nat}{z:List Value}(hz:z.length=4)(h:zb_ w5 g 32 z)(hc:Chg [] w4 w5)(hg:w4.heap.size<=g)(u0 u1 u2 u3:Value) :
    let w6:=(((w5.setCell ⟨g,0,none⟩ u0).setCell ⟨g,1,none⟩ u1).setCell ⟨g,2,none⟩ u2).setCell ⟨g,3,none⟩ u3
    zb_ w6 g 32 [u0,u1,u2,u3]/\Fe (fun _=>True) [32] w5 w6/\Chg [] w4 w6:=by
 have h0:=h.set_ 0 u0;have h1:=h0.set_ 1 u1;have h2:=h1.set_ 2 u2;have h3:=h2.set_ 3 u3;refine⟨?_,?_,?_⟩
 · obtain⟨a,b,c,d,rfl⟩:∃a b c d,z=[a,b,c,d]:=(by
    match z,hz with
    | [a,b,c,d],_=>exact⟨a,b,c,d,rfl⟩);simpa using h3
 · exact((((Fe.refl (fun _=>True) [32] w5).setw h trivial (by simp) u0).setw h0 trivial (by simp) u1).setw h1 trivial (by simp) u2).setw h2 trivial (by simp) u3
 · exact(((hc.setCell (p:=⟨g,0,none⟩) (by simp;omega) u0).setCell (p:=⟨g,1,none⟩) (by simp;omega) u1).setCell (p:=⟨g,2,none⟩) (by simp;omega) u2).setCell (p:=⟨g,3,none⟩) (by simp;omega) u3
theorem zov {w:World}{B m:Nat}{v:Value}{xs:List CdV}(h:w.ownsRow B 165 3 v m (zbT xs))(hm:m=xs.length)(hx:Cdx w xs)(h32:xs.length<=32):Cods w v xs:=⟨by subst hm;exact ym_ h (Nat.zero_le _),hx.toks,hx.gos,hx.few,h32⟩
section
variable {w:World} {p gC gD rp mm n c:Nat} {L:List UInt8} {X:List Value} {V:List Bool} {Y:List Value} {rs:List (Option Int)} {qs:List (Int×Int)} {a q:Value} {A A2:Option Addr} {l:List FnV} {pages most:Int} {T:List Nat} {args:List Int} {k fuel m2 c2:Nat} {f:FnV} {val trap:Int} {s':EgV} {name:Int}
theorem zfM (hM:Mm w p gC gD L X V Y mm) (hR:Rq w rp rs qs a q) (hF:Fnr w A n c l) (hU:RightU pages most l) (hp:p∈T) (hC:gC∈T) (hD:gD∈T) (hrp:rp∈T) (hq:∀i,q.ownBlock=some i->i∈T)
    (hA:∀ad,A=some ad->ad.block<w.heap.size/\ad.block∉T) (hk:yQ_ l name=(k:Int)) (hf:l[k]?=some f) (hfa:f.args=(args.length:Int)) (hfu:fuel<=1048576) (hqs:qs.length<=800000000) (hm2:m2=args.length) (hS:Src w A2 (nms args))
    (hdo:eDo l rs mm k fuel args L V qs=some (val,trap,s')):Calls Tryz.prog 25 #[yC_ pages most A n c,.pointer (some ⟨p,0,none⟩),.pointer (some ⟨rp,0,none⟩),.int .i32 name,.int .i64 (fuel:Int),.slice A2 m2 c2] w (zmK w T p mm rp rs qs.length val trap s'):=by
      have hf4:=hU.fn k f hf;have hl4:args.length<=4:=(by have:=hf4.2.2.2;omega);have hkn:k<n:=(by rw[<-hF.len];exact(List.getElem?_eq_some_iff.1 hf).1);have hn32:n<=32:=(by rw[<-hF.len];exact hU.few);have HRG:=hQ_ (fun (w1:World) (hc:Chg [] w w1)=>gu_ (hF.keep hc) hU);have HFI:=hQ_ (fun (w1:World) (hc:Chg [] w w1)=>xE_ (pages:=pages) (most:=most) (hF.keep hc) name);have HCO:=hQ_ (fun (w1:World) (hc:Chg [] w w1)=>zjg (pages:=pages) (most:=most) (hF.keep hc) (zch hU) hn32 hU.small);have HAS:=hQ_ (fun (w1:World) (hc:Chg [] w w1)=>ge_ (hR.keep hc) (by omega));rw[hk]at HFI;obtain⟨s0,tr1,s1,hc0,hr0,hend⟩:∃s0 tr1 s1,ke_ (l.map ve_) k ⟨fuel,args,[],L,V,qs⟩=some s0/\ziX l (l.map ve_) rs mm (2*fuel+2) s0=some (tr1,s1)/\(if tr1=0 then s1.pop.map (fun q=>(q.1,tr1,q.2)) else some (0,tr1,s1))=some (val,trap,s'):=(by
       unfold eDo at hdo;cases h1:ke_ (l.map ve_) k ⟨fuel,args,[],L,V,qs⟩ with
       | none=>rw[h1]at hdo;cases hdo
       | some s0 =>
         rw[h1]at hdo;simp only at hdo;cases h2:ziX l (l.map ve_) rs mm (2*fuel+2) s0 with
         | none=>rw[h2]at hdo;cases hdo
         | some z=>obtain⟨tr1,s1⟩:=z;rw[h2]at hdo;exact⟨s0,tr1,s1,rfl,h2,hdo⟩);have HDO:=hQ_ (And.intro hc0 (And.intro hr0 hend));obtain⟨fb,fo,hAe,hfbl,e0,e1,e2⟩:=hF.cell hf;subst hAe;have HMM:=hQ_ hM;have HRQ:=hQ_ hR;have HFN:=hQ_ hF;have HT:=hQ_ (show p∈T/\gC∈T/\gD∈T/\rp∈T from⟨hp,hC,hD,hrp⟩);have HQ:=hQ_ hq;have HAB:=hQ_ hA;have HSR:=hQ_ hS;have HFL:=hQ_ hF.len;obtain⟨nq,hnq⟩:∃nq,nq=qs.length:=⟨_,rfl⟩;have HNQ:=hQ_ hnq;rw[<-hnq]at hqs⊢;rw[hfa]at e1;rw[<-hm2]at e1 hl4;have HM2:=hQ_ hm2;unfold yC_ at HRG HFI HCO⊢;have hfuI:¬((fuel:Int)<0):=(by omega);have hb1:decide ((fuel:Int)<0)=false:=(by simp);have hb2:decide (1048576<(fuel:Int))=false:=(by simp;omega);have hk0:decide ((k:Int)<0)=false:=(by simp);have hkk0:(0:Int)<=(k:Int):=(by omega);have hkk1:(k:Int)<(n:Int):=(by omega);clear hM hR hF hU hp hC hD hrp hq hA hk hf hfa hS hdo hc0 hr0 hend hf4 hnq hm2 e0 e2;go_enter Tryz.func25,Tryz.ntmps25;go_upto_region 1 with fail;have hN1:=zb_.new w 25 [.int .i64 pages,.int .i64 most,.slice (some ⟨fb,fo,none⟩) n c];have hal1:=(Chg.refl [] w).alloc (.cells #[.int .i64 pages,.int .i64 most,.slice (some ⟨fb,fo,none⟩) n c] 25);have hsz1:(w.alloc (.cells #[.int .i64 pages,.int .i64 most,.slice (some ⟨fb,fo,none⟩) n c] 25)).heap.size=w.heap.size+1:=Array.size_push _;generalize w.alloc (.cells #[.int .i64 pages,.int .i64 most,.slice (some ⟨fb,fo,none⟩) n c] 25)=wa at hN1 hal1 hsz1⊢;have hN2:=zb_.new wa 32 [.int .i64 0,.int .i64 0,.int .i64 0,.slice none 0 0];have hal2:=(Chg.refl [] wa).alloc (.cells #[.int .i64 0,.int .i64 0,.int .i64 0,.slice none 0 0] 32);obtain⟨g1,hg1⟩:∃g1,g1=w.heap.size:=⟨_,rfl⟩;have HG1:=hQ_ hg1;rw[hsz1]at hN2;rw[<-hg1]at hN1 hN2⊢;have HU1:=hQ_ (hN1.keep hal2);have HR1:=hQ_ hN2;have HC1:=hQ_ (hal1.new hal2);generalize wa.alloc (.cells #[.int .i64 0,.int .i64 0,.int .i64 0,.slice none 0 0] 32)=w1 at HU1 HR1 HC1⊢;clear hN1 hN2 hal1 hal2 hsz1 hg1;have u0:=HU1.o.cell 0;have u1:=HU1.o.cell 1;have u2:=HU1.o.cell 2;go_wp2_with fail;refine(HRG.o w1 HC1.o).mono ?_;rintro e w2 ⟨rfl,hc2⟩;have HC2:=hQ_ (HC1.o.new hc2);have HU2:=hQ_ (HU1.o.keep hc2);have HR2:=hQ_ (HR1.o.keep hc2);clear hc2 u0 u1 u2 HU1 HR1 HC1;have u0:=HU2.o.cell 0;have u1:=HU2.o.cell 1;have u2:=HU2.o.cell 2;go_wp2_with fail;refine(HFI.o w2 HC2.o).mono ?_;rintro e w3 ⟨rfl,hc3⟩;have HC3:=hQ_ (HC2.o.new hc3);have HU3:=hQ_ (HU2.o.keep hc3);have HR3:=hQ_ (HR2.o.keep hc3);have k1:=zd_ e1 HC3.o;clear hc3 u0 u1 u2 HU2 HR2 HC2 e1;have u0:=HU3.o.cell 0;have u1:=HU3.o.cell 1;have u2:=HU3.o.cell 2;go_wp2_with fail;refine(HAS.o w3 HC3.o).mono ?_;rintro e w4 ⟨va,rfl,hqa,hc4⟩;obtain⟨Aq,cq,rfl,_⟩:=zh_ hqa;rw[<-HNQ.o];have HC4:=hQ_ (HC3.o.new hc4);have HU4:=hQ_ (HU3.o.keep hc4);have HR4:=hQ_ (HR3.o.keep hc4);clear hc4 u0 u1 u2 HU3 HR3 HC3 k1;have u0:=HU4.o.cell 0;have u1:=HU4.o.cell 1;have u2:=HU4.o.cell 2;go_wp2_with fail;have HD:=hQ_ (HC4.o.drew);have hzal:=(Chg.refl [] w4.drew).alloc (.cells #[.int .i64 0,.int .i64 0,.slice none 0 0,.slice none 0 0,.pointer none,.pointer none,.int .i64 0,.slice none 0 0,.slice none 0 0] 112);have HZA:=hQ_ hzal;have HZN:=hQ_ (show zb_ (w4.drew.alloc (.cells #[.int .i64 0,.int .i64 0,.slice none 0 0,.slice none 0 0,.pointer none,.pointer none,.int .i64 0,.slice none 0 0,.slice none 0 0] 112)) w4.heap.size 112 [.int .i64 0,.int .i64 0,.slice none 0 0,.slice none 0 0,.pointer none,.pointer none,.int .i64 0,.slice none 0 0,.slice none 0 0] from zb_.new w4.drew 112 [.int .i64 0,.int .i64 0,.slice none 0 0,.slice none 0 0,.pointer none,.pointer none,.int .i64 0,.slice none 0 0,.slice none 0 0]);have a0:=zd_ u0 ((Chg.refl [] w4).alloc (.cells #[.int .i64 0,.int .i64 0,.slice none 0 0,.slice none 0 0,.pointer none,.pointer none,.int .i64 0,.slice none 0 0,.slice none 0 0] 112));have a1:=zd_ u1 ((Chg.refl [] w4).alloc (.cells #[.int .i64 0,.int .i64 0,.slice none 0 0,.slice none 0 0,.pointer none,.pointer none,.int .i64 0,.slice none 0 0,.slice none 0 0] 112));have a2:=zd_ u2 ((Chg.refl [] w4).alloc (.cells #[.int .i64 0,.int .i64 0,.slice none 0 0,.slice none 0 0,.pointer none,.pointer none,.int .i64 0,.slice none 0 0,.slice none 0 0] 112));clear hzal;go_cut [17] (fun v wx=>∃g6 Av cv xs,v=.pointer (some ⟨g6,0,none⟩)/\w.heap.size<=g6/\Hid (zb_ wx g6 112 [.int .i64 pages,.int .i64 most,.slice (some ⟨fb,fo,none⟩) n c,.slice Av xs.length cv,.pointer (some ⟨p,0,none⟩),.pointer (some ⟨rp,0,none⟩),.int .i64 (fuel:Int),.slice none 0 0,.slice none 0 0])/\Hid (Cods wx (.slice Av xs.length cv) xs)/\Hid (xs.map (·.c)=l.map ve_)/\Hid (Chg [] w4 wx));case first =>
       go_region_with (
        go_at_call 52;refine(HCO.o _ (by first|exact HD.o|exact HD.o.new HZA.o|exact HC4.o.new HZA.o)).mono ?_;rintro e w5 ⟨v5,xs,rfl,ho5,hx5,hm5,hc5⟩;have HO5:=hQ_ ho5;have HX5:=hQ_ hx5;have HM5:=hQ_ hm5;have HC5:=hQ_ hc5;obtain⟨A5,c5,rfl,_⟩:=zh_ ho5;have v0:=zd_ u0 (by first|exact(Chg.refl [] w4).drew.new HC5.o|exact((Chg.refl [] w4).drew.new HZA.o).new HC5.o);have v1:=zd_ u1 (by first|exact(Chg.refl [] w4).drew.new HC5.o|exact((Chg.refl [] w4).drew.new HZA.o).new HC5.o);have v2:=zd_ u2 (by first|exact(Chg.refl [] w4).drew.new HC5.o|exact((Chg.refl [] w4).drew.new HZA.o).new HC5.o);have b0:=zd_ v0 ((Chg.refl [] w5).alloc (.cells #[.int .i64 0,.int .i64 0,.slice none 0 0,.slice none 0 0,.pointer none,.pointer none,.int .i64 0,.slice none 0 0,.slice none 0 0] 112));have b1:=zd_ v1 ((Chg.refl [] w5).alloc (.cells #[.int .i64 0,.int .i64 0,.slice none 0 0,.slice none 0 0,.pointer none,.pointer none,.int .i64 0,.slice none 0 0,.slice none 0 0] 112));have b2:=zd_ v2 ((Chg.refl [] w5).alloc (.cells #[.int .i64 0,.int .i64 0,.slice none 0 0,.slice none 0 0,.pointer none,.pointer none,.int .i64 0,.slice none 0 0,.slice none 0 0] 112));clear ho5 hx5 hm5 hc5;first
          | (have hz5:=HZN.o.keep HC5.o;have z0:=hz5.cell 0;have y0:=hz5.frozen 0;have z1:=hz5.cell 1;have y1:=hz5.frozen 1;have z2:=hz5.cell 2;have y2:=hz5.frozen 2;have z3:=hz5.cell 3;have y3:=hz5.frozen 3;have z4:=hz5.cell 4;have y4:=hz5.frozen 4;have z5:=hz5.cell 5;have y5:=hz5.frozen 5;have z6:=hz5.cell 6;have y6:=hz5.frozen 6;have z7:=hz5.cell 7;have y7:=hz5.frozen 7;have z8:=hz5.cell 8;have y8:=hz5.frozen 8)
          | skip);(all_goals go_wp2_with fail);(all_goals go_meet);all_goals
         have hx32:xs.length<=32:=(by have:=congrArg List.length HM5.o;rw[List.length_map,List.length_map,HFL.o]at this;omega);have hcd:=zov HO5.o rfl HX5.o hx32;first
           | (obtain⟨q1,q2,q3⟩:=zgl (w4:=w4) rfl hz5 ((((Chg.refl [] w4).drew.new HZA.o)).new HC5.o) (Nat.le_refl _) (.int .i64 pages) (.int .i64 most) (.slice (some ⟨fb,fo,none⟩) n c) (.slice A5 xs.length c5) (.pointer (some ⟨p,0,none⟩)) (.pointer (some ⟨rp,0,none⟩)) (.int .i64 (fuel:Int)) (.slice none 0 0) (.slice none 0 0);exact⟨_,A5,c5,xs,rfl,HC4.o.size,hQ_ q1,hQ_ (hcd.fe q2 (by decide) (by decide) (by decide)),HM5,hQ_ q3⟩)
           | (have hal:=(Chg.refl [] w5).alloc (.cells #[.int .i64 pages,.int .i64 most,.slice (some ⟨fb,fo,none⟩) n c,.slice A5 xs.length c5,.pointer (some ⟨p,0,none⟩),.pointer (some ⟨rp,0,none⟩),.int .i64 (fuel:Int),.slice none 0 0,.slice none 0 0] 112);have hc45:=(Chg.refl [] w4).drew.new HC5.o;exact⟨_,A5,c5,xs,rfl,Nat.le_trans HC4.o.size hc45.size,hQ_ (zb_.new w5 112 [.int .i64 pages,.int .i64 most,.slice (some ⟨fb,fo,none⟩) n c,.slice A5 xs.length c5,.pointer (some ⟨p,0,none⟩),.pointer (some ⟨rp,0,none⟩),.int .i64 (fuel:Int),.slice none 0 0,.slice none 0 0]),hQ_ (hcd.keep hal),HM5,hQ_ (hc45.new hal)⟩)
      case rest =>
       obtain⟨g6,Av,cv,xs,rfl,hg6,HW,HCD,HXM,HC4c⟩:=hcut;obtain⟨w5,hw5⟩:∃w5:World,w5=wc:=⟨_,rfl⟩;subst hw5;have HC5:=hQ_ (HC4.o.new HC4c.o);have HG6:=hQ_ hg6;have HR5:=hQ_ (HR4.o.keep HC4c.o);clear u0 u1 u2 a0 a1 a2 HD HZA HZN HU4 hg6;have k7:=HW.o.cell 7;have f7:=HW.o.frozen 7;obtain⟨i1,hi1,hz1,hs1,hb1⟩:=info_parts u5_;have HS5:=hQ_ (HSR.o.keep HC5.o);have HML:=hQ_ (show(nms args).length=m2 from by rw[xi_];exact HM2.o.symm);have hbase:w.heap.size<=w5.heap.size:=HC5.o.size;go_upto_region 14 with(
        at_builtin;refine zC_ rfl (.tmp 68) (.tmp 69) 45 rfl w.heap.size 2 i1 _ 8 Tryz.underlying45 hi1 hz1 hs1 hb1 rfl (.slice none 0 0) 0 [] rfl (vP_ _ _ _) A2 m2 c2 (nms args) rfl HML.o HS5.o (zcn _) (by unfold maxLen;omega) (by omega) hbase ?_;intro v6 w6 ho6 hg6 _;have HO6:=hQ_ ho6;have HC56:=hQ_ (show Chg [] w5 w6 from Chg.of_grown hg6 (fun g hg=>by simp[Value.ownBlock]at hg));have HW6:=hQ_ (HW.o.keep HC56.o);have k77:=HW6.o.cell 7;have f77:=HW6.o.frozen 7;obtain⟨A6,c6,rfl,_⟩:=zh_ ho6;clear ho6 hg6);have hR6:=HR5.o.keep HC56.o;have HR7:=hQ_ (hR6.far (p:=⟨g6,7,none⟩) (by simpa using hR6.ne_ HW6.o (by decide)) (.slice A6 m2 c6));clear hR6;obtain⟨P,hP⟩:∃P:EP,P=⟨g6,l,pages,most,some ⟨fb,fo,none⟩,n,c,.slice Av xs.length cv,xs,p,mm,rp,rs,w.heap.size,T⟩:=⟨_,rfl⟩;have hKT:∀i,i∈T->P.K i:=fun i hi=>(by subst hP;exact .inr hi);have hg6lt:w.heap.size<=g6:=HG6.o;have hc6:Chg [] w w6:=HC5.o.new HC56.o;have hset:Chg [] w (w6.setCell ⟨g6,7,none⟩ (.slice A6 m2 c6)):=hc6.setCell (p:=⟨g6,7,none⟩) (by simp;omega) _;have hFe:Fe (fun _=>True) [112] w6 (w6.setCell ⟨g6,7,none⟩ (.slice A6 m2 c6)):=(Fe.refl _ _ _).setw HW6.o trivial (by simp) _;have hcd7:=(HCD.o.keep HC56.o).fe hFe (by decide) (by decide) (by decide);have hcdP:P.cd=l.map ve_:=(by subst hP;exact HXM.o);have hEg:Eg P (w6.setCell ⟨g6,7,none⟩ (.slice A6 m2 c6)) (.slice A6 m2 c6) (.slice none 0 0) ⟨fuel,args,[],L,V,qs⟩:=by
        have hPg:P.g=g6:=(by rw[hP]);have hPB:P.B=w.heap.size:=(by rw[hP]);have hst:=z1_ (j:=7) (u:=.slice A6 m2 c6) HO6.o HW6.o (by decide);rw[Nat.zero_add,List.nil_append]at hst;refine { rec_:=?_,stk:=?_,cal:=World.ownsRow_nil _ _ _ _,mem:=?_,row:=?_,cod:=?_,fns:=?_,foff:=?_,gB:=by rw[hPg,hPB];exact hg6lt,room:=by rw[hPB];exact hset.size,pK:=?_,rK:=?_,loc:=fun x hx=>by simp at hx,fuelb:=hfu,stkb:=by show args.length+fuel<=_;have:=HM2.o;omega,calb:=by simp,qsb:=by show qs.length+fuel<=_;have:=HNQ.o;omega }
        · have:=HW6.o.set_ 7 (.slice A6 m2 c6);rw[hPg];unfold wkC;rw[hP];simpa using this
        · rw[hPB];show World.ownsRow _ w.heap.size 2 1 (.slice A6 m2 c6) args.length (nms args);rw[<-HM2.o];exact hst
        · refine⟨gC,gD,X,Y,?_,hKT gC HT.o.2.1,hKT gD HT.o.2.2.1⟩;have:=HMM.o.keep hset;rw[hP];exact this
        · refine⟨a,q,?_,fun i hi=>hKT i (HQ.o i hi)⟩;have:=HRQ.o.keep hset;rw[hP];exact this
        · rw[hP];exact hcd7
        · have:=HFN.o.keep hset;rw[hP];exact this
        · intro ad had;have:=HAB.o ad (by rw[hP]at had;exact had);rw[hP];intro hK;rcases hK with hK|hK
          · have h1:=this.1;simp only at hK;omega
          · exact this.2 hK
        · have:=hKT p HT.o.1;rw[hP]at this⊢;exact this
        · have:=hKT rp HT.o.2.2.2;rw[hP]at this⊢;exact this
       have hc0:=HDO.o.1;rw[<-hcdP]at hc0;have HCALL:=hQ_ (zbu hEg hc0 (by simp));rw[show P.g=g6 from by rw[hP]]at HCALL;have HSET:=hQ_ hset;have HP:=hQ_ hP;have HCDP:=hQ_ hcdP;have HEG:=hQ_ hEg;clear hc0 hEg hcdP hcd7 hFe hset hc6 hKT hP k7 f7 k77 f77 HO6 HW6 HC56 HW hg6lt;generalize w6.setCell ⟨g6,7,none⟩ (.slice A6 m2 c6)=w7 at HCALL HSET HEG HR7⊢;go_wp2_with fail;refine HCALL.o.mono ?_;rintro e w8 ⟨rfl,⟨vs8,vc8,h8⟩,hf8⟩;have H8:=hQ_ h8;have HF8:=hQ_ hf8;clear h8 hf8;have hrn:=HDO.o.2.1;have HRN:=hQ_ (show Rn P.us P.cd P.rs P.most s0 (tr1,s1) from by
        rw[HCDP.o,HP.o];exact Rn.of_run _ hrn);have HRUN:=hQ_ (zlC H8.o HRN.o);rw[show P.g=g6 from by rw[HP.o]]at HRUN;clear hrn;go_wp2_with fail;refine HRUN.o.mono ?_;rintro e w9 ⟨rfl,⟨vs9,vc9,h9⟩,hf9⟩;have H9:=hQ_ h9;have HF9:=hQ_ (HF8.o.trans hf9);clear h9 hf9;obtain⟨zq,hzq⟩:QR s1 s0:=HRN.o.qs;obtain⟨_,_,_,_,hs0⟩:=zbC (P:=P) (by rw[HCDP.o];exact HDO.o.1);have hqs1:s1.qs=qs++zq:=(by rw[hzq,hs0]);have HQ1:=hQ_ hqs1;have hnq1:nq<=s1.qs.length:=(by rw[hqs1,List.length_append,<-HNQ.o];omega);obtain⟨m9,hm9⟩:∃m9,m9=s1.qs.length:=⟨_,rfl⟩;rw[<-hm9]at hnq1;have HM9:=hQ_ hm9;have HPG:=hQ_ (show P.g=g6 from by rw[HP.o]);have HPR:=hQ_ (show P.rp=rp/\P.rs=rs from by rw[HP.o];exact⟨rfl,rfl⟩);have HR9:=hQ_ (HF9.o.whole HR7.o (by decide));have k6:w9.cell? ⟨g6,6,none⟩=some (.int .i64 (s1.fuel:Int)):=(by rw[<-HPG.o];exact H9.o.rec_.cell 6);obtain⟨a9,q9,hR9,hK9⟩:=H9.o.row;rw[HPR.o.1,HPR.o.2]at hR9;have HRW:=hQ_ hR9;have HKW:=hQ_ hK9;have HAS9:=hQ_ (fun (w':World)(hc:Chg [] w9 w')=>ge_ (hR9.keep hc) (by have:=H9.o.qsb;omega));have HD9:=hQ_ ((Chg.refl [] w9).drew);have HZ9:=hQ_ ((Chg.refl [] w9.drew).alloc (.cells #[.int .i64 0,.int .i64 0,.int .i64 0,.slice none 0 0] 32));have HZN9:=hQ_ (show zb_ (w9.drew.alloc (.cells #[.int .i64 0,.int .i64 0,.int .i64 0,.slice none 0 0] 32)) w9.heap.size 32 [.int .i64 0,.int .i64 0,.int .i64 0,.slice none 0 0] from zb_.new w9.drew 32 [.int .i64 0,.int .i64 0,.int .i64 0,.slice none 0 0]);have a6:=zd_ k6 ((Chg.refl [] w9).alloc (.cells #[.int .i64 0,.int .i64 0,.int .i64 0,.slice none 0 0] 32));have hn0:(0:Int)<=(nq:Int):=(by omega);have hn1:(nq:Int)<=(m9:Int):=(by omega);clear hzq hs0 hqs1 hR9 hK9 hm9;go_wp2_with fail;go_cut [19] (fun v wx=>∃g9 Ab Ax cb,v=.pointer (some ⟨g9,0,none⟩)/\w9.heap.size<=g9/\Hid ((if cb=nq then Ab else Option.map (fun x=>x.add (nq*2)) Ab)=Ax)/\Hid (zb_ wx g9 32 [.int .i64 0,.int .i64 tr1,.int .i64 (s1.fuel:Int),.slice Ax (m9-nq) (cb-nq)])/\Hid (wx.ownsRow 0 267 2 (.slice Ab m9 cb) m9 (qsC s1.qs))/\Hid (Chg [] w9 wx));case first =>
        go_region_with (
         go_at_call 51;refine(HAS9.o _ (by first|exact HD9.o|exact HD9.o.new HZ9.o)).mono ?_;rintro e wb ⟨vb,rfl,hqb,hcb⟩;rw[<-HM9.o]at hqb;obtain⟨Ab,cb,rfl,hcb1,_,_⟩:=zh_ hqb;have HSB:=hQ_ hqb;obtain⟨Ax,hAx⟩:∃Ax,(if cb=nq then Ab else Option.map (fun x=>x.add (nq*2)) Ab)=Ax:=⟨_,rfl⟩;have HCB:=hQ_ hcb;have v6:=zd_ k6 (by first|exact HD9.o.new HCB.o|exact(HD9.o.new HZ9.o).new HCB.o);have b6:=zd_ v6 ((Chg.refl [] wb).alloc (.cells #[.int .i64 0,.int .i64 0,.int .i64 0,.slice none 0 0] 32));clear hqb hcb;first
           | (have hz5:=HZN9.o.keep HCB.o;have z0:=hz5.cell 0;have y0:=hz5.frozen 0;have z1:=hz5.cell 1;have y1:=hz5.frozen 1;have z2:=hz5.cell 2;have y2:=hz5.frozen 2;have z3:=hz5.cell 3;have y3:=hz5.frozen 3)
           | skip);(all_goals go_wp2_with fail);(all_goals go_meet);all_goals
          first
            | (obtain⟨q1,q2,q3⟩:=zkH (w4:=w9) rfl hz5 ((HD9.o.new HZ9.o).new HCB.o) (Nat.le_refl _) (.int .i64 0) (.int .i64 tr1) (.int .i64 (s1.fuel:Int)) (.slice Ax (m9-nq) (cb-nq));exact⟨_,Ab,Ax,cb,rfl,Nat.le_refl _,hQ_ hAx,hQ_ q1,hQ_ (q2.own (ym_ HSB.o (Nat.zero_le _)) (by decide)),hQ_ q3⟩)
            | (have hcb9:=HD9.o.new HCB.o;have hal:=(Chg.refl [] wb).alloc (.cells #[.int .i64 0,.int .i64 tr1,.int .i64 (s1.fuel:Int),(.slice Ax (m9-nq) (cb-nq))] 32);exact⟨_,Ab,Ax,cb,rfl,hcb9.size,hQ_ hAx,hQ_ (zb_.new wb 32 [.int .i64 0,.int .i64 tr1,.int .i64 (s1.fuel:Int),.slice Ax (m9-nq) (cb-nq)]),hQ_ (zf_ (ym_ HSB.o (Nat.zero_le _)) hal),hQ_ (hcb9.new hal)⟩)
       case rest =>
        obtain⟨g9,Ab,Ax,cb,rfl,hg9,HAX,HRS,HRO,HCw⟩:=hcut;obtain⟨w10,hw10⟩:∃w10:World,w10=wc:=⟨_,rfl⟩;subst hw10;have H10:=hQ_ (H9.o.keep HCw.o);have HO10:=hQ_ (HR9.o.keep HCw.o);have HF10:=hQ_ (HF9.o.new HCw.o);have hend:=HDO.o.2.2;have HGN:=hQ_ (show g9≠g1+1 from by have:=HR9.o.lt;omega);have r0:=HRS.o.cell 0;have r1:=HRS.o.cell 1;have r2:=HRS.o.cell 2;have r3:=HRS.o.cell 3;have fr0:=HRS.o.frozen 0;have HG9:=hQ_ (show w.heap.size<=g9 from by have h1:=HSET.o.size;have h2:=HF9.o.size;omega);clear k6 a6 HRW HKW HAS9 HD9 HZ9 HZN9 HR9 hg9;by_cases htr:tr1=0
        · subst htr;rw[if_pos rfl]at hend;cases hp:s1.pop with
          | none=>rw[hp]at hend;cases hend
          | some z =>
            obtain⟨y,s2⟩:=z;rw[hp]at hend;simp only[Option.map_some]at hend;injection hend with hend;injection hend with he1 he2;injection he2 with he2 he3;subst he1 he2 he3;have HPOP:=hQ_ (zpC H10.o hp);rw[HPG.o]at HPOP;have HFU2:=hQ_ (show s2.fuel=s1.fuel/\s2.qs=s1.qs from⟨uW_ hp,(zds hp).2.2⟩);clear hp;go_wp2_with fail;refine HPOP.o.mono ?_;rintro e w11 ⟨rfl,⟨vs11,vc11,h11⟩,hf11⟩;have H11:=hQ_ h11;have HO11:=hQ_ (hf11.whole HO10.o (by decide));have HRS11:=hQ_ (hf11.whole HRS.o (by decide));have HRO11:=hQ_ (hf11.own HRO.o (by decide));have HF11:=hQ_ (HF10.o.trans (hf11.sub vT_));clear h11 hf11 r0 r1 r2 r3 fr0 H10 HO10 HRS HRO HF10;have r0:=HRS11.o.cell 0;have fr0:=HRS11.o.frozen 0;go_upto_region 19 with fail;have HRS12:=hQ_ (HRS11.o.set_ 0 (.int .i64 y));have HO12:=hQ_ (HO11.o.far (p:=⟨g9,0,none⟩) (by have:=HGN.o;simpa using Ne.symm this) (.int .i64 y));have HFE:=hQ_ (show Fe (fun _=>True) [32] w11 (w11.setCell ⟨g9,0,none⟩ (.int .i64 y)) from(Fe.refl _ _ _).setw HRS11.o trivial (by simp) _);have HEND:=hQ_ (zgV (w:=w) (P:=P) (T:=T) (p:=p) (most:=mm) (rp:=rp) (rs:=rs) (nq:=nq) (m9:=m9) (gO:=g1+1) (val:=y) (trap:=0) (by rw[HP.o];exact⟨rfl,rfl,rfl,rfl,rfl,rfl⟩) HSET.o HF11.o H11.o HFE.o (.inr ⟨g9,.int .i64 y,HG9.o,rfl⟩) HAX.o (by rw[HFU2.o.2];exact HRO11.o) (by rw[HFU2.o.2];exact HM9.o) hnq1 HO12.o (by have:=HG1.o;omega) _ rfl);rw[HFU2.o.1]at HEND;generalize w11.setCell ⟨g9,0,none⟩ (.int .i64 y)=w12 at HRS12 HO12 HFE HEND⊢;clear r0 fr0;have r0:=HRS12.o.cell 0;have r1:=HRS12.o.cell 1;have r2:=HRS12.o.cell 2;have r3:=HRS12.o.cell 3;have o0:=HO12.o.cell 0;have o1:=HO12.o.cell 1;have o2:=HO12.o.cell 2;have o3:=HO12.o.cell 3;have p0:=HO12.o.frozen 0;have p1:=HO12.o.frozen 1;have p2:=HO12.o.frozen 2;have p3:=HO12.o.frozen 3;go_wp2_with fail;have e0:=HEND.o.1.cell 0;have e1:=HEND.o.1.cell 1;have e2:=HEND.o.1.cell 2;have e3:=HEND.o.1.cell 3;generalize (((w12.setCell ⟨g1+1,0,none⟩ (.int .i64 y)).setCell ⟨g1+1,1,none⟩ (.int .i64 0)).setCell ⟨g1+1,2,none⟩ (.int .i64 (s1.fuel:Int))).setCell ⟨g1+1,3,none⟩ (.slice Ax (m9-nq) (cb-nq))=wf at HEND e0 e1 e2 e3⊢;simp only[List.getElem?_cons_zero,List.getElem?_cons_succ]at e0 e1 e2 e3;refine bodyPost_ret (v:=.tuple #[.agg #[.int .i64 y,.int .i64 0,.int .i64 (s1.fuel:Int),.slice Ax (m9-nq) (cb-nq)],.int .i64 0]) (by simp[results,Tryz.results25,go_sem,e0,e1,e2,e3]) rfl HEND.o.2
        · rw[if_neg htr]at hend;injection hend with hend;injection hend with he1 he2;injection he2 with he2 he3;subst he1 he2 he3;have hz1:(tr1==0)=false:=(by simpa using htr);have o0:=HO10.o.cell 0;have o1:=HO10.o.cell 1;have o2:=HO10.o.cell 2;have o3:=HO10.o.cell 3;have p0:=HO10.o.frozen 0;have p1:=HO10.o.frozen 1;have p2:=HO10.o.frozen 2;have p3:=HO10.o.frozen 3;have HEND:=hQ_ (zgV (w:=w) (P:=P) (T:=T) (p:=p) (most:=mm) (rp:=rp) (rs:=rs) (nq:=nq) (m9:=m9) (gO:=g1+1) (val:=0) (trap:=tr1) (by rw[HP.o];exact⟨rfl,rfl,rfl,rfl,rfl,rfl⟩) HSET.o HF10.o H10.o (Fe.refl _ _ _) (.inl (Chg.refl _ _)) HAX.o HRO.o HM9.o hnq1 HO10.o (by have:=HG1.o;omega) _ rfl);clear htr;go_wp2_with fail;have e0:=HEND.o.1.cell 0;have e1:=HEND.o.1.cell 1;have e2:=HEND.o.1.cell 2;have e3:=HEND.o.1.cell 3;generalize (((w10.setCell ⟨g1+1,0,none⟩ (.int .i64 0)).setCell ⟨g1+1,1,none⟩ (.int .i64 tr1)).setCell ⟨g1+1,2,none⟩ (.int .i64 (s1.fuel:Int))).setCell ⟨g1+1,3,none⟩ (.slice Ax (m9-nq) (cb-nq))=wf at HEND e0 e1 e2 e3⊢;simp only[List.getElem?_cons_zero,List.getElem?_cons_succ]at e0 e1 e2 e3;refine bodyPost_ret (v:=.tuple #[.agg #[.int .i64 0,.int .i64 tr1,.int .i64 (s1.fuel:Int),.slice Ax (m9-nq) (cb-nq)],.int .i64 0]) (by simp[results,Tryz.results25,go_sem,e0,e1,e2,e3]) rfl HEND.o.2
end
end Go.Proofs.YtcbcfcdmdedefaaGreatDoor
