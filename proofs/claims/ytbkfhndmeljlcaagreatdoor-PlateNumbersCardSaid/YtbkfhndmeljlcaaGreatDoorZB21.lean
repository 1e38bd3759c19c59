import Derived.Test.YtbkfhndmeljlcaaGreatDoorZB20
set_option maxRecDepth 100000
set_option maxHeartbeats 16000000
namespace Go.Proofs.YtbkfhndmeljlcaaGreatDoor
open Go.RowKit
theorem xj_.one {zs : List (List UInt8)} {r r' : Int} (h : xj_ zs r) (h' : xj_ zs r') : r = r':=by
 have q : ∀ {a b : Int},xj_ zs a → xj_ zs b → a = 12 → b = 25 → False:=fun {a b} ha hb ea eb => by
  rcases hb with ⟨rfl,_⟩ | ⟨_,T,p,pg,ms,fs,hy,hp,_⟩
  · omega
  · rcases ha with ⟨_,hn | ⟨T',p',hy',hp'⟩⟩ | ⟨rfl,_⟩
    · exact hn ⟨T,p,hy⟩
    · obtain ⟨rfl,_⟩:=hy.one hy'
      rw [hp] at hp'
      exact hp' rfl
    · omega
 have e : ∀ {a : Int},xj_ zs a → a = 12 ∨ a = 25:=fun ha => by
  rcases ha with ⟨h,_⟩ | ⟨h,_⟩
  · exact .inl h
  · exact .inr h
 rcases e h with h1 | h1 <;> rcases e h' with h2 | h2
 · rw [h1,h2]
 · exact (q h h' h1 h2).elim
 · exact (q h' h h2 h1).elim
 · rw [h1,h2]
theorem xG_.no {zs : List (List UInt8)} {T : List UInt8} {p : Nat} {pg ms : Int} {fs : List FnV} {r : Int} (h : xG_ zs T p pg ms fs) (h' : xj_ zs r) : False:=by
 obtain ⟨hy,hp,h1,h2,h3⟩:=h
 rcases h' with ⟨_,hn | ⟨T',p',hy',hp'⟩⟩ | ⟨_,T',p',pg',ms',fs',hy',hp',hb⟩
 · exact hn ⟨T,p,hy⟩
 · obtain ⟨rfl,_⟩:=hy.one hy'
   rw [hp] at hp'
   exact hp' rfl
 · obtain ⟨rfl,rfl⟩:=hy.one hy'
   rw [hp] at hp'
   injection hp' with _ e
   injection e with e1 e
   injection e with e2 e3
   omega
theorem xG_.one {zs : List (List UInt8)} {T T' : List UInt8} {p p' : Nat} {pg ms pg' ms' : Int} {fs fs' : List FnV} (h : xG_ zs T p pg ms fs) (h' : xG_ zs T' p' pg' ms' fs') : T' = T ∧ p' = p ∧ pg' = pg ∧ ms' = ms ∧ fs' = fs:=by
 obtain ⟨hy,hp,_⟩:=h
 obtain ⟨hy',hp',_⟩:=h'
 obtain ⟨rfl,rfl⟩:=hy.one hy'
 rw [hp] at hp'
 injection hp' with _ e
 injection e with e1 e
 injection e with e2 e3
 exact ⟨rfl,rfl,e1.symm,e2.symm,e3.symm⟩
def GpF (zs : List (List UInt8)) (w : World) (e : Ending) (w' : World) : Prop :=
 (∃ r,xj_ zs r ∧ e = .returned (.tuple #[.agg #[.int .i64 0,.int .i64 0,.slice none 0 0],.pointer none,.int .i64 0,.int .i64 r]) ∧ Chg [] w w') ∨
 (∃ (T : List UInt8) (p : Nat) (pg ms : Int) (fs : List FnV) (B : Option Addr) (d pm gC gD : Nat),xG_ zs T p pg ms fs ∧ e = .returned (.tuple #[.agg #[.int .i64 pg,.int .i64 ms,.slice B fs.length d],.pointer (some ⟨pm,0,none⟩),.int .i64 ((1 + zr_ T.length : Nat) : Int),.int .i64 0]) ∧
   Fnr w' B fs.length d fs ∧ Mm w' pm gC gD ((zs.drop (1 + zr_ T.length)).take p).flatten [] (yg_ p) [] ms.toNat ∧ Chg [] w w')
def RgF (zs : List (List UInt8)) (w : World) (e : Ending) (w' : World) : Prop :=
 (∃ r,xj_ zs r ∧ e = .returned (.tuple #[.agg #[.int .i64 0,.int .i64 0,.slice none 0 0],.pointer none,.int .i64 0,.int .i64 r]) ∧ Chg [] w w') ∨
 (∃ (T : List UInt8) (p : Nat) (pg ms : Int) (fs : List FnV) (B : Option Addr) (d q : Nat),xG_ zs T p pg ms fs ∧ e = .returned (.tuple #[.agg #[.int .i64 pg,.int .i64 ms,.slice B fs.length d],.pointer (some ⟨q,0,none⟩),.int .i64 ((1 + zr_ T.length : Nat) : Int),.int .i64 0]) ∧
   Fnr w' B fs.length d fs ∧ xh_ w.heap.size w' q ((zs.drop (1 + zr_ T.length)).take p).flatten p ms.toNat ∧ Chg [] w w')
section
variable {w : World} {A : Option Addr} {n c : Nat} {ys : List Value} {zs : List (List UInt8)}
theorem zeg (h : Pgs w A n c ys zs) (hn : n ≤ 100000) (hP : xu_ w.heap.size w) : Calls Tryz.prog 21 #[.slice A n c] w (GpF zs w) :=
 (zbf h hn hP).mono fun e w' hq => by
   rcases hq with hq | ⟨T,p,pg,ms,fs,v,pm,gC,gD,hy,rfl,ho,hl,hok,hM,_,_,_,hc⟩
   · exact .inl hq
   · obtain ⟨B,d,rfl,hF⟩:=Fnr.of_own (l:=fs) ho hl (fun f hf => by have:=hok f hf; unfold okF at this; omega)
     exact .inr ⟨T,p,pg,ms,fs,B,d,pm,gC,gD,hy,rfl,hF,hM,hc⟩
theorem zfb (h : Pgs w A n c ys zs) (hn : n ≤ 1000) : Calls Tryz.prog 42 #[.slice A n c] w (RgF zs w) :=
 (zcP h hn).mono fun e w' hq => by
   rcases hq with hq | ⟨T,p,pg,ms,fs,v,q,hy,rfl,ho,hl,hok,hM,hc⟩
   · exact .inl hq
   · obtain ⟨B,d,rfl,hF⟩:=Fnr.of_own (l:=fs) ho hl (fun f hf => by have:=hok f hf; unfold okF at this; omega)
     exact .inr ⟨T,p,pg,ms,fs,B,d,q,hy,rfl,hF,hM,hc⟩
theorem qx_ (W : World) : Fnr W none 0 0 []:=⟨rfl,fun h => absurd h (by simp [y3_]),Nat.le_refl _,by omega,fun h => absurd h (by omega),fun f hf => by simp at hf⟩
theorem zde (h : Pgs w A n c ys zs) (hn : n ≤ 1000) (hP : xu_ w.heap.size w) : Calls Tryz.prog 15 #[.slice A n c] w (zy_ true w):=by
 have HGP:=hQ_ (zeg h (by omega) hP)
 have HRG:=hQ_ (fun (W : World) (hc : Chg [] w W) => zfb (h.keep hc) hn)
 unfold GpF at HGP
 unfold RgF at HRG
 unfold zy_
 clear h hP
 go_enter Tryz.func15,Tryz.ntmps15
 go_upto_region 2 with (
  go_at_call 21
  refine HGP.out.mono ?_
  intro e w1 hq
  rcases hq with ⟨r,hr,rfl,hc1⟩ | ⟨T,p,pg,ms,fs,B1,d1,pm,gC,gD,hy,rfl,hF1,hM1,hc1⟩)
 · have HR:=hQ_ hr
   have HN:=hQ_ (zb_.new w1 24 [.int .i64 0,.int .i64 0,.slice none 0 0])
   have hal:=(Chg.refl [] w1).alloc (.cells #[.int .i64 0,.int .i64 0,.slice none 0 0] 24)
   have HC2:=hQ_ (hc1.trans hal)
   clear hr hc1 hal HGP
   generalize w1.heap.size = gu at HN ⊢
   generalize w1.alloc (.cells #[.int .i64 0,.int .i64 0,.slice none 0 0] 24) = w2 at HN HC2 ⊢
   go_upto_region 3 with (
    go_at_call 42
    refine (HRG.out _ HC2.out).mono ?_
    intro e w3 hq
    rcases hq with ⟨r',hr',rfl,hc3⟩ | ⟨T',p',pg',ms',fs',B3,d3,qm,hy',rfl,hF3,hM3,hc3⟩)
   · obtain rfl:=HR.out.one hr'
     have HN3:=hQ_ (HN.out.keep hc3)
     have HM:=hQ_ (zb_.new w3 24 [.int .i64 0,.int .i64 0,.slice none 0 0])
     have hal:=(Chg.refl [] w3).alloc (.cells #[.int .i64 0,.int .i64 0,.slice none 0 0] 24)
     have HN4:=hQ_ (HN3.out.keep hal)
     have HC4:=hQ_ ((HC2.out.trans hc3).trans hal)
     clear hr' hc3 hal HRG HN HN3 HC2
     generalize w3.heap.size = gv at HM ⊢
     generalize w3.alloc (.cells #[.int .i64 0,.int .i64 0,.slice none 0 0] 24) = w4 at HM HN4 HC4 ⊢
     have u0:=HN4.out.cell 0
     have u1:=HN4.out.cell 1
     have u2:=HN4.out.cell 2
     have v0:=HM.out.cell 0
     have v1:=HM.out.cell 1
     have v2:=HM.out.cell 2
     have HS:=hQ_ (ju_ (p:=0) (m:=0) (p2:=0) (m2:=0) (qx_ w4) (qx_ w4))
     unfold qb_ z2_ at HS
     go_upto_region 5 with (
      go_at_call 22
      refine HS.out.mono ?_
      rintro e w5 ⟨b5,rfl,hb5,hc5⟩
      obtain rfl : b5 = true:=by simpa using hb5
      have HC5:=hQ_ (HC4.out.trans hc5)
      clear hc5 hb5)
     clear u0 u1 u2 v0 v1 v2
     have HHW:=hQ_ (fun (W : World) (h : Chg [] w5.drew W) => (show Chg [] w W from HC5.out.trans ((Chg.refl [] w5).drew.trans h)))
     refine wp_flow (by kernel_rfl) yp_ za_ (by kernel_rfl) ?_
     refine flow_move_out za_ rfl rfl rfl ?_
     refine vM_ za_ (.inn rfl) (.const _) (fun ev W he e1 e2 => by go_simp) rfl ?_
     refine zL_ za_ rfl (zd_ _) (.inr (zd_ _)) rfl ?_
     refine zh_ rfl ?_
     refine zh_ rfl ?_
     refine zh_ rfl ?_
     refine zh_ rfl ?_
     refine zh_ rfl ?_
     refine zh_ rfl ?_
     refine zh_ rfl ?_
     refine zh_ rfl ?_
     refine zh_ rfl ?_
     refine zh_ rfl ?_
     refine yf_ rfl ?_
     refine yf_ rfl ?_
     refine yf_ rfl ?_
     refine yf_ rfl ?_
     refine yf_ rfl ?_
     refine yf_ rfl ?_
     refine yf_ rfl ?_
     refine zh_ rfl ?_
     refine yx_ za_ rfl rfl rfl ?_
     refine flow_assign za_ rfl (zd_ _) (.inr (zd_ _)) rfl ?_
     intro vs W hW hF
     have e2 : vs 2 = .bool true:=hF 2 _ rfl rfl
     have HCW:=hQ_ (HHW.out W hW)
     simp only [zY_,Act.put,List.setIfInBounds_toArray,List.set_cons_zero,List.set_cons_succ]
     rw [e2]
     clear hF hW e2
     obtain ⟨wz,hwz⟩ : ∃ wz : World,wz = W:=⟨_,rfl⟩
     rw [← hwz] at HCW ⊢
     clear hwz
     go_wp2_with fail
     go_ret
     exact ⟨rfl,HCW.out⟩
   · exact (hy'.no HR.out).elim
 · have HY:=hQ_ hy
   have HC1:=hQ_ hc1
   have HF1:=hQ_ hF1
   have HM1:=hQ_ hM1
   clear hy hc1 hF1 hM1 HGP
   obtain ⟨fq,hfq⟩ : ∃ fq,fq = fs.length:=⟨_,rfl⟩
   rw [← hfq] at HF1 ⊢
   obtain ⟨L,hL⟩ : ∃ L,L = ((zs.drop (1 + zr_ T.length)).take p).flatten:=⟨_,rfl⟩
   rw [← hL] at HM1
   have HN:=hQ_ (zb_.new w1 24 [.int .i64 pg,.int .i64 ms,.slice B1 fq d1])
   have hal:=(Chg.refl [] w1).alloc (.cells #[.int .i64 pg,.int .i64 ms,.slice B1 fq d1] 24)
   have HC2:=hQ_ (HC1.out.trans hal)
   have HF2:=hQ_ (HF1.out.keep hal)
   have HM2:=hQ_ (HM1.out.keep hal)
   clear hal HF1 HM1 HC1
   generalize w1.heap.size = gu at HN ⊢
   generalize w1.alloc (.cells #[.int .i64 pg,.int .i64 ms,.slice B1 fq d1] 24) = w2 at HN HC2 HF2 HM2 ⊢
   go_upto_region 3 with (
    go_at_call 42
    refine (HRG.out _ HC2.out).mono ?_
    intro e w3 hq
    rcases hq with ⟨r',hr',rfl,hc3⟩ | ⟨T',p',pg',ms',fs',B3,d3,qm,hy',rfl,hF3,hR3,hc3⟩)
   · exact (HY.out.no hr').elim
   · obtain ⟨rfl,rfl,rfl,rfl,rfl⟩:=HY.out.one hy'
     rw [← hL] at hR3
     rw [← hfq] at hF3 ⊢
     have HN3:=hQ_ (HN.out.keep hc3)
     have HM:=hQ_ (zb_.new w3 24 [.int .i64 pg',.int .i64 ms',.slice B3 fq d3])
     have hal:=(Chg.refl [] w3).alloc (.cells #[.int .i64 pg',.int .i64 ms',.slice B3 fq d3] 24)
     have HN4:=hQ_ (HN3.out.keep hal)
     have HF4:=hQ_ ((HF2.out.keep hc3).keep hal)
     have HG4:=hQ_ (hF3.keep hal)
     have HM4:=hQ_ ((HM2.out.keep hc3).keep hal)
     have HR4:=hQ_ (hR3.keep hal)
     have HC4:=hQ_ ((HC2.out.trans hc3).trans hal)
     clear hy' hc3 hF3 hR3 hal HRG HN HN3 HC2 HF2 HM2 hL hfq
     generalize w3.heap.size = gv at HM ⊢
     generalize w3.alloc (.cells #[.int .i64 pg',.int .i64 ms',.slice B3 fq d3] 24) = w4 at HM HN4 HC4 HF4 HG4 HM4 HR4 ⊢
     have u0:=HN4.out.cell 0
     have u1:=HN4.out.cell 1
     have u2:=HN4.out.cell 2
     have v0:=HM.out.cell 0
     have v1:=HM.out.cell 1
     have v2:=HM.out.cell 2
     have HS:=hQ_ (ju_ (p:=pg') (m:=ms') (p2:=pg') (m2:=ms') HF4.out HG4.out)
     unfold qb_ z2_ at HS
     go_upto_region 5 with (
      go_at_call 22
      refine HS.out.mono ?_
      rintro e w5 ⟨b5,rfl,hb5,hc5⟩
      obtain rfl : b5 = true:=by simpa using hb5
      have HC5:=hQ_ (HC4.out.trans hc5)
      have HM5:=hQ_ (HM4.out.keep hc5)
      have HR5:=hQ_ (HR4.out.keep hc5)
      clear hc5 hb5)
     clear u0 u1 u2 v0 v1 v2
     obtain ⟨v9,gx,hW9,ho9,_⟩:=HR5.out
     obtain ⟨A9,c9,rfl,hb9,_⟩:=Bs.of_own ho9
     have HW9:=hQ_ hW9
     have HB9:=hQ_ hb9
     clear hW9 ho9 hb9
     have HKW:=hQ_ (fun (W : World) (h : Chg [] w5.drew W) => (show Chg [] w5 W from (Chg.refl [] w5).drew.trans h))
     have HHW:=hQ_ (fun (W : World) (h : Chg [] w5.drew W) => (show Chg [] w W from HC5.out.trans (HKW.out W h)))
     obtain ⟨mz,hmz⟩ : ∃ mz,mz = ms'.toNat:=⟨_,rfl⟩
     rw [← hmz] at HM5 HW9
     refine wp_flow (by kernel_rfl) yp_ za_ (by kernel_rfl) ?_
     refine flow_move_out za_ rfl rfl rfl ?_
     refine flow2 (r:=.bool false) za_ rfl (.inn rfl) (.const _) rfl (fun ev W he e1 e2 => by go_simp) ?_
     refine zL_ za_ rfl (zd_ _) (.inr (zd_ _)) rfl ?_
     refine flow_move_out za_ rfl rfl rfl ?_
     refine flow_calld (bsF L) (vc_ _) (.inr (vc_ _)) (by kernel_rfl) rfl (.cons (.inn rfl) .nil) (fun W hW => (g1_ (HM5.out.keep (HKW.out W hW))).mono ?_) ?_
     · rintro e w' ⟨v8,rfl,ho8,hc8⟩
       rw [zD_]
       obtain ⟨A8,c8,rfl,hb8,_⟩:=Bs.of_own ho8
       exact ⟨_,rfl,hc8,A8,c8,rfl,hb8⟩
     refine u9_ za_ rfl rfl ?_
     refine flow_move_out za_ rfl rfl rfl ?_
     refine flow1 (r:=.pointer (some ⟨qm,0,none⟩)) za_ rfl (.inn rfl) rfl (fun ev W he e1 => by go_simp) ?_
     refine flow1 (r:=.pointer (some ⟨qm,0,none⟩)) za_ rfl (.inn rfl) rfl (fun ev W he e1 => by go_simp) ?_
     refine flow1h (r:=.slice A9 L.length c9) za_ rfl (.inn rfl) rfl (fun ev W he hW e1 => by
      have hk:=HW9.out.keep (HKW.out W hW)
      have q0:=hk.cell 0
      clear hW hk
      go_simp) ?_
     refine flow1h (r:=.string (zc_ L)) za_ rfl (.inn rfl) rfl (fun ev W he hW e1 => by
      have q:=(HB9.out.keep (HKW.out W hW)).str (P:=Tryz.prog) 33 5 9 Tryz.underlying33 Tryz.underlying5 Tryz.underlying9
      generalize zc_ L = S at q ⊢
      clear hW
      go_simp) ?_
     refine vM_ za_ (.inn rfl) (.inn rfl) (fun ev W he e1 e2 => by
      generalize zc_ L = S at e1 e2
      go_simp) rfl ?_
     refine zL_ za_ rfl (zd_ _) (.inr (zd_ _)) rfl ?_
     refine flow_move_out za_ rfl rfl rfl ?_
     refine zE_ (.int .i64 (mz : Int)) (by kernel_rfl) rfl (.cons (.inn rfl) .nil) (fun W hW => (zbu (HM5.out.keep (HKW.out W hW))).mono ?_) ?_
     · rintro e w' ⟨rfl,rfl⟩
       rw [zD_]
       exact ⟨rfl,Chg.refl _ _⟩
     refine flow_move_out za_ rfl rfl rfl ?_
     refine flow1 (r:=.pointer (some ⟨qm,0,none⟩)) za_ rfl (.inn rfl) rfl (fun ev W he e1 => by go_simp) ?_
     refine flow1 (r:=.pointer (some ⟨qm,1,none⟩)) za_ rfl (.inn rfl) rfl (fun ev W he e1 => by go_simp) ?_
     refine flow1h (r:=.int .i64 (mz : Int)) za_ rfl (.inn rfl) rfl (fun ev W he hW e1 => by
      have hk:=HW9.out.keep (HKW.out W hW)
      have q1:=hk.cell 1
      clear hW hk
      go_simp) ?_
     refine vM_ za_ (.inn rfl) (.inn rfl) (fun ev W he e1 e2 => by go_simp) rfl ?_
     refine k9_ za_ rfl rfl rfl ?_
     refine zO_ za_ rfl rfl rfl ?_
     refine flow_assign za_ rfl (zd_ _) (.inr (zd_ _)) rfl ?_
     intro vs W hW hF
     have e2 : vs 2 = .bool true:=hF 2 _ rfl rfl
     have HCW:=hQ_ (HHW.out W hW)
     simp only [zY_,Act.put,List.setIfInBounds_toArray,List.set_cons_zero,List.set_cons_succ]
     rw [e2]
     clear hF hW e2
     obtain ⟨wz,hwz⟩ : ∃ wz : World,wz = W:=⟨_,rfl⟩
     rw [← hwz] at HCW ⊢
     clear hwz
     go_wp2_with fail
     go_ret
     exact ⟨rfl,HCW.out⟩
end
def zcs (P : Nat) (zs : List (List UInt8)) (w : World) (e : Ending) (w' : World) : Prop :=
 ∃ gp ys,e = .returned (.slice (some ⟨gp,0,none⟩) P P) ∧ w.heap.size ≤ gp ∧ zb_ w' gp 33 ys ∧ Pgs w' (some ⟨gp,0,none⟩) P P ys zs ∧ Chg [] w w'
section
variable {w : World} {A : Option Addr} {n c p m P : Nat} {T : List UInt8}
theorem zdc (hR : zap w (p : Int) (m : Int) A n c T 0) (hTl : T.length ≤ 2048) (hpm : p ≤ m) (hm : m ≤ 64) (hnP : 1 + zr_ T.length + m ≤ P) (hP : P ≤ 64) : Calls Tryz.prog 14 #[.agg #[.int .i64 (p : Int),.int .i64 (m : Int),.slice A n c],.int .i64 (P : Int)] w (zcs P (jm_ T p P (1 + zr_ T.length + p)) w):=by
 have HPU:=hQ_ (fun (W : World) (hc : Chg [] w W) => kB_ (hR.keep hc) hTl (fun _ => by omega) (P : Int))
 rw [zec (T:=T) (p:=p) (m:=m) (pages:=(P : Int)) (by omega) (by omega)] at HPU
 unfold xi_ at HPU
 simp only at HPU
 clear hR
 obtain ⟨h,hh⟩ : ∃ h,h = zr_ T.length:=⟨_,rfl⟩
 have HHE:=hQ_ hh
 rw [← hh] at hnP ⊢
 clear hh
 obtain ⟨q,hq⟩ : ∃ q,q = 1 + h + p:=⟨_,rfl⟩
 have HQ:=hQ_ hq
 rw [← hq] at ⊢
 have hqP : q ≤ P:=by omega
 clear hq
 go_enter Tryz.func14,Tryz.ntmps14
 go_upto_region 1 with fail
 have HU1:=hQ_ (zb_.new w 24 [.int .i64 (p : Int),.int .i64 (m : Int),.slice A n c])
 have HC1:=hQ_ ((Chg.refl [] w).alloc (.cells #[.int .i64 (p : Int),.int .i64 (m : Int),.slice A n c] 24))
 obtain ⟨gu,hgu⟩ : ∃ gu,gu = w.heap.size:=⟨_,rfl⟩
 rw [← hgu] at HU1 ⊢
 clear hgu
 generalize w.alloc (.cells #[.int .i64 (p : Int),.int .i64 (m : Int),.slice A n c] 24) = w1 at HU1 HC1 ⊢
 obtain ⟨ys0,hys0,hmk⟩:=zbA P (by omega) w1
 have hN:=zb_.new w1 33 ys0
 have hal:=(Chg.refl [] w1).alloc (.cells ys0.toArray 33)
 obtain ⟨gp,hgp⟩ : ∃ gp,gp = w1.heap.size:=⟨_,rfl⟩
 have HGP:=hQ_ hgp
 rw [← hgp] at hN hmk
 clear hgp
 obtain ⟨w5,hw5⟩ : ∃ w5,w5 = w1.alloc (.cells ys0.toArray 33):=⟨_,rfl⟩
 rw [← hw5] at hN hal hmk
 have HRW:=hQ_ hN
 have HK5:=hQ_ hal
 have HYL:=hQ_ hys0
 clear hN hal hw5 hys0
 go_wp2_with fail
 clear hmk
 go_loopw [15] (fun i wr => ∃ (k : Nat) (ys : List Value),i = .int .i64 (k : Int) ∧ k ≤ P ∧ Hid (ys.length = P) ∧ Hid (zb_ wr gp 33 ys) ∧ Hid (∀ j : Nat,j < k → ∃ y : Value,ys[j]? = some y ∧ zcr wr gp y (zt_ 64)) ∧ Hid (Chg [] w1 wr)) (fun i _ => P - (intOf i).toNat)
 case atStart => exact ⟨0,ys0,rfl,by omega,HYL,HRW,hQ_ (by omega),HK5⟩
 case round =>
  clear HYL HRW HK5
  obtain ⟨k,ys,rfl,hk,HYL,HRW,HPA,HKr⟩:=hrel
  have HGW:=hQ_ (show w1.heap.size ≤ gp ∧ gp < wr.heap.size from ⟨by rw [← HGP.out]; exact Nat.le_refl _,HRW.out.lt⟩)
  by_cases hkP : k < P
  · have hkI : (k : Int) < (P : Int):=by omega
    obtain ⟨y,hy⟩ : ∃ y,ys[k]? = some y:=⟨ys[k]'(by rw [HYL.out]; exact hkP),by simp⟩
    have hN:=zb_.new wr 5 (bts (zt_ 64))
    have hal:=(Chg.refl [] wr).alloc (.cells (bts (zt_ 64)).toArray 5)
    have hmk:=u2_ wr
    obtain ⟨g5,hg5⟩ : ∃ g5,g5 = wr.heap.size:=⟨_,rfl⟩
    have HG5:=hQ_ hg5
    rw [← hg5] at hN hmk
    clear hg5
    obtain ⟨w6,hw6⟩ : ∃ w6,w6 = wr.alloc (.cells (bts (zt_ 64)).toArray 5):=⟨_,rfl⟩
    rw [← hw6] at hN hal hmk
    clear hw6
    have HR6:=hQ_ (HRW.out.keep hal)
    have c0:=(HR6.out.cell k).trans hy
    have f0:=HR6.out.frozen k
    have HB6:=hQ_ (show zcr w6 gp (.slice (some ⟨g5,0,none⟩) 64 64) (zt_ 64) from ⟨_,64,rfl,by
     have:=Bs.of_all hN (by rw [zI_]; omega)
     rwa [zI_] at this,fun ad e => by injection e with e; subst e; have h1:=HGW.out.2; have h2:=HG5.out; simp only; omega⟩)
    have HK6:=hQ_ (HKr.out.trans hal)
    have HAL6:=hQ_ hal
    clear hN hal hy
    go_wp2_with fail
    clear hmk
    have HR7:=hQ_ (HR6.out.set_ k (.slice (some ⟨g5,0,none⟩) 64 64))
    have HK7:=hQ_ (HK6.out.setCell (p:=⟨gp,k,none⟩) (fun hh => absurd hh (by have:=HGW.out.1; simp only; omega)) (.slice (some ⟨g5,0,none⟩) 64 64))
    go_roundw
    case rel =>
     refine ⟨k + 1,ys.set k (.slice (some ⟨g5,0,none⟩) 64 64),by go_num,by omega,hQ_ (by rw [List.length_set]; exact HYL.out),HR7,hQ_ (fun j hj => ?_),HK7⟩
     rcases Nat.lt_or_ge j k with h1 | h1
     · obtain ⟨y,hy,hp⟩:=HPA.out j h1
       exact ⟨y,by rw [List.getElem?_set,if_neg (by omega)]; exact hy,(hp.keep HAL6.out).cell_⟩
     · obtain rfl : j = k:=by omega
       exact ⟨_,by rw [List.getElem?_set,if_pos rfl,if_pos (by rw [HYL.out]; exact hkP)],HB6.out.cell_⟩
    case measure => simp [intOf]; omega
  · have hkI : ¬ (k : Int) < (P : Int):=by omega
    obtain rfl : P = k:=by omega
    clear hkP hk
    have HUr:=hQ_ (HU1.out.keep HKr.out)
    have u0:=HUr.out.cell 0
    have u1:=HUr.out.cell 1
    have u2:=HUr.out.cell 2
    have HCr:=hQ_ (HC1.out.trans HKr.out)
    go_upto_region 8 with (
     go_at_call 40
     refine (HPU.out _ HCr.out).mono ?_
     rintro e w4 ⟨v4,ls,rfl,ho4,hr4,hs4,hc4⟩
     have HK4:=hQ_ hc4
     have HC4:=hQ_ (HCr.out.trans hc4)
     have HO4:=hQ_ ho4
     have HS4:=hQ_ hs4
     have HR4:=hQ_ hr4
     clear ho4 hs4 hc4 hr4)
    clear u0 u1 u2
    have HRW4:=hQ_ (HRW.out.keep HK4.out)
    have HPA4:=hQ_ (fun (j : Nat) (hj : j < P) => (HPA.out j hj).elim fun y hy => (⟨y,hy.1,hy.2.keep HK4.out⟩ : ∃ y : Value,ys[j]? = some y ∧ zcr w4 gp y (zt_ 64)))
    obtain ⟨LA,lc,rfl,hll,hch,_,hlcap,_⟩:=uF_ HO4.out (fun a ha => (HR4.out a ha).ok)
    have hlen : ls.length = q:=by rw [HS4.out.len,xM_,← HHE.out,← HQ.out]
    have HLN:=hQ_ hlen
    rw [hlen] at hlcap HO4 ⊢
    clear hch hll hlen
    have HCA:=hQ_ (fun (i : Nat) (hi : i < q) => zbi T p i (by rw [← HHE.out,← HQ.out]; exact hi))
    have HPGE:=hQ_ (show ∀ (k : Nat) (a : ChV),ls[k]? = some a → a.page = (k : Int) ∧ a.bn = 64 ∧ ∃ b,(vY_ T p)[k]? = some (k,b) ∧ a.B = b from fun k a ha => by
     have hk : k < q:=by rw [← HLN.out]; exact (List.getElem?_eq_some_iff.1 ha).1
     obtain ⟨b,hb,_⟩:=HCA.out k hk
     exact ⟨(HS4.out.at ha hb).1,(HR4.out a (List.mem_of_getElem? ha)).bn,b,hb,(HS4.out.at ha hb).2⟩)
    have hgpr : gp < wr.heap.size:=HGW.out.2
    obtain ⟨b4,hb4⟩ : ∃ b4,b4 = wr.heap.size:=⟨_,rfl⟩
    rw [← hb4] at HO4 HR4 hgpr
    have HGB4:=hQ_ (show w.heap.size ≤ gp from Nat.le_trans HC1.out.size HGW.out.1)
    clear hb4 HRW HPA HKr HCr HUr HU1 HC1 HGW HK4
    have HK0:=hQ_ (Chg.refl [gp] w4)
    go_wp2_with fail
    go_loopw [31] (fun i wr => ∃ (k : Nat) (ys : List Value),i = .int .i64 (k : Int) ∧ k ≤ q ∧ Hid (ys.length = P) ∧ Hid (zb_ wr gp 33 ys) ∧ Hid (∀ (j : Nat) (z : List UInt8),(jm_ T p P k)[j]? = some z → ∃ y : Value,ys[j]? = some y ∧ zcr wr gp y z) ∧ Hid (Chg [gp] w4 wr) ∧ Hid (Chg [] w wr)) (fun i _ => q - (intOf i).toNat)
    case atStart => exact ⟨0,ys,rfl,by omega,HYL,HRW4,hQ_ (fun j z hz => by
     have h0 : jm_ T p P 0 = List.replicate P (zt_ 64):=by unfold jm_; simp
     rw [h0,List.getElem?_replicate] at hz
     split at hz
     · injection hz with hz
       subst hz
       exact HPA4.out j (by assumption)
     · cases hz),HK0,HC4⟩
    case round =>
     clear HYL HRW4 HPA4 HK0 HC4 hkI
     obtain ⟨k,ys,rfl,hk,HYL,HRW,HPA,HKr,HWr⟩:=hrel
     by_cases hkq : k < q
     · have hkI : (k : Int) < (q : Int):=by omega
       have hkPI : (k : Int) < (P : Int):=by omega
       have hkP : k < P:=by omega
       obtain ⟨a,ha⟩ : ∃ a,ls[k]? = some a:=⟨ls[k]'(by rw [HLN.out]; exact hkq),by simp⟩
       have HRMS:=hQ_ (fun (a : ChV) (ha : a ∈ ls) => (HR4.out a ha).chg HKr.out (fun i hi => by rw [List.mem_singleton] at hi; subst hi; exact .inl hgpr))
       obtain ⟨LB,ld,eL,_,hch,_,_,_⟩:=uF_ (z0_ HO4.out HKr.out (fun i hi => by rw [List.mem_singleton] at hi; subst hi; exact .inl hgpr)) (fun a ha => (HRMS.out a ha).ok)
       injection eL with eL1 _ eL2
       subst eL1; subst eL2
       obtain ⟨gc,co,rfl,_,hcc⟩:=hch.cells (by rw [HLN.out]; omega)
       obtain ⟨y0,y1⟩:=hcc k a ha
       obtain ⟨e0,e1,b,hb,e2⟩:=HPGE.out k a ha
       have HRM:=hQ_ (HRMS.out a (List.mem_of_getElem? ha))
       obtain ⟨gB,rB,hbA,hgB,_,hbc,_⟩:=HRM.out.b
       have HOK:=hQ_ HRM.out.ok.bs
       rw [hbA,e1,e2] at HOK
       have HGB:=hQ_ (show gB ≠ gp from by omega)
       rw [e0] at y0
       rw [hbA,e1] at y1
       generalize a.bc = bc at HOK y1
       have hkc : k < lc:=by omega
       obtain ⟨yk,hyk⟩ : ∃ y,ys[k]? = some y:=⟨ys[k]'(by rw [HYL.out]; exact hkP),by simp⟩
       clear hcc ha e0 e1 e2 hbA hbc HRM HRMS hch hgB
       have HBE:=hQ_ hb
       clear hb
       go_upto_region 11 with fail
       have hN:=zb_.new wr 44 [.int .i64 (k : Int),.slice (some ⟨gB,0,none⟩) 64 bc]
       have hal:=(Chg.refl [] wr).alloc (.cells #[.int .i64 (k : Int),.slice (some ⟨gB,0,none⟩) 64 bc] 44)
       have HX6:=hQ_ hN
       have HR6:=hQ_ (HRW.out.keep hal)
       have HO6:=hQ_ (HOK.out.keep hal)
       have HK6:=hQ_ (HKr.out.new hal)
       have HW6:=hQ_ (HWr.out.trans hal)
       have HAL6:=hQ_ hal
       clear hN hal y0 y1
       generalize wr.heap.size = gx at HX6 ⊢
       generalize wr.alloc (.cells #[.int .i64 (k : Int),.slice (some ⟨gB,0,none⟩) 64 bc] 44) = w6 at HX6 HR6 HO6 HK6 HW6 HAL6 ⊢
       have x0:=HX6.out.cell 0
       have x1:=HX6.out.cell 1
       have c0:=(HR6.out.cell k).trans hyk
       have f0:=HR6.out.frozen k
       go_wp2_with fail
       have HR7:=hQ_ (HR6.out.set_ k (.slice (some ⟨gB,0,none⟩) 64 bc))
       have HK7:=hQ_ (HK6.out.setCell (p:=⟨gp,k,none⟩) (fun _ => by simp) (.slice (some ⟨gB,0,none⟩) 64 bc))
       have HW7:=hQ_ (HW6.out.setCell (p:=⟨gp,k,none⟩) (fun hh => absurd hh (by have:=HGB4.out; simp only; omega)) (.slice (some ⟨gB,0,none⟩) 64 bc))
       go_roundw
       case rel =>
        refine ⟨k + 1,ys.set k (.slice (some ⟨gB,0,none⟩) 64 bc),by go_num,by omega,hQ_ (by rw [List.length_set]; exact HYL.out),HR7,hQ_ (fun j z hz => ?_),HK7,HW7⟩
        rcases zcx T p P k (by rw [← HHE.out,← HQ.out]; exact hkq) hkP HBE.out j hz with ⟨rfl,rfl⟩ | ⟨hne,hz2⟩
        · exact ⟨_,by rw [List.getElem?_set,if_pos rfl,if_pos (by rw [HYL.out]; exact hkP)],zcr.cell_ ⟨_,_,rfl,HO6.out,fun ad e => by injection e with e; subst e; exact HGB.out⟩⟩
        · obtain ⟨y,hy,hp⟩:=HPA.out j z hz2
          exact ⟨y,by rw [List.getElem?_set,if_neg (by omega)]; exact hy,(hp.keep HAL6.out).cell_⟩
       case measure => simp [intOf]; omega
     · have hkI : ¬ (k : Int) < (q : Int):=by omega
       obtain rfl : q = k:=by omega
       clear hkq hk
       have HZL:=hQ_ (ur_ T p P q (by rw [HQ.out,HHE.out]; exact Nat.le_refl _) hqP)
       have HPGS:=hQ_ (show Pgs wr (some ⟨gp,0,none⟩) P P ys (jm_ T p P q) from ⟨HYL.out,fun _ => ⟨_,rfl,HRW.out.lt,fun j v hj => by rw [zl_,Nat.zero_add,HRW.out.cell j]; exact hj⟩,⟨by rw [HYL.out,HZL.out],fun i v X hv hX => by
        obtain ⟨y,hy,B,d,e,hb,_⟩:=HPA.out i X hX
        rw [hv] at hy
        injection hy with hy
        exact ⟨B,64,d,hy.trans e,hb⟩⟩,Nat.le_refl _,by omega,fun _ ad e => by injection e with e; subst e; rfl⟩)
       have HFIN:=hQ_ (show zcs P (jm_ T p P q) w (.returned (.slice (some ⟨gp,0,none⟩) P P)) wr from ⟨gp,ys,rfl,HGB4.out,HRW.out,HPGS.out,HWr.out⟩)
       clear HPGS HZL HRW HPA HYL HWr HKr HCA HPGE HR4 HS4 HO4 HLN HPU
       go_wp2_with fail
       go_ret
       exact HFIN.out
end
section
variable {w : World}
theorem gJ_ (k : Nat) (hk : k ≤ 60) : Calls Tryz.prog 11 #[.int .i64 (k : Int)] w (j5_ w):=by
 obtain ⟨i0,hii,hz0,hz1,hz2⟩:=info_parts ve_
 obtain ⟨w8,hw8⟩ : ∃ w8 : World,w8 = w:=⟨_,rfl⟩
 obtain ⟨B8,hB8⟩ : ∃ b,b = w8.heap.size:=⟨_,rfl⟩
 have HB8:=hQ_ hB8
 rw [← hw8]
 clear hB8 hw8
 go_enter Tryz.func11,Tryz.ntmps11
 go_wp2_with fail
 go_loopw [3,4] (fun v s wr => ∃ i : Nat,i ≤ 200 ∧ s = .int .i64 (i : Int) ∧ (∃ ys : List Int,ys.length = i ∧ wr.ownsRow B8 3 1 v i (nms ys) ∧ (∀ y ∈ ys,-9223372036854775808 ≤ y ∧ y ≤ 9223372036854775807)) ∧ Hid (Chg [] w8 wr)) (fun _ s _ => 200 - (intOf s).toNat)
 case atStart => exact ⟨0,by omega,rfl,⟨[],rfl,World.ownsRow_nil _ _ _ _,fun y hy => by simp at hy⟩,hQ_ (Chg.refl _ _)⟩
 case round =>
  obtain ⟨i,hi90,rfl,⟨ys,hyl,ho,hyr⟩,HCr⟩:=hrel
  have HO:=hQ_ ho
  have HYL:=hQ_ hyl
  have HYR:=hQ_ hyr
  clear ho hyl hyr
  by_cases hlt9 : i < 200
  · have hltI : (i : Int) < 200:=by omega
    have p0 : (0 : Int) ≤ (i : Int) * (i : Int):=Int.mul_nonneg (by omega) (by omega)
    have p1 : (i : Int) * (i : Int) ≤ 40000:=zdy (a:=200) (b:=200) hi90 hi90
    have p2 : (0 : Int) ≤ (i : Int) * (k : Int):=Int.mul_nonneg (by omega) (by omega)
    have p3 : (i : Int) * (k : Int) ≤ 12000:=zdy (a:=200) (b:=60) hi90 hk
    have HW8:=hQ_ (show B8 ≤ wr.heap.size by have:=HCr.out.size; have:=HB8.out; omega)
    have hyv : -9223372036854775808 ≤ ((i : Int) * (i : Int) * 7 + (k : Int) * 43 + (i : Int) * (k : Int)) % 211 ∧ ((i : Int) * (i : Int) * 7 + (k : Int) * 43 + (i : Int) * (k : Int)) % 211 ≤ 9223372036854775807:=by omega
    have HYV:=hQ_ hyv
    clear hyv
    go_wp2_with (
     at_builtin
     refine qc_ rfl (.tmp 9) (.tmp 22) 26 rfl B8 3 i0 _ 1 8 Tryz.underlying26 hii hz0 hz1 hz2 rfl (by decide) _ i (nms ys) rfl (zn_ HO.out ((Chg.refl [] wr).alloc _)) ⟨wr.heap.size,0,none⟩ 1 1 [.int .i64 (((i : Int) * (i : Int) * 7 + (k : Int) * 43 + (i : Int) * (k : Int)) % 211)] rfl rfl ?c1 ?c2 ?c3 ?c4 ?c5 ?_
     case c1 => exact zfz _ _ _
     case c2 => simp [Value.oneCell']
     case c3 => simp only [maxLen]; omega
     case c4 => omega
     case c5 => have:=HW8.out; simp; omega
     intro v' w6 hown' hg' _)
    generalize ((i : Int) * (i : Int) * 7 + (k : Int) * 43 + (i : Int) * (k : Int)) % 211 = y at hown' HYV
    have HO6:=hQ_ hown'
    have HC6:=hQ_ (show Chg [] w8 w6 from (HCr.out.alloc _).ownN (zn_ HO.out ((Chg.refl [] wr).alloc _)) (by have:=HB8.out; omega) hg')
    clear hown' hg' p0 p1 p2 p3
    go_wp2_with fail
    go_roundw
    case rel => exact ⟨i + 1,by omega,by go_num,⟨ys ++ [y],by rw [List.length_append,HYL.out]; rfl,by rw [zeu]; exact HO6.out,fun z hz => by
     rcases List.mem_append.1 hz with h | h
     · exact HYR.out z h
     · simp only [List.mem_cons,List.not_mem_nil,or_false] at h; subst h; exact HYV.out⟩,HC6⟩
    case measure => simp [intOf]; omega
  · have hltI : ¬ (i : Int) < 200:=by omega
    obtain rfl : i = 200:=by omega
    obtain ⟨A9,c9,rfl,_,_,hs9,hp9⟩:=zp_ HO.out
    have HP:=hQ_ (show j5_ w8 (.returned (.slice A9 200 c9)) wr from ⟨A9,c9,ys,rfl,HYL.out,hs9,fun ad e => ⟨(hp9 ad e).1,by
     obtain ⟨ad',e',hlt,_⟩:=hs9 (by rw [zet,HYL.out]; omega)
     rw [e] at e'; injection e' with e'; subst e'; exact hlt⟩,HYR.out,HCr.out⟩)
    clear hs9 hp9
    go_wp2_with fail
    go_ret
    exact HP.out
end
theorem yL_ (pg ms : Int) (l : List FnV) : (zM_ pg ms l).1.length ≤ 2048 ∧ ((zM_ pg ms l).2 = 0 → 0 ≤ pg ∧ pg ≤ ms ∧ ms ≤ 64):=by
 by_cases hr : zJ_ pg ms l = 0
 · have hu : zM_ pg ms l = if 2048 < (utx pg ms l).length then ([],3) else (utx pg ms l,0):=by unfold zM_; rw [if_pos hr]
   have hR:=vF_.1 hr
   refine ⟨?_,fun _ => ⟨hR.p0,hR.pm,hR.m64⟩⟩
   rw [hu]
   split
   · simp
   · simp only; omega
 · have hu : zM_ pg ms l = ([],zJ_ pg ms l):=by unfold zM_; rw [if_neg hr]
   rw [hu]
   exact ⟨by simp,fun h => absurd h hr⟩
section
variable {w : World} {pg ms : Int} {A : Option Addr} {n c : Nat} {l : List FnV}
theorem zdE (h : UOk w pg ms A n c (zJ_ pg ms l) (zM_ pg ms l).1 (zM_ pg ms l).2) (pages : Int) (hP : xu_ w.heap.size w) : Calls Tryz.prog 13 #[.agg #[.int .i64 pg,.int .i64 ms,.slice A n c],.int .i64 pages] w (zy_ true w) :=
 zcS h.ut h.rt (yL_ pg ms l).1 (yL_ pg ms l).2 pages hP
theorem zdY (h : UOk w pg ms A n c (zJ_ pg ms l) (zM_ pg ms l).1 (zM_ pg ms l).2) : Calls Tryz.prog 12 #[.agg #[.int .i64 pg,.int .i64 ms,.slice A n c]] w fun e w' => e = .returned (.int .i64 (yj_ (zM_ pg ms l).1 (zM_ pg ms l).2 ms)) ∧ Chg [] w w' :=
 vE_ h.rt (yL_ pg ms l).1 (fun h => by have:=(yL_ pg ms l).2 h; omega)
end
theorem zbC {W : World} {ys ys' : List Value} {zs zs' : List (List UInt8)} (h : qa_ W ys zs) (h' : qa_ W ys' zs') : qa_ W (ys ++ ys') (zs ++ zs'):=by
 refine ⟨by rw [List.length_append,List.length_append,h.1,h'.1],fun i v X hv hX => ?_⟩
 rcases Nat.lt_or_ge i ys.length with hi | hi
 · rw [List.getElem?_append_left hi] at hv
   rw [List.getElem?_append_left (by rw [← h.1]; exact hi)] at hX
   exact h.2 i v X hv hX
 · rw [List.getElem?_append_right hi] at hv
   rw [List.getElem?_append_right (by rw [← h.1]; exact hi),← h.1] at hX
   exact h'.2 (i - ys.length) v X hv hX
section
variable {P : Program} (w : World)
theorem um_ (t ty e : TypeId) (i : TypeInfo) (z : Value) (bytes : Nat) (ht : P.underlying t = some (.slice e)) (hi : P.info? e = some i) (hz : i.zero = some z) (hs : i.size = 1) (hby : i.bytes = bytes)
    (b : Addr) (hbs : b.spot = none) (k : Nat) (olds : List Value) (hlo : olds.length = k) (ho : Src w (some b) olds) (A : Option Addr) (m c : Nat) (news : List Value) (hl : news.length = m) (hsrc : Src w A news) (hb : (k + m) * bytes ≤ 140737488355328) (h63 : k + m ≤ maxLen) :
    ∃ b' c' w',(Builtin.append_ #[t,t] ty #[.slice (some b) k k,.slice A m c]).run P w = .ok (.slice (some b') (k + m) c') w' ∧ Src w' (some b') (olds ++ news) ∧ k + m ≤ c' ∧ c' ≤ maxLen ∧ b'.spot = none ∧ Chg [] w w':=by
 have hold : ∀ j v,olds[j]? = some v → w.cell? (b.add j) = some v:=by
  intro j v hj
  obtain ⟨ad,h,_,hc⟩:=ho (by have:=(List.getElem?_eq_some_iff.1 hj).1; omega)
  injection h with h
  subst h
  exact hc j v hj
 rcases Nat.eq_zero_or_pos m with h0 | h0
 · subst h0
   obtain rfl : news = []:=List.eq_nil_of_length_eq_zero hl
   refine ⟨b,k,w,?_,by simpa using ho,by omega,by omega,hbs,Chg.refl _ _⟩
   rcases A with _ | ad
   · simp [Builtin.append_,run_underlying ht,sizeOf,typeInfo,hi,Builtin.lenOf,Builtin.firstCells,storeCells]
   · have hf:=run_firstCells_some (P:=P) w i.size 0 ad 0 c [] (by simp) (fun j u hj => by simp at hj)
     simp [Builtin.append_,run_underlying ht,sizeOf,typeInfo,hi,Builtin.lenOf,hf,storeCells]
 · obtain ⟨ad,rfl,_,hx⟩:=hsrc (by omega)
   subst hby
   have h63' : k + m ≤ 9223372036854775807:=by simp only [maxLen] at h63; omega
   have h:=run_append_grow (P:=P) w t ty e i z ht hi hz b k k olds (by rw [hlo,hs]; omega) hold ad m c news (by rw [hl,hs]; omega) hx (by omega) (by omega) (growslice_fits (by omega) (by simpa using hb))
   have hge:=grownCap_ge w (k + m) k e
   have hle:=grownCap_le_maxLen w (k + m) k e h63
   have hw : zb_ (w.drew.alloc (.cells ((olds ++ news) ++ (Builtin.zeroCells z.cells (grownCap w (k + m) k e - (k + m))).toList).toArray e)) w.heap.size e ((olds ++ news) ++ (Builtin.zeroCells z.cells (grownCap w (k + m) k e - (k + m))).toList):=zb_.new w.drew e _
   have e1 : (olds.toArray ++ news.toArray ++ Builtin.zeroCells z.cells (grownCap w (k + m) k e - (k + m))) = ((olds ++ news) ++ (Builtin.zeroCells z.cells (grownCap w (k + m) k e - (k + m))).toList).toArray:=by
    apply Array.ext'; simp
   rw [e1] at h
   refine ⟨_,_,_,h,?_,hge,hle,rfl,((Chg.refl [] w).drew).alloc _⟩
   have hsr:=Src.of_whole hw 0 (k + m)
   rw [List.drop_zero,List.take_left' (by rw [List.length_append,hlo,hl])] at hsr
   exact hsr
end
theorem zei {W : World} {A B : Option Addr} {g t n c cx j m d : Nat} {ys rx : List Value} {zs : List (List UInt8)} {X : List UInt8} (hW : zb_ W g t (ys.set j (.slice B m d) ++ rx)) (h : Pgs W A n c ys zs) (hB : Bs W B m d X) (hc : n ≤ cx) (hm : cx ≤ 9223372036854775807) :
    Pgs W (some ⟨g,0,none⟩) n cx (ys.set j (.slice B m d)) (zs.set j X):=by
 refine ⟨by rw [List.length_set,h.len],?_,⟨by rw [List.length_set,List.length_set,h.ls.1],fun i v Y hv hY => ?_⟩,hc,hm,fun _ ad e => by injection e with e; subst e; rfl⟩
 · have h1:=Src.of_whole hW 0 n
   rw [List.drop_zero,List.take_left' (by rw [List.length_set,h.len])] at h1
   exact h1
 · by_cases hij : j = i
   · subst hij
     have hi : j < ys.length:=by
      have:=(List.getElem?_eq_some_iff.1 hv).1
      rwa [List.length_set] at this
     rw [List.getElem?_set_self hi] at hv
     rw [List.getElem?_set_self (by rw [← h.ls.1]; exact hi)] at hY
     injection hv with hv
     injection hY with hY
     subst hv
     subst hY
     exact ⟨B,m,d,rfl,hB⟩
   · rw [List.getElem?_set_ne hij] at hv hY
     exact h.ls.2 i v Y hv hY
theorem zeh {W : World} {b : Addr} {n c : Nat} {ys : List Value} {zs : List (List UInt8)} (hn : ys.length = n) (hs : Src W (some b) ys) (hb : b.spot = none) (hl : qa_ W ys zs) (hc : n ≤ c) (hm : c ≤ 9223372036854775807) : Pgs W (some b) n c ys zs :=
 ⟨hn,hs,hl,hc,hm,fun _ ad e => by injection e with e; subst e; exact hb⟩
theorem vn_ (w : World) {b : Addr} {A2 : Option Addr} {n m c2 : Nat} {ys ys2 : List Value} {zs zs2 : List (List UInt8)} (h : Pgs w (some b) n n ys zs) (hn : 0 < n) (h2 : Pgs w A2 m c2 ys2 zs2) (hb : n + m ≤ 100000) :
    ∃ b' c' w',(Builtin.append_ #[30,30] 30 #[.slice (some b) n n,.slice A2 m c2]).run Tryz.prog w = .ok (.slice (some b') (n + m) c') w' ∧ Pgs w' (some b') (n + m) c' (ys ++ ys2) (zs ++ zs2) ∧ Chg [] w w':=by
 have hinf : (Tryz.prog.info? 33).map (fun i => (i.zero,i.size,i.bytes)) = some (some (.slice none 0 0),1,24):=by kernel_rfl
 obtain ⟨i0,hi,hz0,hz1,hz2⟩:=info_parts hinf
 obtain ⟨b',c',w',hr,hs,hc,hm,hsp,hcg⟩:=um_ (P:=Tryz.prog) w 30 30 33 i0 _ 24 Tryz.underlying30 hi hz0 hz1 hz2 b (h.spot hn b rfl) n ys h.len h.src A2 m c2 ys2 h2.len h2.src (by omega) (by unfold maxLen; omega)
 exact ⟨b',c',w',hr,zeh (by rw [List.length_append,h.len,h2.len]) hs hsp (zbC (h.ls.keep hcg) (h2.ls.keep hcg)) hc (by unfold maxLen at hm; exact hm),hcg⟩
theorem y5_ {P : Program} (w : World) {ops : Array Oper} {rest : List Oper} {o : Oper} {a : Act} {Q : Exit → Act → World → Prop} (hgd : Region.wanted o (yielded ops a.tmps) = true) (s x : Operand) (t tn : TypeId)
    (ho : o.op = .call { callee:=.builtin .append,args:=#[s,x],argTypes:=#[t,tn] }) (vs vx : Value) (hs : a.eval s = vs) (hx : a.eval x = vx)
    (v' : Value) (w' : World) (hr : (Builtin.append_ #[t,tn] o.type #[vs,vx]).run P w = .ok v' w') (h : wpList P ops Q rest (a.put o.dst v') w') : wpList P ops Q (o :: rest) a w:=by
      refine wpList_step fun K hK => ?_
      rw [if_pos hgd]
      exact Lib.wp_append_run w s x t tn ho vs vx hs hx v' w' hr (hK _ _ h)
theorem zbj {W : World} {g t m d : Nat} {B : Option Addr} {z : List UInt8} (hW : zb_ W g t [.slice B m d]) (hB : Bs W B m d z) : Pgs W (some ⟨g,0,none⟩) 1 1 [.slice B m d] [z] :=
 ⟨rfl,Src.of_all hW,⟨rfl,fun i v X hv hX => by
  match i with
  | 0 => simp at hv hX; subst hv; subst hX; exact ⟨B,m,d,rfl,hB⟩
  | i + 1 => simp at hv⟩,Nat.le_refl _,by omega,fun _ ad e => by injection e with e; subst e; rfl⟩
theorem zcW (W : World) : Pgs W none 0 0 [] []:=⟨rfl,Src.nil _ _,⟨rfl,fun i v X hv => by simp at hv⟩,Nat.le_refl _,by omega,fun h => absurd h (by omega)⟩
theorem zaC {pg ms : Int} {l : List FnV} (h : (zM_ pg ms l).2 = 0) : 1 ≤ zr_ (zM_ pg ms l).1.length:=by
 by_cases hr : zJ_ pg ms l = 0
 · have hu : zM_ pg ms l = if 2048 < (utx pg ms l).length then ([],3) else (utx pg ms l,0):=by unfold zM_; rw [if_pos hr]
   rw [hu] at h ⊢
   split at h
   · cases h
   · rename_i hn
     rw [if_neg hn]
     unfold zr_ utx
     simp only [List.length_cons]
     omega
 · have hu : zM_ pg ms l = ([],zJ_ pg ms l):=by unfold zM_; rw [if_neg hr]
   rw [hu] at h
   exact absurd h hr
theorem zcy (z : UInt8) (t : Int) (h : 0 ≤ t ∧ t < 256) : ∃ D : UInt8,bits .xor .u8 (z.toNat : Int) t = (D.toNat : Int):=by
 obtain ⟨t8,rfl⟩ : ∃ t8 : Nat,t = (t8 : Int):=⟨t.toNat,by omega⟩
 have h1:=z.toNat_lt
 refine ⟨UInt8.ofNat (z.toNat ^^^ t8),?_⟩
 rw [u8_xor_nat _ _ (by omega) (by omega),UInt8.toNat_ofNat']
 have h3 : z.toNat ^^^ t8 < 256:=Nat.xor_lt_two_pow (n:=8) (by omega) (by omega)
 omega
section
variable {w : World}
theorem up_ (hP : xu_ w.heap.size w) : Calls Tryz.prog 3 #[] w (zy_ true w):=by
 have HP:=hQ_ hP
 have HKN:=hQ_ (fun (W : World) (h : xu_ W.heap.size W) => zcV h)
 have HGT:=hQ_ (fun (W : World) (A : Option Addr) (n c : Nat) (ys : List Value) (zs : List (List UInt8)) (h : Pgs W A n c ys zs) (hn : n ≤ 1000) (hp : xu_ W.heap.size W) => zde h hn hp)
 have HP0:=hQ_ (fun (W : World) (P : Int) (hp : xu_ W.heap.size W) => zdE (pg:=2) (ms:=1) (UOk.of_fnr (qx_ W) (fun f hf => by simp at hf)) P hp)
 have hinf : (Tryz.prog.info? 33).map (fun i => (i.zero,i.size,i.bytes)) = some (some (.slice none 0 0),1,24):=by kernel_rfl
 have HINF:=hQ_ hinf
 unfold zy_ at HKN HGT HP0 ⊢
 clear hP hinf
 go_enter Tryz.func3,Tryz.ntmps3
 go_wp2_with fail
 go_loopw [1] (fun i wr => ∃ k : Nat,i = .int .i64 (k : Int) ∧ k ≤ 40 ∧ Hid (Chg [] w wr)) (fun i _ => 40 - (intOf i).toNat)
 case atStart => exact ⟨0,rfl,by omega,hQ_ (Chg.refl [] _)⟩
 case round =>
  obtain ⟨k,rfl,hk,HCr⟩:=hrel
  by_cases hkn : k < 40
  · have hkI : (k : Int) < 40:=by omega
    have HTP:=hQ_ (gJ_ (w:=wr) k (by omega))
    go_upto_region 5 with (first
     | (go_at_call 11
        refine HTP.out.mono ?_
        rintro e w1 ⟨A1,c1,xs,rfl,hlen,hs1,hsp,hrng,hc1⟩
        have HUN:=hQ_ (zcC (c:=c1) hs1 hlen (fun _ ad e => (hsp ad e).1) (by omega) hrng)
        have HC1:=hQ_ (HCr.out.trans hc1)
        clear hs1 hlen hsp hrng hc1)
     | (go_at_call 10
        refine HUN.out.mono ?_
        rintro e w2 ⟨pg,ms,v,fl,rfl,hp0,hp1,hm0,hm1,ho,hg,hfl0,hc2⟩
        obtain ⟨FA,fc,rfl,hFr⟩:=Fnr.of_own ho (by have:=hg.lo; omega) (fun f hf => by have:=hg.args f hf; omega)
        have HSU:=hQ_ (show ∀ f ∈ fl,f.code.size ≤ 9223372036854775807 from fun f hf => by have:=hg.size f hf; omega)
        have HF2:=hQ_ hFr
        have HC2:=hQ_ (HC1.out.trans hc2)
        clear ho hg hFr hp0 hp1 hm0 hm1 hc2 hfl0))
    obtain ⟨fn,hfn⟩ : ∃ fn,fn = fl.length:=⟨_,rfl⟩
    rw [← hfn] at HF2 ⊢
    clear hfn
    have hN:=zb_.new w2 24 [.int .i64 pg,.int .i64 ms,.slice FA fn fc]
    have hal:=(Chg.refl [] w2).alloc (.cells #[.int .i64 pg,.int .i64 ms,.slice FA fn fc] 24)
    have HU3:=hQ_ hN
    have HF3:=hQ_ (HF2.out.keep hal)
    have HC3:=hQ_ (HC2.out.trans hal)
    clear hN hal HF2 HC2 HC1 HTP HUN
    generalize w2.heap.size = gu at HU3 ⊢
    generalize w2.alloc (.cells #[.int .i64 pg,.int .i64 ms,.slice FA fn fc] 24) = w5 at HU3 HF3 HC3 ⊢
    have u0:=HU3.out.cell 0
    have u1:=HU3.out.cell 1
    have u2:=HU3.out.cell 2
    have HUU:=hQ_ (UOk.of_fnr (pg:=pg) (ms:=ms) HF3.out HSU.out)
    have HPU:=hQ_ (fun (W : World) (P : Int) (hc : Chg [] w5 W) (hp : xu_ W.heap.size W) => zdE (HUU.out.keep hc) P hp)
    have HND:=hQ_ (zdY HUU.out)
    unfold zy_ at HPU
    obtain ⟨N,hN⟩ : ∃ N,N = yj_ (zM_ pg ms fl).1 (zM_ pg ms fl).2 ms:=⟨_,rfl⟩
    rw [← hN] at HND
    have HNE:=hQ_ hN
    clear hN
    go_upto_region 6 with (
     go_at_call 12
     refine HND.out.mono ?_
     rintro e w6 ⟨rfl,hc6⟩
     have HK6:=hQ_ hc6
     clear hc6)
    clear u0 u1 u2
    have HU6:=hQ_ (HU3.out.keep HK6.out)
    have HC6:=hQ_ (HC3.out.trans HK6.out)
    have HBP:=hQ_ (fun (W : World) (h : Chg [] w W) => HP.out.here h)
    clear HU3 HC3 HF3 HSU HND
    by_cases hb1 : N < 1
    · go_wp2_with fail
      go_roundw
      case rel => exact ⟨k + 1,by go_num,by omega,HC6⟩
      case measure => simp [intOf]; omega
    by_cases hb2 : 60 < N
    · go_wp2_with fail
      go_roundw
      case rel => exact ⟨k + 1,by go_num,by omega,HC6⟩
      case measure => simp [intOf]; omega
    have hE : (zM_ pg ms fl).2 = 0:=by
     by_cases h : (zM_ pg ms fl).2 = 0
     · exact h
     · have h1:=HNE.out
       unfold yj_ at h1
       rw [if_neg h] at h1
       omega
    obtain ⟨g0,g1,g2⟩:=(yL_ pg ms fl).2 hE
    have hTl:=(yL_ pg ms fl).1
    have hT1:=zaC hE
    have HRX:=hQ_ (show zap w5 pg ms FA fn fc (zM_ pg ms fl).1 0 from by have:=HUU.out.rt; rw [hE] at this; exact this)
    have hNv : N = 1 + (zr_ (zM_ pg ms fl).1.length : Int) + ms:=by
     have h1:=HNE.out
     unfold yj_ at h1
     rw [if_pos hE] at h1
     exact h1
    obtain ⟨p,rfl⟩ : ∃ p : Nat,pg = (p : Int):=⟨pg.toNat,by omega⟩
    obtain ⟨m,rfl⟩ : ∃ m : Nat,ms = (m : Int):=⟨ms.toNat,by omega⟩
    obtain ⟨P,hPN⟩ : ∃ P : Nat,N = (P : Int):=⟨N.toNat,by omega⟩
    clear HNE hE HUU
    generalize (zM_ (p : Int) (m : Int) fl).1 = T at HRX hTl hNv hT1
    subst hPN
    have hP2 : 2 ≤ P:=by omega
    have hP60 : P ≤ 60:=by omega
    have HLD:=hQ_ (fun (W : World) (hc : Chg [] w5 W) => zdc (P:=P) (HRX.out.keep hc) hTl (by omega) (by omega) (by omega) (by omega))
    have h64:=(zar T p P hTl (by omega) (by omega)).1.1
    have hzl:=ur_ T p P (1 + zr_ T.length + p) (Nat.le_refl _) (by omega)
    generalize jm_ T p P (1 + zr_ T.length + p) = zs at HLD hzl h64
    have H64:=hQ_ h64
    have HZL:=hQ_ hzl
    clear hzl h64 hNv HRX hTl g0 g1 g2 hT1
    unfold zcs at HLD
    obtain ⟨q1,hq1⟩ : ∃ q1 : Nat,q1 + 1 = P:=⟨P - 1,by omega⟩
    have hW1 : IntKind.i64.wrap ((P : Int) - 1) = (q1 : Int):=by rw [IntWalk.i64_in _ (by omega)]; omega
    have hW2 : IntKind.i64.wrap ((P : Int) + 2) = (P : Int) + 2:=IntWalk.i64_in _ (by omega)
    have HQ1:=hQ_ (And.intro hq1 (And.intro hP2 hP60))
    have HKK:=hQ_ (And.intro hk hkn)
    go_upto_region 8 with fail
    have hN:=zb_.new w6 3 [.int .i64 (q1 : Int),.int .i64 (P : Int),.int .i64 ((P : Int) + 2),.int .i64 64,.int .i64 65,.int .i64 (-1)]
    have hal:=(Chg.refl [] w6).alloc (.cells #[.int .i64 (q1 : Int),.int .i64 (P : Int),.int .i64 ((P : Int) + 2),.int .i64 64,.int .i64 65,.int .i64 (-1)] 3)
    have HW7:=hQ_ hN
    have HK7:=hQ_ (HK6.out.trans hal)
    have HU7:=hQ_ (HU6.out.keep hal)
    have HC7:=hQ_ (HC6.out.trans hal)
    clear hN hal HK6 HU6 HC6 HCr hb1 hb2 hq1 hP2 hP60
    generalize w6.heap.size = gs at HW7 ⊢
    generalize w6.alloc (.cells #[.int .i64 (q1 : Int),.int .i64 (P : Int),.int .i64 ((P : Int) + 2),.int .i64 64,.int .i64 65,.int .i64 (-1)] 3) = w7 at HW7 HK7 HU7 HC7 ⊢
    go_loopw [31] (fun i wr => ∃ q : Nat,i = .int .i64 (q : Int) ∧ q ≤ 6 ∧ Hid (Chg [] w7 wr)) (fun i _ => 6 - (intOf i).toNat)
    case atStart => exact ⟨0,rfl,by omega,hQ_ (Chg.refl [] _)⟩
    case round =>
     obtain ⟨q,rfl,hq,HCq⟩:=hrel
     by_cases hq6 : q < 6
     · have hqI : (q : Int) < 6:=by omega
       obtain ⟨b,hb⟩ : ∃ b : Int,([.int .i64 (q1 : Int),.int .i64 (P : Int),.int .i64 ((P : Int) + 2),.int .i64 64,.int .i64 65,.int .i64 (-1)] : List Value)[q]? = some (.int .i64 b):=by
        have : q = 0 ∨ q = 1 ∨ q = 2 ∨ q = 3 ∨ q = 4 ∨ q = 5:=by omega
        rcases this with rfl | rfl | rfl | rfl | rfl | rfl <;> exact ⟨_,rfl⟩
       have z0 : wr.cell? ⟨gs,q,none⟩ = some (.int .i64 b):=((HW7.out.keep HCq.out).cell q).trans hb
       have u0:=(HU7.out.keep HCq.out).cell 0
       have u1:=(HU7.out.keep HCq.out).cell 1
       have u2:=(HU7.out.keep HCq.out).cell 2
       have HPQ:=hQ_ (HPU.out wr b (HK7.out.trans HCq.out) (HBP.out _ (HC7.out.trans HCq.out)))
       clear hb
       go_wp2_with (
        go_at_call 13
        with_reducible refine HPQ.out.mono ?_
        rintro e w8 ⟨rfl,hc⟩
        have HC8:=hQ_ (HCq.out.trans hc)
        clear hc)
       go_roundw
       case rel => exact ⟨q + 1,by go_num,by omega,HC8⟩
       case measure => simp [intOf]; omega
     · have hqI : ¬ (q : Int) < 6:=by omega
       have u0:=(HU7.out.keep HCq.out).cell 0
       have u1:=(HU7.out.keep HCq.out).cell 1
       have u2:=(HU7.out.keep HCq.out).cell 2
       have HLD8:=hQ_ (HLD.out wr (HK7.out.trans HCq.out))
       go_upto_region 14 with (
        go_at_call 14
        refine HLD8.out.mono ?_
        rintro e w9 ⟨gp,ys,rfl,hgp,hrow,hpgs,hc9⟩
        have HROW:=hQ_ hrow
        have HPGS:=hQ_ hpgs
        have HC9:=hQ_ (HC7.out.trans (HCq.out.trans hc9))
        clear hgp hrow hpgs hc9)
       clear u0 u1 u2 HCq hq hq6 hqI HLD8 HLD HW7 HU7 HK7 HC7 HPU
       obtain ⟨hq1,hP2,hP60⟩:=HQ1.out
       have hyl : ys.length = P:=HPGS.out.len
       obtain ⟨z,hz⟩ : ∃ z,zs[0]? = some z:=⟨zs[0]'(by rw [HZL.out]; omega),by simp⟩
       have hz64:=H64.out z (List.mem_of_getElem? hz)
       obtain ⟨y,B,m',d,hy,rfl,hB⟩:=HPGS.out.at_ hz
       obtain rfl : m' = 64:=by rw [← hB.len,hz64]
       have HB:=hQ_ hB
       have HY:=hQ_ hy
       clear hz hz64 hB hy
       have HPR:=hQ_ (HPGS.out.part (lo:=0) (k:=q1) (by omega) (by omega))
       rw [Nat.add_zero,Nat.sub_zero] at HPR
       have hqP : (q1 : Int) ≤ (P : Int):=by omega
       have hqPn : q1 ≤ P:=by omega
       have hP0I : (0 : Int) < (P : Int):=by omega
       have HPN:=hQ_ (And.intro hP60 (And.intro hP2 hqPn))
       clear hq1 hP2 hP60
       go_upto_region 16 with (first
        | (go_at_call 15
           with_reducible refine (HGT.out w9 _ _ _ _ _ HPGS.out (by have:=HPN.out.1; omega) (HBP.out _ HC9.out)).mono ?_
           rintro e w10 ⟨rfl,hc⟩
           have HS10:=hQ_ hc
           clear hc)
        | (go_at_call 15
           with_reducible refine (HGT.out w10 _ _ _ _ _ (HPR.out.keep HS10.out) (by have:=HPN.out; omega) (HBP.out _ (HC9.out.trans HS10.out))).mono ?_
           rintro e w11 ⟨rfl,hc⟩
           have HS11:=hQ_ (HS10.out.trans hc)
           have y0:=((HROW.out.keep HS11.out).cell 0).trans HY.out
           have hN:=zb_.new w11 33 [.slice B 64 d]
           have hal:=(Chg.refl [] w11).alloc (.cells #[.slice B 64 d] 33)
           have HS12:=hQ_ (HS11.out.trans hal)
           obtain ⟨b1,c1',w13,hr,hp,hc13⟩:=vn_ _ (HPGS.out.keep HS12.out) (by have:=HPN.out; omega) (zbj hN (HB.out.keep HS12.out)) (by have:=HPN.out.1; omega)
           have HRA:=hQ_ hr
           have HPA:=hQ_ hp
           have HS13:=hQ_ (HS12.out.trans hc13)
           clear hc hr hp hc13 hN hal)
        | (at_builtin
           first
             | refine Lib.wpList_append_run (w11.alloc (.cells #[.slice B 64 d] 33)) rfl (.tmp 55) (.tmp 59) 30 30 rfl _ _ rfl rfl _ _ HRA.out ?_
             | refine y5_ (w11.alloc (.cells #[.slice B 64 d] 33)) (by rfl) (.tmp 55) (.tmp 59) 30 30 rfl _ _ rfl rfl _ _ HRA.out ?_)
        | (go_at_call 15
           with_reducible refine (HGT.out w13 _ _ _ _ _ HPA.out (by have:=HPN.out.1; omega) (HBP.out _ (HC9.out.trans HS13.out))).mono ?_
           rintro e w14 ⟨rfl,hc⟩
           have HS14:=hQ_ (HS13.out.trans hc)
           have hN:=zb_.new w14 33 [.slice none 0 0]
           have hal:=(Chg.refl [] w14).alloc (.cells #[.slice none 0 0] 33)
           have HS15:=hQ_ (HS14.out.trans hal)
           obtain ⟨b2,c2',w16,hr,hp,hc16⟩:=vn_ _ (HPGS.out.keep HS15.out) (by have:=HPN.out; omega) (zbj hN (Bs.nil _)) (by have:=HPN.out.1; omega)
           have HRB:=hQ_ hr
           have HPB:=hQ_ hp
           have HS16:=hQ_ (HS15.out.trans hc16)
           clear hc hr hp hc16 hN hal)
        | (at_builtin
           first
             | refine Lib.wpList_append_run (w14.alloc (.cells #[.slice none 0 0] 33)) rfl (.tmp 65) (.tmp 66) 30 30 rfl _ _ rfl rfl _ _ HRB.out ?_
             | refine y5_ (w14.alloc (.cells #[.slice none 0 0] 33)) (by rfl) (.tmp 65) (.tmp 66) 30 30 rfl _ _ rfl rfl _ _ HRB.out ?_)
        | (go_at_call 15
           with_reducible refine (HGT.out w16 _ _ _ _ _ HPB.out (by have:=HPN.out.1; omega) (HBP.out _ (HC9.out.trans HS16.out))).mono ?_
           rintro e w17 ⟨rfl,hc⟩
           have HS17:=hQ_ (HS16.out.trans hc)
           clear hc))
       have HL17:=hQ_ (HPGS.out.keep HS17.out)
       have HRW17:=hQ_ (HROW.out.keep HS17.out)
       have HC17:=hQ_ (HC9.out.trans HS17.out)
       clear hP0I HPGS HROW HC9 HS10 HS11 HS12 HS13 HS14 HS15 HS16 HS17 HRA HRB HPA HPB y0 HPR HB HY hyl hqP hqPn
       go_wp2_with fail
       go_loopw [7] (fun v wr => ∃ i : Nat,v = .int .i64 (i : Int) ∧ i ≤ 128 ∧ Hid (Chg [] w17 wr)) (fun v _ => 128 - (intOf v).toNat)
       case atStart => exact ⟨0,rfl,by omega,hQ_ (Chg.refl [] _)⟩
       case round =>
        obtain ⟨i,rfl,hi,HCi⟩:=hrel
        by_cases hi8 : i < 128
        · have hiI : (i : Int) < 128:=by omega
          by_cases hk4 : k < 4
          · have hkI4 : (k : Int) < 4:=by omega
            have HLr:=hQ_ (HL17.out.keep HCi.out)
            have HRr:=hQ_ (HRW17.out.keep HCi.out)
            obtain ⟨i0,hii,hz0,hz1,hz2⟩:=info_parts HINF.out
            have hN:=zb_.new wr 33 []
            have hal:=(Chg.refl [] wr).alloc (.cells #[] 33)
            obtain ⟨v',w18,hrun,ho8,hc8⟩:=ys_ (P:=Tryz.prog) (wr.alloc (.cells #[] 33)) wr.heap.size 30 30 33 i0 _ 24 Tryz.underlying30 hii hz0 hz1 hz2 rfl wr.heap.size hN (Nat.le_refl _) (by simp) (some ⟨gp,0,none⟩) P P ys HLr.out.len (HLr.out.src.keep hal) (by have:=HPN.out.1; omega) (by have:=HPN.out.1; unfold maxLen; omega)
            obtain ⟨gx,rx,rfl,hgx,hWx,hmx⟩:=xb_ ho8 (by have:=HPN.out.2.1; omega)
            obtain ⟨cx,hcx⟩ : ∃ cx,cx = P + rx.length:=⟨_,rfl⟩
            rw [← hcx] at hrun
            have HCX:=hQ_ hcx
            have HRX:=hQ_ hmx
            have HRN:=hQ_ hrun
            have HGX:=hQ_ hgx
            have HWX:=hQ_ hWx
            have HC78:=hQ_ (hal.trans hc8)
            clear hN hal hrun ho8 hc8 hgx hWx hmx hcx
            go_upto_region 20 with (
             at_builtin
             refine Lib.wpList_append_run (wr.alloc (.cells #[] 33)) rfl (.tmp 79) (.tmp 80) 30 30 rfl _ _ rfl rfl _ _ HRN.out ?_)
            obtain ⟨j,hj⟩ : ∃ j,j = i / 64:=⟨_,rfl⟩
            obtain ⟨u,hu⟩ : ∃ u,u = i % 64:=⟨_,rfl⟩
            have hjI : (i : Int) / 64 = (j : Int):=by omega
            have huI : (i : Int) % 64 = (u : Int):=by omega
            have hu64 : u < 64:=by omega
            have hjP : j < P:=by have:=HPN.out.2.1; omega
            have hjPI : (j : Int) < (P : Int):=by omega
            clear hj hu
            obtain ⟨z,hz⟩ : ∃ z,zs[j]? = some z:=⟨zs[j]'(by rw [HZL.out]; exact hjP),by simp⟩
            have hz64:=H64.out z (List.mem_of_getElem? hz)
            obtain ⟨y,B,m',d,hy,rfl,hB⟩:=(HLr.out.keep HC78.out).at_ hz
            obtain rfl : m' = 64:=by rw [← hB.len,hz64]
            obtain ⟨iu,hiu,hu0,hu1,hu2⟩:=info_parts xc_
            have hN:=zb_.new w18 5 []
            have hal:=(Chg.refl [] w18).alloc (.cells #[] 5)
            have y0:=(((HRr.out.keep HC78.out).keep hal).cell j).trans hy
            obtain ⟨v',w19,hrun,ho9,hc9⟩:=ys_ (P:=Tryz.prog) (w18.alloc (.cells #[] 5)) w18.heap.size 33 33 5 iu _ 1 Tryz.underlying33 hiu hu0 hu1 hu2 rfl w18.heap.size hN (Nat.le_refl _) (by simp) B 64 d (bts z) (by rw [zx_,hz64]) (hB.src.keep hal) (by omega) (by unfold maxLen; omega)
            obtain ⟨gb,rb,rfl,hgb,hWb,hmb⟩:=xb_ ho9 (by omega)
            obtain ⟨cb,hcb⟩ : ∃ cb,cb = 64 + rb.length:=⟨_,rfl⟩
            rw [← hcb] at hrun
            have HCB:=hQ_ hcb
            have HRM:=hQ_ hmb
            have HRN9:=hQ_ hrun
            have HWB:=hQ_ hWb
            have hgxs : gx < w18.heap.size:=HWX.out.lt
            have HGB:=hQ_ (show gb ≠ gx ∧ w18.heap.size ≤ gb from ⟨by omega,hgb⟩)
            have HX9:=hQ_ (HWX.out.keep (hal.trans hc9))
            have HC79:=hQ_ (HC78.out.trans (hal.trans hc9))
            have hyl : ys.length = P:=HLr.out.len
            have c0:=(HX9.out.cell j).trans ((List.getElem?_append_left (by omega)).trans hy)
            have f0:=HX9.out.frozen j
            have hjx : j < cx:=by have:=HCX.out; omega
            clear hN hal hrun ho9 hc9 hgb hWb hmb hcb hz hB hy
            go_upto_region 21 with (
             at_builtin
             refine Lib.wpList_append_run (w18.alloc (.cells #[] 5)) rfl (.tmp 85) (.tmp 90) 33 33 rfl _ _ rfl rfl _ _ HRN9.out ?_)
            clear c0 f0 y0
            have hX10:=HX9.out.set_ j (.slice (some ⟨gb,0,none⟩) 64 cb)
            rw [List.set_append_left _ _ (by rw [hyl]; exact hjP)] at hX10
            have hc10 : Chg [gx] w19 (w19.setCell ⟨gx,j,none⟩ (.slice (some ⟨gb,0,none⟩) 64 cb)):=(Chg.refl [gx] w19).setCell (by simp) _
            have hB10:=HWB.out.chg hc10 (by simpa using HGB.out.1)
            have HC710:=hQ_ (HC79.out.then_ hc10 (fun i hi hlt => by simp only [List.mem_cons,List.not_mem_nil,or_false] at hi; have:=HGX.out; omega))
            generalize w19.setCell ⟨gx,j,none⟩ (.slice (some ⟨gb,0,none⟩) 64 cb) = w10 at hX10 hB10 HC710 ⊢
            have HX10:=hQ_ hX10
            have HB10:=hQ_ hB10
            clear hc10
            have x0 : w10.cell? ⟨gx,j,none⟩ = some (.slice (some ⟨gb,0,none⟩) 64 cb):=(hX10.cell j).trans (by rw [List.getElem?_append_left (by rw [List.length_set,hyl]; exact hjP),List.getElem?_set_self (by rw [hyl]; exact hjP)])
            obtain ⟨zu,hzu⟩ : ∃ zu,(bts z)[u]? = some (B8 zu):=⟨z[u]'(by rw [hz64]; exact hu64),vx_ z u _⟩
            have b0 : w10.cell? ⟨gb,u,none⟩ = some (B8 zu):=by
             rw [hB10.cell,List.getElem?_append_left (by rw [zx_,hz64]; exact hu64),hzu]
            have fB:=hB10.frozen u
            clear hX10 hB10
            obtain ⟨D,hD⟩:=zcy zu 1 (by omega)
            have HD:=hQ_ hD
            clear hD
            have hW11:=HB10.out.set_ u (B8 D)
            rw [List.set_append_left _ _ (by rw [zx_,hz64]; exact hu64),zeN] at hW11
            have hc11 : Chg [gb] w10 (w10.setCell ⟨gb,u,none⟩ (B8 D)):=(Chg.refl [gb] w10).setCell (by simp) _
            unfold B8 at b0 hW11 hc11
            rw [← HD.out] at hW11 hc11
            have HW11:=hQ_ hW11
            have HCB11:=hQ_ hc11
            clear hW11 hc11
            go_upto_region 22 with fail
            have hBs11 : Bs (w10.setCell ⟨gb,u,none⟩ (.int .u8 (bits .xor .u8 (zu.toNat : Int) 1))) (some ⟨gb,0,none⟩) 64 cb (z.set u D):=Bs.of_whole HW11.out (by rw [List.length_set,hz64]) (by rw [List.take_left' (by rw [zx_,List.length_set,hz64])]) (by have:=HCB.out; omega) (by have h1:=HCB.out; have h2:=HRM.out; simp only [maxLen] at h2; omega)
            have hX11:=HX10.out.chg HCB11.out (by simpa using Ne.symm HGB.out.1)
            have HC711:=hQ_ (HC710.out.then_ HCB11.out (fun i hi hlt => by simp only [List.mem_cons,List.not_mem_nil,or_false] at hi; have:=HGB.out.2; have:=HC78.out.size; omega))
            generalize w10.setCell ⟨gb,u,none⟩ (.int .u8 (bits .xor .u8 (zu.toNat : Int) 1)) = w11 at hBs11 hX11 HC711 ⊢
            have HGX11:=hQ_ (HGT.out w11 _ _ _ _ _ (zei (cx:=cx) hX11 (HLr.out.keep HC711.out) hBs11 (by have:=HCX.out; omega) (by have h1:=HCX.out; have h2:=HRX.out; simp only [maxLen] at h2; omega)) (by have:=HPN.out.1; omega) (HBP.out _ (HC17.out.trans (HCi.out.trans HC711.out))))
            clear hBs11 hX11 x0 b0 fB HW11 HCB11 HX10 HB10 HC710 HX9 HRN HRN9 HWX HWB HC78 HC79
            go_wp2_with (
             go_at_call 15
             with_reducible refine HGX11.out.mono ?_
             rintro e w12 ⟨rfl,hc⟩
             have HCF:=hQ_ (HCi.out.trans (HC711.out.trans hc))
             clear hc)
            go_roundw
            case rel => exact ⟨i + 1,by go_num,by omega,HCF⟩
            case measure => simp [intOf]; omega
          · have hkI4 : ¬ (k : Int) < 4:=by omega
            obtain ⟨hk,hkn⟩:=HKK.out
            have HCZ:=hQ_ (HC17.out.trans HCi.out)
            go_wp2_with fail
            go_roundw
            case rel => exact ⟨k + 1,by go_num,by omega,HCZ⟩
            case measure => simp [intOf]; omega
        · have hiI : ¬ (i : Int) < 128:=by omega
          obtain ⟨hk,hkn⟩:=HKK.out
          have HCZ:=hQ_ (HC17.out.trans HCi.out)
          go_wp2_with fail
          go_roundw
          case rel => exact ⟨k + 1,by go_num,by omega,HCZ⟩
          case measure => simp [intOf]; omega
  · have hkI : ¬ (k : Int) < 40:=by omega
    have HBP:=hQ_ (fun (W : World) (h : Chg [] w W) => HP.out.here h)
    go_wp2_with (first
     | (go_at_call 13
        with_reducible refine (HP0.out _ 9 (HBP.out _ HCr.out)).mono ?_
        rintro e w2 ⟨rfl,hc⟩
        have HC2:=hQ_ (HCr.out.trans hc)
        clear hc)
     | (go_at_call 15
        with_reducible refine (HGT.out _ none 0 0 [] [] (zcW _) (by omega) (HBP.out _ HC2.out)).mono ?_
        rintro e w3 ⟨rfl,hc⟩
        have HC3:=hQ_ (HC2.out.trans hc)
        clear hc)
     | (go_at_call 16
        refine (HKN.out _ (HBP.out _ HC3.out)).mono ?_
        rintro e w4 ⟨rfl,hc⟩
        have HC4:=hQ_ (HC3.out.trans hc)
        clear hc))
    refine bodyPost_ret (v:=.bool true) ?rr ?dd ?ee
    case dd => exact rfl
    case rr => simp [results]
    case ee => exact ⟨rfl,HC4.out⟩
end
end Go.Proofs.YtbkfhndmeljlcaaGreatDoor
