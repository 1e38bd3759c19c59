import Derived.Test.YtbkfhndmeljlcaaGreatDoorZA22
set_option maxRecDepth 100000
set_option maxHeartbeats 16000000
namespace Go.Proofs.YtbkfhndmeljlcaaGreatDoor
open Go.RowKit
theorem xn_.one {zs : List (List UInt8)} {r r' : Int} (h : xn_ zs r) (h' : xn_ zs r') : r = r':=by
 have q : ∀ {a b : Int},xn_ zs a → xn_ zs b → a = 12 → b = 25 → False:=fun {a b} ha hb ea eb => by
  rcases hb with ⟨rfl,_⟩ | ⟨_,T,p,pg,ms,fs,hy,hp,_⟩
  · omega
  · rcases ha with ⟨_,hn | ⟨T',p',hy',hp'⟩⟩ | ⟨rfl,_⟩
    · exact hn ⟨T,p,hy⟩
    · obtain ⟨rfl,_⟩:=hy.one hy'
      rw [hp] at hp'
      exact hp' rfl
    · omega
 have e : ∀ {a : Int},xn_ zs a → a = 12 ∨ a = 25:=fun ha => by
  rcases ha with ⟨h,_⟩ | ⟨h,_⟩
  · exact .inl h
  · exact .inr h
 rcases e h with h1 | h1 <;> rcases e h' with h2 | h2
 · rw [h1,h2]
 · exact (q h h' h1 h2).elim
 · exact (q h' h h2 h1).elim
 · rw [h1,h2]
theorem xH_.no {zs : List (List UInt8)} {T : List UInt8} {p : Nat} {pg ms : Int} {fs : List FnV} {r : Int} (h : xH_ zs T p pg ms fs) (h' : xn_ zs r) : False:=by
 obtain ⟨hy,hp,h1,h2,h3⟩:=h
 rcases h' with ⟨_,hn | ⟨T',p',hy',hp'⟩⟩ | ⟨_,T',p',pg',ms',fs',hy',hp',hb⟩
 · exact hn ⟨T,p,hy⟩
 · obtain ⟨rfl,_⟩:=hy.one hy'
   rw [hp] at hp'
   exact hp' rfl
 · obtain ⟨rfl,rfl⟩:=hy.one hy'
   rw [hp] at hp'
   injection hp' with _ e
   injection e with e1 e
   injection e with e2 e3
   omega
theorem xH_.one {zs : List (List UInt8)} {T T' : List UInt8} {p p' : Nat} {pg ms pg' ms' : Int} {fs fs' : List FnV} (h : xH_ zs T p pg ms fs) (h' : xH_ zs T' p' pg' ms' fs') : T' = T ∧ p' = p ∧ pg' = pg ∧ ms' = ms ∧ fs' = fs:=by
 obtain ⟨hy,hp,_⟩:=h
 obtain ⟨hy',hp',_⟩:=h'
 obtain ⟨rfl,rfl⟩:=hy.one hy'
 rw [hp] at hp'
 injection hp' with _ e
 injection e with e1 e
 injection e with e2 e3
 exact ⟨rfl,rfl,e1.symm,e2.symm,e3.symm⟩
def GpF (zs : List (List UInt8)) (w : World) (e : Ending) (w' : World) : Prop :=
 (∃ r,xn_ zs r ∧ e = .returned (.tuple #[.agg #[.int .i64 0,.int .i64 0,.slice none 0 0],.pointer none,.int .i64 0,.int .i64 r]) ∧ Chg [] w w') ∨
 (∃ (T : List UInt8) (p : Nat) (pg ms : Int) (fs : List FnV) (B : Option Addr) (d pm gC gD : Nat),xH_ zs T p pg ms fs ∧ e = .returned (.tuple #[.agg #[.int .i64 pg,.int .i64 ms,.slice B fs.length d],.pointer (some ⟨pm,0,none⟩),.int .i64 ((1 + zs_ T.length : Nat) : Int),.int .i64 0]) ∧
   Fnr w' B fs.length d fs ∧ Mm w' pm gC gD ((zs.drop (1 + zs_ T.length)).take p).flatten [] (yk_ p) [] ms.toNat ∧ Chg [] w w')
def RgF (zs : List (List UInt8)) (w : World) (e : Ending) (w' : World) : Prop :=
 (∃ r,xn_ zs r ∧ e = .returned (.tuple #[.agg #[.int .i64 0,.int .i64 0,.slice none 0 0],.pointer none,.int .i64 0,.int .i64 r]) ∧ Chg [] w w') ∨
 (∃ (T : List UInt8) (p : Nat) (pg ms : Int) (fs : List FnV) (B : Option Addr) (d q : Nat),xH_ zs T p pg ms fs ∧ e = .returned (.tuple #[.agg #[.int .i64 pg,.int .i64 ms,.slice B fs.length d],.pointer (some ⟨q,0,none⟩),.int .i64 ((1 + zs_ T.length : Nat) : Int),.int .i64 0]) ∧
   Fnr w' B fs.length d fs ∧ xl_ w.heap.size w' q ((zs.drop (1 + zs_ T.length)).take p).flatten p ms.toNat ∧ Chg [] w w')
section
variable {w : World} {A : Option Addr} {n c : Nat} {ys : List Value} {zs : List (List UInt8)}
theorem zeH (h : Pgs w A n c ys zs) (hn : n ≤ 100000) (hP : xq_ w.heap.size w) : Calls Tryz.prog 21 #[.slice A n c] w (GpF zs w) :=
 (zbB h hn hP).mono fun e w' hq => by
   rcases hq with hq | ⟨T,p,pg,ms,fs,v,pm,gC,gD,hy,rfl,ho,hl,hok,hM,_,_,_,hc⟩
   · exact .inl hq
   · obtain ⟨B,d,rfl,hF⟩:=Fnr.of_own (l:=fs) ho hl (fun f hf => by have:=hok f hf; unfold okF at this; omega)
     exact .inr ⟨T,p,pg,ms,fs,B,d,pm,gC,gD,hy,rfl,hF,hM,hc⟩
theorem zfC (h : Pgs w A n c ys zs) (hn : n ≤ 1000) : Calls Tryz.prog 42 #[.slice A n c] w (RgF zs w) :=
 (zdr h hn).mono fun e w' hq => by
   rcases hq with hq | ⟨T,p,pg,ms,fs,v,q,hy,rfl,ho,hl,hok,hM,hc⟩
   · exact .inl hq
   · obtain ⟨B,d,rfl,hF⟩:=Fnr.of_own (l:=fs) ho hl (fun f hf => by have:=hok f hf; unfold okF at this; omega)
     exact .inr ⟨T,p,pg,ms,fs,B,d,q,hy,rfl,hF,hM,hc⟩
theorem zcs (W : World) : Fnr W none 0 0 []:=⟨rfl,fun h => absurd h (by simp [yx_]),Nat.le_refl _,by omega,fun h => absurd h (by omega),fun f hf => by simp at hf⟩
theorem zdG (h : Pgs w A n c ys zs) (hn : n ≤ 1000) (hP : xq_ w.heap.size w) : Calls Tryz.prog 15 #[.slice A n c] w (zz_ true w):=by
 have HGP:=hQ_ (zeH h (by omega) hP)
 have HRG:=hQ_ (fun (W : World) (hc : Chg [] w W) => zfC (h.keep hc) hn)
 unfold GpF at HGP
 unfold RgF at HRG
 unfold zz_
 clear h hP
 go_enter Tryz.func15,Tryz.ntmps15
 go_upto_region 2 with (
  go_at_call 21
  refine HGP.out.mono ?_
  intro e w1 hq
  rcases hq with ⟨r,hr,rfl,hc1⟩ | ⟨T,p,pg,ms,fs,B1,d1,pm,gC,gD,hy,rfl,hF1,hM1,hc1⟩)
 · have HR:=hQ_ hr
   have HN:=hQ_ (zb_.new w1 24 [.int .i64 0,.int .i64 0,.slice none 0 0])
   have hal:=(Chg.refl [] w1).alloc (.cells #[.int .i64 0,.int .i64 0,.slice none 0 0] 24)
   have HC2:=hQ_ (hc1.trans hal)
   clear hr hc1 hal HGP
   generalize w1.heap.size = gu at HN ⊢
   generalize w1.alloc (.cells #[.int .i64 0,.int .i64 0,.slice none 0 0] 24) = w2 at HN HC2 ⊢
   go_upto_region 3 with (
    go_at_call 42
    refine (HRG.out _ HC2.out).mono ?_
    intro e w3 hq
    rcases hq with ⟨r',hr',rfl,hc3⟩ | ⟨T',p',pg',ms',fs',B3,d3,qm,hy',rfl,hF3,hM3,hc3⟩)
   · obtain rfl:=HR.out.one hr'
     have HN3:=hQ_ (HN.out.keep hc3)
     have HM:=hQ_ (zb_.new w3 24 [.int .i64 0,.int .i64 0,.slice none 0 0])
     have hal:=(Chg.refl [] w3).alloc (.cells #[.int .i64 0,.int .i64 0,.slice none 0 0] 24)
     have HN4:=hQ_ (HN3.out.keep hal)
     have HC4:=hQ_ ((HC2.out.trans hc3).trans hal)
     clear hr' hc3 hal HRG HN HN3 HC2
     generalize w3.heap.size = gv at HM ⊢
     generalize w3.alloc (.cells #[.int .i64 0,.int .i64 0,.slice none 0 0] 24) = w4 at HM HN4 HC4 ⊢
     have u0:=HN4.out.cell 0
     have u1:=HN4.out.cell 1
     have u2:=HN4.out.cell 2
     have v0:=HM.out.cell 0
     have v1:=HM.out.cell 1
     have v2:=HM.out.cell 2
     have HS:=hQ_ (jI_ (p:=0) (m:=0) (p2:=0) (m2:=0) (zcs w4) (zcs w4))
     unfold qp_ zX_ at HS
     go_upto_region 5 with (
      go_at_call 22
      refine HS.out.mono ?_
      rintro e w5 ⟨b5,rfl,hb5,hc5⟩
      obtain rfl : b5 = true:=by simpa using hb5
      have HC5:=hQ_ (HC4.out.trans hc5)
      clear hc5 hb5)
     clear u0 u1 u2 v0 v1 v2
     have HHW:=hQ_ (fun (W : World) (h : Chg [] w5.drew W) => (show Chg [] w W from HC5.out.trans ((Chg.refl [] w5).drew.trans h)))
     refine wp_flow (by kernel_rfl) yt_ za_ (by kernel_rfl) ?_
     refine flow_move_out za_ rfl rfl rfl ?_
     refine vQ_ za_ (.inn rfl) (.const _) (fun ev W he e1 e2 => by go_simp) rfl ?_
     refine zL_ za_ rfl (zd_ _) (.inr (zd_ _)) rfl ?_
     refine zi_ rfl ?_
     refine zi_ rfl ?_
     refine zi_ rfl ?_
     refine zi_ rfl ?_
     refine zi_ rfl ?_
     refine zi_ rfl ?_
     refine zi_ rfl ?_
     refine zi_ rfl ?_
     refine zi_ rfl ?_
     refine zi_ rfl ?_
     refine yj_ rfl ?_
     refine yj_ rfl ?_
     refine yj_ rfl ?_
     refine yj_ rfl ?_
     refine yj_ rfl ?_
     refine yj_ rfl ?_
     refine yj_ rfl ?_
     refine zi_ rfl ?_
     refine yA_ za_ rfl rfl rfl ?_
     refine flow_assign za_ rfl (zd_ _) (.inr (zd_ _)) rfl ?_
     intro vs W hW hF
     have e2 : vs 2 = .bool true:=hF 2 _ rfl rfl
     have HCW:=hQ_ (HHW.out W hW)
     simp only [z2_,Act.put,List.setIfInBounds_toArray,List.set_cons_zero,List.set_cons_succ]
     rw [e2]
     clear hF hW e2
     obtain ⟨wz,hwz⟩ : ∃ wz : World,wz = W:=⟨_,rfl⟩
     rw [← hwz] at HCW ⊢
     clear hwz
     go_wp2_with fail
     go_ret
     exact ⟨rfl,HCW.out⟩
   · exact (hy'.no HR.out).elim
 · have HY:=hQ_ hy
   have HC1:=hQ_ hc1
   have HF1:=hQ_ hF1
   have HM1:=hQ_ hM1
   clear hy hc1 hF1 hM1 HGP
   obtain ⟨fq,hfq⟩ : ∃ fq,fq = fs.length:=⟨_,rfl⟩
   rw [← hfq] at HF1 ⊢
   obtain ⟨L,hL⟩ : ∃ L,L = ((zs.drop (1 + zs_ T.length)).take p).flatten:=⟨_,rfl⟩
   rw [← hL] at HM1
   have HN:=hQ_ (zb_.new w1 24 [.int .i64 pg,.int .i64 ms,.slice B1 fq d1])
   have hal:=(Chg.refl [] w1).alloc (.cells #[.int .i64 pg,.int .i64 ms,.slice B1 fq d1] 24)
   have HC2:=hQ_ (HC1.out.trans hal)
   have HF2:=hQ_ (HF1.out.keep hal)
   have HM2:=hQ_ (HM1.out.keep hal)
   clear hal HF1 HM1 HC1
   generalize w1.heap.size = gu at HN ⊢
   generalize w1.alloc (.cells #[.int .i64 pg,.int .i64 ms,.slice B1 fq d1] 24) = w2 at HN HC2 HF2 HM2 ⊢
   go_upto_region 3 with (
    go_at_call 42
    refine (HRG.out _ HC2.out).mono ?_
    intro e w3 hq
    rcases hq with ⟨r',hr',rfl,hc3⟩ | ⟨T',p',pg',ms',fs',B3,d3,qm,hy',rfl,hF3,hR3,hc3⟩)
   · exact (HY.out.no hr').elim
   · obtain ⟨rfl,rfl,rfl,rfl,rfl⟩:=HY.out.one hy'
     rw [← hL] at hR3
     rw [← hfq] at hF3 ⊢
     have HN3:=hQ_ (HN.out.keep hc3)
     have HM:=hQ_ (zb_.new w3 24 [.int .i64 pg',.int .i64 ms',.slice B3 fq d3])
     have hal:=(Chg.refl [] w3).alloc (.cells #[.int .i64 pg',.int .i64 ms',.slice B3 fq d3] 24)
     have HN4:=hQ_ (HN3.out.keep hal)
     have HF4:=hQ_ ((HF2.out.keep hc3).keep hal)
     have HG4:=hQ_ (hF3.keep hal)
     have HM4:=hQ_ ((HM2.out.keep hc3).keep hal)
     have HR4:=hQ_ (hR3.keep hal)
     have HC4:=hQ_ ((HC2.out.trans hc3).trans hal)
     clear hy' hc3 hF3 hR3 hal HRG HN HN3 HC2 HF2 HM2 hL hfq
     generalize w3.heap.size = gv at HM ⊢
     generalize w3.alloc (.cells #[.int .i64 pg',.int .i64 ms',.slice B3 fq d3] 24) = w4 at HM HN4 HC4 HF4 HG4 HM4 HR4 ⊢
     have u0:=HN4.out.cell 0
     have u1:=HN4.out.cell 1
     have u2:=HN4.out.cell 2
     have v0:=HM.out.cell 0
     have v1:=HM.out.cell 1
     have v2:=HM.out.cell 2
     have HS:=hQ_ (jI_ (p:=pg') (m:=ms') (p2:=pg') (m2:=ms') HF4.out HG4.out)
     unfold qp_ zX_ at HS
     go_upto_region 5 with (
      go_at_call 22
      refine HS.out.mono ?_
      rintro e w5 ⟨b5,rfl,hb5,hc5⟩
      obtain rfl : b5 = true:=by simpa using hb5
      have HC5:=hQ_ (HC4.out.trans hc5)
      have HM5:=hQ_ (HM4.out.keep hc5)
      have HR5:=hQ_ (HR4.out.keep hc5)
      clear hc5 hb5)
     clear u0 u1 u2 v0 v1 v2
     obtain ⟨v9,gx,hW9,ho9,_⟩:=HR5.out
     obtain ⟨A9,c9,rfl,hb9,_⟩:=Bs.of_own ho9
     have HW9:=hQ_ hW9
     have HB9:=hQ_ hb9
     clear hW9 ho9 hb9
     have HKW:=hQ_ (fun (W : World) (h : Chg [] w5.drew W) => (show Chg [] w5 W from (Chg.refl [] w5).drew.trans h))
     have HHW:=hQ_ (fun (W : World) (h : Chg [] w5.drew W) => (show Chg [] w W from HC5.out.trans (HKW.out W h)))
     obtain ⟨mz,hmz⟩ : ∃ mz,mz = ms'.toNat:=⟨_,rfl⟩
     rw [← hmz] at HM5 HW9
     refine wp_flow (by kernel_rfl) yt_ za_ (by kernel_rfl) ?_
     refine flow_move_out za_ rfl rfl rfl ?_
     refine flow2 (r:=.bool false) za_ rfl (.inn rfl) (.const _) rfl (fun ev W he e1 e2 => by go_simp) ?_
     refine zL_ za_ rfl (zd_ _) (.inr (zd_ _)) rfl ?_
     refine flow_move_out za_ rfl rfl rfl ?_
     refine flow_calld (bsF L) (vg_ _) (.inr (vg_ _)) (by kernel_rfl) rfl (.cons (.inn rfl) .nil) (fun W hW => (zai (HM5.out.keep (HKW.out W hW))).mono ?_) ?_
     · rintro e w' ⟨v8,rfl,ho8,hc8⟩
       rw [zE_]
       obtain ⟨A8,c8,rfl,hb8,_⟩:=Bs.of_own ho8
       exact ⟨_,rfl,hc8,A8,c8,rfl,hb8⟩
     refine kg_ za_ rfl rfl ?_
     refine flow_move_out za_ rfl rfl rfl ?_
     refine flow1 (r:=.pointer (some ⟨qm,0,none⟩)) za_ rfl (.inn rfl) rfl (fun ev W he e1 => by go_simp) ?_
     refine flow1 (r:=.pointer (some ⟨qm,0,none⟩)) za_ rfl (.inn rfl) rfl (fun ev W he e1 => by go_simp) ?_
     refine flow1h (r:=.slice A9 L.length c9) za_ rfl (.inn rfl) rfl (fun ev W he hW e1 => by
      have hk:=HW9.out.keep (HKW.out W hW)
      have q0:=hk.cell 0
      clear hW hk
      go_simp) ?_
     refine flow1h (r:=.string (zc_ L)) za_ rfl (.inn rfl) rfl (fun ev W he hW e1 => by
      have q:=(HB9.out.keep (HKW.out W hW)).str (P:=Tryz.prog) 33 5 9 Tryz.underlying33 Tryz.underlying5 Tryz.underlying9
      generalize zc_ L = S at q ⊢
      clear hW
      go_simp) ?_
     refine vQ_ za_ (.inn rfl) (.inn rfl) (fun ev W he e1 e2 => by
      generalize zc_ L = S at e1 e2
      go_simp) rfl ?_
     refine zL_ za_ rfl (zd_ _) (.inr (zd_ _)) rfl ?_
     refine flow_move_out za_ rfl rfl rfl ?_
     refine zF_ (.int .i64 (mz : Int)) (by kernel_rfl) rfl (.cons (.inn rfl) .nil) (fun W hW => (zbQ (HM5.out.keep (HKW.out W hW))).mono ?_) ?_
     · rintro e w' ⟨rfl,rfl⟩
       rw [zE_]
       exact ⟨rfl,Chg.refl _ _⟩
     refine flow_move_out za_ rfl rfl rfl ?_
     refine flow1 (r:=.pointer (some ⟨qm,0,none⟩)) za_ rfl (.inn rfl) rfl (fun ev W he e1 => by go_simp) ?_
     refine flow1 (r:=.pointer (some ⟨qm,1,none⟩)) za_ rfl (.inn rfl) rfl (fun ev W he e1 => by go_simp) ?_
     refine flow1h (r:=.int .i64 (mz : Int)) za_ rfl (.inn rfl) rfl (fun ev W he hW e1 => by
      have hk:=HW9.out.keep (HKW.out W hW)
      have q1:=hk.cell 1
      clear hW hk
      go_simp) ?_
     refine vQ_ za_ (.inn rfl) (.inn rfl) (fun ev W he e1 e2 => by go_simp) rfl ?_
     refine jm_ za_ rfl rfl rfl ?_
     refine zQ_ za_ rfl rfl rfl ?_
     refine flow_assign za_ rfl (zd_ _) (.inr (zd_ _)) rfl ?_
     intro vs W hW hF
     have e2 : vs 2 = .bool true:=hF 2 _ rfl rfl
     have HCW:=hQ_ (HHW.out W hW)
     simp only [z2_,Act.put,List.setIfInBounds_toArray,List.set_cons_zero,List.set_cons_succ]
     rw [e2]
     clear hF hW e2
     obtain ⟨wz,hwz⟩ : ∃ wz : World,wz = W:=⟨_,rfl⟩
     rw [← hwz] at HCW ⊢
     clear hwz
     go_wp2_with fail
     go_ret
     exact ⟨rfl,HCW.out⟩
end
def zcS (P : Nat) (zs : List (List UInt8)) (w : World) (e : Ending) (w' : World) : Prop :=
 ∃ gp ys,e = .returned (.slice (some ⟨gp,0,none⟩) P P) ∧ w.heap.size ≤ gp ∧ zb_ w' gp 33 ys ∧ Pgs w' (some ⟨gp,0,none⟩) P P ys zs ∧ Chg [] w w'
section
variable {w : World} {A : Option Addr} {n c p m P : Nat} {T : List UInt8}
theorem zdE (hR : zaI w (p : Int) (m : Int) A n c T 0) (hTl : T.length ≤ 2048) (hpm : p ≤ m) (hm : m ≤ 64) (hnP : 1 + zs_ T.length + m ≤ P) (hP : P ≤ 64) : Calls Tryz.prog 14 #[.agg #[.int .i64 (p : Int),.int .i64 (m : Int),.slice A n c],.int .i64 (P : Int)] w (zcS P (jA_ T p P (1 + zs_ T.length + p)) w):=by
 have HPU:=hQ_ (fun (W : World) (hc : Chg [] w W) => kN_ (hR.keep hc) hTl (fun _ => by omega) (P : Int))
 rw [zeD (T:=T) (p:=p) (m:=m) (pages:=(P : Int)) (by omega) (by omega)] at HPU
 unfold xm_ at HPU
 simp only at HPU
 clear hR
 obtain ⟨h,hh⟩ : ∃ h,h = zs_ T.length:=⟨_,rfl⟩
 have HHE:=hQ_ hh
 rw [← hh] at hnP ⊢
 clear hh
 obtain ⟨q,hq⟩ : ∃ q,q = 1 + h + p:=⟨_,rfl⟩
 have HQ:=hQ_ hq
 rw [← hq] at ⊢
 have hqP : q ≤ P:=by omega
 clear hq
 go_enter Tryz.func14,Tryz.ntmps14
 go_upto_region 1 with fail
 have HU1:=hQ_ (zb_.new w 24 [.int .i64 (p : Int),.int .i64 (m : Int),.slice A n c])
 have HC1:=hQ_ ((Chg.refl [] w).alloc (.cells #[.int .i64 (p : Int),.int .i64 (m : Int),.slice A n c] 24))
 obtain ⟨gu,hgu⟩ : ∃ gu,gu = w.heap.size:=⟨_,rfl⟩
 rw [← hgu] at HU1 ⊢
 clear hgu
 generalize w.alloc (.cells #[.int .i64 (p : Int),.int .i64 (m : Int),.slice A n c] 24) = w1 at HU1 HC1 ⊢
 obtain ⟨ys0,hys0,hmk⟩:=zbW P (by omega) w1
 have hN:=zb_.new w1 33 ys0
 have hal:=(Chg.refl [] w1).alloc (.cells ys0.toArray 33)
 obtain ⟨gp,hgp⟩ : ∃ gp,gp = w1.heap.size:=⟨_,rfl⟩
 have HGP:=hQ_ hgp
 rw [← hgp] at hN hmk
 clear hgp
 obtain ⟨w5,hw5⟩ : ∃ w5,w5 = w1.alloc (.cells ys0.toArray 33):=⟨_,rfl⟩
 rw [← hw5] at hN hal hmk
 have HRW:=hQ_ hN
 have HK5:=hQ_ hal
 have HYL:=hQ_ hys0
 clear hN hal hw5 hys0
 go_wp2_with fail
 clear hmk
 go_loopw [15] (fun i wr => ∃ (k : Nat) (ys : List Value),i = .int .i64 (k : Int) ∧ k ≤ P ∧ Hid (ys.length = P) ∧ Hid (zb_ wr gp 33 ys) ∧ Hid (∀ j : Nat,j < k → ∃ y : Value,ys[j]? = some y ∧ zcQ wr gp y (zt_ 64)) ∧ Hid (Chg [] w1 wr)) (fun i _ => P - (intOf i).toNat)
 case atStart => exact ⟨0,ys0,rfl,by omega,HYL,HRW,hQ_ (by omega),HK5⟩
 case round =>
  clear HYL HRW HK5
  obtain ⟨k,ys,rfl,hk,HYL,HRW,HPA,HKr⟩:=hrel
  have HGW:=hQ_ (show w1.heap.size ≤ gp ∧ gp < wr.heap.size from ⟨by rw [← HGP.out]; exact Nat.le_refl _,HRW.out.lt⟩)
  by_cases hkP : k < P
  · have hkI : (k : Int) < (P : Int):=by omega
    obtain ⟨y,hy⟩ : ∃ y,ys[k]? = some y:=⟨ys[k]'(by rw [HYL.out]; exact hkP),by simp⟩
    have hN:=zb_.new wr 5 (bts (zt_ 64))
    have hal:=(Chg.refl [] wr).alloc (.cells (bts (zt_ 64)).toArray 5)
    have hmk:=u9_ wr
    obtain ⟨g5,hg5⟩ : ∃ g5,g5 = wr.heap.size:=⟨_,rfl⟩
    have HG5:=hQ_ hg5
    rw [← hg5] at hN hmk
    clear hg5
    obtain ⟨w6,hw6⟩ : ∃ w6,w6 = wr.alloc (.cells (bts (zt_ 64)).toArray 5):=⟨_,rfl⟩
    rw [← hw6] at hN hal hmk
    clear hw6
    have HR6:=hQ_ (HRW.out.keep hal)
    have c0:=(HR6.out.cell k).trans hy
    have f0:=HR6.out.frozen k
    have HB6:=hQ_ (show zcQ w6 gp (.slice (some ⟨g5,0,none⟩) 64 64) (zt_ 64) from ⟨_,64,rfl,by
     have:=Bs.of_all hN (by rw [zI_]; omega)
     rwa [zI_] at this,fun ad e => by injection e with e; subst e; have h1:=HGW.out.2; have h2:=HG5.out; simp only; omega⟩)
    have HK6:=hQ_ (HKr.out.trans hal)
    have HAL6:=hQ_ hal
    clear hN hal hy
    go_wp2_with fail
    clear hmk
    have HR7:=hQ_ (HR6.out.set_ k (.slice (some ⟨g5,0,none⟩) 64 64))
    have HK7:=hQ_ (HK6.out.setCell (p:=⟨gp,k,none⟩) (fun hh => absurd hh (by have:=HGW.out.1; simp only; omega)) (.slice (some ⟨g5,0,none⟩) 64 64))
    go_roundw
    case rel =>
     refine ⟨k + 1,ys.set k (.slice (some ⟨g5,0,none⟩) 64 64),by go_num,by omega,hQ_ (by rw [List.length_set]; exact HYL.out),HR7,hQ_ (fun j hj => ?_),HK7⟩
     rcases Nat.lt_or_ge j k with h1 | h1
     · obtain ⟨y,hy,hp⟩:=HPA.out j h1
       exact ⟨y,by rw [List.getElem?_set,if_neg (by omega)]; exact hy,(hp.keep HAL6.out).cell_⟩
     · obtain rfl : j = k:=by omega
       exact ⟨_,by rw [List.getElem?_set,if_pos rfl,if_pos (by rw [HYL.out]; exact hkP)],HB6.out.cell_⟩
    case measure => simp [intOf]; omega
  · have hkI : ¬ (k : Int) < (P : Int):=by omega
    obtain rfl : P = k:=by omega
    clear hkP hk
    have HUr:=hQ_ (HU1.out.keep HKr.out)
    have u0:=HUr.out.cell 0
    have u1:=HUr.out.cell 1
    have u2:=HUr.out.cell 2
    have HCr:=hQ_ (HC1.out.trans HKr.out)
    go_upto_region 8 with (
     go_at_call 40
     refine (HPU.out _ HCr.out).mono ?_
     rintro e w4 ⟨v4,ls,rfl,ho4,hr4,hs4,hc4⟩
     have HK4:=hQ_ hc4
     have HC4:=hQ_ (HCr.out.trans hc4)
     have HO4:=hQ_ ho4
     have HS4:=hQ_ hs4
     have HR4:=hQ_ hr4
     clear ho4 hs4 hc4 hr4)
    clear u0 u1 u2
    have HRW4:=hQ_ (HRW.out.keep HK4.out)
    have HPA4:=hQ_ (fun (j : Nat) (hj : j < P) => (HPA.out j hj).elim fun y hy => (⟨y,hy.1,hy.2.keep HK4.out⟩ : ∃ y : Value,ys[j]? = some y ∧ zcQ w4 gp y (zt_ 64)))
    obtain ⟨LA,lc,rfl,hll,hch,_,hlcap,_⟩:=uL_ HO4.out (fun a ha => (HR4.out a ha).ok)
    have hlen : ls.length = q:=by rw [HS4.out.len,xN_,← HHE.out,← HQ.out]
    have HLN:=hQ_ hlen
    rw [hlen] at hlcap HO4 ⊢
    clear hch hll hlen
    have HCA:=hQ_ (fun (i : Nat) (hi : i < q) => zbE T p i (by rw [← HHE.out,← HQ.out]; exact hi))
    have HPGE:=hQ_ (show ∀ (k : Nat) (a : ChV),ls[k]? = some a → a.page = (k : Int) ∧ a.bn = 64 ∧ ∃ b,(v3_ T p)[k]? = some (k,b) ∧ a.B = b from fun k a ha => by
     have hk : k < q:=by rw [← HLN.out]; exact (List.getElem?_eq_some_iff.1 ha).1
     obtain ⟨b,hb,_⟩:=HCA.out k hk
     exact ⟨(HS4.out.at ha hb).1,(HR4.out a (List.mem_of_getElem? ha)).bn,b,hb,(HS4.out.at ha hb).2⟩)
    have hgpr : gp < wr.heap.size:=HGW.out.2
    obtain ⟨b4,hb4⟩ : ∃ b4,b4 = wr.heap.size:=⟨_,rfl⟩
    rw [← hb4] at HO4 HR4 hgpr
    have HGB4:=hQ_ (show w.heap.size ≤ gp from Nat.le_trans HC1.out.size HGW.out.1)
    clear hb4 HRW HPA HKr HCr HUr HU1 HC1 HGW HK4
    have HK0:=hQ_ (Chg.refl [gp] w4)
    go_wp2_with fail
    go_loopw [31] (fun i wr => ∃ (k : Nat) (ys : List Value),i = .int .i64 (k : Int) ∧ k ≤ q ∧ Hid (ys.length = P) ∧ Hid (zb_ wr gp 33 ys) ∧ Hid (∀ (j : Nat) (z : List UInt8),(jA_ T p P k)[j]? = some z → ∃ y : Value,ys[j]? = some y ∧ zcQ wr gp y z) ∧ Hid (Chg [gp] w4 wr) ∧ Hid (Chg [] w wr)) (fun i _ => q - (intOf i).toNat)
    case atStart => exact ⟨0,ys,rfl,by omega,HYL,HRW4,hQ_ (fun j z hz => by
     have h0 : jA_ T p P 0 = List.replicate P (zt_ 64):=by unfold jA_; simp
     rw [h0,List.getElem?_replicate] at hz
     split at hz
     · injection hz with hz
       subst hz
       exact HPA4.out j (by assumption)
     · cases hz),HK0,HC4⟩
    case round =>
     clear HYL HRW4 HPA4 HK0 HC4 hkI
     obtain ⟨k,ys,rfl,hk,HYL,HRW,HPA,HKr,HWr⟩:=hrel
     by_cases hkq : k < q
     · have hkI : (k : Int) < (q : Int):=by omega
       have hkPI : (k : Int) < (P : Int):=by omega
       have hkP : k < P:=by omega
       obtain ⟨a,ha⟩ : ∃ a,ls[k]? = some a:=⟨ls[k]'(by rw [HLN.out]; exact hkq),by simp⟩
       have HRMS:=hQ_ (fun (a : ChV) (ha : a ∈ ls) => (HR4.out a ha).chg HKr.out (fun i hi => by rw [List.mem_singleton] at hi; subst hi; exact .inl hgpr))
       obtain ⟨LB,ld,eL,_,hch,_,_,_⟩:=uL_ (z3_ HO4.out HKr.out (fun i hi => by rw [List.mem_singleton] at hi; subst hi; exact .inl hgpr)) (fun a ha => (HRMS.out a ha).ok)
       injection eL with eL1 _ eL2
       subst eL1; subst eL2
       obtain ⟨gc,co,rfl,_,hcc⟩:=hch.cells (by rw [HLN.out]; omega)
       obtain ⟨y0,y1⟩:=hcc k a ha
       obtain ⟨e0,e1,b,hb,e2⟩:=HPGE.out k a ha
       have HRM:=hQ_ (HRMS.out a (List.mem_of_getElem? ha))
       obtain ⟨gB,rB,hbA,hgB,_,hbc,_⟩:=HRM.out.b
       have HOK:=hQ_ HRM.out.ok.bs
       rw [hbA,e1,e2] at HOK
       have HGB:=hQ_ (show gB ≠ gp from by omega)
       rw [e0] at y0
       rw [hbA,e1] at y1
       generalize a.bc = bc at HOK y1
       have hkc : k < lc:=by omega
       obtain ⟨yk,hyk⟩ : ∃ y,ys[k]? = some y:=⟨ys[k]'(by rw [HYL.out]; exact hkP),by simp⟩
       clear hcc ha e0 e1 e2 hbA hbc HRM HRMS hch hgB
       have HBE:=hQ_ hb
       clear hb
       go_upto_region 11 with fail
       have hN:=zb_.new wr 44 [.int .i64 (k : Int),.slice (some ⟨gB,0,none⟩) 64 bc]
       have hal:=(Chg.refl [] wr).alloc (.cells #[.int .i64 (k : Int),.slice (some ⟨gB,0,none⟩) 64 bc] 44)
       have HX6:=hQ_ hN
       have HR6:=hQ_ (HRW.out.keep hal)
       have HO6:=hQ_ (HOK.out.keep hal)
       have HK6:=hQ_ (HKr.out.new hal)
       have HW6:=hQ_ (HWr.out.trans hal)
       have HAL6:=hQ_ hal
       clear hN hal y0 y1
       generalize wr.heap.size = gx at HX6 ⊢
       generalize wr.alloc (.cells #[.int .i64 (k : Int),.slice (some ⟨gB,0,none⟩) 64 bc] 44) = w6 at HX6 HR6 HO6 HK6 HW6 HAL6 ⊢
       have x0:=HX6.out.cell 0
       have x1:=HX6.out.cell 1
       have c0:=(HR6.out.cell k).trans hyk
       have f0:=HR6.out.frozen k
       go_wp2_with fail
       have HR7:=hQ_ (HR6.out.set_ k (.slice (some ⟨gB,0,none⟩) 64 bc))
       have HK7:=hQ_ (HK6.out.setCell (p:=⟨gp,k,none⟩) (fun _ => by simp) (.slice (some ⟨gB,0,none⟩) 64 bc))
       have HW7:=hQ_ (HW6.out.setCell (p:=⟨gp,k,none⟩) (fun hh => absurd hh (by have:=HGB4.out; simp only; omega)) (.slice (some ⟨gB,0,none⟩) 64 bc))
       go_roundw
       case rel =>
        refine ⟨k + 1,ys.set k (.slice (some ⟨gB,0,none⟩) 64 bc),by go_num,by omega,hQ_ (by rw [List.length_set]; exact HYL.out),HR7,hQ_ (fun j z hz => ?_),HK7,HW7⟩
        rcases zcX T p P k (by rw [← HHE.out,← HQ.out]; exact hkq) hkP HBE.out j hz with ⟨rfl,rfl⟩ | ⟨hne,hz2⟩
        · exact ⟨_,by rw [List.getElem?_set,if_pos rfl,if_pos (by rw [HYL.out]; exact hkP)],zcQ.cell_ ⟨_,_,rfl,HO6.out,fun ad e => by injection e with e; subst e; exact HGB.out⟩⟩
        · obtain ⟨y,hy,hp⟩:=HPA.out j z hz2
          exact ⟨y,by rw [List.getElem?_set,if_neg (by omega)]; exact hy,(hp.keep HAL6.out).cell_⟩
       case measure => simp [intOf]; omega
     · have hkI : ¬ (k : Int) < (q : Int):=by omega
       obtain rfl : q = k:=by omega
       clear hkq hk
       have HZL:=hQ_ (uw_ T p P q (by rw [HQ.out,HHE.out]; exact Nat.le_refl _) hqP)
       have HPGS:=hQ_ (show Pgs wr (some ⟨gp,0,none⟩) P P ys (jA_ T p P q) from ⟨HYL.out,fun _ => ⟨_,rfl,HRW.out.lt,fun j v hj => by rw [zj_,Nat.zero_add,HRW.out.cell j]; exact hj⟩,⟨by rw [HYL.out,HZL.out],fun i v X hv hX => by
        obtain ⟨y,hy,B,d,e,hb,_⟩:=HPA.out i X hX
        rw [hv] at hy
        injection hy with hy
        exact ⟨B,64,d,hy.trans e,hb⟩⟩,Nat.le_refl _,by omega,fun _ ad e => by injection e with e; subst e; rfl⟩)
       have HFIN:=hQ_ (show zcS P (jA_ T p P q) w (.returned (.slice (some ⟨gp,0,none⟩) P P)) wr from ⟨gp,ys,rfl,HGB4.out,HRW.out,HPGS.out,HWr.out⟩)
       clear HPGS HZL HRW HPA HYL HWr HKr HCA HPGE HR4 HS4 HO4 HLN HPU
       go_wp2_with fail
       go_ret
       exact HFIN.out
end
theorem yO_ (pg ms : Int) (l : List FnV) : (zS_ pg ms l).1.length ≤ 2048 ∧ ((zS_ pg ms l).2 = 0 → 0 ≤ pg ∧ pg ≤ ms ∧ ms ≤ 64):=by
 by_cases hr : zJ_ pg ms l = 0
 · have hu : zS_ pg ms l = if 2048 < (utx pg ms l).length then ([],3) else (utx pg ms l,0):=by unfold zS_; rw [if_pos hr]
   have hR:=vI_.1 hr
   refine ⟨?_,fun _ => ⟨hR.p0,hR.pm,hR.m64⟩⟩
   rw [hu]
   split
   · simp
   · simp only; omega
 · have hu : zS_ pg ms l = ([],zJ_ pg ms l):=by unfold zS_; rw [if_neg hr]
   rw [hu]
   exact ⟨by simp,fun h => absurd h hr⟩
section
variable {w : World} {pg ms : Int} {A : Option Addr} {n c : Nat} {l : List FnV}
theorem zef (h : UOk w pg ms A n c (zJ_ pg ms l) (zS_ pg ms l).1 (zS_ pg ms l).2) (pages : Int) (hP : xq_ w.heap.size w) : Calls Tryz.prog 13 #[.agg #[.int .i64 pg,.int .i64 ms,.slice A n c],.int .i64 pages] w (zz_ true w) :=
 zdu h.ut h.rt (yO_ pg ms l).1 (yO_ pg ms l).2 pages hP
theorem zez (h : UOk w pg ms A n c (zJ_ pg ms l) (zS_ pg ms l).1 (zS_ pg ms l).2) : Calls Tryz.prog 12 #[.agg #[.int .i64 pg,.int .i64 ms,.slice A n c]] w fun e w' => e = .returned (.int .i64 (yn_ (zS_ pg ms l).1 (zS_ pg ms l).2 ms)) ∧ Chg [] w w' :=
 vH_ h.rt (yO_ pg ms l).1 (fun h => by have:=(yO_ pg ms l).2 h; omega)
end
theorem zbY {W : World} {ys ys' : List Value} {zs zs' : List (List UInt8)} (h : kr_ W ys zs) (h' : kr_ W ys' zs') : kr_ W (ys ++ ys') (zs ++ zs'):=by
 refine ⟨by rw [List.length_append,List.length_append,h.1,h'.1],fun i v X hv hX => ?_⟩
 rcases Nat.lt_or_ge i ys.length with hi | hi
 · rw [List.getElem?_append_left hi] at hv
   rw [List.getElem?_append_left (by rw [← h.1]; exact hi)] at hX
   exact h.2 i v X hv hX
 · rw [List.getElem?_append_right hi] at hv
   rw [List.getElem?_append_right (by rw [← h.1]; exact hi),← h.1] at hX
   exact h'.2 (i - ys.length) v X hv hX
section
variable {P : Program} (w : World)
theorem us_ (t ty e : TypeId) (i : TypeInfo) (z : Value) (bytes : Nat) (ht : P.underlying t = some (.slice e)) (hi : P.info? e = some i) (hz : i.zero = some z) (hs : i.size = 1) (hby : i.bytes = bytes)
    (b : Addr) (hbs : b.spot = none) (k : Nat) (olds : List Value) (hlo : olds.length = k) (ho : Src w (some b) olds) (A : Option Addr) (m c : Nat) (news : List Value) (hl : news.length = m) (hsrc : Src w A news) (hb : (k + m) * bytes ≤ 140737488355328) (h63 : k + m ≤ maxLen) :
    ∃ b' c' w',(Builtin.append_ #[t,t] ty #[.slice (some b) k k,.slice A m c]).run P w = .ok (.slice (some b') (k + m) c') w' ∧ Src w' (some b') (olds ++ news) ∧ k + m ≤ c' ∧ c' ≤ maxLen ∧ b'.spot = none ∧ Chg [] w w':=by
 have hold : ∀ j v,olds[j]? = some v → w.cell? (b.add j) = some v:=by
  intro j v hj
  obtain ⟨ad,h,_,hc⟩:=ho (by have:=(List.getElem?_eq_some_iff.1 hj).1; omega)
  injection h with h
  subst h
  exact hc j v hj
 rcases Nat.eq_zero_or_pos m with h0 | h0
 · subst h0
   obtain rfl : news = []:=List.eq_nil_of_length_eq_zero hl
   refine ⟨b,k,w,?_,by simpa using ho,by omega,by omega,hbs,Chg.refl _ _⟩
   rcases A with _ | ad
   · simp [Builtin.append_,run_underlying ht,sizeOf,typeInfo,hi,Builtin.lenOf,Builtin.firstCells,storeCells]
   · have hf:=run_firstCells_some (P:=P) w i.size 0 ad 0 c [] (by simp) (fun j u hj => by simp at hj)
     simp [Builtin.append_,run_underlying ht,sizeOf,typeInfo,hi,Builtin.lenOf,hf,storeCells]
 · obtain ⟨ad,rfl,_,hx⟩:=hsrc (by omega)
   subst hby
   have h63' : k + m ≤ 9223372036854775807:=by simp only [maxLen] at h63; omega
   have h:=run_append_grow (P:=P) w t ty e i z ht hi hz b k k olds (by rw [hlo,hs]; omega) hold ad m c news (by rw [hl,hs]; omega) hx (by omega) (by omega) (growslice_fits (by omega) (by simpa using hb))
   have hge:=grownCap_ge w (k + m) k e
   have hle:=grownCap_le_maxLen w (k + m) k e h63
   have hw : zb_ (w.drew.alloc (.cells ((olds ++ news) ++ (Builtin.zeroCells z.cells (grownCap w (k + m) k e - (k + m))).toList).toArray e)) w.heap.size e ((olds ++ news) ++ (Builtin.zeroCells z.cells (grownCap w (k + m) k e - (k + m))).toList):=zb_.new w.drew e _
   have e1 : (olds.toArray ++ news.toArray ++ Builtin.zeroCells z.cells (grownCap w (k + m) k e - (k + m))) = ((olds ++ news) ++ (Builtin.zeroCells z.cells (grownCap w (k + m) k e - (k + m))).toList).toArray:=by
    apply Array.ext'; simp
   rw [e1] at h
   refine ⟨_,_,_,h,?_,hge,hle,rfl,((Chg.refl [] w).drew).alloc _⟩
   have hsr:=Src.of_whole hw 0 (k + m)
   rw [List.drop_zero,List.take_left' (by rw [List.length_append,hlo,hl])] at hsr
   exact hsr
end
theorem zeJ {W : World} {A B : Option Addr} {g t n c cx j m d : Nat} {ys rx : List Value} {zs : List (List UInt8)} {X : List UInt8} (hW : zb_ W g t (ys.set j (.slice B m d) ++ rx)) (h : Pgs W A n c ys zs) (hB : Bs W B m d X) (hc : n ≤ cx) (hm : cx ≤ 9223372036854775807) :
    Pgs W (some ⟨g,0,none⟩) n cx (ys.set j (.slice B m d)) (zs.set j X):=by
 refine ⟨by rw [List.length_set,h.len],?_,⟨by rw [List.length_set,List.length_set,h.ls.1],fun i v Y hv hY => ?_⟩,hc,hm,fun _ ad e => by injection e with e; subst e; rfl⟩
 · have h1:=Src.of_whole hW 0 n
   rw [List.drop_zero,List.take_left' (by rw [List.length_set,h.len])] at h1
   exact h1
 · by_cases hij : j = i
   · subst hij
     have hi : j < ys.length:=by
      have:=(List.getElem?_eq_some_iff.1 hv).1
      rwa [List.length_set] at this
     rw [List.getElem?_set_self hi] at hv
     rw [List.getElem?_set_self (by rw [← h.ls.1]; exact hi)] at hY
     injection hv with hv
     injection hY with hY
     subst hv
     subst hY
     exact ⟨B,m,d,rfl,hB⟩
   · rw [List.getElem?_set_ne hij] at hv hY
     exact h.ls.2 i v Y hv hY
theorem zeI {W : World} {b : Addr} {n c : Nat} {ys : List Value} {zs : List (List UInt8)} (hn : ys.length = n) (hs : Src W (some b) ys) (hb : b.spot = none) (hl : kr_ W ys zs) (hc : n ≤ c) (hm : c ≤ 9223372036854775807) : Pgs W (some b) n c ys zs :=
 ⟨hn,hs,hl,hc,hm,fun _ ad e => by injection e with e; subst e; exact hb⟩
theorem kv_ (w : World) {b : Addr} {A2 : Option Addr} {n m c2 : Nat} {ys ys2 : List Value} {zs zs2 : List (List UInt8)} (h : Pgs w (some b) n n ys zs) (hn : 0 < n) (h2 : Pgs w A2 m c2 ys2 zs2) (hb : n + m ≤ 100000) :
    ∃ b' c' w',(Builtin.append_ #[30,30] 30 #[.slice (some b) n n,.slice A2 m c2]).run Tryz.prog w = .ok (.slice (some b') (n + m) c') w' ∧ Pgs w' (some b') (n + m) c' (ys ++ ys2) (zs ++ zs2) ∧ Chg [] w w':=by
 have hinf : (Tryz.prog.info? 33).map (fun i => (i.zero,i.size,i.bytes)) = some (some (.slice none 0 0),1,24):=by kernel_rfl
 obtain ⟨i0,hi,hz0,hz1,hz2⟩:=info_parts hinf
 obtain ⟨b',c',w',hr,hs,hc,hm,hsp,hcg⟩:=us_ (P:=Tryz.prog) w 30 30 33 i0 _ 24 Tryz.underlying30 hi hz0 hz1 hz2 b (h.spot hn b rfl) n ys h.len h.src A2 m c2 ys2 h2.len h2.src (by omega) (by unfold maxLen; omega)
 exact ⟨b',c',w',hr,zeI (by rw [List.length_append,h.len,h2.len]) hs hsp (zbY (h.ls.keep hcg) (h2.ls.keep hcg)) hc (by unfold maxLen at hm; exact hm),hcg⟩
theorem vq_ {P : Program} (w : World) {ops : Array Oper} {rest : List Oper} {o : Oper} {a : Act} {Q : Exit → Act → World → Prop} (hgd : Region.wanted o (yielded ops a.tmps) = true) (s x : Operand) (t tn : TypeId)
    (ho : o.op = .call { callee:=.builtin .append,args:=#[s,x],argTypes:=#[t,tn] }) (vs vx : Value) (hs : a.eval s = vs) (hx : a.eval x = vx)
    (v' : Value) (w' : World) (hr : (Builtin.append_ #[t,tn] o.type #[vs,vx]).run P w = .ok v' w') (h : wpList P ops Q rest (a.put o.dst v') w') : wpList P ops Q (o :: rest) a w:=by
      refine wpList_step fun K hK => ?_
      rw [if_pos hgd]
      exact Lib.wp_append_run w s x t tn ho vs vx hs hx v' w' hr (hK _ _ h)
section
variable {w : World} {A : Option Addr} {n c : Nat} {TA : Option Addr} {tn tc : Nat} {ts : List TurnV} {RA : Option Addr} {rn rc : Nat} {ry : List Value} {rz : List (List UInt8)}
theorem kw_ (HUN0 : ∀ W,Chg [] w W → Calls Tryz.prog 10 #[.slice A n c] W (jx_ W)) (hT : Trn w TA tn ts) (htn : tn ≤ 9223372036854775807) (hR : Pgs w RA rn rc ry rz) (at_ pages tb : Int) (ha : -9223372036854775808 ≤ at_ ∧ at_ ≤ 9223372036854775807) (htb : 0 ≤ tb ∧ tb < 256) (hP : xq_ w.heap.size w) :
    Calls Tryz.prog 4 #[.slice A n c,.slice TA tn tc,.int .i64 pages,.slice RA rn rc,.int .i64 at_,.int .u8 tb] w (zz_ true w):=by
 have HP:=hQ_ hP
 have HT1:=hQ_ hT
 have HR1:=hQ_ hR
 have HUN:=hQ_ HUN0
 have HC1:=hQ_ (Chg.refl [] w)
 have HKN:=hQ_ (fun (W : World) (h : xq_ W.heap.size W) => zdx h)
 unfold zz_ at HKN ⊢
 clear hP hT hR HUN0
 go_enter Tryz.func4,Tryz.ntmps4
 go_upto_region 2 with (
  go_at_call 10
  refine (HUN.out _ HC1.out).mono ?_
  rintro e w2 ⟨pg,ms,v,fl,rfl,hp0,hp1,hm0,hm1,ho,hg,hfl0,hc2⟩
  obtain ⟨FA,fc,rfl,hFr⟩:=Fnr.of_own ho (by have:=hg.lo; omega) (fun f hf => by have:=hg.args f hf; omega)
  have HGD:=hQ_ hg
  have HFA:=hQ_ (show 0 < fl.length → ∀ ad,FA = some ad → ad.block < w2.heap.size from fun h0 ad e => by
   subst e
   obtain ⟨_,_,e',_,_,hb⟩:=zl_ ho
   injection e' with e1 _ _
   exact (hb ad e1.symm).2.2.2)
  have HF2:=hQ_ hFr
  have HR2:=hQ_ (HR1.out.keep hc2)
  have HT2:=hQ_ (HT1.out.keep hc2)
  have HC2:=hQ_ (HC1.out.trans hc2)
  have HPM:=hQ_ (show xV_ pg ∧ xV_ ms from ⟨⟨by omega,by omega⟩,by omega,by omega⟩)
  have HFL:=hQ_ hfl0
  clear ho hg hFr hp0 hp1 hm0 hm1 hc2 hfl0)
 obtain ⟨fn,hfn⟩ : ∃ fn,fn = fl.length:=⟨_,rfl⟩
 rw [← hfn] at HF2 HFA ⊢
 clear hfn
 have hN:=zb_.new w2 24 [.int .i64 pg,.int .i64 ms,.slice FA fn fc]
 have hal:=(Chg.refl [] w2).alloc (.cells #[.int .i64 pg,.int .i64 ms,.slice FA fn fc] 24)
 have HU3:=hQ_ hN
 have HF3:=hQ_ (HF2.out.keep hal)
 have HR3:=hQ_ (HR2.out.keep hal)
 have HT3:=hQ_ (HT2.out.keep hal)
 have HC3:=hQ_ (HC2.out.trans hal)
 have HFB:=hQ_ (show 0 < fn → ∀ ad,FA = some ad → ad.block < (w2.alloc (.cells #[.int .i64 pg,.int .i64 ms,.slice FA fn fc] 24)).heap.size from fun h0 ad e => Nat.lt_of_lt_of_le (HFA.out h0 ad e) hal.size)
 clear hN hal HFA HR1 HT1 HC1 HR2 HT2 HC2 HF2
 generalize w2.heap.size = gu at HU3 ⊢
 generalize w2.alloc (.cells #[.int .i64 pg,.int .i64 ms,.slice FA fn fc] 24) = w3 at HU3 HF3 HR3 HT3 HC3 HFB ⊢
 have u0:=HU3.out.cell 0
 have u1:=HU3.out.cell 1
 have u2:=HU3.out.cell 2
 have HOD:=hQ_ (zdz (tc:=tc) HF3.out (HGD.out.oddly HFL.out) HPM.out.1 HPM.out.2 HFB.out HT3.out htn)
 unfold zX_ at HOD
 go_upto_region 3 with (
  go_at_call 17
  refine HOD.out.mono ?_
  rintro e w4 ⟨pg2,ms2,A2,n2,c2,l2,rfl,_,_,hF4,hO4,hc4⟩
  have HG4:=hQ_ hF4
  have HSO:=hQ_ (show ∀ f ∈ l2,f.code.size ≤ 9223372036854775807 from fun f hf => by have:=(hO4.fn f hf).2.1; omega)
  have HF4:=hQ_ (HF3.out.keep hc4)
  have HU4:=hQ_ (HU3.out.keep hc4)
  have HR4:=hQ_ (HR3.out.keep hc4)
  have HC4:=hQ_ (HC3.out.trans hc4)
  clear hF4 hO4 hc4)
 have HSU:=hQ_ (show ∀ f ∈ fl,f.code.size ≤ 9223372036854775807 from fun f hf => by have:=HGD.out.size f hf; omega)
 clear HOD u0 u1 u2 HT3 HFB HGD
 have hN:=zb_.new w4 24 [.int .i64 pg2,.int .i64 ms2,.slice A2 n2 c2]
 have hal:=(Chg.refl [] w4).alloc (.cells #[.int .i64 pg2,.int .i64 ms2,.slice A2 n2 c2] 24)
 have HO5:=hQ_ hN
 have HG5:=hQ_ (HG4.out.keep hal)
 have HF5:=hQ_ (HF4.out.keep hal)
 have HU5:=hQ_ (HU4.out.keep hal)
 have HR5:=hQ_ (HR4.out.keep hal)
 have HC5:=hQ_ (HC4.out.trans hal)
 clear hN hal HF3 HU3 HR3 HC3 HF4 HU4 HR4 HC4 HG4
 generalize w4.heap.size = go at HO5 ⊢
 generalize w4.alloc (.cells #[.int .i64 pg2,.int .i64 ms2,.slice A2 n2 c2] 24) = w5 at HO5 HG5 HF5 HU5 HR5 HC5 ⊢
 have u0:=HU5.out.cell 0
 have u1:=HU5.out.cell 1
 have u2:=HU5.out.cell 2
 have HUU:=hQ_ (UOk.of_fnr (pg:=pg) (ms:=ms) HF5.out HSU.out)
 have HUO:=hQ_ (UOk.of_fnr (pg:=pg2) (ms:=ms2) HG5.out HSO.out)
 have HPU:=hQ_ (fun (W : World) (P : Int) (hc : Chg [] w5 W) (hp : xq_ W.heap.size W) => zef (HUU.out.keep hc) P hp)
 have HPO:=hQ_ (fun (W : World) (P : Int) (hc : Chg [] w5 W) (hp : xq_ W.heap.size W) => zef (HUO.out.keep hc) P hp)
 have HND:=hQ_ (zez HUU.out)
 unfold zz_ at HPU HPO
 obtain ⟨N,hN⟩ : ∃ N,N = yn_ (zS_ pg ms fl).1 (zS_ pg ms fl).2 ms:=⟨_,rfl⟩
 rw [← hN] at HND
 have HNE:=hQ_ hN
 clear hN
 go_upto_region 4 with (
  go_at_call 12
  refine HND.out.mono ?_
  rintro e w6 ⟨rfl,hc6⟩
  have HK6:=hQ_ hc6
  clear hc6)
 clear u0 u1 u2
 have HU6:=hQ_ (HU5.out.keep HK6.out)
 have HO6:=hQ_ (HO5.out.keep HK6.out)
 have HR6:=hQ_ (HR5.out.keep HK6.out)
 have HC6:=hQ_ (HC5.out.trans HK6.out)
 have u0:=HU6.out.cell 0
 have u1:=HU6.out.cell 1
 have u2:=HU6.out.cell 2
 have o0:=HO6.out.cell 0
 have o1:=HO6.out.cell 1
 have o2:=HO6.out.cell 2
 have HBP:=hQ_ (fun (W : World) (h : Chg [] w W) => HP.out.here h)
 have HK0:=hQ_ (Chg.refl [] w6)
 clear HU5 HO5 HR5 HC5 HF5 HG5
 go_upto_if 28 with fail
 go_cut [3] (fun v wx => ∃ RA' rn' rc' ry' rz',v = .slice RA' rn' rc' ∧ rn' ≤ 9 ∧ Hid (Pgs w6 RA' rn' rc' ry' rz') ∧ w6 = wx)
 case first =>
  by_cases h9 : 9 < rn
  · have h9I : (9 : Int) < (rn : Int):=by omega
    have hcap:=HR6.out.cap
    have h9c : 9 ≤ rc:=by omega
    obtain ⟨b,o,rfl,_,_⟩:=HR6.out.form (by omega)
    have HR9:=hQ_ (HR6.out.part (lo:=0) (k:=9) (by omega) (by omega))
    rw [Nat.add_zero,Nat.sub_zero] at HR9
    go_wp2_with fail
    go_meet
    exact ⟨_,9,rc,_,_,rfl,by omega,HR9,rfl⟩
  · have h9I : ¬ (9 : Int) < (rn : Int):=by omega
    go_wp2_with fail
    go_meet
    exact ⟨RA,rn,rc,_,_,rfl,by omega,HR6,rfl⟩
 case rest =>
  obtain ⟨QA,qn,qc,qy,qz,rfl,hq9,HQ6,rfl⟩:=hcut
  clear HR6
  by_cases hbad : N < 1 ∨ 64 < N
  · by_cases hb1 : N < 1
    · clear hbad
      go_wp2_with (first
       | (go_at_call 13
          refine (HPU.out _ pages HK6.out (HBP.out _ HC6.out)).mono ?_
          rintro e w7 ⟨rfl,hc7⟩
          have HC7:=hQ_ (HC6.out.trans hc7)
          clear hc7)
       | (go_at_call 16
          refine (HKN.out _ (HBP.out _ HC7.out)).mono ?_
          rintro e w8 ⟨rfl,hc8⟩
          have HC8:=hQ_ (HC7.out.trans hc8)
          clear hc8))
      go_ret
      exact ⟨rfl,HC8.out⟩
    · have hb2 : 64 < N:=by omega
      clear hbad
      go_wp2_with (first
       | (go_at_call 13
          refine (HPU.out _ pages HK6.out (HBP.out _ HC6.out)).mono ?_
          rintro e w7 ⟨rfl,hc7⟩
          have HC7:=hQ_ (HC6.out.trans hc7)
          clear hc7)
       | (go_at_call 16
          refine (HKN.out _ (HBP.out _ HC7.out)).mono ?_
          rintro e w8 ⟨rfl,hc8⟩
          have HC8:=hQ_ (HC7.out.trans hc8)
          clear hc8))
      go_ret
      exact ⟨rfl,HC8.out⟩
  · obtain ⟨hb1,hb2⟩ : ¬ N < 1 ∧ ¬ 64 < N:=by omega
    clear hbad
    have hE : (zS_ pg ms fl).2 = 0:=by
     by_cases h : (zS_ pg ms fl).2 = 0
     · exact h
     · have h1:=HNE.out
       unfold yn_ at h1
       rw [if_neg h] at h1
       omega
    obtain ⟨g0,g1,g2⟩:=(yO_ pg ms fl).2 hE
    have hTl:=(yO_ pg ms fl).1
    have HRX:=hQ_ (show zaI w5 pg ms FA fn fc (zS_ pg ms fl).1 0 from by have:=HUU.out.rt; rw [hE] at this; exact this)
    have hNv : N = 1 + (zs_ (zS_ pg ms fl).1.length : Int) + ms:=by
     have h1:=HNE.out
     unfold yn_ at h1
     rw [if_pos hE] at h1
     exact h1
    obtain ⟨p,rfl⟩ : ∃ p : Nat,pg = (p : Int):=⟨pg.toNat,by omega⟩
    obtain ⟨m,rfl⟩ : ∃ m : Nat,ms = (m : Int):=⟨ms.toNat,by omega⟩
    obtain ⟨P,hPN⟩ : ∃ P : Nat,N = (P : Int):=⟨N.toNat,by omega⟩
    clear HNE hE HUU
    generalize (zS_ (p : Int) (m : Int) fl).1 = T at HRX hTl hNv
    subst hPN
    have HLD:=hQ_ (zdE (P:=P) (HRX.out.keep HK6.out) hTl (by omega) (by omega) (by omega) (by omega))
    have h64:=(zaK T p P hTl (by omega) (by omega)).1.1
    have hzl:=uw_ T p P (1 + zs_ T.length + p) (Nat.le_refl _) (by omega)
    generalize jA_ T p P (1 + zs_ T.length + p) = zs at HLD hzl h64
    have H64:=hQ_ h64
    have HZL:=hQ_ hzl
    clear hzl h64 hNv HRX hTl g0 g1 g2
    unfold zcS at HLD
    have hW64 : IntKind.i64.wrap (IntKind.i64.wrap ((P : Int) * 64) - 1) = (P : Int) * 64 - 1:=by rw [IntWalk.i64_in ((P : Int) * 64) (by omega),IntWalk.i64_in _ (by omega)]
    have HWI:=hQ_ (fun (W : World) => gP_ (w:=W) at_ 0 ((P : Int) * 64 - 1) (by omega) (by omega) (by omega) ha.1 ha.2)
    go_upto_region 10 with (first
     | (go_at_call 14
        refine HLD.out.mono ?_
        rintro e w7 ⟨gp,ys,rfl,hgp,hrow,hpgs,hc7⟩
        have HGP:=hQ_ hgp
        have HROW:=hQ_ hrow
        have HPGS:=hQ_ hpgs
        have HK7:=hQ_ (HK6.out.trans hc7)
        have HC7:=hQ_ (HC6.out.trans hc7)
        have HU7:=hQ_ (HU6.out.keep hc7)
        have HO7:=hQ_ (HO6.out.keep hc7)
        have HQ7:=hQ_ (HQ6.out.keep hc7)
        clear hgp hrow hpgs hc7)
     | (go_at_call 18
        refine (HWI.out _).mono ?_
        rintro e wq ⟨r,hr,rfl,rfl⟩
        have hr0 : 0 ≤ r:=hr.1
        have hr1 : r ≤ (P : Int) * 64 - 1:=hr.2.1
        clear hr))
    clear u0 u1 u2 o0 o1 o2 HU6 HO6 HQ6
    obtain ⟨k,rfl⟩ : ∃ k : Nat,r = (k : Int):=⟨r.toNat,by omega⟩
    have hinf : (Tryz.prog.info? 33).map (fun i => (i.zero,i.size,i.bytes)) = some (some (.slice none 0 0),1,24):=by kernel_rfl
    obtain ⟨i0,hi,hz0,hz1,hz2⟩:=info_parts hinf
    have hN:=zb_.new w7 33 []
    have hal:=(Chg.refl [] w7).alloc (.cells #[] 33)
    obtain ⟨v',w8,hrun,ho8,hc8⟩:=yw_ (P:=Tryz.prog) (w7.alloc (.cells #[] 33)) w7.heap.size 30 30 33 i0 _ 24 Tryz.underlying30 hi hz0 hz1 hz2 rfl w7.heap.size hN (Nat.le_refl _) (by simp) (some ⟨gp,0,none⟩) P P ys HPGS.out.len (HPGS.out.src.keep hal) (by omega) (by unfold maxLen; omega)
    obtain ⟨gx,rx,rfl,hgx,hWx,hmx⟩:=xf_ ho8 (by omega)
    obtain ⟨cx,hcx⟩ : ∃ cx,cx = P + rx.length:=⟨_,rfl⟩
    rw [← hcx] at hrun
    have HCX:=hQ_ hcx
    have HRX:=hQ_ hmx
    have HRN:=hQ_ hrun
    have HGX:=hQ_ hgx
    have HWX:=hQ_ hWx
    have HK8:=hQ_ (HK7.out.trans (hal.trans hc8))
    have HC8:=hQ_ (HC7.out.trans (hal.trans hc8))
    have HPG8:=hQ_ (HPGS.out.keep (hal.trans hc8))
    have HRO8:=hQ_ (HROW.out.keep (hal.trans hc8))
    have HU8:=hQ_ (HU7.out.keep (hal.trans hc8))
    have HO8:=hQ_ (HO7.out.keep (hal.trans hc8))
    have HQ8:=hQ_ (HQ7.out.keep (hal.trans hc8))
    have HGPX:=hQ_ (show gp ≠ gx from by have:=HROW.out.lt; omega)
    have HC78:=hQ_ (hal.trans hc8)
    clear hN hal hrun ho8 hc8 hgx hWx hmx hcx
    go_upto_region 11 with (
     at_builtin
     refine Lib.wpList_append_run (w7.alloc (.cells #[] 33)) rfl (.tmp 51) (.tmp 52) 30 30 rfl _ _ rfl rfl _ _ HRN.out ?_)
    obtain ⟨j,hj⟩ : ∃ j,j = k / 64:=⟨_,rfl⟩
    obtain ⟨u,hu⟩ : ∃ u,u = k % 64:=⟨_,rfl⟩
    have hjI : (k : Int) / 64 = (j : Int):=by omega
    have huI : (k : Int) % 64 = (u : Int):=by omega
    have hu64 : u < 64:=by omega
    have hjP : j < P:=by omega
    have hjPI : (j : Int) < (P : Int):=by omega
    clear hj hu hr0 hr1
    obtain ⟨z,hz⟩ : ∃ z,zs[j]? = some z:=⟨zs[j]'(by rw [HZL.out]; exact hjP),by simp⟩
    have hz64:=H64.out z (List.mem_of_getElem? hz)
    have HZ:=hQ_ hz
    obtain ⟨y,B,m',d,hy,rfl,hB⟩:=HPG8.out.at_ hz
    obtain rfl : m' = 64:=by rw [← hB.len,hz64]
    obtain ⟨iu,hiu,hu0,hu1,hu2⟩:=info_parts xg_
    have hN:=zb_.new w8 5 []
    have hal:=(Chg.refl [] w8).alloc (.cells #[] 5)
    have y0:=((HRO8.out.keep hal).cell j).trans hy
    obtain ⟨v',w9,hrun,ho9,hc9⟩:=yw_ (P:=Tryz.prog) (w8.alloc (.cells #[] 5)) w8.heap.size 33 33 5 iu _ 1 Tryz.underlying33 hiu hu0 hu1 hu2 rfl w8.heap.size hN (Nat.le_refl _) (by simp) B 64 d (bts z) (by rw [zA_,hz64]) (hB.src.keep hal) (by omega) (by unfold maxLen; omega)
    obtain ⟨gb,rb,rfl,hgb,hWb,hmb⟩:=xf_ ho9 (by omega)
    obtain ⟨cb,hcb⟩ : ∃ cb,cb = 64 + rb.length:=⟨_,rfl⟩
    rw [← hcb] at hrun
    have HCB:=hQ_ hcb
    have HRM:=hQ_ hmb
    have HRN9:=hQ_ hrun
    have HWB:=hQ_ hWb
    have hgxs : gx < w8.heap.size:=HWX.out.lt
    have HGB:=hQ_ (show gb ≠ gx ∧ w8.heap.size ≤ gb from ⟨by omega,hgb⟩)
    have HX9:=hQ_ (HWX.out.keep (hal.trans hc9))
    have HC79:=hQ_ (HC78.out.trans (hal.trans hc9))
    have HK9:=hQ_ (HK8.out.trans (hal.trans hc9))
    have HC9:=hQ_ (HC8.out.trans (hal.trans hc9))
    have HPG9:=hQ_ (HPG8.out.keep (hal.trans hc9))
    have HRO9:=hQ_ (HRO8.out.keep (hal.trans hc9))
    have HU9:=hQ_ (HU8.out.keep (hal.trans hc9))
    have HO9:=hQ_ (HO8.out.keep (hal.trans hc9))
    have HQ9:=hQ_ (HQ8.out.keep (hal.trans hc9))
    have hyl : ys.length = P:=HPGS.out.len
    have c0:=(HX9.out.cell j).trans ((List.getElem?_append_left (by omega)).trans hy)
    have f0:=HX9.out.frozen j
    have hjx : j < cx:=by have:=HCX.out; omega
    clear hN hal hrun ho9 hc9 hgb hWb hmb hcb hz hB hy
    go_upto_region 12 with (
     at_builtin
     refine Lib.wpList_append_run (w8.alloc (.cells #[] 5)) rfl (.tmp 57) (.tmp 62) 33 33 rfl _ _ rfl rfl _ _ HRN9.out ?_)
    clear c0 f0
    have hX10:=HX9.out.set_ j (.slice (some ⟨gb,0,none⟩) 64 cb)
    rw [List.set_append_left _ _ (by rw [hyl]; exact hjP)] at hX10
    have hc10 : Chg [gx] w9 (w9.setCell ⟨gx,j,none⟩ (.slice (some ⟨gb,0,none⟩) 64 cb)):=(Chg.refl [gx] w9).setCell (by simp) _
    have hB10:=HWB.out.chg hc10 (by simpa using HGB.out.1)
    have HC710:=hQ_ (HC79.out.then_ hc10 (fun i hi hlt => by simp only [List.mem_cons,List.not_mem_nil,or_false] at hi; have:=HGX.out; omega))
    generalize w9.setCell ⟨gx,j,none⟩ (.slice (some ⟨gb,0,none⟩) 64 cb) = w10 at hX10 hB10 HC710 ⊢
    have HX10:=hQ_ hX10
    have HB10:=hQ_ hB10
    clear hc10
    have x0 : w10.cell? ⟨gx,j,none⟩ = some (.slice (some ⟨gb,0,none⟩) 64 cb):=(hX10.cell j).trans (by rw [List.getElem?_append_left (by rw [List.length_set,hyl]; exact hjP),List.getElem?_set_self (by rw [hyl]; exact hjP)])
    obtain ⟨zu,hzu⟩ : ∃ zu,(bts z)[u]? = some (B8 zu):=⟨z[u]'(by rw [hz64]; exact hu64),vA_ z u _⟩
    have b0 : w10.cell? ⟨gb,u,none⟩ = some (B8 zu):=by
     rw [hB10.cell,List.getElem?_append_left (by rw [zA_,hz64]; exact hu64),hzu]
    have fB:=hB10.frozen u
    clear hX10 hB10
    obtain ⟨D,hD⟩ : ∃ D : UInt8,bits .xor .u8 (zu.toNat : Int) tb = (D.toNat : Int):=by
     obtain ⟨t8,ht8⟩ : ∃ t8 : Nat,tb = (t8 : Int):=⟨tb.toNat,by omega⟩
     have h1:=zu.toNat_lt
     refine ⟨UInt8.ofNat (zu.toNat ^^^ t8),?_⟩
     rw [ht8,u8_xor_nat _ _ (by omega) (by omega),UInt8.toNat_ofNat']
     have h3 : zu.toNat ^^^ t8 < 256:=Nat.xor_lt_two_pow (n:=8) (by omega) (by omega)
     omega
    have HD:=hQ_ hD
    clear hD
    have hW11:=HB10.out.set_ u (B8 D)
    rw [List.set_append_left _ _ (by rw [zA_,hz64]; exact hu64),zfn] at hW11
    have hc11 : Chg [gb] w10 (w10.setCell ⟨gb,u,none⟩ (B8 D)):=(Chg.refl [gb] w10).setCell (by simp) _
    unfold B8 at b0 hW11 hc11
    rw [← HD.out] at hW11 hc11
    have HW11:=hQ_ hW11
    have HCB11:=hQ_ hc11
    clear hW11 hc11
    go_upto_region 13 with fail
    have hBs11 : Bs (w10.setCell ⟨gb,u,none⟩ (.int .u8 (bits .xor .u8 (zu.toNat : Int) tb))) (some ⟨gb,0,none⟩) 64 cb (z.set u D):=Bs.of_whole HW11.out (by rw [List.length_set,hz64]) (by rw [List.take_left' (by rw [zA_,List.length_set,hz64])]) (by have:=HCB.out; omega) (by have h1:=HCB.out; have h2:=HRM.out; simp only [maxLen] at h2; omega)
    have hX11:=HX10.out.chg HCB11.out (by simpa using Ne.symm HGB.out.1)
    have HC711:=hQ_ (HC710.out.then_ HCB11.out (fun i hi hlt => by simp only [List.mem_cons,List.not_mem_nil,or_false] at hi; have:=HGB.out.2; have:=HC78.out.size; omega))
    generalize w10.setCell ⟨gb,u,none⟩ (.int .u8 (bits .xor .u8 (zu.toNat : Int) tb)) = w11 at hBs11 hX11 HC711 ⊢
    have HXP:=hQ_ (zeJ (cx:=cx) hX11 (HPGS.out.keep HC711.out) hBs11 (by have:=HCX.out; omega) (by have h1:=HCX.out; have h2:=HRX.out; simp only [maxLen] at h2; omega))
    have HL11:=hQ_ (HPGS.out.keep HC711.out)
    have HR11:=hQ_ (HQ7.out.keep HC711.out)
    have HU11:=hQ_ (HU7.out.keep HC711.out)
    have HO11:=hQ_ (HO7.out.keep HC711.out)
    have HK11:=hQ_ (HK7.out.trans HC711.out)
    have HD11:=hQ_ (HC7.out.trans HC711.out)
    clear hBs11 hX11 x0 b0 fB HW11 HCB11 HX10 HB10 HC710 HX9 HK9 HC9 HPG9 HRO9 HU9 HO9 HQ9 HK8 HC8 HPG8 HRO8 HU8 HO8 HQ8 HK7 HC7 HU7 HO7 HQ7 HPGS HROW HRN HRN9 HWX HWB HC78 HC79
    generalize ys.set j (.slice (some ⟨gb,0,none⟩) 64 cb) = yx at HXP
    generalize zs.set j (z.set u D) = zx at HXP
    have HGT:=hQ_ (fun (W : World) (A : Option Addr) (n c : Nat) (ys : List Value) (zs : List (List UInt8)) (h : Pgs W A n c ys zs) (hn : n ≤ 1000) (hp : xq_ W.heap.size W) => zdG h hn hp)
    unfold zz_ at HGT
    have hP1 : P ≤ 64:=by omega
    have hP2 : 0 < P:=by omega
    have HPN:=hQ_ (And.intro hP1 hP2)
    have HQ9:=hQ_ hq9
    have u0:=HU11.out.cell 0
    have u1:=HU11.out.cell 1
    have u2:=HU11.out.cell 2
    go_wp2_with (first
     | (go_at_call 13
        with_reducible refine (HPU.out w11 pages HK11.out (HBP.out _ HD11.out)).mono ?_
        rintro e w12 ⟨rfl,hc⟩
        have HS12:=hQ_ hc
        have u0:=(HU11.out.keep hc).cell 0
        have u1:=(HU11.out.keep hc).cell 1
        have u2:=(HU11.out.keep hc).cell 2
        clear hc)
     | (go_at_call 13
        with_reducible refine (HPU.out w12 (P : Int) (HK11.out.trans HS12.out) (HBP.out _ (HD11.out.trans HS12.out))).mono ?_
        rintro e w13 ⟨rfl,hc⟩
        have HS13:=hQ_ (HS12.out.trans hc)
        have o0:=(HO11.out.keep HS13.out).cell 0
        have o1:=(HO11.out.keep HS13.out).cell 1
        have o2:=(HO11.out.keep HS13.out).cell 2
        clear hc)
     | (go_at_call 13
        with_reducible refine (HPO.out w13 pages (HK11.out.trans HS13.out) (HBP.out _ (HD11.out.trans HS13.out))).mono ?_
        rintro e w14 ⟨rfl,hc⟩
        have HS14:=hQ_ (HS13.out.trans hc)
        have o0:=(HO11.out.keep HS14.out).cell 0
        have o1:=(HO11.out.keep HS14.out).cell 1
        have o2:=(HO11.out.keep HS14.out).cell 2
        clear hc)
     | (go_at_call 13
        with_reducible refine (HPO.out w14 60 (HK11.out.trans HS14.out) (HBP.out _ (HD11.out.trans HS14.out))).mono ?_
        rintro e w15 ⟨rfl,hc⟩
        have HS15:=hQ_ (HS14.out.trans hc)
        clear hc)
     | (go_at_call 15
        with_reducible refine (HGT.out w15 _ _ _ _ _ (HL11.out.keep HS15.out) (by have:=HPN.out.1; omega) (HBP.out _ (HD11.out.trans HS15.out))).mono ?_
        rintro e w16 ⟨rfl,hc⟩
        have HS16:=hQ_ (HS15.out.trans hc)
        clear hc)
     | (go_at_call 15
        with_reducible refine (HGT.out w16 _ _ _ _ _ (HXP.out.keep HS16.out) (by have:=HPN.out.1; omega) (HBP.out _ (HD11.out.trans HS16.out))).mono ?_
        rintro e w17 ⟨rfl,hc⟩
        have HS17:=hQ_ (HS16.out.trans hc)
        clear hc)
     | (go_at_call 15
        with_reducible refine (HGT.out w17 _ _ _ _ _ (HR11.out.keep HS17.out) (by have:=HQ9.out; omega) (HBP.out _ (HD11.out.trans HS17.out))).mono ?_
        rintro e w18 ⟨rfl,hc⟩
        have HS18:=hQ_ (HS17.out.trans hc)
        obtain ⟨b',c',w19,hr,hp,hc19⟩:=kv_ w18 (HL11.out.keep HS18.out) HPN.out.2 (HR11.out.keep HS18.out) (by have:=HPN.out.1; have:=HQ9.out; omega)
        have HRA:=hQ_ hr
        have HPA:=hQ_ hp
        have HS19:=hQ_ (HS18.out.trans hc19)
        clear hc hr hp hc19)
     | (at_builtin
        go_loud (first
         | refine Lib.wpList_append_run w18 rfl (.tmp 107) (.tmp 108) 30 30 rfl _ _ rfl rfl _ _ HRA.out ?_
         | refine vq_ w18 (by rfl) (.tmp 107) (.tmp 108) 30 30 rfl _ _ rfl rfl _ _ HRA.out ?_))
     | (go_at_call 15
        with_reducible refine (HGT.out w19 _ _ _ _ _ HPA.out (by have:=HPN.out.1; have:=HQ9.out; omega) (HBP.out _ (HD11.out.trans HS19.out))).mono ?_
        rintro e w20 ⟨rfl,hc⟩
        have HS20:=hQ_ (HS19.out.trans hc)
        clear hc)
     | (go_at_call 16
        refine (HKN.out _ (HBP.out _ (HD11.out.trans HS20.out))).mono ?_
        rintro e w21 ⟨rfl,hc⟩
        have HS21:=hQ_ (HD11.out.trans (HS20.out.trans hc))
        clear hc))
    refine bodyPost_ret (v:=.bool true) ?rr ?dd ?ee
    case dd => exact rfl
    case rr => simp [results]
    case ee => exact ⟨rfl,HS21.out⟩
theorem u6_ {l : List Int} (hs : Src w A (nms l)) (hlen : l.length = n) (hspot : 0 < n → ∀ ad,A = some ad → ad.spot = none) (hn : n ≤ 9223372036854775807) (hrng : ∀ x ∈ l,-9223372036854775808 ≤ x ∧ x ≤ 9223372036854775807) (hT : Trn w TA tn ts) (htn : tn ≤ 9223372036854775807) (hR : Pgs w RA rn rc ry rz) (at_ pages tb : Int) (ha : -9223372036854775808 ≤ at_ ∧ at_ ≤ 9223372036854775807) (htb : 0 ≤ tb ∧ tb < 256) (hP : xq_ w.heap.size w) :
    Calls Tryz.prog 4 #[.slice A n c,.slice TA tn tc,.int .i64 pages,.slice RA rn rc,.int .i64 at_,.int .u8 tb] w (zz_ true w) :=
 kw_ (fun _ hc => zdb (c:=c) (hs.keep hc) hlen hspot hn hrng) hT htn hR at_ pages tb ha htb hP
end
end Go.Proofs.YtbkfhndmeljlcaaGreatDoor
