import Derived.Test.YtbkfhndmeljlcaaGreatDoorZA11
set_option maxRecDepth 100000
set_option maxHeartbeats 16000000
namespace Go.Proofs.YtbkfhndmeljlcaaGreatDoor
open Go.RowKit
def ul_ : List TurnV → List Value
  | [] => []
  | t :: l => xt_ t ++ ul_ l
theorem vX_ : ∀ l,(ul_ l).length = l.length * 5
  | [] => rfl
  | t :: l => by rw [ul_,List.length_append,vX_ l]; simp [xt_]; omega
theorem y7_ : ∀ (l : List TurnV) (k : Nat) (t : TurnV) (j : Nat),l[k]? = some t → j < 5 → (ul_ l)[k * 5 + j]? = (xt_ t)[j]?
  | [],k,t,j,h,hj => by simp at h
  | u :: l,0,t,j,h,hj => by
    simp at h; subst h
    rw [ul_,List.getElem?_append_left (by simp [xt_]; omega)]
    congr 1; omega
  | u :: l,k + 1,t,j,h,hj => by
    simp at h
    rw [ul_,List.getElem?_append_right (by simp [xt_]; omega)]
    rw [← y7_ l k t j h hj]
    congr 1; simp [xt_]; omega
structure Trn (W : World) (A : Option Addr) (n : Nat) (l : List TurnV) : Prop where
  len : l.length = n
  src : Src W A (ul_ l)
  spot : 0 < n → ∀ ad,A = some ad → ad.spot = none
  ok : ∀ t ∈ l,TurnOk t
theorem Trn.keep {W W' : World} {A : Option Addr} {n : Nat} {l : List TurnV} (h : Trn W A n l) (hc : Chg [] W W') : Trn W' A n l:=⟨h.len,h.src.keep hc,h.spot,h.ok⟩
theorem Trn.cell {W : World} {A : Option Addr} {n : Nat} {l : List TurnV} (h : Trn W A n l) {k : Nat} {t : TurnV} (hk : l[k]? = some t) : ∃ b o,A = some ⟨b,o,none⟩ ∧ b < W.heap.size ∧ W.cell? ⟨b,o + k * 5,none⟩ = some (.int .i64 t.what) ∧ W.cell? ⟨b,o + k * 5 + 1,none⟩ = some (.int .i64 t.func) ∧ W.cell? ⟨b,o + k * 5 + 2,none⟩ = some (.int .i64 t.at_) ∧ W.cell? ⟨b,o + k * 5 + 3,none⟩ = some (.int .i64 t.n) ∧ W.cell? ⟨b,o + k * 5 + 4,none⟩ = some (.string t.text):=by
 have hkl:=(List.getElem?_eq_some_iff.1 hk).1
 obtain ⟨⟨b,o,s⟩,e,hb,hx⟩:=h.src (by rw [vX_]; omega)
 obtain rfl : s = none:=h.spot (by have:=h.len; omega) _ e
 refine ⟨b,o,e,hb,?_,?_,?_,?_,?_⟩
 · have:=hx _ _ ((y7_ l k t 0 hk (by omega)).trans rfl); rwa [zj_] at this
 · have:=hx _ _ ((y7_ l k t 1 hk (by omega)).trans rfl); rwa [zj_] at this
 · have:=hx _ _ ((y7_ l k t 2 hk (by omega)).trans rfl); rwa [zj_] at this
 · have:=hx _ _ ((y7_ l k t 3 hk (by omega)).trans rfl); rwa [zj_] at this
 · have:=hx _ _ ((y7_ l k t 4 hk (by omega)).trans rfl); rwa [zj_] at this
theorem Fnr.besides {W : World} {A : Option Addr} {n c : Nat} {l : List FnV} (h : Fnr W A n c l) {p : Addr} (hp : ∀ ad,A = some ad → ad.block ≠ p.block) (u : Value) : Fnr (W.setCell p u) A n c l:=by
 refine ⟨h.len,fun h0 => ?_,h.cap,h.max,h.spot,h.args⟩
 obtain ⟨ad,e,hb,hx⟩:=h.src h0
 refine ⟨ad,e,by rw [zu_]; exact hb,fun j v hj => ?_⟩
 have e2 : (ad.add j).block = ad.block:=by unfold Addr.add; split <;> rfl
 rw [← hx j v hj]
 exact World.cell?_of_block (w:=W) (Below.heap_setCell W p u _ (by rw [e2]; exact hp ad e))
def xV_ (x : Int) : Prop:=-9223372036854775808 ≤ x ∧ x ≤ 9223372036854775807
def gK_ (w : World) (e : Ending) (w' : World) : Prop :=
 ∃ (pg ms : Int) (A : Option Addr) (n c : Nat) (l : List FnV),e = .returned (.agg #[.int .i64 pg,.int .i64 ms,.slice A n c]) ∧ xV_ pg ∧ xV_ ms ∧ Fnr w' A n c l ∧ Oddly 4 l ∧ Chg [] w w'
structure OdR (w W : World) (g gr : Nat) (pg ms : Int) (A : Option Addr) (n c : Nat) (l : List FnV) : Prop where
  u : zb_ W g 24 [.int .i64 pg,.int .i64 ms,.slice A n c]
  r : zb_ W gr 24 [.int .i64 0,.int .i64 0,.slice none 0 0]
  f : Fnr W A n c l
  a : ∀ ad,A = some ad → ad.block ≠ g ∧ ad.block ≠ gr
  p : xV_ pg
  m : xV_ ms
  c : Chg [] w W
  z : w.heap.size ≤ g ∧ g < gr ∧ gr < W.heap.size
theorem OdR.keep {w W W' : World} {g gr : Nat} {pg ms : Int} {A : Option Addr} {n c : Nat} {l : List FnV} (h : OdR w W g gr pg ms A n c l) (hc : Chg [] W W') : OdR w W' g gr pg ms A n c l :=
 ⟨h.u.keep hc,h.r.keep hc,h.f.keep hc,h.a,h.p,h.m,h.c.new hc,by have:=h.z; have:=hc.size; omega⟩
theorem OdR.turn {w W W' : World} {g gr : Nat} {pg ms pg' ms' : Int} {A : Option Addr} {n c : Nat} {l l' : List FnV} {v : Value} {q : Nat} (h : OdR w W g gr pg ms A n c l) (hc : Chg [] W W') (hp : xV_ pg') (hm : xV_ ms') (ho : W'.ownsRow W.heap.size 58 3 v l'.length (yx_ l')) (hO : Oddly q l') (hq : q ≤ 4) :
    ∃ A' c',v = .slice A' l'.length c' ∧ OdR w (((W'.setCell ⟨g,0,none⟩ (.int .i64 pg')).setCell ⟨g,1,none⟩ (.int .i64 ms')).setCell ⟨g,2,none⟩ v) g gr pg' ms' A' l'.length c' l':=by
 have hz:=h.z
 obtain ⟨A',c',rfl,hF⟩:=Fnr.of_own ho (by have:=hO.few; omega) (fun f hf => (hO.fn f hf).1)
 have ha : ∀ ad,A' = some ad → ad.block ≠ g ∧ ad.block ≠ gr:=fun ad e => by
  subst e
  obtain ⟨_,_,e',_,_,hb⟩:=zl_ ho
  injection e' with e1 _ _
  have:=(hb ad e1.symm).2.1
  omega
 refine ⟨A',c',rfl,?_,((h.r.keep hc).far (by simp only; omega) _ |>.far (by simp only; omega) _).far (by simp only; omega) _,((hF.besides (fun ad e => (ha ad e).1) _).besides (fun ad e => (ha ad e).1) _).besides (fun ad e => (ha ad e).1) _,ha,hp,hm,?_,?_⟩
 · have:=(((h.u.keep hc).set_ 0 (.int .i64 pg')).set_ 1 (.int .i64 ms')).set_ 2 (.slice A' l'.length c')
   simpa using this
 · exact (((h.c.new hc).setCell (fun hh => by simp only at hh; omega) _).setCell (fun hh => by simp only at hh; omega) _).setCell (fun hh => by simp only at hh; omega) _
 · rw [zu_,zu_,zu_]; have:=hc.size; omega
theorem OdR.start {w : World} {A : Option Addr} {n c : Nat} {l : List FnV} {pg ms : Int} (hF : Fnr w A n c l) (hpg : xV_ pg) (hms : xV_ ms) (hsm : ∀ ad,A = some ad → ad.block < w.heap.size) :
    OdR w ((w.alloc (.cells #[.int .i64 pg,.int .i64 ms,.slice A n c] 24)).alloc (.cells #[.int .i64 0,.int .i64 0,.slice none 0 0] 24)) w.heap.size (w.heap.size + 1) pg ms A n c l:=by
 have h1:=zb_.new w 24 [.int .i64 pg,.int .i64 ms,.slice A n c]
 have c1:=(Chg.refl [] w).alloc (.cells #[.int .i64 pg,.int .i64 ms,.slice A n c] 24)
 have z1 : (w.alloc (.cells #[.int .i64 pg,.int .i64 ms,.slice A n c] 24)).heap.size = w.heap.size + 1:=Array.size_push _
 generalize w.alloc (.cells #[.int .i64 pg,.int .i64 ms,.slice A n c] 24) = w1 at *
 have h2:=zb_.new w1 24 [.int .i64 0,.int .i64 0,.slice none 0 0]
 have c2:=(Chg.refl [] w1).alloc (.cells #[.int .i64 0,.int .i64 0,.slice none 0 0] 24)
 have z2 : (w1.alloc (.cells #[.int .i64 0,.int .i64 0,.slice none 0 0] 24)).heap.size = w1.heap.size + 1:=Array.size_push _
 rw [z1] at h2
 exact ⟨h1.keep c2,h2,(hF.keep c1).keep c2,fun ad e => by have:=hsm ad e; omega,hpg,hms,c1.new c2,by omega⟩
theorem OdR.ret {w W : World} {g gr : Nat} {pg ms : Int} {A : Option Addr} {n c : Nat} {l : List FnV} (h : OdR w W g gr pg ms A n c l) (hO : Oddly 4 l) :
    Hid (gK_ w (.returned (.agg #[.int .i64 pg,.int .i64 ms,.slice A n c])) (((W.setCell ⟨gr,0,none⟩ (.int .i64 pg)).setCell ⟨gr,1,none⟩ (.int .i64 ms)).setCell ⟨gr,2,none⟩ (.slice A n c))) ∧
      Hid (zb_ (((W.setCell ⟨gr,0,none⟩ (.int .i64 pg)).setCell ⟨gr,1,none⟩ (.int .i64 ms)).setCell ⟨gr,2,none⟩ (.slice A n c)) gr 24 [.int .i64 pg,.int .i64 ms,.slice A n c]):=by
 have hz:=h.z
 refine ⟨hQ_ ⟨pg,ms,A,n,c,l,rfl,h.p,h.m,((h.f.besides (fun ad e => (h.a ad e).2) _).besides (fun ad e => (h.a ad e).2) _).besides (fun ad e => (h.a ad e).2) _,hO,((h.c.setCell (fun hh => by simp only at hh; omega) _).setCell (fun hh => by simp only at hh; omega) _).setCell (fun hh => by simp only at hh; omega) _⟩,hQ_ ?_⟩
 have:=((h.r.set_ 0 (.int .i64 pg)).set_ 1 (.int .i64 ms)).set_ 2 (.slice A n c)
 simpa using this
section
variable {w : World} {A : Option Addr} {n c : Nat} {l : List FnV} {pg ms : Int} {TA : Option Addr} {tn tc : Nat} {ts : List TurnV}
theorem zdz (hF : Fnr w A n c l) (hO : Oddly 0 l) (hpg : xV_ pg) (hms : xV_ ms) (hsm : 0 < n → ∀ ad,A = some ad → ad.block < w.heap.size) (hT : Trn w TA tn ts) (htn : tn ≤ 9223372036854775807) :
    Calls Tryz.prog 17 #[zX_ pg ms A n c,.slice TA tn tc] w (gK_ w):=by
 unfold zX_
 have HF:=hQ_ hF
 have HO:=hQ_ hO
 have HT:=hQ_ hT
 have HPM:=hQ_ (And.intro hpg hms)
 have HSM:=hQ_ hsm
 clear hF hO hT hpg hms hsm
 go_enter Tryz.func17,Tryz.ntmps17
 go_upto_region 1 with fail
 have HR:=hQ_ (OdR.start HF.out HPM.out.1 HPM.out.2 (fun ad e => HSM.out (by have:=HO.out.pos; have:=HF.out.len; omega) ad e))
 have HTk:=hQ_ (HT.out.keep (HR.out.c))
 obtain ⟨g,hg⟩ : ∃ g,g = w.heap.size:=⟨_,rfl⟩
 obtain ⟨gr,hgr⟩ : ∃ gr,gr = w.heap.size + 1:=⟨_,rfl⟩
 rw [← hgr,← hg] at HR
 rw [← hgr,← hg]
 have HTG:=hQ_ (show 0 < tn → ∀ ad,TA = some ad → ad.block ≠ g from fun h0 ad e => by
  obtain ⟨ad',e',hb,_⟩:=HT.out.src (by rw [vX_]; have:=HT.out.len; omega)
  rw [e] at e'
  injection e' with e'
  subst e'
  omega)
 have HG:=hQ_ (show w.heap.size ≤ g ∧ w.heap.size ≤ gr from by omega)
 generalize (w.alloc (.cells #[.int .i64 pg,.int .i64 ms,.slice A n c] 24)).alloc (.cells #[.int .i64 0,.int .i64 0,.slice none 0 0] 24) = w2 at HR HTk ⊢
 clear hg hgr HPM HSM
 have htsp:=HTk.out.spot
 go_wp2_with fail
 go_loopw [5] (fun i wr => ∃ (k : Nat) (pg ms : Int) (A : Option Addr) (n c : Nat) (l : List FnV),i = .int .i64 (k : Int) ∧ k ≤ 4 ∧ Hid (OdR w wr g gr pg ms A n c l) ∧ Hid (Oddly k l) ∧ Hid (Trn wr TA tn ts) ∧ Hid (0 < tn → ∀ ad,TA = some ad → ad.block ≠ g)) (fun i _ => 4 - (intOf i).toNat)
 case atStart => exact ⟨0,pg,ms,A,n,c,l,rfl,by omega,HR,HO,HTk,HTG⟩
 case round =>
  clear HR HTk HO HF HT
  obtain ⟨k,pg,ms,A,n,c,l,rfl,hk,HR,HO,HT,HTG⟩:=hrel
  by_cases hgo : k < tn ∧ k < 4
  · obtain ⟨hktn,hk4⟩:=hgo
    have hI1 : (k : Int) < (tn : Int):=by omega
    have hI2 : (k : Int) < 4:=by omega
    obtain ⟨t,htk⟩ : ∃ t,ts[k]? = some t:=⟨ts[k]'(by rw [HT.out.len]; exact hktn),by simp⟩
    obtain ⟨b,o,rfl,hb,t0,t1,t2,t3,t4⟩:=HT.out.cell htk
    have HTO:=hQ_ (HT.out.ok t (List.mem_of_getElem? htk))
    have HBG:=hQ_ (show b ≠ g from HTG.out (by omega) _ rfl)
    obtain ⟨tw,tf,ta,tnn,tx⟩:=t
    simp only at t0 t1 t2 t3 t4
    have u0:=HR.out.u.cell 0
    have u1:=HR.out.u.cell 1
    have u2:=HR.out.u.cell 2
    clear htk hb
    go_upto_region 4 with fail
    have HRd:=hQ_ (HR.out.keep (Chg.refl [] wr).drew)
    have HTd:=hQ_ (HT.out.keep (Chg.refl [] wr).drew)
    go_still_tail 5,(by kernel_rfl)
    change wpList _ _ _ _ _ wr.drew
    generalize wr.drew = w3 at HRd HTd ⊢
    go_wp2_with fail
    refine (zeS HRd.out.f HO.out hk4 HRd.out.p HRd.out.m ⟨tw,tf,ta,tnn,tx⟩ HTO.out).mono ?_
    rintro e w4 ⟨pg',ms',v,l',rfl,hp',hm',ho',hO',hc'⟩
    obtain ⟨A',c',rfl,hR'⟩:=HRd.out.turn hc' hp' hm' ho' hO' (by omega)
    have HR':=hQ_ hR'
    have HO':=hQ_ hO'
    have HC':=hQ_ hc'
    have HU':=hQ_ (HRd.out.u.keep hc')
    clear hR' hO' hc' ho' u0 u1 u2 hp' hm'
    have u0:=HU'.out.cell 0
    have u1:=HU'.out.cell 1
    have u2:=HU'.out.cell 2
    have f0:=HU'.out.frozen 0
    have f1:=HU'.out.frozen 1
    have f2:=HU'.out.frozen 2
    have HT':=hQ_ (show Trn (((w4.setCell ⟨g,0,none⟩ (.int .i64 pg')).setCell ⟨g,1,none⟩ (.int .i64 ms')).setCell ⟨g,2,none⟩ (.slice A' l'.length c')) (some ⟨b,o,none⟩) tn ts from by
     have h:=HTd.out.keep HC'.out
     refine ⟨h.len,fun h0 => ?_,h.spot,h.ok⟩
     obtain ⟨ad,e,hb',hx⟩:=h.src h0
     injection e with e
     subst e
     refine ⟨_,rfl,by simp only [zu_]; exact hb',fun j v hj => ?_⟩
     rw [← hx j v hj,zj_]
     have hbg : b ≠ g:=HBG.out
     have hh : ((((w4.setCell ⟨g,0,none⟩ (.int .i64 pg')).setCell ⟨g,1,none⟩ (.int .i64 ms')).setCell ⟨g,2,none⟩ (.slice A' l'.length c')).heap[b]?) = w4.heap[b]?:=by
      rw [Below.heap_setCell _ _ _ _ hbg,Below.heap_setCell _ _ _ _ hbg,Below.heap_setCell _ _ _ _ hbg]
     exact World.cell?_of_block (w:=w4) hh)
    go_wp2_with fail
    go_roundw
    case rel => exact ⟨k + 1,pg',ms',A',l'.length,c',l',by go_num,by omega,HR',HO',HT',HTG⟩
    case measure => simp [intOf]; omega
  · by_cases h1 : k < tn
    · have hI1 : (k : Int) < (tn : Int):=by omega
      have hI2 : (4 : Int) ≤ (k : Int):=by omega
      have ⟨HP,hWf⟩:=HR.out.ret (HO.out.more hk)
      have v0:=HR.out.u.cell 0
      have v1:=HR.out.u.cell 1
      have v2:=HR.out.u.cell 2
      have r0:=HR.out.r.cell 0
      have r1:=HR.out.r.cell 1
      have r2:=HR.out.r.cell 2
      have f0:=HR.out.r.frozen 0
      have f1:=HR.out.r.frozen 1
      have f2:=HR.out.r.frozen 2
      go_wp2_with fail
      have e0:=hWf.out.cell 0
      have e1:=hWf.out.cell 1
      have e2:=hWf.out.cell 2
      generalize ((wr.setCell ⟨gr,0,none⟩ (.int .i64 pg)).setCell ⟨gr,1,none⟩ (.int .i64 ms)).setCell ⟨gr,2,none⟩ (.slice A n c) = wf at HP e0 e1 e2 ⊢
      simp only [List.getElem?_cons_zero,List.getElem?_cons_succ] at e0 e1 e2
      refine bodyPost_ret (v:=.agg #[.int .i64 pg,.int .i64 ms,.slice A n c]) (by simp [results,Tryz.results17,go_sem,e0,e1,e2]) rfl HP.out
    · have hI1 : (tn : Int) ≤ (k : Int):=by omega
      have ⟨HP,hWf⟩:=HR.out.ret (HO.out.more hk)
      have v0:=HR.out.u.cell 0
      have v1:=HR.out.u.cell 1
      have v2:=HR.out.u.cell 2
      have r0:=HR.out.r.cell 0
      have r1:=HR.out.r.cell 1
      have r2:=HR.out.r.cell 2
      have f0:=HR.out.r.frozen 0
      have f1:=HR.out.r.frozen 1
      have f2:=HR.out.r.frozen 2
      go_wp2_with fail
      have e0:=hWf.out.cell 0
      have e1:=hWf.out.cell 1
      have e2:=hWf.out.cell 2
      generalize ((wr.setCell ⟨gr,0,none⟩ (.int .i64 pg)).setCell ⟨gr,1,none⟩ (.int .i64 ms)).setCell ⟨gr,2,none⟩ (.slice A n c) = wf at HP e0 e1 e2 ⊢
      simp only [List.getElem?_cons_zero,List.getElem?_cons_succ] at e0 e1 e2
      refine bodyPost_ret (v:=.agg #[.int .i64 pg,.int .i64 ms,.slice A n c]) (by simp [results,Tryz.results17,go_sem,e0,e1,e2]) rfl HP.out
end
end Go.Proofs.YtbkfhndmeljlcaaGreatDoor
namespace Go.Proofs.YtbkfhndmeljlcaaGreatDoor
open Go.RowKit
theorem zcp {rs : List Nat} {r : Nat} {ys ys' : List TkV} {ph ph' : GPh} (h : zO_ ys ph r = some (ys',ph')) : vp_ (r :: rs) ys ph = vp_ rs ys' ph':=by rw [vp_,h]
theorem zcn {rs : List Nat} {r : Nat} {ys : List TkV} {ph : GPh} (h : zO_ ys ph r = none) : vp_ (r :: rs) ys ph = none:=by rw [vp_,h]
theorem zaa {w w' : World} {B n k : Nat} {e : TypeId} {v : Value} {xs : List Value} {T : List Nat} (h : w.ownsRow B e k v n xs) (hc : Chg T w w') (hT : ∀ g,v.ownBlock = some g → g ∉ T) : w'.ownsRow B e k v n xs:=by
 refine ⟨h.1,?_⟩
 rcases h.2 with h1 | ⟨g,cap,cur,rfl,hb,hg,r⟩
 · exact .inl h1
 · refine .inr ⟨g,cap,cur,rfl,hb,?_,r⟩
   have hlt : g < w.heap.size:=by
    rcases Nat.lt_or_ge g w.heap.size with h | h
    · exact h
    · rw [Array.getElem?_eq_none h] at hg; cases hg
   exact (hc.block g hlt (hT g rfl)).trans hg
theorem jS_ {w : World} {B n k b : Nat} {e : TypeId} {v : Value} {xs : List Value} {s : ByteArray} {pos : Nat} (h : w.ownsRow B e k v n xs) (hb : w.heap[b]? = some (.stringIter s pos)) : v.ownBlock ≠ some b:=by
 intro hv
 rcases h.2 with ⟨rfl,_⟩ | ⟨g,cap,cur,rfl,_,hg,_⟩
 · simp [Value.ownBlock] at hv
 · simp [Value.ownBlock] at hv
   subst hv
   rw [hg] at hb
   injection hb with hb
   cases hb
theorem Gl.chg {W W' : World} {g : Nat} {v : Value} {ys : List TkV} {ph : GPh} {T : List Nat} (h : Gl W g v ys ph) (hc : Chg T W W') (hg : g ∉ T) (hv : ∀ b,v.ownBlock = some b → b ∉ T) : Gl W' g v ys ph:=⟨h.rec_.chg hc hg,zaa h.own hc hv,h.few,h.big⟩
section
variable {w : World}
theorem ke_ (s : ByteArray) (hs : s.size ≤ 9223372036854775807) : Calls Tryz.prog 58 #[.string s] w (xw_ s w):=by
 by_cases hlong : 512 < s.size
 · have hlI : (512 : Int) < (s.size : Int):=by omega
   have HPO:=hQ_ (show xw_ s w (.returned (.tuple #[.slice none 0 0,.int .i64 3])) w from ⟨Chg.refl _ _,.inr ⟨by unfold xX_; rw [if_pos hlong],by unfold k1_; rw [if_pos hlong]⟩⟩)
   go_enter Tryz.func58,Tryz.ntmps58
   go_wp2_with fail
   go_ret2
   exact HPO.out
 have hlI : ¬ (512 : Int) < (s.size : Int):=by omega
 have HRT:=hQ_ (jk_ s hlong)
 have HE:=hQ_ (show k1_ s = 12 from by unfold k1_; rw [if_neg hlong])
 have hsz : s.size ≤ 512:=by omega
 clear hlong
 go_enter Tryz.func58,Tryz.ntmps58
 go_upto_region 5 with fail
 have hr1:=zb_.new w 132 [.slice none 0 0,.bool false,.bool false]
 have hc1:=(Chg.refl [] w).alloc (.cells #[.slice none 0 0,.bool false,.bool false] 132)
 have hz1 : (w.alloc (.cells #[.slice none 0 0,.bool false,.bool false] 132)).heap.size = w.heap.size + 1:=Array.size_push _
 obtain ⟨g,hg⟩ : ∃ g,g = w.heap.size:=⟨_,rfl⟩
 rw [← hg] at hr1 hz1 ⊢
 generalize w.alloc (.cells #[.slice none 0 0,.bool false,.bool false] 132) = w1 at hr1 hc1 hz1 ⊢
 have hI : (w1.iter s 0).heap[w1.heap.size]? = some (.stringIter s 0):=World.iter_heap w1 s 0
 have hc0 : Chg [] w1 (w1.iter s 0):=(Chg.refl [] w1).alloc _
 rw [hz1] at hI
 obtain ⟨kI,hkI⟩ : ∃ k,k = g + 1:=⟨_,rfl⟩
 have HK:=hQ_ (show g < kI from by omega)
 have HGW:=hQ_ (show w.heap.size = g from hg.symm)
 have HG1:=hQ_ (show Gl (w1.iter s 0) g (.slice none 0 0) [] .idle from ⟨hr1.keep hc0,World.ownsRow_nil _ _ _ _,by simp,fun m e => by cases e⟩)
 rw [← hkI] at hI ⊢
 have HC0:=hQ_ (hc1.new hc0)
 generalize w1.iter s 0 = w2 at hI hc0 HG1 HC0 ⊢
 have HI:=hQ_ hI
 clear hI hc0 hkI hr1 hc1 hz1 hg
 go_loopw [6] (fun _ wr => (∃ (pos f : Nat) (v : Value) (ys : List TkV) (ph : GPh),Hid (wr.heap[kI]? = some (.stringIter s pos)) ∧ s.size - pos ≤ f ∧ Hid (Gl wr g v ys ph) ∧ Hid (xX_ s = vp_ (zx_ s f pos) ys ph) ∧ ys.length + (pend ph).length + f ≤ s.size) ∧ Hid (Chg [] w wr)) (fun _ wr => s.size - wr.iterPos kI)
 case atStart => exact ⟨⟨0,s.size,_,_,_,HI,by omega,HG1,hQ_ (by rw [HRT.out]; rfl),by simp [pend]⟩,HC0⟩
 case round =>
  obtain ⟨⟨pos,f,v,ys,ph,HIr,hf,HG,HR,hyl⟩,HC⟩:=hrel
  by_cases hlt : pos < s.size
  · obtain ⟨f',rfl⟩ : ∃ f',f = f' + 1:=⟨f - 1,by omega⟩
    have hnx:=fun ty => Lib.run_next_any_at (P:=Tryz.prog) wr kI s pos ty HIr.out hlt
    go_upto_region 7 with fail
    obtain ⟨d,hd⟩ : ∃ d,d = (Utf8.decode s pos).2:=⟨_,rfl⟩
    obtain ⟨x,hx⟩ : ∃ r,r = (Utf8.decode s pos).1:=⟨_,rfl⟩
    have hw:=xa_ s pos hlt
    have hxm : x ≤ 2147483647:=by rw [hx]; exact decode_le s pos
    rw [← hd] at hw
    have HR2:=hQ_ (show xX_ s = vp_ (x :: zx_ s f' (pos + d)) ys ph from by rw [HR.out,zx_,if_pos hlt,← hd,← hx])
    have hci : Chg [kI] wr (wr.iterAt kI s (pos + d)):=⟨rfl,rfl,rfl,by rw [Lib.iterAt_size]; exact Nat.le_refl _,fun i _ hn => Lib.iterAt_other wr kI i s (pos + d) (by simpa using hn)⟩
    have HI2:=hQ_ (Lib.iterAt_heap wr kI s pos (pos + d) HIr.out)
    have HC2:=hQ_ (show Chg [] w (wr.iterAt kI s (pos + d)) from HC.out.then_ hci (fun i hi hl => by have:=HK.out; have:=HGW.out; simp only [List.mem_cons,List.not_mem_nil,or_false] at hi; omega))
    have HG2:=hQ_ (show Gl (wr.iterAt kI s (pos + d)) g v ys ph from HG.out.chg hci (by have:=HK.out; simp; omega) (fun b hb => by
     have:=jS_ HG.out.own HIr.out
     intro hm
     simp only [List.mem_cons,List.not_mem_nil,or_false] at hm
     subst hm
     exact this hb))
    rw [← hd,← hx]
    have HMP:=hQ_ (show wr.iterPos kI = pos from by unfold World.iterPos; rw [HIr.out])
    have HP2:=hQ_ (show (wr.iterAt kI s (pos + d)).iterPos kI = pos + d from by unfold World.iterPos; rw [HI2.out])
    generalize wr.iterAt kI s (pos + d) = w3 at HI2 HC2 HP2 HG2 ⊢
    clear hx hd hnx hci
    go_wp2_with fail
    refine (zcj HG2.out x hxm (by omega)).mono ?_
    rintro e w4 ⟨hfr,ho⟩
    have HI4:=hQ_ (hfr.obj HI2.out (by intro _ _ _ h; cases h))
    have HP4:=hQ_ (show w4.iterPos kI = pos + d from by unfold World.iterPos; rw [HI4.out])
    have HC4:=hQ_ (show Chg [] w w4 from (Fr.chg (B:=g) (TS:=glT) ((Fr.of_chg HC2.out).trans hfr) (by have:=HGW.out; omega)))
    clear hfr
    rcases ho with ⟨ho,rfl⟩ | ⟨ys',ph',v',ho,rfl,hG⟩
    · have HPO:=hQ_ (show xw_ s w (.returned (.tuple #[.slice none 0 0,.int .i64 12])) w4 from ⟨HC4.out,.inr ⟨by rw [HR2.out,zcn ho],by rw [HE.out]⟩⟩)
      clear ho
      go_wp2_with fail
      go_ret2
      exact HPO.out
    · have hyl' : ys'.length + (pend ph').length + f' ≤ s.size:=by have:=zcm ho; omega
      have HR4:=hQ_ (show xX_ s = vp_ (zx_ s f' (pos + d)) ys' ph' from by rw [HR2.out,zcp ho])
      have HG4:=hQ_ hG
      clear ho hG
      go_wp2_with fail
      go_roundw
      case rel => exact ⟨⟨pos + d,f',v',ys',ph',HI4,by omega,HG4,HR4,hyl'⟩,HC4⟩
      case measure => rw [HP4.out,HMP.out]; omega
  · have hnx:=fun ty => Lib.run_next_end_at (P:=Tryz.prog) wr kI s pos ty HIr.out hlt
    have HRE:=hQ_ (show xX_ s = gp_ ys ph from by
     rw [HR.out]
     cases f with
     | zero => simp [zx_,vp_]
     | succ f => rw [zx_,if_neg hlt,vp_])
    have c2:=HG.out.rec_.cell 2
    have c0:=HG.out.rec_.cell 0
    cases hwt : waits ph with
    | true =>
      have HPO:=hQ_ (show xw_ s w (.returned (.tuple #[.slice none 0 0,.int .i64 12])) wr from ⟨HC.out,.inr ⟨(by
       rw [HRE.out]
       cases ph with
       | wait q => rfl
       | num m => cases hwt
       | idle => cases hwt),by rw [HE.out]⟩⟩)
      rw [hwt] at c2
      clear hwt
      go_wp2_with fail
      go_ret2
      exact HPO.out
    | false =>
      have HPO:=hQ_ (show xw_ s w (.returned (.tuple #[v,.int .i64 0])) wr from ⟨HC.out,.inl ⟨ys ++ pend ph,v,(by
       rw [HRE.out]
       cases ph with
       | wait q => cases hwt
       | num m => rfl
       | idle => rw [pend,List.append_nil]; rfl),by rw [List.length_append]; omega,rfl,by
       have:=HG.out.own
       rw [List.length_append]
       exact z1_ this (by have:=HGW.out; omega)⟩⟩)
      rw [hwt] at c2
      obtain ⟨A5,n5,c5,rfl,hn5⟩:=HG.out.slice
      clear hwt hn5
      go_wp2_with fail
      go_ret2
      exact HPO.out
end
end Go.Proofs.YtbkfhndmeljlcaaGreatDoor
namespace Go.Proofs.YtbkfhndmeljlcaaGreatDoor
open Go.RowKit
section
variable {A : Option Addr} {n c : Nat} {l : List FnV} {pages most : Int}
theorem Fr.whole' {B : Nat} {TS : List TypeId} {a b : World} (h : Fr B TS a b) {g t : Nat} {cs : List Value} (hW : zb_ a g t cs) (ht : TS.contains t = false) : zb_ b g t cs:=h.whole hW (by simpa using ht)
theorem zcK {w : World} (hF : Fnr w A n c l) (hcode : ∀ f ∈ l,f.code.size ≤ 9223372036854775807) (k : Int) : Calls Tryz.prog 83 #[zX_ pages most A n c,.int .i64 k] w (yC_ (rFn l k) w):=by
 unfold zX_
 obtain ⟨i0,hi0,hz0,hz1,hz2⟩:=info_parts vN_
 obtain ⟨R,hR⟩ : ∃ R,R = rFn l k:=⟨_,rfl⟩
 rw [← hR]
 unfold rFn at hR
 rw [hF.len] at hR
 have HR:=hQ_ hR
 have H:=hQ_ hF
 have hmax:=hF.max
 clear hF hR
 go_enter Tryz.func83,Tryz.ntmps83
 go_upto_region 1 with fail
 have hN:=zb_.new w 24 [.int .i64 pages,.int .i64 most,.slice A n c]
 have hal : Chg [] w (w.alloc (.cells #[.int .i64 pages,.int .i64 most,.slice A n c] 24)):=(Chg.refl [] w).alloc _
 have HF1:=hQ_ (H.out.keep hal)
 have HU1:=hQ_ hN
 have HC1:=hQ_ hal
 have HBW:=hQ_ (show w.heap.size ≤ w.heap.size from Nat.le_refl _)
 obtain ⟨gu,hgu⟩ : ∃ g,g = w.heap.size:=⟨_,rfl⟩
 rw [← hgu] at HU1 ⊢
 generalize w.alloc (.cells #[.int .i64 pages,.int .i64 most,.slice A n c] 24) = w1 at HF1 HU1 HC1 ⊢
 clear hN hal hgu
 have u2:=HU1.out.cell 2
 by_cases hk0 : k < 0
 · have qk : decide (k < 0) = true:=by simpa using hk0
   have HP:=hQ_ (show yC_ R w (.returned (.tuple #[.slice none 0 0,.int .i64 23])) w1 from uv_ 23 (by rw [HR.out,if_pos (.inl hk0)]) HC1.out)
   clear hk0
   go_wp2_with fail
   go_ret2
   exact HP.out
 have qk : decide (k < 0) = false:=by simpa using hk0
 by_cases hkn : (n : Int) ≤ k
 · have qn : decide ((n : Int) ≤ k) = true:=by simpa using hkn
   have HP:=hQ_ (show yC_ R w (.returned (.tuple #[.slice none 0 0,.int .i64 23])) w1 from uv_ 23 (by rw [HR.out,if_pos (.inr hkn)]) HC1.out)
   clear hkn hk0
   go_wp2_with fail
   go_ret2
   exact HP.out
 have qn : decide ((n : Int) ≤ k) = false:=by simpa using hkn
 obtain ⟨q,rfl⟩ : ∃ q : Nat,k = (q : Int):=⟨k.toNat,by omega⟩
 have hqn : q < n:=by omega
 obtain ⟨f,hfk⟩ : ∃ f,l[q]? = some f:=⟨l[q]'(by rw [HF1.out.len]; exact hqn),by simp⟩
 have HR1:=hQ_ (show R = vv_ l f.code from by rw [HR.out,if_neg (by omega),show ((q : Int)).toNat = q from rfl,hfk])
 have hcd:=hcode f (List.mem_of_getElem? hfk)
 obtain ⟨fb,fo,rfl,hfbl,e0,e1,e2⟩:=HF1.out.cell hfk
 have hqI : (q : Int) < (n : Int):=by omega
 clear hfk hk0 hkn hcode e0 e1 HR
 go_wp2_with fail
 refine (ke_ f.code (by omega)).mono ?_
 rintro e w2 ⟨hc2,hT⟩
 have HC2:=hQ_ (HC1.out.new hc2)
 have HF2:=hQ_ (HF1.out.keep hc2)
 have HU2:=hQ_ (HU1.out.keep hc2)
 clear u2 e2 hfbl
 rcases hT with ⟨ts,v2,hts,htl,rfl,ho2⟩ | ⟨hts,rfl⟩
 rotate_left
 · have hE : k1_ f.code = 3 ∨ k1_ f.code = 12:=by unfold k1_; split <;> simp
   have HP:=hQ_ (show yC_ R w (.returned (.tuple #[.slice none 0 0,.int .i64 (k1_ f.code)])) w2 from uv_ _ (by rw [HR1.out,vv_,hts]) HC2.out)
   clear hts hc2
   generalize k1_ f.code = te at hE HP ⊢
   have qe : (te != 0) = true:=by simp; omega
   clear hE
   go_wp2_with fail
   go_ret2
   exact HP.out
 obtain ⟨TA,tc,rfl,hTk⟩:=Tks.of_own ho2 (by omega)
 have HT2:=hQ_ hTk
 have HR2:=hQ_ (show R = match yU_ (zp_ ts) with | none => (13,[]) | some _ => vu_ l ts 0 [] [] from by rw [HR1.out,vv_,hts]; rfl)
 clear hts hc2 ho2 hTk HR1
 obtain ⟨tn,htn⟩ : ∃ tn,tn = ts.length:=⟨_,rfl⟩
 rw [← htn] at HT2 htl ⊢
 have HTN:=hQ_ htn
 clear htn
 go_wp2_with fail
 refine (zeV HT2.out).mono ?_
 rintro e w3 ⟨hc3,hT⟩
 have HC3:=hQ_ (HC2.out.new hc3)
 have HF3:=hQ_ (HF2.out.keep hc3)
 have HU3:=hQ_ (HU2.out.keep hc3)
 have HT3:=hQ_ (HT2.out.keep hc3)
 clear hc3
 rw [jV_] at hT
 rcases hT with ⟨t3,d3,g3,hn3,_,rfl,_⟩ | ⟨hn3,rfl⟩
 rotate_left
 · have HP:=hQ_ (show yC_ R w (.returned (.tuple #[.slice none 0 0,.int .i64 13])) w3 from uv_ 13 (by rw [HR2.out,hn3]) HC3.out)
   clear hn3
   go_wp2_with fail
   go_ret2
   exact HP.out
 have HR3:=hQ_ (show R = vu_ l ts 0 [] [] from by rw [HR2.out,hn3])
 have HD:=hQ_ (zdl hn3)
 clear hn3
 have hN4:=zb_.new w3 145 [.int .i64 0,.slice none 0 0]
 have hal4 : Chg [] w3 (w3.alloc (.cells #[.int .i64 0,.slice none 0 0] 145)):=(Chg.refl [] w3).alloc _
 have hsz4 : (w3.alloc (.cells #[.int .i64 0,.slice none 0 0] 145)).heap.size = w3.heap.size + 1:=Array.size_push _
 go_upto_region 10 with fail
 have HC4:=hQ_ (HC3.out.new hal4)
 have HGS:=hQ_ (show w.heap.size ≤ w3.heap.size from HC3.out.size)
 generalize w3.alloc (.cells #[.int .i64 0,.slice none 0 0] 145) = w4 at hN4 hal4 hsz4 HC4 ⊢
 have HC34:=hQ_ hal4
 obtain ⟨gs,hgs⟩ : ∃ g,g = w3.heap.size:=⟨_,rfl⟩
 rw [← hgs] at hN4 hsz4 HGS ⊢
 have HW4:=hQ_ (show Wk w4 gs 0 (.slice none 0 0) [] from ⟨hN4,World.ownsRow_nil _ _ _ _,by simp,by omega,fun b hb => by simp at hb⟩)
 have HG3:=hQ_ hgs
 have HZ4:=hQ_ hsz4
 clear hN4 hal4 hsz4 hgs HC3 HC2 HF2 HU2 HT2 HC1 HF1 HU1
 have HTL:=hQ_ htl
 have hmk : ∀ W : World,(Instr.makeSlice 26 (.int .i64 0) (.int .i64 (tn : Int))).run Tryz.prog W = .ok (.slice (some ⟨W.heap.size,0,none⟩) 0 tn) (W.alloc (.cells (List.replicate tn (.int .i64 0)).toArray 3)):=fun W =>
  jG_ (P:=Tryz.prog) 26 3 i0 _ rfl Tryz.underlying26 hi0 hz0 hz1 tn (by rw [hz2]; omega) (by omega) W
 go_upto_region 12 with fail
 have hM:=zb_.new w4 3 (List.replicate tn (.int .i64 0))
 have hal5 : Chg [] w4 (w4.alloc (.cells (List.replicate tn (.int .i64 0)).toArray 3)):=(Chg.refl [] w4).alloc _
 have HO4:=hQ_ (show (w4.alloc (.cells (List.replicate tn (.int .i64 0)).toArray 3)).ownsRow (gs + 1) 3 1 (.slice (some ⟨w4.heap.size,0,none⟩) 0 tn) 0 (nms []) from by
  have h:=yV_ (n:=0) hM (show gs + 1 ≤ w4.heap.size from by have:=HZ4.out; omega) (by simp) (Nat.zero_le tn) (by unfold maxLen; omega)
  simpa [nms] using h)
 have HW5:=hQ_ (HW4.out.keep hal5)
 have HC5':=hQ_ (HC4.out.new hal5)
 have HC35:=hQ_ (HC34.out.new hal5)
 rw [show (List.replicate tn (Value.int .i64 0)).toArray = Array.replicate tn (Value.int .i64 0) from by simp] at HO4 HW5 HC5' HC35
 generalize w4.heap.size = gm at HO4 ⊢
 generalize w4.alloc (.cells (Array.replicate tn (.int .i64 0)) 3) = w5' at HO4 HW5 HC5' HC35 ⊢
 clear hM hal5 hmk HW4 HC4 HC34
 go_loopw [9,47] (fun v i wr => ∃ (j : Nat) (h : Int) (bs : List BkV) (vo : Value) (out : List Int),i = .int .i64 (j : Int) ∧ j ≤ tn ∧ Hid (Wk wr gs h vo bs) ∧ Hid (wr.ownsRow (gs + 1) 3 1 v j (nms out)) ∧
   Hid (SOk (zp_ (ts.drop j)) (bs.map (·.sign))) ∧ Hid (Bas h bs) ∧ Hid (bs.length ≤ 16) ∧ Hid (R = vu_ l (ts.drop j) h bs out) ∧ Hid (Chg [] w wr) ∧ Hid (Chg [] w3 wr)) (fun _ i _ => tn - (intOf i).toNat)
 case atStart => exact ⟨0,0,[],_,[],rfl,by omega,HW5,HO4,HD,hQ_ ⟨by simp,fun x hx => by simp at hx,fun _ x hx => by simp at hx⟩,hQ_ (by simp),HR3,HC5',HC35⟩
 case round =>
  obtain ⟨j,h,bs,vo,out,rfl,hj,HS,HO,HDR,HBA,HB16,HRW,HC,HCW⟩:=hrel
  obtain ⟨AO,co,rfl,_⟩:=zr_ HO.out
  by_cases hjn : j < tn
  · have hjI : (j : Int) < (tn : Int):=by omega
    obtain ⟨t,htj⟩ : ∃ t,ts[j]? = some t:=⟨ts[j]'(by rw [← HTN.out]; exact hjn),by simp⟩
    have HDJ:=hQ_ (show ts.drop j = t :: ts.drop (j + 1) from List.drop_eq_getElem?_toList_append.trans (by rw [htj]; rfl))
    have HTr:=hQ_ (HT3.out.keep HCW.out)
    obtain ⟨b,o,rfl,hbl,t0,t1,t2⟩:=HTr.out.cell htj
    clear htj
    go_upto_region 14 with fail
    have hal5 : Chg [] wr (wr.alloc (.cells #[.int .i32 t.sign,.int .i64 t.n,.int .i32 t.name] 110)):=(Chg.refl [] wr).alloc _
    have HT5:=hQ_ (zb_.new wr 110 [.int .i32 t.sign,.int .i64 t.n,.int .i32 t.name])
    have HS5:=hQ_ (HS.out.keep hal5)
    have HO5:=hQ_ (zg_ HO.out hal5)
    have HU5:=hQ_ (HU3.out.keep (HCW.out.new hal5))
    have HC5:=hQ_ (HC.out.new hal5)
    have HCW5:=hQ_ (HCW.out.new hal5)
    obtain ⟨gt,hgt⟩ : ∃ g,g = wr.heap.size:=⟨_,rfl⟩
    rw [← hgt] at HT5 ⊢
    generalize wr.alloc (.cells #[.int .i32 t.sign,.int .i64 t.n,.int .i32 t.name] 110) = w5 at hal5 HT5 HS5 HO5 HU5 HC5 HCW5 ⊢
    clear hal5 hgt t0 t1 t2 hbl HTr HC HCW HO HS
    have c0:=HS5.out.rec_.cell 0
    have HAL:=hQ_ (show Chg [] w5 (w5.alloc (.cells #[.int .i64 h] 3)) from (Chg.refl [] w5).alloc _)
    have HO6:=hQ_ (zg_ HO5.out HAL.out)
    have HRM:=hQ_ (show gs + 1 ≤ (w5.alloc (.cells #[.int .i64 h] 3)).heap.size from by have:=HAL.out.size; have:=HS5.out.rec_.lt; omega)
    have hjb:=HTL.out
    clear htl
    have HDD:=hQ_ (show zgc t.sign (bs.map (·.sign)) ∧ SOk (zp_ (ts.drop (j + 1))) (vs_ t.sign (bs.map (·.sign))) from by have:=HDR.out; rw [HDJ.out] at this; exact this)
    obtain ⟨RT,hRT⟩ : ∃ RT,RT = vc_ l h bs t.sign t.name:=⟨_,rfl⟩
    have HRW2:=hQ_ (show R = if RT.1 = 0 then vu_ l (ts.drop (j + 1)) RT.2.1 RT.2.2 (out ++ [h]) else (RT.1,[]) from by rw [HRW.out,HDJ.out,xz_,hRT])
    have HLN:=hQ_ (show RT.1 = 0 → Bas RT.2.1 RT.2.2 ∧ RT.2.2.map (·.sign) = vs_ t.sign (bs.map (·.sign)) from fun he => by rw [hRT] at he ⊢; exact zeC HBA.out (fun x hx => (HS5.out.rb x hx).1) HS5.out.hr he)
    have HRT:=hQ_ hRT
    clear hRT
    go_wp2_with (
     at_builtin
     refine wpList_append_own _ rfl (.tmp 51) (.tmp 54) _ rfl (gs + 1) 3 i0 _ 1 8 Tryz.underlying26 hi0 hz0 hz1 hz2 rfl (by decide) (.slice AO j co) j (nms out) rfl HO6.out ⟨w5.heap.size,0,none⟩ 1 1 [.int .i64 h] rfl rfl (zo_ _ _ _) (by simp [Value.oneCell']) (by simp only [maxLen]; omega) (by omega) HRM.out ?_
     intro v' w6 ho6 hg6 _
     obtain ⟨A6,c6,rfl,_⟩:=zr_ ho6
     have HO7:=hQ_ ho6
     have HG7:=hQ_ hg6
     have HU6:=hQ_ (zh_ (HU5.out.keep HAL.out) HO6.out (by decide) hg6)
     have HT6:=hQ_ (zh_ (HT5.out.keep HAL.out) HO6.out (by decide) hg6)
     have HC6:=hQ_ (show Chg [] w w6 from zM_ (HC5.out.new HAL.out) hg6 (fun g hg => by have:=(HO6.out.lt g hg).1; have:=HGS.out; omega))
     have HCW6:=hQ_ (show Chg [] w3 w6 from zM_ (HCW5.out.new HAL.out) hg6 (fun g hg => by have:=(HO6.out.lt g hg).1; have:=HG3.out; omega))
     have HS7:=hQ_ (show Wk w6 gs h vo bs from ⟨zh_ (HS5.out.keep HAL.out).rec_ HO6.out (by decide) HG7.out,yP_ (HS5.out.keep HAL.out).own HO6.out (by decide) HG7.out,HS5.out.few,HS5.out.hr,HS5.out.rb⟩)
     have u0:=HU6.out.cell 0
     have u1:=HU6.out.cell 1
     have u2:=HU6.out.cell 2
     have t0:=HT6.out.cell 0
     have t1:=HT6.out.cell 1
     have t2:=HT6.out.cell 2
     clear ho6 hg6)
    have HTK:=hQ_ (zaM (pages:=pages) (most:=most) HS7.out (HF3.out.keep HCW6.out) t HBA.out (zdc HDD.out.1) (by have:=HB16.out; omega))
    rw [← HRT.out] at HTK
    refine HTK.out.mono ?_
    rintro e w7 ⟨hfr,rfl,hS8⟩
    have HC7:=hQ_ (show Chg [] w w7 from ((Fr.of_chg HC6.out).trans (hfr.sub HGS.out (fun _ h => h))).chg (Nat.le_refl _))
    have HCW7:=hQ_ (show Chg [] w3 w7 from ((Fr.of_chg HCW6.out).trans (hfr.sub (show w3.heap.size ≤ gs from by have:=HG3.out; omega) (fun _ h => h))).chg (Nat.le_refl _))
    have HO8:=hQ_ (hfr.own HO7.out (by decide))
    have HU8:=hQ_ (hfr.whole' HU6.out (by decide))
    clear hfr u0 u1 u2 t0 t1 t2 c0
    by_cases her : RT.1 = 0
    · obtain ⟨vo8,hS9⟩:=hS8 her
      have HS9:=hQ_ hS9
      have HR9:=hQ_ (HRW2.out.trans (if_pos her))
      have HD9:=hQ_ (show SOk (zp_ (ts.drop (j + 1))) (RT.2.2.map (·.sign)) from by rw [(HLN.out her).2]; exact HDD.out.2)
      have HBA9:=hQ_ (HLN.out her).1
      have HB9:=hQ_ (show RT.2.2.length ≤ 16 from by
       have h1:=congrArg List.length (HLN.out her).2
       rw [List.length_map] at h1
       rw [h1]
       have h2:=HDD.out.1
       have h3:=HB16.out
       unfold vs_
       split
       · rename_i hs; have:=h2.2.2.2.2 hs; simp at this ⊢; omega
       · split
         · rename_i hs
           obtain ⟨y,hy⟩:=h2.1 hs
           have h4:=congrArg List.length hy
           simp at h4 ⊢
           omega
         · split
           · simp; omega
           · simp; exact h3)
      rw [her]
      clear hS8 hS9 her
      go_wp2_with fail
      go_roundw
      case rel => exact ⟨j + 1,RT.2.1,RT.2.2,vo8,out ++ [h],by go_num,by omega,HS9,hQ_ (by have:=HO8.out; simpa [nms] using this),HD9,HBA9,HB9,HR9,HC7,HCW7⟩
      case measure => simp [intOf]; omega
    · have qe : (RT.1 != 0) = true:=by simpa using her
      have HP:=hQ_ (show yC_ R w (.returned (.tuple #[.slice none 0 0,.int .i64 RT.1])) w7 from uv_ _ (HRW2.out.trans (if_neg her)) HC7.out)
      clear hS8 her
      go_wp2_with fail
      go_ret2
      exact HP.out
  · have hjI : (tn : Int) ≤ (j : Int):=by omega
    have HRZ:=hQ_ (show R = if h ≠ 1 ∧ 0 ≤ h then (14,[]) else (0,out) from by rw [HRW.out,List.drop_eq_nil_of_le (by rw [← HTN.out]; omega),vu_])
    have c0:=HS.out.rec_.cell 0
    have hhr:=HS.out.hr
    have HOW:=hQ_ (z1_ HO.out (show w.heap.size ≤ gs + 1 from by have:=HGS.out; omega))
    have HJO:=hQ_ (show j = out.length from by have:=HO.out.1; simpa [nms] using this.symm)
    by_cases h1 : h = 1
    · have q1 : (h != 1) = false:=by simpa using h1
      have q2 : (h != -1) = true:=by simp; omega
      have HP:=hQ_ (show yC_ R w (.returned (.tuple #[.slice AO j co,.int .i64 0])) wr from by
       rw [HRZ.out,if_neg (by omega)]
       exact ⟨_,rfl,by rw [← HJO.out]; exact HOW.out,HC.out⟩)
      clear h1
      go_wp2_with fail
      go_ret2
      exact HP.out
    · have q1 : (h != 1) = true:=by simpa using h1
      by_cases h0 : 0 ≤ h
      · have q0 : (h != -1) = true:=by simp; omega
        have HP:=hQ_ (show yC_ R w (.returned (.tuple #[.slice none 0 0,.int .i64 14])) wr from uv_ 14 (by rw [HRZ.out,if_pos ⟨h1,h0⟩]) HC.out)
        clear h1 h0
        go_wp2_with fail
        go_ret2
        exact HP.out
      · have q0 : (h != -1) = false:=by simp; omega
        have HP:=hQ_ (show yC_ R w (.returned (.tuple #[.slice AO j co,.int .i64 0])) wr from by
         rw [HRZ.out,if_neg (by omega)]
         exact ⟨_,rfl,by rw [← HJO.out]; exact HOW.out,HC.out⟩)
        clear h1 h0
        go_wp2_with fail
        go_ret2
        exact HP.out
end
end Go.Proofs.YtbkfhndmeljlcaaGreatDoor
namespace Go.Proofs.YtbkfhndmeljlcaaGreatDoor
open Go.RowKit
open Go.Lib
def jD_ (s : ByteArray) : List TkV:=(xX_ s).getD []
def txC (s : ByteArray) : List UInt8:=txB false (jD_ s)
def x4_ (l : List FnV) : List FnV → Nat → Bool
  | [],_ => true
  | f :: r,k => (zW_ f.name && (xD_ l f.name == (k : Int)) && decide (0 ≤ f.args) && decide (f.args ≤ 4)) && x4_ l r (k + 1)
def xh_ (l : List FnV) : Nat → Nat → Int
  | 0,_ => 0
  | q + 1,k => if (rFn l (k : Int)).1 = 0 then xh_ l q (k + 1) else (rFn l (k : Int)).1
def zJ_ (pages most : Int) (l : List FnV) : Int :=
 if pages < 0 ∨ most < pages ∨ 64 < most then 25
 else if 32 < l.length then 3
 else if x4_ l l 0 = true then xh_ l l.length 0 else 12
def utF (f : FnV) : List UInt8:=encodeRune f.name ++ (decDigits f.args.toNat ++ (32 :: (txC f.code ++ [10])))
def qR_ : List FnV → List UInt8
  | [] => []
  | f :: l => utF f ++ qR_ l
def utx (pages most : Int) (l : List FnV) : List UInt8:=117 :: 110 :: 105 :: 116 :: 32 :: (decDigits pages.toNat ++ (32 :: (decDigits most.toNat ++ (10 :: qR_ l))))
def zS_ (pages most : Int) (l : List FnV) : List UInt8 × Int :=
 if zJ_ pages most l = 0 then (if 2048 < (utx pages most l).length then ([],3) else (utx pages most l,0)) else ([],zJ_ pages most l)
def zB_ : List UInt8 → List UInt8 → List (List UInt8) × List UInt8
  | [],acc => ([],acc)
  | b :: t,acc => if b = 10 then (acc :: (zB_ t []).1,(zB_ t []).2) else zB_ t (acc ++ [b])
def uj_ : List UInt8 → Nat → Option Nat
  | [],n => some n
  | b :: t,n => if 48 ≤ b.toNat ∧ b.toNat ≤ 57 then (if (9223372036854775807 - (b.toNat - 48)) / 10 < n then none else uj_ t (n * 10 + (b.toNat - 48))) else none
def ux_ (s : List UInt8) : Option Nat:=if s = [] ∨ (1 < s.length ∧ s.getD 0 0 = 48) then none else uj_ s 0
def xx_ : List UInt8 → Option (List UInt8 × List UInt8)
  | [] => none
  | b :: t => if b = 32 then some ([],t) else (xx_ t).map fun p => (b :: p.1,p.2)
def xP_ (s : List UInt8) : Option (Nat × Nat) :=
 if s.take 5 = [117,110,105,116,32] then (match xx_ (s.drop 5) with
   | none => none
   | some (a,b) => match ux_ a,ux_ b with
     | some x,some y => some (x,y)
     | _,_ => none) else none
def xW_ (s : List UInt8) : Option FnV :=
 match s.drop (Utf8.decode ⟨s.toArray⟩ 0).2 with
 | x :: y :: code => if s ≠ [] ∧ 48 ≤ x.toNat ∧ x.toNat ≤ 57 ∧ y = 32 then some ⟨((Utf8.decode ⟨s.toArray⟩ 0).1 : Int),((x.toNat - 48 : Nat) : Int),⟨code.toArray⟩⟩ else none
 | _ => none
def z5_ : List (List UInt8) → Option (List FnV)
  | [] => some []
  | s :: l => match xW_ s with
    | none => none
    | some f => (z5_ l).map (f :: ·)
def yu_ (s : List UInt8) : Option (Nat × Nat × List FnV) :=
 match (zB_ s []).1 with
 | [] => none
 | a :: l => if (zB_ s []).2 = [] then (match xP_ a with
   | none => none
   | some (p,m) => (z5_ l).map fun fs => (p,m,fs)) else none
def zK_ (s : List UInt8) : Int × Int × Int × List FnV :=
 if 2048 < s.length then (3,0,0,[])
 else match yu_ s with
   | none => (12,0,0,[])
   | some (p,m,l) => if zJ_ p m l = 0 then (if (zS_ p m l).1 = s then (0,(p : Int),(m : Int),l) else (12,0,0,[])) else (zJ_ p m l,0,0,[])
/- What was written is right. -/
theorem zaV {s : ByteArray} {ts : List TkV} (h : xX_ s = some ts) : xX_ ⟨(txC s).toArray⟩ = some ts ∧ (txC s).length ≤ s.size:=by
 have hs : ¬ 512 < s.size:=by
  intro hh
  unfold xX_ at h
  rw [if_pos hh] at h
  cases h
 have hr:=jk_ s hs
 rw [h] at hr
 have e : txC s = txB false ts:=by unfold txC jD_; rw [h]; rfl
 have hlen:=zfz hr.symm
 have hok:=qI_ _ hr.symm (fun t ht => by simp at ht) trivial
 rw [e]
 refine ⟨?_,hlen⟩
 rw [jk_ _ (by rw [xk_]; omega)]
 exact zfy ts hok
theorem zfD {l : List FnV} {k : Nat} {f : FnV} (hk : l[k]? = some f) : rFn l (k : Int) = vv_ l f.code:=by
 have hl:=(List.getElem?_eq_some_iff.1 hk).1
 unfold rFn
 rw [if_neg (by omega),show ((k : Int)).toNat = k from rfl,hk]
theorem jl_ {l : List FnV} : ∀ (q k : Nat),xh_ l q k = 0 ↔ ∀ j,k ≤ j → j < k + q → (rFn l (j : Int)).1 = 0
  | 0,k => by rw [xh_]; exact ⟨fun _ j h1 h2 => by omega,fun _ => rfl⟩
  | q + 1,k => by
    rw [xh_]
    by_cases h : (rFn l (k : Int)).1 = 0
    · rw [if_pos h,jl_ q (k + 1)]
      refine ⟨fun hh j h1 h2 => ?_,fun hh j h1 h2 => hh j (by omega) (by omega)⟩
      by_cases e : j = k
      · rw [e]; exact h
      · exact hh j (by omega) (by omega)
    · rw [if_neg h]
      exact ⟨fun hh => absurd hh h,fun hh => absurd (hh k (by omega) (by omega)) h⟩
structure RightF (pages most : Int) (l : List FnV) : Prop where
  p0 : 0 ≤ pages
  pm : pages ≤ most
  m64 : most ≤ 64
  few : l.length ≤ 32
  name : x4_ l l 0 = true
  ok : ∀ k : Nat,k < l.length → (rFn l (k : Int)).1 = 0
theorem vI_ {pages most : Int} {l : List FnV} : zJ_ pages most l = 0 ↔ RightF pages most l:=by
 unfold zJ_
 constructor
 · intro h
   split at h
   · omega
   · split at h
     · omega
     · split at h
       · rename_i h1 h2 h3
         exact ⟨by omega,by omega,by omega,by omega,h3,fun k hk => (jl_ _ _).1 h k (by omega) (by omega)⟩
       · omega
 · rintro ⟨h1,h2,h3,h4,h5,h6⟩
   rw [if_neg (by omega),if_neg (by omega),if_pos h5,jl_]
   exact fun j _ h => h6 j (by omega)
theorem ga_ {l : List FnV} : ∀ {r : List FnV} {k : Nat},x4_ l r k = true → ∀ (j : Nat) (f : FnV),r[j]? = some f → zW_ f.name = true ∧ xD_ l f.name = ((k + j : Nat) : Int) ∧ 0 ≤ f.args ∧ f.args ≤ 4
  | [],_,_,j,f,hj => by simp at hj
  | g :: r,k,h,j,f,hj => by
    rw [x4_] at h
    simp only [Bool.and_eq_true,decide_eq_true_eq,beq_iff_eq] at h
    cases j with
    | zero => simp at hj; subst hj; exact ⟨h.1.1.1.1,h.1.1.1.2,h.1.1.2,h.1.2⟩
    | succ j =>
      have:=ga_ h.2 j f (by simpa using hj)
      rw [show k + (j + 1) = k + 1 + j from by omega]
      exact this
theorem RightF.fn {pages most : Int} {l : List FnV} (h : RightF pages most l) {k : Nat} {f : FnV} (hk : l[k]? = some f) : zW_ f.name = true ∧ xD_ l f.name = (k : Int) ∧ 0 ≤ f.args ∧ f.args ≤ 4:=by
 have:=ga_ h.name k f hk
 rw [Nat.zero_add] at this
 exact this
theorem RightF.tok {pages most : Int} {l : List FnV} (h : RightF pages most l) {f : FnV} (hf : f ∈ l) : ∃ ts,xX_ f.code = some ts:=by
 obtain ⟨k,hk,e⟩:=List.getElem_of_mem hf
 have h1 : l[k]? = some f:=by rw [List.getElem?_eq_getElem hk,e]
 have:=h.ok k hk
 rw [zfD h1] at this
 unfold vv_ at this
 cases ht : xX_ f.code with
 | none =>
   rw [ht] at this
   simp only at this
   unfold k1_ at this
   split at this <;> omega
 | some ts => exact ⟨ts,rfl⟩
/- Bytes that are no end of a line, and no blank. -/
theorem u8_ne {b c : UInt8} (h : b.toNat ≠ c.toNat) : b ≠ c:=fun e => h (by rw [e])
theorem qg_ : ∀ (a b : List UInt8),(∀ x ∈ a,x ≠ 32) → xx_ (a ++ 32 :: b) = some (a,b)
  | [],b,_ => by rw [List.nil_append,xx_,if_pos rfl]
  | x :: a,b,h => by
    rw [List.cons_append,xx_,if_neg (h x (by simp)),qg_ a b (fun y hy => h y (by simp [hy]))]
    rfl
end Go.Proofs.YtbkfhndmeljlcaaGreatDoor
namespace Go.Proofs.YtbkfhndmeljlcaaGreatDoor
open Go.RowKit
open Go.Lib (decDigits encodeRune)
theorem zcz (r : Int) : Utf8.encode r = zc_ (encodeRune r):=by
 unfold zc_ encodeRune
 by_cases hv : okR r
 · have hc : (0 ≤ r ∧ r ≤ 127) ∨ (128 ≤ r ∧ r ≤ 2047) ∨ ((2048 ≤ r ∧ r < 55296) ∨ (57343 < r ∧ r ≤ 65535)) ∨ (65536 ≤ r ∧ r ≤ 1114111):=by unfold okR at hv; omega
   have hval : Utf8.valid r = true:=by unfold Utf8.valid; unfold okR at hv; simp; omega
   unfold Utf8.encode
   simp only [hval,if_true]
   have b : ∀ (z : Int) (n : Nat),z = (n : Int) → z.toNat.toUInt8 = UInt8.ofNat n:=fun z n h => by subst h; rfl
   rcases hc with h | h | h | h
   · rw [if_pos (by omega),Lib.encodeRuneZ_one h.1 h.2]
     simp only [List.map_cons,List.map_nil]
   · rw [if_neg (by omega),if_pos (by omega),Lib.encodeRuneZ_two h.1 h.2]
     simp only [List.map_cons,List.map_nil]
     rw [b (192 + r / 64) (0xC0 + r.toNat / 64) (by omega),b (128 + r % 64) (0x80 + r.toNat % 64) (by omega)]
   · rw [if_neg (by omega),if_neg (by omega),if_pos (by omega),Lib.encodeRuneZ_three h]
     simp only [List.map_cons,List.map_nil]
     rw [b (224 + r / 4096) (0xE0 + r.toNat / 4096) (by omega),b (128 + r / 64 % 64) (0x80 + r.toNat / 64 % 64) (by omega),b (128 + r % 64) (0x80 + r.toNat % 64) (by omega)]
   · rw [if_neg (by omega),if_neg (by omega),if_neg (by omega),Lib.encodeRuneZ_four h.1 h.2]
     simp only [List.map_cons,List.map_nil]
     rw [b (240 + r / 262144) (0xF0 + r.toNat / 262144) (by omega),b (128 + r / 4096 % 64) (0x80 + r.toNat / 4096 % 64) (by omega),b (128 + r / 64 % 64) (0x80 + r.toNat / 64 % 64) (by omega),b (128 + r % 64) (0x80 + r.toNat % 64) (by omega)]
 · have hval : Utf8.valid r = false:=by
    unfold Utf8.valid
    unfold okR at hv
    simp
    omega
   unfold Utf8.encode
   rw [Lib.encodeRuneZ_bad (by unfold okR at hv; omega)]
   simp only [hval,Bool.false_eq_true,if_false,Utf8.runeError]
   rfl
theorem zbb (a b : List UInt8) : zc_ a ++ zc_ b = zc_ (a ++ b):=by
 apply ByteArray.ext
 simp [zc_,ByteArray.data_append]
theorem zy_ (a : List UInt8) : (zc_ a).size = a.length:=by
 show a.toArray.size = _
 simp
theorem yb_ (a b : List UInt8) (h : a.length + b.length ≤ 1000000) (W : World) : (Op.stringOp .add (zc_ a) (zc_ b)).run Tryz.prog W = .ok (.string (zc_ (a ++ b))) W:=by
 rw [← zbb]
 exact run_string_add_sum _ _ _ (by rw [zy_,zy_]; omega)
theorem xc_ (a : List UInt8) (r : Int) (h : a.length ≤ 900000) (W : World) : (Op.stringOp .add (zc_ a) (Utf8.encode r)).run Tryz.prog W = .ok (.string (zc_ (a ++ encodeRune r))) W:=by
 rw [zcz]
 exact yb_ _ _ (by have:=(Lib.encodeRuneZ_length r).2; unfold encodeRune; rw [List.length_map]; omega) W
theorem qt_ (a : List UInt8) (r : Int) (h : a.length ≤ 900000) (W : World) : (Op.stringOp .add (Utf8.encode r) (zc_ a)).run Tryz.prog W = .ok (.string (zc_ (encodeRune r ++ a))) W:=by
 rw [zcz]
 exact yb_ _ _ (by have:=(Lib.encodeRuneZ_length r).2; unfold encodeRune; rw [List.length_map]; omega) W
theorem qM_ (r : Nat) (h : r < 10) : encodeRune (48 + (r : Int)) = [UInt8.ofNat (48 + r)]:=by
 unfold encodeRune
 rw [Lib.encodeRuneZ_one (by omega) (by omega)]
 simp only [List.map_cons,List.map_nil]
 rw [show (48 + (r : Int)).toNat = 48 + r from by omega]
def zfj (m : Nat) : List UInt8:=if m = 0 then [] else decDigits m
theorem zcD (m : Nat) (h : 0 < m) : zfj m = zfj (m / 10) ++ [UInt8.ofNat (48 + m % 10)]:=by
 unfold zfj
 rw [if_neg (by omega)]
 by_cases h10 : m < 10
 · rw [if_pos (by omega),Lib.decDigits_one h10,show m % 10 = m from by omega,List.nil_append]
 · rw [if_neg (by omega),decDigits,dif_neg h10]
theorem ki_ (m : Nat) (h : m ≤ 9223372036854775807) : (decDigits m).length ≤ 19:=by
 have key : ∀ (k m : Nat),m < 10 ^ (k + 1) → (decDigits m).length ≤ k + 1:=by
  intro k
  induction k with
  | zero => intro m hm; rw [Lib.decDigits_one (by omega)]; simp
  | succ k ih =>
    intro m hm
    by_cases h10 : m < 10
    · rw [Lib.decDigits_one h10]; simp
    · rw [decDigits,dif_neg h10,List.length_append]
      have:=ih (m / 10) (by rw [Nat.pow_succ] at hm; omega)
      simp; omega
 exact key 18 m (by omega)
theorem qw_ (z : Int) (hz : z ≤ 9223372036854775807) (w : World) : Calls Tryz.prog 79 #[.int .i64 z] w fun e w' => e = .returned (.string (zc_ (decDigits z.toNat))) ∧ w = w':=by
 by_cases h0 : z ≤ 0
 · have HE:=hQ_ (show decDigits z.toNat = [48] from by rw [show z.toNat = 0 from by omega,Lib.decDigits_one (by omega)]; rfl)
   go_enter Tryz.func79,Tryz.ntmps79
   go_wp2_with fail
   go_ret
   exact ⟨by rw [HE.out]; rfl,rfl⟩
 · obtain ⟨N,rfl⟩ : ∃ N : Nat,z = (N : Int):=⟨z.toNat,by omega⟩
   have hN : 0 < N:=by omega
   have HNB:=hQ_ (ki_ N (by omega))
   have HE:=hQ_ (show zfj N = decDigits ((N : Int)).toNat from by unfold zfj; rw [if_neg (by omega)]; rfl)
   obtain ⟨D,hD⟩ : ∃ D,D = decDigits ((N : Int)).toNat:=⟨_,rfl⟩
   rw [← hD] at HE ⊢
   have HDL:=hQ_ (show D.length ≤ 19 from by rw [hD]; exact HNB.out)
   clear hD HNB
   go_enter Tryz.func79,Tryz.ntmps79
   go_wp2_with fail
   go_loop [0,3] (fun x s => ∃ (m : Nat) (out : List UInt8),x = .int .i64 (m : Int) ∧ s = .string (zc_ out) ∧ m ≤ N ∧ Hid (zfj m ++ out = D)) (fun x _ => (intOf x).toNat)
   case atStart => exact ⟨N,[],rfl,rfl,Nat.le_refl _,hQ_ (by rw [List.append_nil]; exact HE.out)⟩
   case round =>
    obtain ⟨m,out,rfl,rfl,hm,HX⟩:=hrel
    by_cases hm0 : 0 < m
    · have hmI : (0 : Int) < (m : Int):=by omega
      have hq : (m : Int).tdiv 10 = ((m / 10 : Nat) : Int):=rfl
      have hr : (m : Int).tmod 10 = ((m % 10 : Nat) : Int):=rfl
      have HX2:=hQ_ (show zfj (m / 10) ++ (UInt8.ofNat (48 + m % 10) :: out) = D from by
       rw [← HX.out,zcD m hm0]; simp)
      have hol : out.length ≤ 19:=by have:=HDL.out; rw [← HX.out,List.length_append] at this; omega
      have hr9 : m % 10 < 10:=by omega
      have hqm : m / 10 < m:=by omega
      generalize m % 10 = r at hr HX2 hr9
      generalize m / 10 = q at hq HX2 hqm
      have hadd:=qt_ out (48 + (r : Int)) (by omega)
      rw [qM_ r hr9] at hadd
      generalize UInt8.ofNat (48 + r) = c at hadd HX2
      clear hm0
      go_wp2_with fail
      go_round
      case rel => exact ⟨q,_,rfl,rfl,by omega,HX2⟩
      case measure => simp [intOf]; omega
    · have hmI : ¬ (0 : Int) < (m : Int):=by omega
      have HX2:=hQ_ (show out = D from by
       have:=HX.out
       rw [show m = 0 from by omega] at this
       exact this)
      go_wp2_with fail
      go_ret
      exact ⟨by rw [← HX2.out]; rfl,rfl⟩
end Go.Proofs.YtbkfhndmeljlcaaGreatDoor
namespace Go.Proofs.YtbkfhndmeljlcaaGreatDoor
open Go.RowKit
theorem yi_ (l : List UInt8) : (zc_ l).data.toList = l:=by simp [zc_]
theorem ys_ (l : List UInt8) (a b : Nat) : (zc_ l).extract a b = zc_ ((l.drop a).take (b - a)):=by
 apply ByteArray.ext
 rw [ByteArray.data_extract]
 apply Array.toList_inj.1
 rw [Array.toList_extract]
 simp [zc_,List.extract]
theorem zcI : ∀ l : List UInt8,Lib.indexByte l 32 = (match xx_ l with | none => -1 | some (a,_) => (a.length : Int))
  | [] => rfl
  | b :: l => by
    rw [Lib.indexByte,xx_,zcI l]
    by_cases h : b = 32
    · subst h
      simp
    · rw [if_neg (by simpa using h),if_neg h]
      cases xx_ l with
      | none => rfl
      | some p =>
        obtain ⟨x,y⟩:=p
        simp only [Option.map_some,List.length_cons]
        rw [if_neg (by simp)]
        simp
theorem uK_ : ∀ {l a b : List UInt8},xx_ l = some (a,b) → a = l.take a.length ∧ b = l.drop (a.length + 1) ∧ a.length < l.length
  | [],a,b,h => by simp [xx_] at h
  | x :: l,a,b,h => by
    rw [xx_] at h
    by_cases hx : x = 32
    · rw [if_pos hx] at h
      injection h with h
      injection h with h1 h2
      subst h1 h2
      simp
    · rw [if_neg hx] at h
      cases hc : xx_ l with
      | none => rw [hc] at h; simp at h
      | some p =>
        obtain ⟨y,z⟩:=p
        rw [hc] at h
        simp only [Option.map_some,Option.some.injEq,Prod.mk.injEq] at h
        obtain ⟨rfl,rfl⟩:=h
        obtain ⟨h1,h2,h3⟩:=uK_ hc
        refine ⟨?_,?_,by simp; omega⟩
        · rw [List.length_cons,List.take_succ_cons,← h1]
        · rw [List.length_cons,List.drop_succ_cons,← h2]
def zej (l : List UInt8) : Value:=match xx_ l with
  | some (a,b) => .tuple #[.string (zc_ a),.string (zc_ b),.bool true]
  | none => .tuple #[.string (zc_ l),.string (zc_ []),.bool false]
def ui_ (l : List UInt8) (w : World) (e : Ending) (w' : World) : Prop:=e = .returned (zej l) ∧ Chg [] w w'
section
variable {w : World}
theorem qB_ (l : List UInt8) (hl : l.length ≤ 1000000) : Calls Tryz.prog 127 #[.string (zc_ l),.string ⟨#[32]⟩] w (ui_ l w):=by
 have HX:=hQ_ (Tryz.stringslite_Index_one (zc_ l) 32 w)
 rw [yi_,zcI] at HX
 obtain ⟨V,hV⟩ : ∃ V,V = zej l:=⟨_,rfl⟩
 unfold ui_
 rw [← hV]
 unfold zej at hV
 cases hc : xx_ l with
 | none =>
   rw [hc] at HX hV
   simp only at HX hV
   have HV:=hQ_ hV
   clear hV hc
   go_enter Tryz.func127,Tryz.ntmps127
   go_wp2_with (go_at_call 139; refine HX.out.mono ?_; rintro e w1 ⟨rfl,rfl⟩)
   go_ret3
   exact ⟨by rw [HV.out]; rfl,Chg.refl _ _⟩
 | some p =>
   obtain ⟨a,b⟩:=p
   rw [hc] at HX hV
   simp only at HX hV
   obtain ⟨h1,h2,h3⟩:=uK_ hc
   have HV:=hQ_ hV
   have e1 : (zc_ l).extract 0 a.length = zc_ a:=by rw [ys_,List.drop_zero,Nat.sub_zero,← h1]
   have e2 : (zc_ l).extract (a.length + 1) (zc_ l).size = zc_ b:=by
    rw [ys_,zy_,List.take_of_length_le (by rw [List.length_drop]; omega),← h2]
   have hsz:=zy_ l
   have HE:=hQ_ (And.intro e1 e2)
   clear hV hc h1 h2
   obtain ⟨n,hn⟩ : ∃ n,n = a.length:=⟨_,rfl⟩
   rw [← hn] at HX h3 HE
   obtain ⟨N,hN⟩ : ∃ N,N = l.length:=⟨_,rfl⟩
   rw [← hN] at hsz h3 hl
   clear hn hN e1 e2
   generalize zc_ l = S at *
   have c1 : (0 : Int) ≤ (n : Int):=by omega
   have c2 : (n : Int) ≤ (S.size : Int):=by omega
   have c3 : (0 : Int) ≤ (n : Int) + 1:=by omega
   have c4 : (n : Int) + 1 ≤ (S.size : Int):=by omega
   have HSZ:=hQ_ hsz
   clear hsz
   go_enter Tryz.func127,Tryz.ntmps127
   go_wp2_with (go_at_call 139; refine HX.out.mono ?_; rintro e w1 ⟨rfl,rfl⟩)
   have HD:=hQ_ ((Chg.refl [] w1).drew)
   go_region
   all_goals go_wp2_with fail
   all_goals go_ret3
   all_goals exact ⟨by rw [HV.out,← HE.out.1,← HE.out.2]; rfl,HD.out⟩
theorem qN_ (l : List UInt8) (hl : l.length ≤ 1000000) : Calls Tryz.prog 115 #[.string (zc_ l),.string ⟨#[32]⟩] w (ui_ l w):=by
 have HX:=hQ_ (qB_ (w:=w) l hl)
 obtain ⟨V,hV⟩ : ∃ V,V = zej l:=⟨_,rfl⟩
 unfold ui_ at HX ⊢
 rw [← hV] at HX ⊢
 obtain ⟨x,y,z,hxyz⟩ : ∃ x y z,V = .tuple #[.string x,.string y,.bool z]:=by
  rw [hV]; unfold zej; split <;> exact ⟨_,_,_,rfl⟩
 clear hV
 subst hxyz
 go_enter Tryz.func115,Tryz.ntmps115
 go_wp2_with (go_at_call 127; refine HX.out.mono ?_; rintro e w1 ⟨rfl,hc1⟩; have HC1:=hQ_ hc1; clear hc1)
 go_ret3
 exact ⟨rfl,HC1.out⟩
end
end Go.Proofs.YtbkfhndmeljlcaaGreatDoor
