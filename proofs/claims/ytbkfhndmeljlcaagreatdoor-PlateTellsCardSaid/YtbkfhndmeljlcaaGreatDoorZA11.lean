import Derived.Test.YtbkfhndmeljlcaaGreatDoorZA10
import Derived.Deep.CutBlock
set_option maxRecDepth 100000
set_option maxHeartbeats 16000000
namespace Go.Proofs.YtbkfhndmeljlcaaGreatDoor
open Go.RowKit
def nmL : List Int:=[102,103,945,104,19990]
def qn_ (w : World) (e : Ending) (w' : World) : Prop:=e = .returned (.slice (some ⟨w.heap.size,0,none⟩) 5 5) ∧ w' = w.alloc (.cells #[.int .i32 102,.int .i32 103,.int .i32 945,.int .i32 104,.int .i32 19990] 21)
theorem jW_ (w : World) : Calls Tryz.prog 34 #[] w (qn_ w):=by
 have HP:=hQ_ (show qn_ w (.returned (.slice (some ⟨w.heap.size,0,none⟩) 5 5)) (w.alloc (.cells #[.int .i32 102,.int .i32 103,.int .i32 945,.int .i32 104,.int .i32 19990] 21)) from ⟨rfl,rfl⟩)
 go_enter Tryz.func34,Tryz.ntmps34
 go_wp2_with fail
 go_ret
 exact HP.out
structure GoodU (l : List FnV) : Prop where
  lo : l.length ≤ 3
  fn : ∀ i f,l[i]? = some f → nmL[i]? = some f.name ∧ 0 ≤ f.args ∧ f.args ≤ 2 ∧ f.code.size ≤ 1000 ∧ (vv_ (l.take (i + 1)) f.code).1 = 0
def zft : ByteArray:=⟨#[97,32,49,43]⟩
theorem zdy : xX_ zft = some [⟨97,0,0⟩,⟨48,1,0⟩,⟨43,0,0⟩]:=by rfl
theorem zeQ (l : List FnV) : (vv_ l zft).1 = 0:=by
 unfold vv_
 rw [zdy]
 simp only
 rw [show yU_ (zp_ [⟨97,0,0⟩,⟨48,1,0⟩,⟨43,0,0⟩]) = some ([-1,-1,-1],0) from by decide +kernel]
 simp only
 rw [xz_,show vc_ l 0 [] (TkV.mk 97 0 0).sign (TkV.mk 97 0 0).name = (0,1,[]) from rfl]
 rw [if_pos rfl,xz_,show vc_ l 1 [] (TkV.mk 48 1 0).sign (TkV.mk 48 1 0).name = (0,2,[]) from rfl]
 rw [if_pos rfl,xz_,show vc_ l 2 [] (TkV.mk 43 0 0).sign (TkV.mk 43 0 0).name = (0,1,[]) from rfl]
 rfl
theorem GoodU.nil : GoodU []:=⟨by simp,fun i f h => by simp at h⟩
theorem GoodU.more {l : List FnV} {f : FnV} (h : GoodU l) (hk : l.length < 3) (h1 : nmL[l.length]? = some f.name) (h2 : 0 ≤ f.args ∧ f.args ≤ 2) (h3 : f.code.size ≤ 1000) (h4 : (vv_ (l ++ [f]) f.code).1 = 0) : GoodU (l ++ [f]):=by
 refine ⟨by simp; omega,fun i g hg => ?_⟩
 by_cases hi : i < l.length
 · rw [List.getElem?_append_left hi] at hg
   rw [List.take_append_of_le_length (by omega)]
   exact h.fn i g hg
 · have hil : i < (l ++ [f]).length:=(List.getElem?_eq_some_iff.1 hg).1
   simp at hil
   have : i = l.length:=by omega
   subst this
   simp at hg
   subst hg
   rw [List.take_of_length_le (by simp)]
   exact ⟨h1,h2.1,h2.2,h3,h4⟩
def jx_ (w : World) (e : Ending) (w' : World) : Prop :=
 ∃ (pg ms : Int) (v : Value) (l : List FnV),e = .returned (.agg #[.int .i64 pg,.int .i64 ms,v]) ∧ 0 ≤ pg ∧ pg ≤ 2 ∧ pg + 1 ≤ ms ∧ ms ≤ pg + 3 ∧ w'.ownsRow w.heap.size 58 3 v l.length (yx_ l) ∧ GoodU l ∧ 0 < l.length ∧ Chg [] w w'
section
variable {w : World} {A : Option Addr} {n c : Nat} {l : List Int}
theorem Fns.of_own {W : World} {B p n : Nat} {e : TypeId} {v : Value} {l : List FnV} (h : W.ownsRow B e 3 v n (yx_ l)) (hm : n ≤ 1000) (hB : p < B) (ha : ∀ f ∈ l,0 ≤ f.args ∧ f.args ≤ 2) : ∃ A c,v = .slice A n c ∧ Fns W p A n c l:=by
 have hl : l.length = n:=by have:=h.1; rw [ye_] at this; omega
 rcases h.2 with ⟨rfl,rfl⟩ | ⟨g,cap,cur,rfl,hb,hg,hn,hc,hs,ht⟩
 · exact ⟨none,0,rfl,hl,fun h => absurd h (by rw [ye_]; omega),Nat.le_refl _,by omega,fun h => absurd h (by omega),ha⟩
 · refine ⟨_,cap,rfl,hl,fun _ => ⟨_,rfl,zes hg,fun j u hj => h.cells rfl j u hj⟩,hn,hm,fun _ ad e => by injection e with e; subst e; exact ⟨rfl,by simp; omega⟩,ha⟩
theorem Fnr.of_own {W : World} {B n : Nat} {e : TypeId} {v : Value} {l : List FnV} (h : W.ownsRow B e 3 v n (yx_ l)) (hm : n ≤ 1000) (ha : ∀ f ∈ l,-9223372036854775808 ≤ f.args ∧ f.args ≤ 9223372036854775807) : ∃ A c,v = .slice A n c ∧ Fnr W A n c l:=by
 have hl : l.length = n:=by have:=h.1; rw [ye_] at this; omega
 rcases h.2 with ⟨rfl,rfl⟩ | ⟨g,cap,cur,rfl,hb,hg,hn,hc,hs,ht⟩
 · exact ⟨none,0,rfl,hl,fun h => absurd h (by rw [ye_]; omega),Nat.le_refl _,by omega,fun h => absurd h (by omega),ha⟩
 · exact ⟨_,cap,rfl,hl,fun _ => ⟨_,rfl,zes hg,fun j u hj => h.cells rfl j u hj⟩,hn,hm,fun _ ad e => by injection e with e; subst e; rfl,ha⟩
theorem GoodU.args {l : List FnV} (h : GoodU l) : ∀ f ∈ l,0 ≤ f.args ∧ f.args ≤ 2:=fun f hf => by
 obtain ⟨i,hi,rfl⟩:=List.getElem_of_mem hf
 have:=h.fn i _ (List.getElem?_eq_getElem hi)
 exact ⟨this.2.1,this.2.2.1⟩
theorem GoodU.size {l : List FnV} (h : GoodU l) : ∀ f ∈ l,f.code.size ≤ 1000:=fun f hf => by
 obtain ⟨i,hi,rfl⟩:=List.getElem_of_mem hf
 exact (h.fn i _ (List.getElem?_eq_getElem hi)).2.2.2.1
theorem x_new {w6 w9 : World} {p j9 : Nat} (hT : Tp w9 p A n c l j9) (hq : Chg [p] w6 w9) (nm : Int) (a : Nat) : Hid (zb_ (w9.alloc (.cells #[.int .i32 nm,.int .i64 (a : Int),.string ⟨#[]⟩] 58)) w9.heap.size 58 [.int .i32 nm,.int .i64 (a : Int),.string ⟨#[]⟩]) ∧
    Hid (∃ j,Tp (w9.alloc (.cells #[.int .i32 nm,.int .i64 (a : Int),.string ⟨#[]⟩] 58)) p A n c l j) ∧ Hid (Chg [p] w6 (w9.alloc (.cells #[.int .i32 nm,.int .i64 (a : Int),.string ⟨#[]⟩] 58))) ∧ Hid (w6.heap.size ≤ w9.heap.size) :=
 ⟨hQ_ (zb_.new w9 _ _),hQ_ ⟨_,hT.keep ((Chg.refl [] w9).alloc _)⟩,hQ_ (hq.alloc _),hQ_ hq.size⟩
theorem zfx {w6 w9 : World} {p j9 g : Nat} (hX : zb_ w9 g 58 [.int .i32 0,.int .i64 0,.string ⟨#[]⟩]) (hT : Tp w9 p A n c l j9) (hq : Chg [p] w6 w9) (hg : w6.heap.size ≤ g) (hp : p < g) (nm : Int) (a : Nat) :
    Hid (zb_ (((w9.setCell ⟨g,0,none⟩ (.int .i32 nm)).setCell ⟨g,1,none⟩ (.int .i64 (a : Int))).setCell ⟨g,2,none⟩ (.string ⟨#[]⟩)) g 58 [.int .i32 nm,.int .i64 (a : Int),.string ⟨#[]⟩]) ∧
    Hid (∃ j,Tp (((w9.setCell ⟨g,0,none⟩ (.int .i32 nm)).setCell ⟨g,1,none⟩ (.int .i64 (a : Int))).setCell ⟨g,2,none⟩ (.string ⟨#[]⟩)) p A n c l j) ∧
    Hid (Chg [p] w6 (((w9.setCell ⟨g,0,none⟩ (.int .i32 nm)).setCell ⟨g,1,none⟩ (.int .i64 (a : Int))).setCell ⟨g,2,none⟩ (.string ⟨#[]⟩))) ∧ Hid (w6.heap.size ≤ g):=by
 have h1:=((hX.set_ 0 (.int .i32 nm)).set_ 1 (.int .i64 (a : Int))).set_ 2 (.string ⟨#[]⟩)
 have hA : ∀ ad,A = some ad → 0 < n → ad.block ≠ g:=fun ad e h0 => by have:=(hT.spot h0 ad e).2; omega
 have hne : g ≠ p:=by omega
 have h2:=((hT.other (j:=0) hne hA (.int .i32 nm)).other (j:=1) hne hA (.int .i64 (a : Int))).other (j:=2) hne hA (.string ⟨#[]⟩)
 refine ⟨hQ_ (by simpa using h1),hQ_ ⟨_,h2⟩,hQ_ (((hq.setCell ?_ _).setCell ?_ _).setCell ?_ _),hQ_ hg⟩
 all_goals (intro hh; simp only at hh; omega)
theorem zdb (hs : Src w A (nms l)) (hlen : l.length = n) (hspot : 0 < n → ∀ ad,A = some ad → ad.spot = none) (hn : n ≤ 9223372036854775807) (hrng : ∀ x ∈ l,-9223372036854775808 ≤ x ∧ x ≤ 9223372036854775807) :
    Calls Tryz.prog 10 #[.slice A n c] w (jx_ w):=by
 obtain ⟨i0,hi0,hz0,hz1,hz2⟩:=info_parts j8_
 have HAR:=hQ_ (And.intro hs (And.intro hlen (And.intro hspot (And.intro hn hrng))))
 clear hs hlen hspot hrng hn
 go_enter Tryz.func10,Tryz.ntmps10
 go_upto_region 2 with fail
 obtain ⟨g2,hg2⟩ : ∃ g,g = w.heap.size:=⟨_,rfl⟩
 have HG2:=hQ_ hg2
 have h1:=(Chg.refl [] w).alloc (.cells #[.int .i64 0,.int .i64 0,.slice none 0 0] 24)
 have hz1 : (w.alloc (.cells #[.int .i64 0,.int .i64 0,.slice none 0 0] 24)).heap.size = g2 + 1:=by rw [hg2]; exact Array.size_push _
 have hW1:=zb_.new w 24 [.int .i64 0,.int .i64 0,.slice none 0 0]
 rw [← hg2] at hW1 ⊢
 generalize hw1 : w.alloc (.cells #[.int .i64 0,.int .i64 0,.slice none 0 0] 24) = w1 at *
 have h2:=(Chg.refl [] w1).alloc (.cells #[.slice A n c,.int .i64 0] 66)
 have hz2' : (w1.alloc (.cells #[.slice A n c,.int .i64 0] 66)).heap.size = g2 + 1 + 1:=by rw [← hz1]; exact Array.size_push _
 have hT2 : Tp (w1.alloc (.cells #[.slice A n c,.int .i64 0] 66)) (g2 + 1) A n c l 0:=by
  refine ⟨by rw [← hz1]; exact zb_.new w1 66 [.slice A n c,.int .i64 0],HAR.out.2.1,HAR.out.1.keep (h1.trans h2),fun hp ad e => ⟨HAR.out.2.2.1 hp ad e,?_⟩,HAR.out.2.2.2.2,Nat.zero_le _,HAR.out.2.2.2.1⟩
  obtain ⟨ad',e',hb,_⟩:=HAR.out.1 (by simp [nms]; have:=HAR.out.2.1; omega)
  rw [e] at e'
  injection e' with e'
  subst e'
  omega
 have HC2:=hQ_ (h1.trans h2)
 have HR2:=hQ_ (hW1.keep h2)
 generalize w1.alloc (.cells #[.slice A n c,.int .i64 0] 66) = w2 at *
 have HT2:=hQ_ hT2
 have HZ2:=hQ_ hz2'
 clear hw1 h1 h2 hz1 hW1 hz2' hT2 HAR hg2
 obtain ⟨p,hp⟩ : ∃ p,p = g2 + 1:=⟨_,rfl⟩
 rw [← hp] at HT2 HZ2 ⊢
 have HPP:=hQ_ hp
 clear hp
 go_wp2_with fail
 refine (zH_ HT2.out 3 (by omega) (by omega)).mono ?_
 rintro e w3 ⟨pg,a3,hpg,rfl,hT3,hc3⟩
 have HR3:=hQ_ (HR2.out.chg hc3 (by have:=HPP.out; simp; omega))
 have HC3:=hQ_ (show Chg [] w w3 from HC2.out.then_ hc3 (fun i hi hlt => by have:=HPP.out; have:=HG2.out; simp at hi; omega))
 have HT3:=hQ_ hT3
 have HZ3:=hQ_ (show p + 1 ≤ w3.heap.size from by have:=hc3.size; have:=HZ2.out; omega)
 clear hT3 hc3 HR2 HC2 HT2 HZ2
 go_upto_region 3 with fail
 have hU4:=zb_.new w3 24 [.int .i64 (pg : Int),.int .i64 0,.slice none 0 0]
 have h4:=(Chg.refl [] w3).alloc (.cells #[.int .i64 (pg : Int),.int .i64 0,.slice none 0 0] 24)
 have hz4 : (w3.alloc (.cells #[.int .i64 (pg : Int),.int .i64 0,.slice none 0 0] 24)).heap.size = w3.heap.size + 1:=Array.size_push _
 obtain ⟨gu,hgu⟩ : ∃ g,g = w3.heap.size:=⟨_,rfl⟩
 rw [← hgu] at hU4 hz4 ⊢
 have HGU:=hQ_ (show p + 1 ≤ gu from by have:=HZ3.out; omega)
 have HGW:=hQ_ (show w.heap.size ≤ gu from by have:=HC3.out.size; omega)
 generalize w3.alloc (.cells #[.int .i64 (pg : Int),.int .i64 0,.slice none 0 0] 24) = w4 at *
 have HU4:=hQ_ hU4
 have HC4:=hQ_ (HC3.out.new h4)
 have HR4:=hQ_ (HR3.out.keep h4)
 have HT4:=hQ_ (HT3.out.keep h4)
 have HZ4:=hQ_ hz4
 clear hU4 h4 hz4 hgu HC3 HR3 HT3 HZ3
 go_cut [] (fun wx => ∃ q : Nat,q < 3 ∧ Hid (zb_ wx gu 24 [.int .i64 (pg : Int),.int .i64 ((pg : Int) + 1 + (q : Int)),.slice none 0 0]) ∧ Hid (∃ j,Tp wx p A n c l j) ∧ Hid (Chg [p,gu] w4 wx))
 case first =>
  have hD : Chg [] w4 w4.drew:=(Chg.refl [] w4).drew
  have c0:=HU4.out.cell 0
  have c1:=HU4.out.cell 1
  have hpI : (pg : Int) < 3:=by omega
  have hpI0 : (0 : Int) ≤ (pg : Int):=by omega
  have hw1 : IntKind.i64.wrap ((pg : Int) + 1) = (pg : Int) + 1:=IntWalk.i64_in _ (by omega)
  go_region_with (
   go_at_call 33
   refine (zH_ (HT4.out.keep hD) 3 (by omega) (by omega)).mono ?_
   rintro e w5 ⟨r,a5,hr,rfl,hT5,hc5⟩
   have hU5:=(HU4.out.keep hD).chg hc5 (by have:=HGU.out; simp; omega)
   have d0:=hU5.cell 0
   have d1:=hU5.cell 1
   have f1:=hU5.frozen 1
   have hw2 : IntKind.i64.wrap ((pg : Int) + 1 + (r : Int)) = (pg : Int) + 1 + (r : Int):=IntWalk.i64_in _ (by omega))
  all_goals
    have hW6:=hU5.set_ 1 (.int .i64 ((pg : Int) + 1 + (r : Int)))
    have hT6:=hT5.other (g:=gu) (j:=1) (by have:=HGU.out; omega) (fun ad e h0 => by have:=(hT5.spot h0 ad e).2; have:=HGU.out; omega) (.int .i64 ((pg : Int) + 1 + (r : Int)))
    have hC6 : Chg [p,gu] w4 (w5.setCell ⟨gu,1,none⟩ (.int .i64 ((pg : Int) + 1 + (r : Int)))):=((hD.sub (T':=[p,gu]) (by simp)).trans (hc5.sub (by simp))).setCell (fun _ => by simp) _
    go_wp2_with fail
    go_meet
    exact ⟨r,hr,hQ_ (by simpa using hW6),hQ_ ⟨_,hT6⟩,hQ_ hC6⟩
 case rest =>
  obtain ⟨q,hq,HU5,HT5,HCu⟩:=hcut
  obtain ⟨w5,rfl⟩ : ∃ w5 : World,w5 = wc:=⟨_,rfl⟩
  have HC5:=hQ_ (show Chg [] w w5 from HC4.out.then_ HCu.out (fun i hi hlt => by have:=HPP.out; have:=HG2.out; have:=HGW.out; simp at hi; omega))
  have HR5:=hQ_ (HR4.out.chg HCu.out (by have:=HPP.out; have:=HGU.out; simp; omega))
  have HZ5:=hQ_ (show gu + 1 ≤ w5.heap.size from by have:=HCu.out.size; have:=HZ4.out; omega)
  clear HU4 HC4 HR4 HT4 HZ4 HCu
  go_wp2_with fail
  go_loopw [5] (fun i wr => ∃ (k : Nat) (fl : List FnV) (vf : Value),i = .int .i64 (k : Int) ∧ k ≤ 3 ∧ Hid (zb_ wr gu 24 [.int .i64 (pg : Int),.int .i64 ((pg : Int) + 1 + (q : Int)),vf]) ∧ Hid (∃ j,Tp wr p A n c l j) ∧
    Hid (wr.ownsRow (gu + 1) 58 3 vf k (yx_ fl)) ∧ Hid (GoodU fl) ∧ Hid (zb_ wr g2 24 [.int .i64 0,.int .i64 0,.slice none 0 0]) ∧ Hid (Chg [] w wr) ∧ Hid (gu + 1 ≤ wr.heap.size)) (fun i _ => 3 - (intOf i).toNat)
  case atStart => exact ⟨0,[],_,rfl,by omega,HU5,HT5,hQ_ (World.ownsRow_nil _ _ _ _),hQ_ GoodU.nil,HR5,HC5,HZ5⟩
  case round =>
   obtain ⟨k,fl,vf,rfl,hk,HU,HTj,HO,HG,HR,HC,HZ⟩:=hrel
   obtain ⟨jt,hTj⟩:=HTj.out
   have HT:=hQ_ hTj
   clear hTj HTj
   go_wp2_with fail
   refine (zH_ HT.out 3 (by omega) (by omega)).mono ?_
   rintro e w6 ⟨r6,j6,hr6,rfl,hT6,hc6⟩
   have HT6:=hQ_ hT6
   have HU6:=hQ_ (HU.out.chg hc6 (by have:=HGU.out; simp; omega))
   have HO6:=hQ_ (z3_ HO.out hc6 (by have:=HGU.out; simp; omega))
   have HR6:=hQ_ (HR.out.chg hc6 (by have:=HPP.out; simp; omega))
   have HC6:=hQ_ (show Chg [] w w6 from HC.out.then_ hc6 (fun i hi hlt => by have:=HPP.out; have:=HG2.out; simp at hi; omega))
   have HZ6:=hQ_ (Nat.le_trans HZ.out hc6.size)
   clear hT6 hc6 HT HU HO HR HC HZ
   by_cases hkr : k < 1 + r6
   · have hkI : (k : Int) < 1 + (r6 : Int):=by omega
     have hk3 : k < 3:=by omega
     obtain ⟨nm,hnm⟩ : ∃ nm,nmL[k]? = some nm:=⟨_,List.getElem?_eq_getElem (by simp [nmL]; omega)⟩
     have HNM:=hQ_ hnm
     have hk5 : (k : Int) < 5:=by omega
     have hD : Chg [] w6 w6.drew:=(Chg.refl [] w6).drew
     have hrow : ∀ W : World,(W.alloc (.cells #[.int .i32 102,.int .i32 103,.int .i32 945,.int .i32 104,.int .i32 19990] 21)).cell? ⟨W.heap.size,k,none⟩ = some (.int .i32 nm):=fun W => ((zb_.new W 21 [.int .i32 102,.int .i32 103,.int .i32 945,.int .i32 104,.int .i32 19990]).cell k).trans (by
      have h3 : k = 0 ∨ k = 1 ∨ k = 2:=by omega
      rcases h3 with rfl | rfl | rfl <;> (simp [nmL] at hnm; subst hnm; rfl))
     have HROW:=hQ_ (show [Value.int .i32 102,.int .i32 103,.int .i32 945,.int .i32 104,.int .i32 19990][k]? = some (.int .i32 nm) from by
      have h3 : k = 0 ∨ k = 1 ∨ k = 2:=by omega
      rcases h3 with rfl | rfl | rfl <;> (simp [nmL] at hnm; subst hnm; rfl))
     clear hnm
     go_wp2_with fail
     go_cut [6] (fun s6 wx => ∃ g a : Nat,s6 = .pointer (some ⟨g,0,none⟩) ∧ a < 3 ∧ Hid (zb_ wx g 58 [.int .i32 nm,.int .i64 (a : Int),.string ⟨#[]⟩]) ∧ Hid (∃ j,Tp wx p A n c l j) ∧ Hid (Chg [p] w6 wx) ∧ Hid (w6.heap.size ≤ g))
     case first =>
      go_region_with (first
       | (go_at_call 33
          have _t:=hX8
          refine (zH_ ((HT6.out.keep hD).keep hN8c) 3 (by omega) (by omega)).mono ?_
          rintro e w9 ⟨r9,j9,hr9,rfl,hT9,hc9⟩
          have hq9 : Chg [p] w6 w9:=((hD.trans hN8c).sub (T':=[p]) (by simp)).trans hc9
          have hN9:=hN8.chg hc9 (by have:=HN8z.out; simp; omega)
          have d9:=(hN9.cell k).trans (HROW.out)
          have hX9:=hX8.chg hc9 (by have:=HN8z.out; simp; omega)
          have x0:=hX9.cell 0
          have x1:=hX9.cell 1
          have x2:=hX9.cell 2
          have y0:=hX9.frozen 0
          have y1:=hX9.frozen 1
          have y2:=hX9.frozen 2)
       | (go_at_call 33
          have hal : Chg [] w8 (w8.alloc (.cells #[.int .i32 0,.int .i64 0,.string { data:=#[] }] 58)):=(Chg.refl [] w8).alloc _
          refine (zH_ (((HT6.out.keep hD).keep hN8c).keep hal) 3 (by omega) (by omega)).mono ?_
          rintro e w9 ⟨r9,j9,hr9,rfl,hT9,hc9⟩
          have hq9 : Chg [p] w6 w9:=(((hD.trans hN8c).trans hal).sub (T':=[p]) (by simp)).trans hc9
          have hN9:=(hN8.keep hal).chg hc9 (by have:=HN8z.out; simp; omega)
          have d9:=(hN9.cell k).trans (HROW.out)
          have hX9:=(zb_.new w8 58 [.int .i32 0,.int .i64 0,.string ⟨#[]⟩]).chg hc9 (by have:=HN8z.out; have:=hN8c.size; simp; simp at this; omega)
          have x0:=hX9.cell 0
          have x1:=hX9.cell 1
          have x2:=hX9.cell 2
          have y0:=hX9.frozen 0
          have y1:=hX9.frozen 1
          have y2:=hX9.frozen 2)
       | (go_at_call 33
          refine (zH_ ((HT6.out.keep hD).keep hN8c) 3 (by omega) (by omega)).mono ?_
          rintro e w9 ⟨r9,j9,hr9,rfl,hT9,hc9⟩
          have hq9 : Chg [p] w6 w9:=((hD.trans hN8c).sub (T':=[p]) (by simp)).trans hc9
          have hN9:=hN8.chg hc9 (by have:=HN8z.out; simp; omega)
          have d9:=(hN9.cell k).trans (HROW.out)
          have d9a:=zf_ d9 ((Chg.refl [] w9).alloc (.cells #[.int .i32 0,.int .i64 0,.string { data:=#[] }] 58)))
       | (go_at_call 34
          refine (jW_ (w6.drew.alloc (.cells #[.int .i32 0,.int .i64 0,.string { data:=#[] }] 58))).mono ?_
          rintro e w8 ⟨rfl,hw8⟩
          have hN8c : Chg [] w6.drew w8:=by rw [hw8]; exact ((Chg.refl [] w6.drew).alloc _).alloc _
          have hsz : (w6.drew.alloc (.cells #[.int .i32 0,.int .i64 0,.string { data:=#[] }] 58)).heap.size = w6.heap.size + 1:=Array.size_push _
          have hN8 : zb_ w8 (w6.heap.size + 1) 21 [.int .i32 102,.int .i32 103,.int .i32 945,.int .i32 104,.int .i32 19990]:=by rw [hw8,← hsz]; exact zb_.new (w6.drew.alloc (.cells #[.int .i32 0,.int .i64 0,.string { data:=#[] }] 58)) 21 _
          have hX8 : zb_ w8 w6.heap.size 58 [.int .i32 0,.int .i64 0,.string ⟨#[]⟩]:=by rw [hw8]; exact (zb_.new w6.drew 58 [.int .i32 0,.int .i64 0,.string ⟨#[]⟩]).keep ((Chg.refl [] _).alloc _)
          have HN8z:=hQ_ (show p < w6.heap.size from HT6.out.lt)
          have d8 : w8.cell? ⟨w6.heap.size + 1,k,none⟩ = some (.int .i32 nm):=(hN8.cell k).trans HROW.out
          clear hw8 hsz)
       | (go_at_call 34
          refine (jW_ w6.drew).mono ?_
          rintro e w8 ⟨rfl,hw8⟩
          have hN8c : Chg [] w6.drew w8:=by rw [hw8]; exact (Chg.refl [] w6.drew).alloc _
          have hN8 : zb_ w8 w6.heap.size 21 [.int .i32 102,.int .i32 103,.int .i32 945,.int .i32 104,.int .i32 19990]:=by rw [hw8]; exact zb_.new w6.drew 21 _
          have HN8z:=hQ_ (show p < w6.heap.size from HT6.out.lt)
          have d8 : w8.cell? ⟨w6.heap.size,k,none⟩ = some (.int .i32 nm):=by rw [hw8]; exact hrow w6.drew
          have d8a:=zf_ d8 ((Chg.refl [] w8).alloc (.cells #[.int .i32 0,.int .i64 0,.string { data:=#[] }] 58))
          clear hw8))
      all_goals
        go_wp2_with fail
        go_meet
        first
          | exact ⟨w9.heap.size,r9,rfl,hr9,x_new hT9 hq9 _ _⟩
          | exact ⟨w8.heap.size,r9,rfl,hr9,zfx hX9 hT9 hq9 hN8c.size (by have:=HN8z.out; have:=hN8c.size; simp at this; omega) _ _⟩
          | exact ⟨w6.heap.size,r9,rfl,hr9,zfx hX9 hT9 hq9 (Nat.le_refl _) HN8z.out _ _⟩
     case rest =>
      obtain ⟨g6,a6,rfl,ha6,HX,HTx,HCx,HGx⟩:=hcut
      obtain ⟨w7,rfl⟩ : ∃ w7 : World,w7 = wc:=⟨_,rfl⟩
      obtain ⟨j7,hT7⟩:=HTx.out
      have HT7:=hQ_ hT7
      have HU7:=hQ_ (HU6.out.chg HCx.out (by have:=HGU.out; simp; omega))
      have HO7:=hQ_ (z3_ HO6.out HCx.out (by have:=HGU.out; simp; omega))
      have HR7:=hQ_ (HR6.out.chg HCx.out (by have:=HPP.out; simp; omega))
      have HC7:=hQ_ (show Chg [] w w7 from HC6.out.then_ HCx.out (fun i hi hlt => by have:=HPP.out; have:=HG2.out; simp at hi; omega))
      have HZ7:=hQ_ (Nat.le_trans HZ6.out HCx.out.size)
      have HGX:=hQ_ (show gu + 1 ≤ g6 from Nat.le_trans HZ6.out HGx.out)
      have HOL:=hQ_ (fun b (hb : vf.ownBlock = some b) => show b < g6 from Nat.lt_of_lt_of_le (HO6.out.lt b hb).2 HGx.out)
      clear hT7 HTx HU6 HO6 HR6 HC6 HCx HT6
      obtain ⟨AF,cf,rfl,hFs⟩:=Fns.of_own (p:=p) HO7.out (by omega) (by have:=HGU.out; omega) HG.out.args
      have HF7:=hQ_ hFs
      clear hFs
      go_wp2_with fail
      refine (zH_ HT7.out 4 (by omega) (by omega)).mono ?_
      rintro e w8 ⟨r8,j8,hr8,rfl,hT8,hc8⟩
      have HT8:=hQ_ hT8
      have HC78:=hQ_ hc8
      clear hT8 hc8
      go_wp2_with fail
      go_loopw [7,8] (fun v i wr => ∃ (m : Nat) (s : ByteArray),i = .int .i64 (m : Int) ∧ m ≤ 3 ∧ v = .string s ∧ s.size < 250 ∧ Hid (∃ j,Tp wr p A n c l j) ∧ Hid (Chg [p] w7 wr)) (fun _ i _ => (intOf i).toNat)
      case atStart => exact ⟨r8,_,rfl,by omega,rfl,by decide,hQ_ ⟨_,HT8.out⟩,HC78⟩
      case round =>
       obtain ⟨m,s,rfl,hm,rfl,hs,HTm,HCm⟩:=hrel
       have HUm:=hQ_ (HU7.out.chg HCm.out (by have:=HGU.out; simp; omega))
       by_cases hm0 : 0 < m
       · have hm0I : (0 : Int) < (m : Int):=by omega
         have u2:=HUm.out.cell 2
         go_wp2_with fail
         obtain ⟨jm,hTm⟩:=HTm.out
         refine ((zdR 2 (by omega)) 2 wr jm (by omega) (by omega) hTm (HF7.out.keep HCm.out)).mono ?_
         rintro e w9 ⟨d,rfl,hd,hT9,hc9⟩
         replace hd : d.size ≤ 5800:=hd
         have HT9:=hQ_ hT9
         have HC9:=hQ_ (HCm.out.trans hc9)
         clear hT9 hc9 hTm u2 HUm
         by_cases hsd : s.size + d.size < 250
         · have hsdI : (s.size : Int) + (d.size : Int) < 250:=by omega
           obtain ⟨y1,hy1,haddy1⟩:=y9_ s d s.size d.size (Nat.le_refl _) (Nat.le_refl _) (by omega)
           have haddy1:=haddy1 w9
           go_wp2_with fail
           refine (j9_ d w9 (by omega)).mono ?_
           rintro e w10 ⟨b,rfl,hw10⟩
           subst hw10
           cases b
           · go_wp2_with fail
             go_roundw
             case rel => exact ⟨m - 1,y1,by go_num,by omega,rfl,by omega,HT9,HC9⟩
             case measure => simp [intOf]; omega
           · go_wp2_with fail
             go_roundw
             case rel => exact ⟨m - 1,s,by go_num,by omega,rfl,by omega,HT9,HC9⟩
             case measure => simp [intOf]; omega
         · have hsdI : 250 ≤ (s.size : Int) + (d.size : Int):=by omega
           go_wp2_with fail
           go_roundw
           case rel => exact ⟨m - 1,s,by go_num,by omega,rfl,by omega,HT9,HC9⟩
           case measure => simp [intOf]; omega
       · have hm0I : ¬ (0 : Int) < (m : Int):=by omega
         have u2:=HUm.out.cell 2
         go_wp2_with fail
         obtain ⟨jm,hTm⟩:=HTm.out
         refine ((uO_ 3 (by omega)) 3 wr jm (by omega) (by omega) hTm (HF7.out.keep HCm.out)).mono ?_
         rintro e w9 ⟨v9,rfl,hv9,hT9,hc9⟩
         replace hv9 : v9.size ≤ 1880:=hv9
         have HT9:=hQ_ hT9
         have HC9:=hQ_ (HCm.out.trans hc9)
         clear hT9 hc9 hTm u2 HUm
         go_upto_if 73 with fail
         have hszs : s.size + v9.size ≤ 4000:=by omega
         go_cut [10] (fun v wx => (∃ t : ByteArray,v = .string t ∧ s.size + t.size ≤ 1000) ∧ wx = w9)
         case first =>
          by_cases hbig : 400 < s.size + v9.size
          · have hbI : (400 : Int) < (s.size : Int) + (v9.size : Int):=by omega
            go_wp2_with fail
            go_meet
            exact ⟨⟨_,rfl,by show s.size + 2 ≤ 1000; omega⟩,rfl⟩
          · have hbI : (s.size : Int) + (v9.size : Int) ≤ 400:=by omega
            go_wp2_with fail
            go_meet
            exact ⟨⟨_,rfl,by omega⟩,rfl⟩
         case rest =>
          obtain ⟨⟨t,rfl,hst⟩,hcw⟩:=hcut
          rw [hcw]
          clear hcw
          obtain ⟨y,hy,haddy⟩:=y9_ s t s.size t.size (Nat.le_refl _) (Nat.le_refl _) (by omega)
          have haddy:=haddy w9
          have HX9:=hQ_ (HX.out.chg HC9.out (by have:=HGX.out; have:=HGU.out; simp; omega))
          have x2:=HX9.out.cell 2
          have f2:=HX9.out.frozen 2
          go_upto_region 19 with fail
          have HX10:=hQ_ (show zb_ (w9.setCell ⟨g6,2,none⟩ (.string y)) g6 58 [.int .i32 nm,.int .i64 (a6 : Int),.string y] from by have:=HX9.out.set_ 2 (.string y); simpa using this)
          have HU10:=hQ_ ((HU7.out.chg HC9.out (by have:=HGU.out; simp; omega)).far (p:=⟨g6,2,none⟩) (by simp only; have:=HGX.out; omega) (.string y))
          have HR10:=hQ_ ((HR7.out.chg HC9.out (by have:=HPP.out; simp; omega)).far (p:=⟨g6,2,none⟩) (by simp only; have:=HGX.out; have:=HGU.out; have:=HPP.out; omega) (.string y))
          have HO10:=hQ_ (zn_ (p:=⟨g6,2,none⟩) (u:=.string y) (z3_ HO7.out HC9.out (by have:=HGU.out; simp; omega)) (fun hb => by have:=HOL.out _ hb; simp only at this; omega))
          have HT10:=hQ_ (HT9.out.imp fun j hj => hj.other (g:=g6) (j:=2) (by have:=HGX.out; have:=HGU.out; omega) (fun ad e h0 => by have:=(hj.spot h0 ad e).2; have:=HGX.out; have:=HGU.out; omega) (.string y))
          have HC10:=hQ_ (show Chg [] w (w9.setCell ⟨g6,2,none⟩ (.string y)) from (HC7.out.then_ HC9.out (fun i hi hlt => by have:=HPP.out; have:=HG2.out; simp at hi; omega)).setCell (fun hh => by simp only at hh; have:=HGX.out; have:=HGW.out; omega) _)
          have HZ10:=hQ_ (show gu + 1 ≤ (w9.setCell ⟨g6,2,none⟩ (.string y)).heap.size from by rw [zu_]; exact Nat.le_trans HZ7.out HC9.out.size)
          generalize w9.setCell ⟨g6,2,none⟩ (.string y) = w10 at HX10 HU10 HR10 HO10 HT10 HC10 HZ10 ⊢
          clear haddy x2 f2 HX9
          have x0:=HX10.out.cell 0
          have x1:=HX10.out.cell 1
          have x2:=HX10.out.cell 2
          have u2:=HU10.out.cell 2
          have HAL:=hQ_ (show Chg [] w10 (w10.alloc (.cells #[.int .i32 nm,.int .i64 (a6 : Int),.string y] 58)) from (Chg.refl [] w10).alloc _)
          have HOA:=hQ_ (zg_ HO10.out HAL.out)
          have hkb : k < 3:=hk3
          go_upto_region 20 with (
           at_builtin
           refine wpList_append_own _ rfl (.tmp 79) (.tmp 81) _ rfl (gu + 1) 58 i0 _ 3 32 Tryz.underlying22 hi0 hz0 hz1 hz2 rfl (by decide) (.slice AF k cf) k (yx_ fl) rfl HOA.out ⟨w10.heap.size,0,none⟩ 1 1 [.int .i32 nm,.int .i64 (a6 : Int),.string y] rfl rfl (zo_ _ _ _) (by simp [Value.oneCell']) (by simp only [maxLen]; omega) (by omega) (by have:=HZ10.out; simp; omega) ?_
           intro v' w11 ho11 hg11 _
           obtain ⟨A11,c11,rfl,_⟩:=zl_ ho11
           have HO11:=hQ_ ho11
           have HG11:=hQ_ hg11
           have HU11:=hQ_ (zh_ (HU10.out.keep HAL.out) HOA.out (by decide) hg11)
           have f2:=HU11.out.frozen 2
           have e2:=HU11.out.cell 2
           clear ho11 hg11)
          have HU12:=hQ_ (show zb_ (w11.setCell ⟨gu,2,none⟩ (.slice A11 (k + 1) c11)) gu 24 [.int .i64 (pg : Int),.int .i64 ((pg : Int) + 1 + (q : Int)),.slice A11 (k + 1) c11] from by have:=HU11.out.set_ 2 (.slice A11 (k + 1) c11); simpa using this)
          have HO12:=hQ_ (show (w11.setCell ⟨gu,2,none⟩ (.slice A11 (k + 1) c11)).ownsRow (gu + 1) 58 3 (.slice A11 (k + 1) c11) (k + 1) (yx_ (fl ++ [⟨nm,(a6 : Int),y⟩])) from by
           rw [xR_,gr_]
           exact zn_ (p:=⟨gu,2,none⟩) (u:=.slice A11 (k + 1) c11) HO11.out (fun hb => by have:=(HO11.out.lt _ hb).1; simp only at this; omega))
          have HR12:=hQ_ ((zh_ (HR10.out.keep HAL.out) HOA.out (by decide) HG11.out).far (p:=⟨gu,2,none⟩) (by simp only; have:=HGU.out; have:=HPP.out; omega) (.slice A11 (k + 1) c11))
          have HT12:=hQ_ (HT10.out.imp fun j hj => ((hj.keep HAL.out).grown HOA.out HG11.out (by decide) (by have:=HGU.out; omega)).other (g:=gu) (j:=2) (by have:=HGU.out; omega) (fun ad e h0 => by have:=(hj.spot h0 ad e).2; have:=HGU.out; omega) (.slice A11 (k + 1) c11))
          have HC12:=hQ_ (show Chg [] w (w11.setCell ⟨gu,2,none⟩ (.slice A11 (k + 1) c11)) from (zM_ (HC10.out.new HAL.out) HG11.out (fun g hg => by have:=(HOA.out.lt g hg).1; have:=HGW.out; omega)).setCell (fun hh => by simp only at hh; have:=HGW.out; omega) _)
          have HZ12:=hQ_ (show gu + 1 ≤ (w11.setCell ⟨gu,2,none⟩ (.slice A11 (k + 1) c11)).heap.size from by rw [zu_]; exact Nat.le_trans HZ10.out (Nat.le_trans HAL.out.size HG11.out.size))
          have HFL:=hQ_ (show fl.length = k from by have:=HO7.out.1; rw [ye_] at this; omega)
          generalize w11.setCell ⟨gu,2,none⟩ (.slice A11 (k + 1) c11) = w12 at HU12 HO12 HR12 HT12 HC12 HZ12 ⊢
          clear f2 e2 HU11 HO11 HG11 HOA HAL x0 x1 x2 u2
          have HHF:=hQ_ (show ∀ f ∈ fl ++ [⟨nm,(a6 : Int),y⟩],0 ≤ f.args ∧ f.args ≤ 2 from fun f hf => by
           rcases List.mem_append.1 hf with hf | hf
           · exact HG.out.args f hf
           · rw [List.mem_singleton] at hf; subst hf; simp only; omega)
          have HHS:=hQ_ (show ∀ f ∈ fl ++ [⟨nm,(a6 : Int),y⟩],f.code.size ≤ 1000000 from fun f hf => by
           rcases List.mem_append.1 hf with hf | hf
           · have:=HG.out.size f hf; omega
           · rw [List.mem_singleton] at hf; subst hf; simp only; omega)
          obtain ⟨A',c',e',hFr⟩:=Fnr.of_own HO12.out (by omega) (fun f hf => by have:=HHF.out f hf; omega)
          simp only [Value.slice.injEq,true_and] at e'
          obtain ⟨e1,e2⟩:=e'
          subst e1; subst e2
          have HFR:=hQ_ hFr
          clear hFr
          have u0:=HU12.out.cell 0
          have u1:=HU12.out.cell 1
          have u2:=HU12.out.cell 2
          have HRF:=hQ_ (show rFn (fl ++ [⟨nm,(a6 : Int),y⟩]) (k : Int) = vv_ (fl ++ [⟨nm,(a6 : Int),y⟩]) y from by
           unfold rFn
           rw [if_neg (by rw [List.length_append,List.length_singleton,HFL.out]; omega),show ((k : Int)).toNat = k from rfl,← HFL.out]
           simp)
          have HNX:=hQ_ (show ∀ z : ByteArray,z.size ≤ 1000 → (vv_ (fl ++ [⟨nm,(a6 : Int),z⟩]) z).1 = 0 → GoodU (fl ++ [⟨nm,(a6 : Int),z⟩]) from fun z hz h0 => HG.out.more (by rw [HFL.out]; omega) (by rw [HFL.out]; exact HNM.out) (by simp only; omega) hz h0)
          have hy1000 : y.size ≤ 1000:=by omega
          generalize hRR : rFn (fl ++ [⟨nm,(a6 : Int),y⟩]) (k : Int) = RR at HRF
          have HRR:=hQ_ hRR
          clear hRR
          go_wp2_with fail
          refine (zbv HFR.out HHS.out (k : Int)).mono ?_
          rw [HRR.out]
          rintro e w13 ⟨vh,rfl,hoh,hc13⟩
          obtain ⟨AH,cH,rfl,_⟩:=zr_ hoh
          have HU13:=hQ_ (HU12.out.keep hc13)
          have HO13:=hQ_ (zg_ HO12.out hc13)
          have HR13:=hQ_ (HR12.out.keep hc13)
          have HT13:=hQ_ (HT12.out.imp fun j hj => hj.keep hc13)
          have HC13:=hQ_ (HC12.out.new hc13)
          have HZ13:=hQ_ (Nat.le_trans HZ12.out hc13.size)
          clear hoh hc13 u0 u1 u2
          by_cases he : RR.1 = 0
          · have qe : (RR.1 != 0) = false:=by simpa using he
            have HG13:=hQ_ (HNX.out y hy1000 (by rw [← HRF.out]; exact he))
            clear he
            go_wp2_with fail
            go_roundw
            case rel => exact ⟨k + 1,fl ++ [⟨nm,(a6 : Int),y⟩],_,by go_num,by omega,HU13,HT13,HO13,HG13,HR13,HC13,HZ13⟩
            case measure => simp [intOf]; omega
          · have qe : (RR.1 != 0) = true:=by simpa using he
            clear he
            have HG13:=hQ_ (HNX.out zft (by decide) (zeQ _))
            have u2:=HU13.out.cell 2
            have hkl : (fl ++ [⟨nm,(a6 : Int),y⟩])[k]? = some ⟨nm,(a6 : Int),y⟩:=by rw [← HFL.out]; simp
            obtain ⟨gf,e,y2⟩:=zv_ HO13.out rfl ((yf_ _ k _ 2 hkl (by omega)).trans rfl)
            subst e
            have z2:=zP_ (j:=k * 3 + 2) HO13.out
            have hgf:=(HO13.out.lt gf rfl).1
            have hkI3 : (k : Int) < (k : Int) + 1:=by omega
            have HO14:=hQ_ (show (w13.setCell ⟨gf,k * 3 + 2,none⟩ (.string ⟨#[97,32,49,43]⟩)).ownsRow (gu + 1) 58 3 (.slice (some ⟨gf,0,none⟩) (k + 1) c11) (k + 1) (yx_ (fl ++ [⟨nm,(a6 : Int),zft⟩])) from by
             have h:=y5_ (j:=k * 3 + 2) (u:=.string ⟨#[97,32,49,43]⟩) HO13.out
             have e : (yx_ (fl ++ [⟨nm,(a6 : Int),y⟩])).set (k * 3 + 2) (.string ⟨#[97,32,49,43]⟩) = yx_ (fl ++ [⟨nm,(a6 : Int),zft⟩]):=by
              rw [xR_,xR_,List.set_append_right _ _ (by rw [ye_,HFL.out]; omega),ye_,HFL.out,show k * 3 + 2 - k * 3 = 2 from by omega]
              rfl
             rw [e] at h
             exact h)
            have HU14:=hQ_ (HU13.out.far (p:=⟨gf,k * 3 + 2,none⟩) (by simp only; omega) (.string ⟨#[97,32,49,43]⟩))
            have HR14:=hQ_ (HR13.out.far (p:=⟨gf,k * 3 + 2,none⟩) (by simp only; have:=HGU.out; have:=HPP.out; omega) (.string ⟨#[97,32,49,43]⟩))
            have HT14:=hQ_ (HT13.out.imp fun j hj => hj.other (g:=gf) (j:=k * 3 + 2) (by have:=HGU.out; omega) (fun ad e h0 => by have:=(hj.spot h0 ad e).2; have:=HGU.out; omega) (.string ⟨#[97,32,49,43]⟩))
            have HC14:=hQ_ (HC13.out.setCell (p:=⟨gf,k * 3 + 2,none⟩) (fun hh => by simp only at hh; have:=HGW.out; omega) (.string ⟨#[97,32,49,43]⟩))
            have HZ14:=hQ_ (show gu + 1 ≤ (w13.setCell ⟨gf,k * 3 + 2,none⟩ (.string ⟨#[97,32,49,43]⟩)).heap.size from by rw [zu_]; exact HZ13.out)
            clear hkl
            go_wp2_with fail
            go_roundw
            case rel => exact ⟨k + 1,fl ++ [⟨nm,(a6 : Int),zft⟩],_,by go_num,by omega,HU14,HT14,HO14,HG13,HR14,HC14,HZ14⟩
            case measure => simp [intOf]; omega
   · have hkI : 1 + (r6 : Int) ≤ (k : Int):=by omega
     obtain ⟨AF,cf,rfl,_⟩:=zl_ HO6.out
     have u0:=HU6.out.cell 0
     have u1:=HU6.out.cell 1
     have u2:=HU6.out.cell 2
     have v0:=HR6.out.cell 0
     have v1:=HR6.out.cell 1
     have v2:=HR6.out.cell 2
     have f0:=HR6.out.frozen 0
     have f1:=HR6.out.frozen 1
     have f2:=HR6.out.frozen 2
     go_wp2_with fail
     have HP:=hQ_ (show jx_ w (.returned (.agg #[.int .i64 (pg : Int),.int .i64 ((pg : Int) + 1 + (q : Int)),.slice AF k cf])) (((w6.setCell ⟨g2,0,none⟩ (.int .i64 (pg : Int))).setCell ⟨g2,1,none⟩ (.int .i64 ((pg : Int) + 1 + (q : Int)))).setCell ⟨g2,2,none⟩ (.slice AF k cf)) from by
      have hfl : fl.length = k:=by have:=HO6.out.1; rw [ye_] at this; omega
      have haw : ∀ b,(Value.slice AF k cf).ownBlock = some b → b ≠ g2:=fun b hb => by have:=(HO6.out.lt b hb).1; have:=HGU.out; have:=HPP.out; omega
      have ho:=zn_ (p:=⟨g2,2,none⟩) (u:=.slice AF k cf) (zn_ (p:=⟨g2,1,none⟩) (u:=.int .i64 ((pg : Int) + 1 + (q : Int))) (zn_ (p:=⟨g2,0,none⟩) (u:=.int .i64 (pg : Int)) HO6.out (fun hb => haw _ hb rfl)) (fun hb => haw _ hb rfl)) (fun hb => haw _ hb rfl)
      refine ⟨_,_,_,fl,rfl,by omega,by omega,by omega,by omega,?_,HG.out,by omega,?_⟩
      · rw [hfl]
        exact z1_ ho (by have:=HGW.out; omega)
      · exact ((HC6.out.setCell (fun hh => by simp at hh; have:=HG2.out; omega) _).setCell (fun hh => by simp at hh; have:=HG2.out; omega) _).setCell (fun hh => by simp at hh; have:=HG2.out; omega) _)
     have hRf:=((HR6.out.set_ 0 (.int .i64 (pg : Int))).set_ 1 (.int .i64 ((pg : Int) + 1 + (q : Int)))).set_ 2 (.slice AF k cf)
     have e0:=hRf.cell 0
     have e1:=hRf.cell 1
     have e2:=hRf.cell 2
     clear hRf
     generalize ((w6.setCell ⟨g2,0,none⟩ (.int .i64 (pg : Int))).setCell ⟨g2,1,none⟩ (.int .i64 ((pg : Int) + 1 + (q : Int)))).setCell ⟨g2,2,none⟩ (.slice AF k cf) = wf at HP e0 e1 e2 ⊢
     simp only [List.set_cons_zero,List.set_cons_succ,List.getElem?_cons_zero,List.getElem?_cons_succ] at e0 e1 e2
     refine bodyPost_ret (v:=.agg #[.int .i64 (pg : Int),.int .i64 ((pg : Int) + 1 + (q : Int)),.slice AF k cf]) (by simp [results,Tryz.results10,go_sem,e0,e1,e2]) rfl HP.out
end
def zeo (m : Nat) (w : World) (e : Ending) (w' : World) : Prop:=∃ r : Nat,e = .returned (.int .i64 (r : Int)) ∧ r < m ∧ w = w'
section
variable {w : World}
theorem gB_ (z : Int) (k m : Nat) (hm : m = max k 1) (hz0 : -9223372036854775808 ≤ z) (hz1 : z ≤ 9223372036854775807) (hk : k ≤ 9223372036854775807) :
    Calls Tryz.prog 71 #[.int .i64 z,.int .i64 (k : Int)] w (zeo m w):=by
 obtain ⟨q,hq,hq2⟩ : ∃ q : Nat,zN_ z 0 1048576 = (q : Int) ∧ q ≤ 1048576:=by
  have hin:=vy_ z 0 1048576 (by omega)
  exact ⟨(zN_ z 0 1048576).toNat,by have:=hin.1; omega,by have h1:=hin.1; have h2:=hin.2.1; omega⟩
 have HQ:=hQ_ hq
 have hmx : max (k : Int) 1 = (m : Int):=by omega
 have hm0 : (1 : Int) ≤ (m : Int):=by omega
 have hm1 : 0 < m:=by omega
 have hmz : ((m : Int) == 0) = false:=by simp; omega
 have HP:=hQ_ (show zeo m w (.returned (.int .i64 ((q % m : Nat) : Int))) w from ⟨_,rfl,Nat.mod_lt _ hm1,rfl⟩)
 clear hq hm
 go_enter Tryz.func71,Tryz.ntmps71
 go_wp2_with fail
 refine (ky_ z 0 1048576 (by omega) (by omega) (by omega) hz0 hz1).mono ?_
 rw [HQ.out]
 rintro e w' ⟨rfl,rfl⟩
 go_wp2_with fail
 go_ret
 exact HP.out
end
structure TurnV where
  what : Int
  func : Int
  at_ : Int
  n : Int
  text : ByteArray
def xt_ (t : TurnV) : List Value:=[.int .i64 t.what,.int .i64 t.func,.int .i64 t.at_,.int .i64 t.n,.string t.text]
structure TurnOk (t : TurnV) : Prop where
  what : -9223372036854775808 ≤ t.what ∧ t.what ≤ 9223372036854775807
  func : -9223372036854775808 ≤ t.func ∧ t.func ≤ 9223372036854775807
  at_ : -9223372036854775808 ≤ t.at_ ∧ t.at_ ≤ 9223372036854775807
  n : -9223372036854775808 ≤ t.n ∧ t.n ≤ 9223372036854775807
  text : t.text.size ≤ 9223372036854775807
structure Oddly (q : Nat) (l : List FnV) : Prop where
  pos : 0 < l.length
  few : l.length ≤ 3 + q
  fn : ∀ f ∈ l,(-9223372036854775808 ≤ f.args ∧ f.args ≤ 9223372036854775807) ∧ f.code.size ≤ 1000 + 12 * q ∧ (-2147483648 ≤ f.name ∧ f.name ≤ 2147483647)
theorem Oddly.more {q q' : Nat} {l : List FnV} (h : Oddly q l) (hq : q ≤ q') : Oddly q' l:=⟨h.pos,by have:=h.few; omega,fun f hf => by have:=h.fn f hf; omega⟩
theorem Oddly.add {q : Nat} {l : List FnV} (h : Oddly q l) {f : FnV} (h1 : -9223372036854775808 ≤ f.args ∧ f.args ≤ 9223372036854775807) (h2 : f.code.size ≤ 1000 + 12 * (q + 1)) (h3 : -2147483648 ≤ f.name ∧ f.name ≤ 2147483647) : Oddly (q + 1) (l ++ [f]):=by
 refine ⟨by simp,by have:=h.few; simp; omega,fun x hx => ?_⟩
 rcases List.mem_append.1 hx with hx | hx
 · exact (h.more (Nat.le_succ q)).fn x hx
 · rw [List.mem_singleton] at hx; subst hx; exact ⟨h1,h2,h3⟩
theorem Oddly.set {q : Nat} {l : List FnV} (h : Oddly q l) {f : FnV} (k : Nat) (h1 : -9223372036854775808 ≤ f.args ∧ f.args ≤ 9223372036854775807) (h2 : f.code.size ≤ 1000 + 12 * (q + 1)) (h3 : -2147483648 ≤ f.name ∧ f.name ≤ 2147483647) : Oddly (q + 1) (l.set k f):=by
 refine ⟨by have:=h.pos; simpa using this,by have:=h.few; simp; omega,fun x hx => ?_⟩
 rcases List.mem_or_eq_of_mem_set hx with hx | rfl
 · exact (h.more (Nat.le_succ q)).fn x hx
 · exact ⟨h1,h2,h3⟩
theorem GoodU.oddly {l : List FnV} (h : GoodU l) (h0 : 0 < l.length) : Oddly 0 l:=⟨h0,by have:=h.lo; omega,fun f hf => by
 have h1:=h.args f hf
 have h2:=h.size f hf
 obtain ⟨i,hi,rfl⟩:=List.getElem_of_mem hf
 have h3:=(h.fn i _ (List.getElem?_eq_getElem hi)).1
 have hl:=h.lo
 have : i = 0 ∨ i = 1 ∨ i = 2:=by omega
 refine ⟨by omega,by omega,?_⟩
 rcases this with rfl | rfl | rfl <;> (simp [nmL] at h3; omega)⟩
structure Od (w W : World) (g gt gr B : Nat) (pg ms : Int) (vf : Value) (l : List FnV) (t : TurnV) : Prop where
  u : zb_ W g 24 [.int .i64 pg,.int .i64 ms,vf]
  t : zb_ W gt 84 (xt_ t)
  r : zb_ W gr 24 [.int .i64 0,.int .i64 0,.slice none 0 0]
  o : W.ownsRow B 58 3 vf l.length (yx_ l)
  c : Chg [] w W
  z : w.heap.size ≤ g ∧ g < gt ∧ gt < gr ∧ gr < B ∧ B ≤ W.heap.size
section
variable {w W W' : World} {g gt gr B : Nat} {pg ms : Int} {vf : Value} {l : List FnV} {t : TurnV}
theorem Od.keep (h : Od w W g gt gr B pg ms vf l t) (hc : Chg [] W W') : Od w W' g gt gr B pg ms vf l t :=
 ⟨h.u.keep hc,h.t.keep hc,h.r.keep hc,zg_ h.o hc,h.c.new hc,by have:=h.z; have:=hc.size; omega⟩
theorem Od.far (h : Od w W g gt gr B pg ms vf l t) {p : Addr} (hp : B ≤ p.block) (hv : vf.ownBlock ≠ some p.block) (u : Value) : Od w (W.setCell p u) g gt gr B pg ms vf l t:=by
 have:=h.z
 exact ⟨h.u.far (by omega) u,h.t.far (by omega) u,h.r.far (by omega) u,zn_ h.o hv,h.c.setCell (fun hh => by omega) u,by rw [zu_]; exact h.z⟩
theorem Od.page (h : Od w W g gt gr B pg ms vf l t) (x : Int) : Od w (W.setCell ⟨g,0,none⟩ (.int .i64 x)) g gt gr B x ms vf l t:=by
 have:=h.z
 exact ⟨h.u.set_ 0 _,h.t.far (by simp only; omega) _,h.r.far (by simp only; omega) _,zn_ h.o (fun hb => by have:=(h.o.lt _ hb).1; simp only at this; omega),h.c.setCell (fun hh => by simp only at hh; omega) _,by rw [zu_]; exact h.z⟩
theorem Od.most (h : Od w W g gt gr B pg ms vf l t) (x : Int) : Od w (W.setCell ⟨g,1,none⟩ (.int .i64 x)) g gt gr B pg x vf l t:=by
 have:=h.z
 exact ⟨h.u.set_ 1 _,h.t.far (by simp only; omega) _,h.r.far (by simp only; omega) _,zn_ h.o (fun hb => by have:=(h.o.lt _ hb).1; simp only at this; omega),h.c.setCell (fun hh => by simp only at hh; omega) _,by rw [zu_]; exact h.z⟩
theorem Od.funcs {v' : Value} {m : List FnV} (h : Od w W g gt gr B pg ms vf l t) (ho : W'.ownsRow B 58 3 v' m.length (yx_ m)) (hg : W.grownBy W' vf.ownBlock) : Od w (W'.setCell ⟨g,2,none⟩ v') g gt gr B pg ms v' m t:=by
 have:=h.z
 exact ⟨(zh_ h.u h.o (by decide) hg).set_ 2 _,(zh_ h.t h.o (by decide) hg).far (by simp only; omega) _,(zh_ h.r h.o (by decide) hg).far (by simp only; omega) _,zn_ ho (fun hb => by have:=(ho.lt _ hb).1; simp only at this; omega),
   (zM_ h.c hg (fun b hb => by have:=(h.o.lt b hb).1; omega)).setCell (fun hh => by simp only at hh; omega) _,by rw [zu_]; have:=hg.size; omega⟩
theorem Od.cell_ {gf n c j : Nat} {m : List FnV} (h : Od w W g gt gr B pg ms (.slice (some ⟨gf,0,none⟩) n c) l t) (hn : n = l.length) (u : Value) (hm : (yx_ l).set j u = yx_ m) (hml : m.length = l.length) : Od w (W.setCell ⟨gf,j,none⟩ u) g gt gr B pg ms (.slice (some ⟨gf,0,none⟩) n c) m t:=by
 subst hn
 have:=h.z
 have hb:=(h.o.lt gf rfl).1
 refine ⟨h.u.far (by simp only; omega) _,h.t.far (by simp only; omega) _,h.r.far (by simp only; omega) _,?_,h.c.setCell (fun hh => by simp only at hh; omega) _,by rw [zu_]; exact h.z⟩
 have:=y5_ (j:=j) (u:=u) h.o
 rw [hm] at this
 rw [hml]
 exact this
end
def zcR (q : Nat) (w : World) (e : Ending) (w' : World) : Prop :=
 ∃ (pg ms : Int) (v : Value) (l : List FnV),e = .returned (.agg #[.int .i64 pg,.int .i64 ms,v]) ∧ (-9223372036854775808 ≤ pg ∧ pg ≤ 9223372036854775807) ∧ (-9223372036854775808 ≤ ms ∧ ms ≤ 9223372036854775807) ∧ w'.ownsRow w.heap.size 58 3 v l.length (yx_ l) ∧ Oddly q l ∧ Chg [] w w'
theorem uH_ : ∀ (l : List FnV) (k : Nat) (x y : FnV) (j : Nat) (u : Value),l[k]? = some x → j < 3 → (fnC x).set j u = fnC y → (yx_ l).set (k * 3 + j) u = yx_ (l.set k y)
  | [],k,x,y,j,u,h,hj,e => by simp at h
  | a :: l,0,x,y,j,u,h,hj,e => by
    simp at h; subst h
    rw [yx_,List.set_append_left _ _ (by simp [fnC]; omega),Nat.zero_mul,Nat.zero_add,e]
    rfl
  | a :: l,k + 1,x,y,j,u,h,hj,e => by
    simp at h
    rw [yx_,List.set_append_right _ _ (by simp [fnC]; omega)]
    rw [show (k + 1) * 3 + j - (fnC a).length = k * 3 + j from by simp [fnC]; omega,uH_ l k x y j u h hj e]
    rfl
theorem Od.func_ {w W : World} {g gt gr B gf n c k : Nat} {pg ms : Int} {l : List FnV} {t : TurnV} (h : Od w W g gt gr B pg ms (.slice (some ⟨gf,0,none⟩) n c) l t) (hn : n = l.length) (hk : k < n) (f : FnV) :
    Od w (((W.setCell ⟨gf,k * 3,none⟩ (.int .i32 f.name)).setCell ⟨gf,k * 3 + 1,none⟩ (.int .i64 f.args)).setCell ⟨gf,k * 3 + 2,none⟩ (.string f.code)) g gt gr B pg ms (.slice (some ⟨gf,0,none⟩) n c) (l.set k f) t:=by
 have hkl : k < l.length:=by omega
 obtain ⟨x,hx⟩ : ∃ x,l[k]? = some x:=⟨l[k]'hkl,by simp⟩
 have h1:=h.cell_ (j:=k * 3 + 0) (m:=l.set k ⟨f.name,x.args,x.code⟩) hn (.int .i32 f.name) (uH_ l k x _ 0 _ hx (by omega) rfl) (by simp)
 have h2:=h1.cell_ (j:=k * 3 + 1) (m:=(l.set k ⟨f.name,x.args,x.code⟩).set k ⟨f.name,f.args,x.code⟩) (by simpa using hn) (.int .i64 f.args) (uH_ _ k ⟨f.name,x.args,x.code⟩ _ 1 _ (by simp [hkl]) (by omega) rfl) (by simp)
 have h3:=h2.cell_ (j:=k * 3 + 2) (m:=((l.set k ⟨f.name,x.args,x.code⟩).set k ⟨f.name,f.args,x.code⟩).set k f) (by simpa using hn) (.string f.code) (uH_ _ k ⟨f.name,f.args,x.code⟩ _ 2 _ (by simp [hkl]) (by omega) rfl) (by simp)
 rw [List.set_set,List.set_set] at h3
 exact h3
theorem Od.ret {w W : World} {g gt gr B q : Nat} {pg ms : Int} {vf : Value} {l : List FnV} {t : TurnV} (h : Od w W g gt gr B pg ms vf l t) (hO : Oddly q l) (hpg : -9223372036854775808 ≤ pg ∧ pg ≤ 9223372036854775807) (hms : -9223372036854775808 ≤ ms ∧ ms ≤ 9223372036854775807) :
    Hid (zcR q w (.returned (.agg #[.int .i64 pg,.int .i64 ms,vf])) (((W.setCell ⟨gr,0,none⟩ (.int .i64 pg)).setCell ⟨gr,1,none⟩ (.int .i64 ms)).setCell ⟨gr,2,none⟩ vf)) ∧
      Hid (zb_ (((W.setCell ⟨gr,0,none⟩ (.int .i64 pg)).setCell ⟨gr,1,none⟩ (.int .i64 ms)).setCell ⟨gr,2,none⟩ vf) gr 24 [.int .i64 pg,.int .i64 ms,vf]):=by
 have hz:=h.z
 have haw : ∀ b,vf.ownBlock = some b → b ≠ gr:=fun b hb => by have:=(h.o.lt b hb).1; omega
 have ho:=zn_ (p:=⟨gr,2,none⟩) (u:=vf) (zn_ (p:=⟨gr,1,none⟩) (u:=.int .i64 ms) (zn_ (p:=⟨gr,0,none⟩) (u:=.int .i64 pg) h.o (fun hb => haw _ hb rfl)) (fun hb => haw _ hb rfl)) (fun hb => haw _ hb rfl)
 refine ⟨hQ_ ⟨pg,ms,vf,l,rfl,hpg,hms,z1_ ho (by omega),hO,((h.c.setCell (fun hh => by simp at hh; omega) _).setCell (fun hh => by simp at hh; omega) _).setCell (fun hh => by simp at hh; omega) _⟩,hQ_ ?_⟩
 have:=((h.r.set_ 0 (.int .i64 pg)).set_ 1 (.int .i64 ms)).set_ 2 vf
 simpa using this
theorem zfA {z : Int} (h0 : -9223372036854775808 ≤ z) (h1 : z ≤ 9223372036854775807) : -9223372036854775808 ≤ z.tdiv 5 ∧ z.tdiv 5 ≤ 9223372036854775807:=by
 have h:=Int.tmod_add_mul_tdiv z 5
 have h2:=Int.tmod_lt_of_pos z (show (0 : Int) < 5 by omega)
 have h3:=Int.lt_tmod_of_pos z (show (0 : Int) < 5 by omega)
 omega
theorem zaf (w : World) (e : TypeId) : (w.alloc (.cells #[] e)).ownsRow w.heap.size e 3 (.slice (some ⟨w.heap.size,0,none⟩) 0 0) 0 [] :=
 ⟨rfl,.inr ⟨w.heap.size,0,#[],rfl,Nat.le_refl _,heap_alloc_new w _,Nat.le_refl _,by unfold maxLen; omega,rfl,rfl⟩⟩
theorem zct (l : List FnV) : ∀ u ∈ yx_ l,u.oneCell' = true:=by
 induction l with
 | nil => intro u hu; simp [yx_] at hu
 | cons t l ih =>
   intro u hu
   rw [yx_] at hu
   rcases List.mem_append.1 hu with h | h
   · simp only [fnC,List.mem_cons,List.not_mem_nil,or_false] at h
     rcases h with rfl | rfl | rfl <;> rfl
   · exact ih u h
section
variable {w : World} {A : Option Addr} {n c q : Nat} {l : List FnV} {pg ms : Int}
theorem zeS (hF : Fnr w A n c l) (hO : Oddly q l) (hq : q < 4) (hpg : -9223372036854775808 ≤ pg ∧ pg ≤ 9223372036854775807) (hms : -9223372036854775808 ≤ ms ∧ ms ≤ 9223372036854775807) (t : TurnV) (hT : TurnOk t) :
    Calls Tryz.prog 45 #[zX_ pg ms A n c,.agg (xt_ t).toArray] w (zcR (q + 1) w):=by
 obtain ⟨i0,hi0,hz0,hz1,hz2⟩:=info_parts j8_
 unfold zX_ xt_
 have HF:=hQ_ hF
 have HO:=hQ_ hO
 have HT:=hQ_ hT
 have HB:=hQ_ (And.intro hpg hms)
 have hn0 : 0 < n:=by have:=hO.pos; have:=hF.len; omega
 have hn7 : n ≤ 6:=by have:=hO.few; have:=hF.len; omega
 clear hF hO hT hpg hms
 go_enter Tryz.func45,Tryz.ntmps45
 go_upto_region 1 with fail
 have HOd:=hQ_ (show ∀ W,W = ((w.alloc (.cells #[.int .i64 pg,.int .i64 ms,.slice A n c] 24)).alloc (.cells #[.int .i64 t.what,.int .i64 t.func,.int .i64 t.at_,.int .i64 t.n,.string t.text] 84)).alloc (.cells #[.int .i64 0,.int .i64 0,.slice none 0 0] 24) →
     zb_ W w.heap.size 24 [.int .i64 pg,.int .i64 ms,.slice A n c] ∧ zb_ W (w.heap.size + 1) 84 (xt_ t) ∧ zb_ W (w.heap.size + 1 + 1) 24 [.int .i64 0,.int .i64 0,.slice none 0 0] ∧ Chg [] w W ∧ W.heap.size = w.heap.size + 1 + 1 + 1 from by
  rintro W rfl
  have h1:=zb_.new w 24 [.int .i64 pg,.int .i64 ms,.slice A n c]
  have c1:=(Chg.refl [] w).alloc (.cells #[.int .i64 pg,.int .i64 ms,.slice A n c] 24)
  have z1 : (w.alloc (.cells #[.int .i64 pg,.int .i64 ms,.slice A n c] 24)).heap.size = w.heap.size + 1:=Array.size_push _
  generalize w.alloc (.cells #[.int .i64 pg,.int .i64 ms,.slice A n c] 24) = w1 at *
  have h2:=zb_.new w1 84 (xt_ t)
  have c2:=(Chg.refl [] w1).alloc (.cells (xt_ t).toArray 84)
  have z2 : (w1.alloc (.cells (xt_ t).toArray 84)).heap.size = w1.heap.size + 1:=Array.size_push _
  show zb_ ((w1.alloc (.cells (xt_ t).toArray 84)).alloc _) _ _ _ ∧ zb_ ((w1.alloc (.cells (xt_ t).toArray 84)).alloc _) _ _ _ ∧ zb_ ((w1.alloc (.cells (xt_ t).toArray 84)).alloc _) _ _ _ ∧ Chg [] _ ((w1.alloc (.cells (xt_ t).toArray 84)).alloc _) ∧ ((w1.alloc (.cells (xt_ t).toArray 84)).alloc _).heap.size = _
  generalize w1.alloc (.cells (xt_ t).toArray 84) = w2 at *
  have h3:=zb_.new w2 24 [.int .i64 0,.int .i64 0,.slice none 0 0]
  have c3:=(Chg.refl [] w2).alloc (.cells #[.int .i64 0,.int .i64 0,.slice none 0 0] 24)
  have z3 : (w2.alloc (.cells #[.int .i64 0,.int .i64 0,.slice none 0 0] 24)).heap.size = w2.heap.size + 1:=Array.size_push _
  rw [z1] at h2 z2
  rw [z2] at h3 z3
  exact ⟨(h1.keep c2).keep c3,h2.keep c3,h3,(c1.new c2).new c3,z3⟩)
 generalize hw3 : ((w.alloc (.cells #[.int .i64 pg,.int .i64 ms,.slice A n c] 24)).alloc (.cells #[.int .i64 t.what,.int .i64 t.func,.int .i64 t.at_,.int .i64 t.n,.string t.text] 84)).alloc (.cells #[.int .i64 0,.int .i64 0,.slice none 0 0] 24) = w3
 obtain ⟨hu3,ht3,hr3,hc3,hz3⟩:=HOd.out w3 hw3.symm
 clear HOd hw3
 obtain ⟨g,hg⟩ : ∃ g,g = w.heap.size:=⟨_,rfl⟩
 obtain ⟨gt,hgt⟩ : ∃ gt,gt = w.heap.size + 1:=⟨_,rfl⟩
 obtain ⟨gr,hgr⟩ : ∃ gr,gr = w.heap.size + 1 + 1:=⟨_,rfl⟩
 obtain ⟨B,hB⟩ : ∃ B,B = w.heap.size + 1 + 1 + 1:=⟨_,rfl⟩
 rw [← hgr] at hr3 ⊢
 rw [← hgt] at ht3 ⊢
 rw [← hg] at hu3 ⊢
 have HZ:=hQ_ (show w.heap.size ≤ g ∧ g < gt ∧ gt < gr ∧ gr < B ∧ B ≤ w3.heap.size from by omega)
 have HU3:=hQ_ hu3
 have HT3:=hQ_ ht3
 have HR3:=hQ_ hr3
 have HC3:=hQ_ hc3
 have u2:=hu3.cell 2
 have fu2:=hu3.frozen 2
 clear hu3 ht3 hr3 hc3 hz3 hg hgt hgr hB
 have hal : Chg [] w3 (w3.alloc (.cells #[] 58)):=(Chg.refl [] w3).alloc _
 obtain ⟨ad,hA,hX4⟩ : ∃ ad,A = some ad ∧ ∀ j u,(yx_ l)[j]? = some u → (w3.alloc (.cells #[] 58)).cell? (ad.add j) = some u:=by
  obtain ⟨ad,e,_,hx⟩:=(HF.out.src.keep HC3.out).keep hal (by rw [ye_]; have:=HO.out.pos; omega)
  exact ⟨ad,e,hx⟩
 subst hA
 have HX4:=hQ_ hX4
 have HO4:=hQ_ (z1_ (zaf w3 58) (show B ≤ w3.heap.size from HZ.out.2.2.2.2))
 have HL:=hQ_ (show l.length = n from HF.out.len)
 have HAL:=hQ_ hal
 have hgz : g < w3.heap.size:=by have:=HZ.out; omega
 have hgz' : g ≠ w3.heap.size:=by have:=HZ.out; omega
 have u2a:=(HU3.out.keep hal).cell 2
 clear hX4 hal
 go_upto_region 2 with (
  at_builtin
  refine wpList_append_own _ rfl (.tmp 9) (.tmp 11) _ rfl B 58 i0 _ 3 32 Tryz.underlying22 hi0 hz0 hz1 hz2 rfl (by decide) (.slice (some ⟨w3.heap.size,0,none⟩) 0 0) 0 [] rfl HO4.out ad n c (yx_ l) rfl (by rw [ye_,HL.out]) HX4.out (zct l) (by simp only [maxLen]; omega) (by omega) (by have:=HZ.out; have:=HAL.out.size; omega) ?_
  intro v' w5 ho5 hg5 _
  obtain ⟨A5,c5,rfl,_⟩:=zl_ ho5
  rw [Nat.zero_add,List.nil_append] at ho5
  have hu5:=zh_ (HU3.out.keep HAL.out) HO4.out (by decide) hg5
  have u2:=hu5.cell 2
  have fu2:=hu5.frozen 2
  have HO5:=hQ_ ho5
  have HG5:=hQ_ hg5
  clear ho5 hg5 hu5)
 have HOd:=hQ_ (show Od w (w5.setCell ⟨g,2,none⟩ (.slice A5 n c5)) g gt gr B pg ms (.slice A5 n c5) l t from by
  have hz:=HZ.out
  have hg5:=HG5.out
  refine ⟨by have:=(zh_ (HU3.out.keep HAL.out) HO4.out (by decide) hg5).set_ 2 (.slice A5 n c5); simpa using this,(zh_ (HT3.out.keep HAL.out) HO4.out (by decide) hg5).far (by simp only; omega) _,(zh_ (HR3.out.keep HAL.out) HO4.out (by decide) hg5).far (by simp only; omega) _,?_,?_,?_⟩
  · rw [HL.out]
    exact zn_ HO5.out (fun hb => by have:=(HO5.out.lt _ hb).1; simp only at this; omega)
  · exact (zM_ (HC3.out.new HAL.out) hg5 (fun b hb => by have:=(HO4.out.lt b hb).1; omega)).setCell (fun hh => by simp only at hh; omega) _
  · rw [zu_]; have:=hg5.size; have:=HAL.out.size; omega)
 clear HU3 HT3 HR3 HC3 HAL HO4 HO5 HG5 HX4 HZ u2 u2a fu2 hgz hgz'
 generalize w5.setCell ⟨g,2,none⟩ (.slice A5 n c5) = w6 at HOd ⊢
 obtain ⟨⟨hw0,hw1⟩,⟨hf0,hf1⟩,⟨ha0,ha1⟩,⟨hm0,hm1⟩,hts⟩:=HT.out
 obtain ⟨tw,tf,ta,tn,tx⟩:=t
 simp only at hw0 hw1 hf0 hf1 ha0 ha1 hm0 hm1 hts
 have t4 : w6.cell? ⟨gt,4,none⟩ = some (.string tx):=HOd.out.t.cell 4
 have t0 : w6.cell? ⟨gt,0,none⟩ = some (.int .i64 tw):=HOd.out.t.cell 0
 have t1 : w6.cell? ⟨gt,1,none⟩ = some (.int .i64 tf):=HOd.out.t.cell 1
 have t2 : w6.cell? ⟨gt,2,none⟩ = some (.int .i64 ta):=HOd.out.t.cell 2
 have t3 : w6.cell? ⟨gt,3,none⟩ = some (.int .i64 tn):=HOd.out.t.cell 3
 have u2 : w6.cell? ⟨g,2,none⟩ = some (.slice A5 n c5):=HOd.out.u.cell 2
 go_upto_if 18 with fail
 go_cut [5] (fun v wx => ∃ s : ByteArray,v = .string s ∧ s.size ≤ 12 ∧ w6 = wx)
 case first =>
  by_cases h12 : 12 < tx.size
  · have h12I : (12 : Int) < (tx.size : Int):=by omega
    go_wp2_with fail
    go_meet
    exact ⟨_,rfl,by simp; omega,rfl⟩
  · have h12I : (tx.size : Int) ≤ 12:=by omega
    go_wp2_with fail
    go_meet
    exact ⟨_,rfl,by omega,rfl⟩
 case rest =>
  obtain ⟨s,rfl,hs,rfl⟩:=hcut
  have HS:=hQ_ hs
  clear hs
  have qn : ((n : Int) == 0) = false:=by simp; omega
  by_cases h4 : tw.tmod 5 = 4
  · have q4 : (tw.tmod 5 == 4) = true:=by simpa using h4
    clear h4
    have hd0:=zfA hw0 hw1
    go_wp2_with fail
    refine (gB_ (tw.tdiv 5) 3 3 rfl hd0.1 hd0.2 (by omega)).mono ?_
    rintro e w7 ⟨r,rfl,hr,rfl⟩
    have h3 : r = 0 ∨ r = 1 ∨ r = 2:=by omega
    rcases h3 with rfl | rfl | rfl
    · have g0:=HOd.out.u.frozen 0
      have g0c:=HOd.out.u.cell 0
      go_upto_region 12 with fail
      have HOe:=hQ_ (HOd.out.page tn)
      generalize w6.setCell ⟨g,0,none⟩ (.int .i64 tn) = w8 at HOe ⊢
      clear g0 g0c t0 t1 t2 t3 t4 u2 q4 qn
      have ⟨HP,hWf⟩:=HOe.out.ret (HO.out.more (Nat.le_succ q)) ⟨by omega,by omega⟩ HB.out.2
      have v0 : w8.cell? ⟨g,0,none⟩ = some (.int .i64 tn):=HOe.out.u.cell 0
      have v1 : w8.cell? ⟨g,1,none⟩ = some (.int .i64 ms):=HOe.out.u.cell 1
      have v2 : w8.cell? ⟨g,2,none⟩ = some (.slice A5 n c5):=HOe.out.u.cell 2
      have r0:=HOe.out.r.cell 0
      have r1:=HOe.out.r.cell 1
      have r2:=HOe.out.r.cell 2
      have f0:=HOe.out.r.frozen 0
      have f1:=HOe.out.r.frozen 1
      have f2:=HOe.out.r.frozen 2
      go_wp2_with fail
      have e0:=hWf.out.cell 0
      have e1:=hWf.out.cell 1
      have e2:=hWf.out.cell 2
      generalize ((w8.setCell ⟨gr,0,none⟩ (.int .i64 tn)).setCell ⟨gr,1,none⟩ (.int .i64 ms)).setCell ⟨gr,2,none⟩ (.slice A5 n c5) = wf at HP e0 e1 e2 ⊢
      simp only [List.getElem?_cons_zero,List.getElem?_cons_succ] at e0 e1 e2
      refine bodyPost_ret (v:=.agg #[.int .i64 tn,.int .i64 ms,.slice A5 n c5]) (by simp [results,Tryz.results45,go_sem,e0,e1,e2]) rfl HP.out
    · have g1:=HOd.out.u.frozen 1
      have g1c:=HOd.out.u.cell 1
      go_upto_region 12 with fail
      have HOe:=hQ_ (HOd.out.most tn)
      generalize w6.setCell ⟨g,1,none⟩ (.int .i64 tn) = w8 at HOe ⊢
      clear g1 g1c t0 t1 t2 t3 t4 u2 q4 qn
      have ⟨HP,hWf⟩:=HOe.out.ret (HO.out.more (Nat.le_succ q)) HB.out.1 ⟨by omega,by omega⟩
      have v0 : w8.cell? ⟨g,0,none⟩ = some (.int .i64 pg):=HOe.out.u.cell 0
      have v1 : w8.cell? ⟨g,1,none⟩ = some (.int .i64 tn):=HOe.out.u.cell 1
      have v2 : w8.cell? ⟨g,2,none⟩ = some (.slice A5 n c5):=HOe.out.u.cell 2
      have r0:=HOe.out.r.cell 0
      have r1:=HOe.out.r.cell 1
      have r2:=HOe.out.r.cell 2
      have f0:=HOe.out.r.frozen 0
      have f1:=HOe.out.r.frozen 1
      have f2:=HOe.out.r.frozen 2
      go_wp2_with fail
      have e0:=hWf.out.cell 0
      have e1:=hWf.out.cell 1
      have e2:=hWf.out.cell 2
      generalize ((w8.setCell ⟨gr,0,none⟩ (.int .i64 pg)).setCell ⟨gr,1,none⟩ (.int .i64 tn)).setCell ⟨gr,2,none⟩ (.slice A5 n c5) = wf at HP e0 e1 e2 ⊢
      simp only [List.getElem?_cons_zero,List.getElem?_cons_succ] at e0 e1 e2
      refine bodyPost_ret (v:=.agg #[.int .i64 pg,.int .i64 tn,.slice A5 n c5]) (by simp [results,Tryz.results45,go_sem,e0,e1,e2]) rfl HP.out
    · have HAL:=hQ_ (show Chg [] w6 (w6.alloc (.cells #[.int .i32 107,.int .i64 0,.string s] 58)) from (Chg.refl [] w6).alloc _)
      have u2a : (w6.alloc (.cells #[.int .i32 107,.int .i64 0,.string s] 58)).cell? ⟨g,2,none⟩ = some (.slice A5 n c5):=(HOd.out.keep HAL.out).u.cell 2
      have HOA:=hQ_ (HOd.out.keep HAL.out)
      have hoa:=HOA.out.o
      rw [HL.out] at hoa
      have HOW:=hQ_ hoa
      clear hoa
      go_upto_region 12 with (
       at_builtin
       refine wpList_append_own _ rfl (.tmp 36) (.tmp 39) _ rfl B 58 i0 _ 3 32 Tryz.underlying22 hi0 hz0 hz1 hz2 rfl (by decide) (.slice A5 n c5) n (yx_ l) rfl HOW.out ⟨w6.heap.size,0,none⟩ 1 1 [.int .i32 107,.int .i64 0,.string s] rfl rfl (zo_ _ _ _) (by simp [Value.oneCell']) (by simp only [maxLen]; omega) (by omega) (by have:=HOA.out.z; omega) ?_
       intro v' w7 ho7 hg7 _
       obtain ⟨A7,c7,rfl,_⟩:=zl_ ho7
       have hu7:=zh_ HOA.out.u HOA.out.o (by decide) hg7
       have fu7:=hu7.frozen 2
       have cu7:=hu7.cell 2
       have HO7:=hQ_ ho7
       have HG7:=hQ_ hg7
       clear ho7 hg7 hu7)
      have HOe:=hQ_ (Od.funcs (l:=l) (m:=l ++ [⟨107,0,s⟩]) HOA.out (v':=.slice A7 (n + 1) c7) (W':=w7) (by rw [xR_,gr_,List.length_append,HL.out]; exact HO7.out) HG7.out)
      have HO8:=hQ_ (HO.out.add (f:=⟨107,0,s⟩) ⟨by simp,by simp⟩ (by have:=HS.out; simp only; omega) ⟨by simp,by simp⟩)
      generalize w7.setCell ⟨g,2,none⟩ (.slice A7 (n + 1) c7) = w8 at HOe ⊢
      clear t0 t1 t2 t3 t4 u2 q4 qn cu7 fu7 u2a
      have ⟨HP,hWf⟩:=HOe.out.ret HO8.out HB.out.1 HB.out.2
      have v0 : w8.cell? ⟨g,0,none⟩ = some (.int .i64 pg):=HOe.out.u.cell 0
      have v1 : w8.cell? ⟨g,1,none⟩ = some (.int .i64 ms):=HOe.out.u.cell 1
      have v2 : w8.cell? ⟨g,2,none⟩ = some (.slice A7 (n + 1) c7):=HOe.out.u.cell 2
      have r0:=HOe.out.r.cell 0
      have r1:=HOe.out.r.cell 1
      have r2:=HOe.out.r.cell 2
      have f0:=HOe.out.r.frozen 0
      have f1:=HOe.out.r.frozen 1
      have f2:=HOe.out.r.frozen 2
      go_wp2_with fail
      have e0:=hWf.out.cell 0
      have e1:=hWf.out.cell 1
      have e2:=hWf.out.cell 2
      generalize ((w8.setCell ⟨gr,0,none⟩ (.int .i64 pg)).setCell ⟨gr,1,none⟩ (.int .i64 ms)).setCell ⟨gr,2,none⟩ (.slice A7 (n + 1) c7) = wf at HP e0 e1 e2 ⊢
      simp only [List.getElem?_cons_zero,List.getElem?_cons_succ] at e0 e1 e2
      refine bodyPost_ret (v:=.agg #[.int .i64 pg,.int .i64 ms,.slice A7 (n + 1) c7]) (by simp [results,Tryz.results45,go_sem,e0,e1,e2]) rfl HP.out
  · have q4 : (tw.tmod 5 == 4) = false:=by simpa using h4
    clear h4
    have hd0:=zfA hw0 hw1
    go_wp2_with fail
    refine (gB_ tf n n (by omega) hf0 hf1 (by omega)).mono ?_
    rintro e w7 ⟨r,rfl,hr,rfl⟩
    obtain ⟨f,hfr⟩ : ∃ f,l[r]? = some f:=⟨l[r]'(by rw [HL.out]; exact hr),by simp⟩
    have HFR:=hQ_ hfr
    obtain ⟨⟨hfa0,hfa1⟩,hfc,hfn⟩:=HO.out.fn f (List.mem_of_getElem? hfr)
    have hrI : (r : Int) < (n : Int):=by omega
    obtain ⟨gf,e,y0⟩:=zv_ HOd.out.o (by rw [HL.out]) ((yf_ _ r _ 0 hfr (by omega)).trans rfl)
    subst e
    obtain ⟨_,e,y1⟩:=zv_ HOd.out.o (by rw [HL.out]) ((yf_ _ r _ 1 hfr (by omega)).trans rfl)
    injection e with e; injection e with e; subst e
    obtain ⟨_,e,y2⟩:=zv_ HOd.out.o (by rw [HL.out]) ((yf_ _ r _ 2 hfr (by omega)).trans rfl)
    injection e with e; injection e with e; subst e
    obtain ⟨fn,fa,fc⟩:=f
    simp only at hfa0 hfa1 hfc hfn y0 y1 y2
    rw [Nat.add_zero] at y0
    have hgf:=HOd.out.o.lt gf rfl
    clear hfr
    go_upto_region 15 with fail
    have HAL:=hQ_ (show Chg [] w6 (w6.alloc (.cells #[.int .i32 fn,.int .i64 fa,.string fc] 58)) from (Chg.refl [] w6).alloc _)
    have HX:=hQ_ (zb_.new w6 58 [.int .i32 fn,.int .i64 fa,.string fc])
    have HO7:=hQ_ (HOd.out.keep HAL.out)
    obtain ⟨gx,hgx⟩ : ∃ gx,gx = w6.heap.size:=⟨_,rfl⟩
    have HGX:=hQ_ (show gf < gx ∧ B ≤ gx from by have:=HOd.out.z; omega)
    rw [← hgx] at HX ⊢
    generalize w6.alloc (.cells #[.int .i32 fn,.int .i64 fa,.string fc] 58) = w7 at HAL HX HO7 ⊢
    clear t0 t1 t2 t3 t4 u2 hgx y0 y1 y2 HAL HOd hgf
    have t0 : w7.cell? ⟨gt,0,none⟩ = some (.int .i64 tw):=HO7.out.t.cell 0
    have t2 : w7.cell? ⟨gt,2,none⟩ = some (.int .i64 ta):=HO7.out.t.cell 2
    have t3 : w7.cell? ⟨gt,3,none⟩ = some (.int .i64 tn):=HO7.out.t.cell 3
    have x0:=HX.out.cell 0
    have x1:=HX.out.cell 1
    have x2:=HX.out.cell 2
    have hfc2 : fc.size ≤ 1000000:=by omega
    have hat:=gB_ (w:=w7) ta (fc.size + 1) (fc.size + 1) (by omega) ha0 ha1 (by omega)
    rw [show ((fc.size + 1 : Nat) : Int) = (fc.size : Int) + 1 from by omega] at hat
    have HAT:=hQ_ hat
    clear hat
    go_wp2_with fail
    refine HAT.out.mono ?_
    rintro e w8 ⟨p,rfl,hp,rfl⟩
    clear HAT
    go_wp2_with fail
    refine (gB_ (tw.tdiv 5) 5 5 rfl hd0.1 hd0.2 (by omega)).mono ?_
    rintro e w8 ⟨k5,rfl,hk5,rfl⟩
    have f0:=HX.out.frozen 0
    have f1:=HX.out.frozen 1
    have f2:=HX.out.frozen 2
    go_upto_block 1 with fail
    go_cut [] (fun wx => ∃ f : FnV,Hid (zb_ wx gx 58 [.int .i32 f.name,.int .i64 f.args,.string f.code]) ∧ Hid (Od w wx g gt gr B pg ms (.slice (some ⟨gf,0,none⟩) n c5) l ⟨tw,tf,ta,tn,tx⟩) ∧ (-9223372036854775808 ≤ f.args ∧ f.args ≤ 9223372036854775807) ∧ f.code.size ≤ 1000 + 12 * (q + 1) ∧ (-2147483648 ≤ f.name ∧ f.name ≤ 2147483647))
    case first =>
     have h5 : k5 = 0 ∨ k5 = 1 ∨ k5 = 2 ∨ k5 = 3 ∨ k5 = 4:=by omega
     have hps : p ≤ fc.size:=by omega
     rcases h5 with rfl | rfl | rfl | rfl | rfl
     · go_upto_region 19 with fail
       obtain ⟨y1,hy1,ha1⟩:=y9_ (fc.extract 0 p) s p 12 (by simp; omega) HS.out (by omega)
       obtain ⟨y2,hy2,ha2⟩:=y9_ y1 (fc.extract p fc.size) (p + 12) (fc.size - p) hy1 (by simp) (by omega)
       have HX8:=hQ_ HX.out.drew
       have HO8:=hQ_ (HO7.out.keep (Chg.refl [] w7).drew)
       go_still_tail 12,(by kernel_rfl)
       change wpList _ _ _ _ _ w7.drew
       generalize w7.drew = w8 at HX8 HO8 ⊢
       have x2:=HX8.out.cell 2
       have f2:=HX8.out.frozen 2
       have h9:=HX8.out.set_ 2 (.string y2)
       have h8:=HO8.out.far (p:=⟨gx,2,none⟩) (by have:=HGX.out; simp only; omega) (by have:=HGX.out; simp [Value.ownBlock]; omega) (.string y2)
       go_wp2_with fail
       go_meet
       exact ⟨⟨fn,fa,y2⟩,hQ_ (by simpa using h9),hQ_ h8,by simp only; omega,by simp only; omega,by simp only; omega⟩
     · go_upto_region 21 with fail
       obtain ⟨y2,hy2,ha2⟩:=y9_ (fc.extract 0 p) (fc.extract (min (p + 1) fc.size) fc.size) p (fc.size - p) (by simp; omega) (by simp; omega) (by omega)
       have hmn : min ((p : Int) + 1) (fc.size : Int) = ((min (p + 1) fc.size : Nat) : Int):=by omega
       obtain ⟨mn,hmm⟩ : ∃ mn,mn = min (p + 1) fc.size:=⟨_,rfl⟩
       have hmn2 : mn ≤ fc.size:=by omega
       rw [← hmm] at hmn ha2
       clear hmm
       have hwp : IntKind.i64.wrap ((p : Int) + 1) = (p : Int) + 1:=IntWalk.i64_in _ (by omega)
       have hmnI : (mn : Int) ≤ (fc.size : Int):=by omega
       have hmn0 : (0 : Int) ≤ (mn : Int):=by omega
       have hmnN : (mn : Int).toNat = mn:=Int.toNat_natCast _
       have HX8:=hQ_ HX.out.drew
       have HO8:=hQ_ (HO7.out.keep (Chg.refl [] w7).drew)
       go_still_tail 15,(by kernel_rfl)
       change wpList _ _ _ _ _ w7.drew
       generalize w7.drew = w8 at HX8 HO8 ⊢
       have x2:=HX8.out.cell 2
       have f2:=HX8.out.frozen 2
       have h9:=HX8.out.set_ 2 (.string y2)
       have h8:=HO8.out.far (p:=⟨gx,2,none⟩) (by have:=HGX.out; simp only; omega) (by have:=HGX.out; simp [Value.ownBlock]; omega) (.string y2)
       go_wp2_with fail
       go_meet
       exact ⟨⟨fn,fa,y2⟩,hQ_ (by simpa using h9),hQ_ h8,by simp only; omega,by simp only; omega,by simp only; omega⟩
     · go_upto_region 23 with fail
       obtain ⟨y1,hy1,ha1⟩:=y9_ (fc.extract 0 p) s p 12 (by simp; omega) HS.out (by omega)
       obtain ⟨y2,hy2,ha2⟩:=y9_ y1 (fc.extract (min (p + 1) fc.size) fc.size) (p + 12) (fc.size - p) hy1 (by simp; omega) (by omega)
       have hmn : min ((p : Int) + 1) (fc.size : Int) = ((min (p + 1) fc.size : Nat) : Int):=by omega
       obtain ⟨mn,hmm⟩ : ∃ mn,mn = min (p + 1) fc.size:=⟨_,rfl⟩
       have hmn2 : mn ≤ fc.size:=by omega
       rw [← hmm] at hmn ha2
       clear hmm
       have hwp : IntKind.i64.wrap ((p : Int) + 1) = (p : Int) + 1:=IntWalk.i64_in _ (by omega)
       have hmnI : (mn : Int) ≤ (fc.size : Int):=by omega
       have hmn0 : (0 : Int) ≤ (mn : Int):=by omega
       have hmnN : (mn : Int).toNat = mn:=Int.toNat_natCast _
       have HX8:=hQ_ HX.out.drew
       have HO8:=hQ_ (HO7.out.keep (Chg.refl [] w7).drew)
       go_still_tail 17,(by kernel_rfl)
       change wpList _ _ _ _ _ w7.drew
       generalize w7.drew = w8 at HX8 HO8 ⊢
       have x2:=HX8.out.cell 2
       have f2:=HX8.out.frozen 2
       have h9:=HX8.out.set_ 2 (.string y2)
       have h8:=HO8.out.far (p:=⟨gx,2,none⟩) (by have:=HGX.out; simp only; omega) (by have:=HGX.out; simp [Value.ownBlock]; omega) (.string y2)
       go_wp2_with fail
       go_meet
       exact ⟨⟨fn,fa,y2⟩,hQ_ (by simpa using h9),hQ_ h8,by simp only; omega,by simp only; omega,by simp only; omega⟩
     · have h9:=(HX.out.set_ 1 (.int .i64 tn))
       have h8:=HO7.out.far (p:=⟨gx,1,none⟩) (by have:=HGX.out; simp only; omega) (by have:=HGX.out; simp [Value.ownBlock]; omega) (.int .i64 tn)
       go_wp2_with fail
       go_meet
       exact ⟨⟨fn,tn,fc⟩,hQ_ (by simpa using h9),hQ_ h8,by simp only; omega,by simp only; omega,by simp only; omega⟩
     · have h9:=(HX.out.set_ 0 (.int .i32 (wrap32 tn)))
       have h8:=HO7.out.far (p:=⟨gx,0,none⟩) (by have:=HGX.out; simp only; omega) (by have:=HGX.out; simp [Value.ownBlock]; omega) (.int .i32 (wrap32 tn))
       have hwr : -2147483648 ≤ wrap32 tn ∧ wrap32 tn ≤ 2147483647:=by
        have:=wrap32_wf tn
        simpa [Lit.wf,IntKind.min,IntKind.max,IntKind.signed,IntKind.bits] using this
       go_wp2_with fail
       go_meet
       exact ⟨⟨wrap32 tn,fa,fc⟩,hQ_ (by simpa using h9),hQ_ h8,by simp only; omega,by simp only; omega,by simp only; omega⟩
    case rest =>
     obtain ⟨f',HX',HO',hz⟩:=hcut
     obtain ⟨w8,rfl⟩ : ∃ w8 : World,w8 = wc:=⟨_,rfl⟩
     obtain ⟨hz1,hz2,hz3⟩:=hz
     have HM:=hQ_ (HO.out.set (f:=f') r hz1 hz2 hz3)
     have hgf:=HO'.out.o.lt gf rfl
     obtain ⟨gn,ga,gc⟩:=f'
     simp only at hz1 hz2 hz3
     clear x0 x1 x2 f0 f1 f2 t0 t2 t3 HX HO7
     have x0:=HX'.out.cell 0
     have x1:=HX'.out.cell 1
     have x2:=HX'.out.cell 2
     have u2 : w8.cell? ⟨g,2,none⟩ = some (.slice (some ⟨gf,0,none⟩) n c5):=HO'.out.u.cell 2
     have y0 : w8.cell? ⟨gf,r * 3,none⟩ = some (.int .i32 fn):=by
      obtain ⟨_,e,y⟩:=zv_ HO'.out.o (by rw [HL.out]) ((yf_ _ r _ 0 HFR.out (by omega)).trans rfl)
      injection e with e; injection e with e; subst e; exact y
     have y1 : w8.cell? ⟨gf,r * 3 + 1,none⟩ = some (.int .i64 fa):=by
      obtain ⟨_,e,y⟩:=zv_ HO'.out.o (by rw [HL.out]) ((yf_ _ r _ 1 HFR.out (by omega)).trans rfl)
      injection e with e; injection e with e; subst e; exact y
     have y2 : w8.cell? ⟨gf,r * 3 + 2,none⟩ = some (.string fc):=by
      obtain ⟨_,e,y⟩:=zv_ HO'.out.o (by rw [HL.out]) ((yf_ _ r _ 2 HFR.out (by omega)).trans rfl)
      injection e with e; injection e with e; subst e; exact y
     have hO8:=HO'.out.o
     rw [HL.out] at hO8
     have z0:=zP_ (j:=r * 3) hO8
     have z1:=zP_ (j:=r * 3 + 1) hO8
     have z2:=zP_ (j:=r * 3 + 2) hO8
     have HO8:=hQ_ hO8
     clear hO8
     go_upto_region 27 with fail
     have HOe:=hQ_ (HO'.out.func_ HL.out.symm hr ⟨gn,ga,gc⟩)
     clear x0 x1 x2 u2 y0 y1 y2 z0 z1 z2 HO' HX' HO8 hgf
     generalize ((w8.setCell ⟨gf,r * 3,none⟩ (.int .i32 gn)).setCell ⟨gf,r * 3 + 1,none⟩ (.int .i64 ga)).setCell ⟨gf,r * 3 + 2,none⟩ (.string gc) = w9 at HOe ⊢
     have ⟨HP,hWf⟩:=HOe.out.ret HM.out HB.out.1 HB.out.2
     have v0 : w9.cell? ⟨g,0,none⟩ = some (.int .i64 pg):=HOe.out.u.cell 0
     have v1 : w9.cell? ⟨g,1,none⟩ = some (.int .i64 ms):=HOe.out.u.cell 1
     have v2 : w9.cell? ⟨g,2,none⟩ = some (.slice (some ⟨gf,0,none⟩) n c5):=HOe.out.u.cell 2
     have r0:=HOe.out.r.cell 0
     have r1:=HOe.out.r.cell 1
     have r2:=HOe.out.r.cell 2
     have f0:=HOe.out.r.frozen 0
     have f1:=HOe.out.r.frozen 1
     have f2:=HOe.out.r.frozen 2
     go_wp2_with fail
     have e0:=hWf.out.cell 0
     have e1:=hWf.out.cell 1
     have e2:=hWf.out.cell 2
     generalize ((w9.setCell ⟨gr,0,none⟩ (.int .i64 pg)).setCell ⟨gr,1,none⟩ (.int .i64 ms)).setCell ⟨gr,2,none⟩ (.slice (some ⟨gf,0,none⟩) n c5) = wf at HP e0 e1 e2 ⊢
     simp only [List.getElem?_cons_zero,List.getElem?_cons_succ] at e0 e1 e2
     refine bodyPost_ret (v:=.agg #[.int .i64 pg,.int .i64 ms,.slice (some ⟨gf,0,none⟩) n c5]) (by simp [results,Tryz.results45,go_sem,e0,e1,e2]) rfl HP.out
end
end Go.Proofs.YtbkfhndmeljlcaaGreatDoor
