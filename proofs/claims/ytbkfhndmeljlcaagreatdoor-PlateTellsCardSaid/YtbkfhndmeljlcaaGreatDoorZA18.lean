import Derived.Test.YtbkfhndmeljlcaaGreatDoorZA17
import Derived.Deep.Fields
set_option maxRecDepth 100000
set_option maxHeartbeats 16000000
namespace Go.Proofs.YtbkfhndmeljlcaaGreatDoor
open Go.RowKit Go.ChangeShapes Go.WideShapes Go.Deep
theorem zdP {α : Type} {P : Nat → α → Prop} (n : Nat) (h : ∀ i,i < n → ∃ a,P i a) : ∃ l : List α,l.length = n ∧ ∀ i a,l[i]? = some a → P i a:=by
 induction n with
 | zero => exact ⟨[],rfl,fun i a h => by simp at h⟩
 | succ n ih =>
   obtain ⟨l,hl,hx⟩:=ih fun i hi => h i (by omega)
   obtain ⟨a,ha⟩:=h n (by omega)
   refine ⟨l ++ [a],by simp [hl],fun i b hb => ?_⟩
   rcases Nat.lt_trichotomy i n with hi | hi | hi
   · rw [List.getElem?_append_left (by omega)] at hb
     exact hx i b hb
   · subst hi
     rw [← hl,List.getElem?_concat_length] at hb
     cases hb
     exact ha
   · rw [List.getElem?_eq_none (by simp; omega)] at hb
     cases hb
section
variable {H : Type} {enc : TypeId × Value → H} {w : World} {base : Nat} {held : Bool} {P : Program}
theorem zbo {t e : TypeId} {fs : Array Field} (ht : P.underlying t = some (.slice e)) (hu : P.underlying e = some (.struct fs)) (hone : oneCellFields P fs = true) {m : Nat} (hm0 : fs.size = m) (hC : P.cellsOf e = m)
    {fuel : Nat} {cs : List Value} {x : DataW H × List MemPlace} (h : DataW.trod enc P w base (fun _ => true) held fuel t cs = some x) (v : Value) (hv : cs = [v]) :
    ∃ A n c,v = .slice A n c ∧ n ≤ c ∧ c ≤ maxLen ∧ ∀ i,i < n → ∃ (a : Addr) (us : List Value),A = some a ∧ us.length = m ∧ (∀ j u,us[j]? = some u → w.cell? ((a.add (i * m)).add j) = some u) ∧
      ∀ (j : Nat) (f : Field) (u : Value),fs[j]? = some f → us[j]? = some u → ∃ n' y,DataW.trod enc P w base (fun _ => true) held n' f.type [u] = some y:=by
 subst hv
 rcases open_slice ht h with ⟨h0,_⟩ | ⟨a,len,cap,m',f,D,Pl,hcs,hb,hl,hm,hmm,hx,hi⟩
 · simp only [List.cons.injEq,and_true] at h0
   exact ⟨none,0,0,h0,Nat.le_refl _,by unfold maxLen; omega,fun i hi => by omega⟩
 · simp only [List.cons.injEq,and_true] at hcs
   rw [if_pos rfl] at hmm
   subst hmm
   refine ⟨some a,len,m',hcs,hl,hm,fun i hlt => ?_⟩
   obtain ⟨cs',hc,ht'⟩:=hi i (by omega)
   rw [hC] at hc
   obtain ⟨xs,n',hn',hy,hlen,hxl,hf⟩:=DataW.trod_struct hu ht'
   obtain ⟨_,hcl,hat⟩:=World.cells?_some hc
   refine ⟨a,cs',rfl,hcl,fun j u hj => ?_,fun j f u hj hu' => ?_⟩
   · have:=hat j (by have:=(List.getElem?_eq_some_iff.1 hj).1; omega)
     rw [this,hj]
   · have hfj:=hf j f hj
     obtain ⟨o,k⟩:=hone_of hone j f hj
     rw [o,k] at hfj
     have hd : (cs'.drop j).take 1 = [u]:=by
      have hlt:=(List.getElem?_eq_some_iff.1 hu').1
      rw [List.drop_eq_getElem_cons hlt]
      simp only [List.take_succ_cons,List.take_zero]
      rw [(List.getElem?_eq_some_iff.1 hu').2]
     rw [hd] at hfj
     have hjx : j < xs.length:=by rw [hxl]; exact (Array.getElem?_eq_some_iff.1 hj).1
     rw [List.getElem?_eq_getElem hjx] at hfj
     exact ⟨_,_,hfj⟩
end
theorem x2_ {fs : Array Field} {ts : Array TypeId} (h : fs.map (·.type) = ts) (j : Nat) (t : TypeId) (hj : ts[j]? = some t) : ∃ f : Field,fs[j]? = some f ∧ f.type = t:=by
 rw [← h,Array.getElem?_map] at hj
 cases hf : fs[j]? with
 | none => rw [hf] at hj; cases hj
 | some f => rw [hf] at hj; exact ⟨f,rfl,by simpa using hj⟩
theorem g8_ {w : World} {x : Addr} {k : IntKind} {z : Int} (hc : w.cell? x = some (.int k z)) : x.spot = none:=by
 cases hs : x.spot with
 | none => rfl
 | some u =>
   exfalso
   unfold World.cell? at hc
   rw [hs] at hc
   split at hc
   · simp at hc
   · cases hc
theorem zde {α : Type} {w : World} {a : Addr} {m : Nat} (C : α → List Value) (Cs : List α → List Value) (h0 : Cs [] = []) (h1 : ∀ x l,Cs (x :: l) = C x ++ Cs l) (hC : ∀ x,(C x).length = m) (l : List α) (ha : a.spot = none)
    (hl : ∀ i x,l[i]? = some x → ∀ j u,(C x)[j]? = some u → w.cell? ((a.add (i * m)).add j) = some u) : ∀ j u,(Cs l)[j]? = some u → w.cell? (a.add j) = some u:=by
      obtain ⟨b,o,s⟩:=a
      simp only at ha
      subst ha
      simp only [zj_] at hl ⊢
      induction l generalizing o with
      | nil => intro j u hj; rw [h0] at hj; simp at hj
      | cons x l ih =>
        intro j u hj
        rw [h1] at hj
        rcases Nat.lt_or_ge j (C x).length with hlt | hge
        · rw [List.getElem?_append_left hlt] at hj
          have:=hl 0 x rfl j u hj
          simpa using this
        · rw [List.getElem?_append_right hge] at hj
          have:=ih (o + m) (fun i y hy k v hk => by
           have:=hl (i + 1) y (by simpa using hy) k v hk
           rw [show o + m + i * m + k = o + (i + 1) * m + k from by rw [Nat.add_mul]; omega]
           exact this) (j - (C x).length) u hj
          rw [hC] at this hge
          rw [show o + m + (j - m) = o + j from by omega] at this
          exact this
theorem kY_ (a : Addr) : a.add 0 = a:=by unfold Addr.add; simp
theorem zdo {α : Type} {w : World} {A : Option Addr} {n m : Nat} {C : α → List Value} {Cs : List α → List Value} {l : List α} (h0 : Cs [] = []) (h1 : ∀ x l,Cs (x :: l) = C x ++ Cs l) (hC : ∀ x,(C x).length = m) (hk : ∀ x,∃ k z,(C x)[0]? = some (.int k z)) (hl : l.length = n)
    (hx : ∀ i x,l[i]? = some x → ∃ a,A = some a ∧ ∀ j u,(C x)[j]? = some u → w.cell? ((a.add (i * m)).add j) = some u) : Src w A (Cs l) ∧ (0 < n → ∀ ad,A = some ad → ad.spot = none):=by
      have key : 0 < n → ∃ a,A = some a ∧ a.spot = none ∧ a.block < w.heap.size:=fun h => by
       obtain ⟨a,rfl,hc⟩:=hx 0 _ (List.getElem?_eq_getElem (by omega))
       obtain ⟨k,z,hz⟩:=hk (l[0]'(by omega))
       have c0:=hc 0 _ hz
       rw [Nat.zero_mul,kY_,kY_] at c0
       have hs:=g8_ c0
       obtain ⟨b,o,s⟩:=a
       simp only at hs
       subst hs
       exact ⟨_,rfl,rfl,block_lt_of_cell c0⟩
      refine ⟨fun hp => ?_,fun h ad e => ?_⟩
      · have hn : 0 < n:=by
         rcases Nat.eq_zero_or_pos n with h | h
         · exfalso
           have : l = []:=List.eq_nil_of_length_eq_zero (by omega)
           rw [this,h0] at hp
           simp at hp
         · exact h
        obtain ⟨a,rfl,hs,hb⟩:=key hn
        refine ⟨a,rfl,hb,zde C Cs h0 h1 hC l hs fun i x hi => ?_⟩
        obtain ⟨_,e,hc⟩:=hx i x hi
        injection e with e
        subst e
        exact hc
      · obtain ⟨a,e',hs,_⟩:=key h
        rw [e] at e'
        injection e' with e'
        subst e'
        exact hs
end Go.Proofs.YtbkfhndmeljlcaaGreatDoor
namespace Go.Proofs.YtbkfhndmeljlcaaGreatDoor
open Go.RowKit Go.ChangeShapes Go.WideShapes Go.Deep
theorem qr_ : ∃ fs,Tryz.prog.underlying 84 = some (.struct fs) ∧ oneCellFields Tryz.prog fs = true ∧ fs.map (·.type) = #[3,3,3,3,9] :=
 ⟨_,Tryz.underlying84,by kernel_rfl,by kernel_rfl⟩
theorem zcv {α : Type} {l : List α} (h : l.length = 5) : ∃ a b c d e,l = [a,b,c,d,e]:=by
 match l,h with
 | [a,b,c,d,e],_ => exact ⟨a,b,c,d,e,rfl⟩
section
variable {H : Type} {enc : TypeId × Value → H} {w : World} {base : Nat} {held : Bool}
theorem gX_ {fuel : Nat} {cs : List Value} {x : DataW H × List MemPlace} (h : DataW.trod enc Tryz.prog w base (fun _ => true) held fuel 35 cs = some x) (v : Value) (hv : cs = [v]) :
    ∃ A n c l,v = .slice A n c ∧ Trn w A n l ∧ n ≤ c ∧ c ≤ maxLen:=by
 obtain ⟨fs,hu,hone,hty⟩:=qr_
 have hfs : fs.size = 5:=by have:=congrArg Array.size hty; simpa using this
 obtain ⟨A,n,c,rfl,hnc,hcm,hrow⟩:=zbo Tryz.underlying35 hu hone hfs (by kernel_rfl) h v hv
 have key : ∀ i,i < n → ∃ q : TurnV,TurnOk q ∧ ∃ a,A = some a ∧ ∀ j u,(xt_ q)[j]? = some u → w.cell? ((a.add (i * 5)).add j) = some u:=by
  intro i hi
  obtain ⟨a,us,rfl,hl,hc,hf⟩:=hrow i hi
  obtain ⟨v0,v1,v2,v3,v4,rfl⟩:=zcv hl
  obtain ⟨f0,g0,t0⟩:=x2_ hty 0 _ rfl
  obtain ⟨f1,g1,t1⟩:=x2_ hty 1 _ rfl
  obtain ⟨f2,g2,t2⟩:=x2_ hty 2 _ rfl
  obtain ⟨f3,g3,t3⟩:=x2_ hty 3 _ rfl
  obtain ⟨f4,g4,t4⟩:=x2_ hty 4 _ rfl
  obtain ⟨_,_,q0⟩:=hf 0 _ _ g0 rfl
  obtain ⟨_,_,q1⟩:=hf 1 _ _ g1 rfl
  obtain ⟨_,_,q2⟩:=hf 2 _ _ g2 rfl
  obtain ⟨_,_,q3⟩:=hf 3 _ _ g3 rfl
  obtain ⟨_,_,q4⟩:=hf 4 _ _ g4 rfl
  rw [t0] at q0; rw [t1] at q1; rw [t2] at q2; rw [t3] at q3; rw [t4] at q4
  obtain ⟨z0,e0,_,w0⟩:=DataW.trod_int Tryz.underlying3 q0
  obtain ⟨z1,e1,_,w1⟩:=DataW.trod_int Tryz.underlying3 q1
  obtain ⟨z2,e2,_,w2⟩:=DataW.trod_int Tryz.underlying3 q2
  obtain ⟨z3,e3,_,w3⟩:=DataW.trod_int Tryz.underlying3 q3
  obtain ⟨s4,e4,_,w4⟩:=DataW.trod_string Tryz.underlying9 q4
  simp only [List.cons.injEq,and_true] at e0 e1 e2 e3 e4
  subst e0 e1 e2 e3 e4
  exact ⟨⟨z0,z1,z2,z3,s4⟩,⟨km_ w0,km_ w1,km_ w2,km_ w3,w4⟩,a,rfl,hc⟩
 obtain ⟨l,hll,hlx⟩:=zdP n key
 obtain ⟨hsrc,hsp⟩:=zdo (C:=xt_) (Cs:=ul_) rfl (fun _ _ => rfl) (fun _ => rfl) (fun _ => ⟨_,_,rfl⟩) hll (fun i x hx => (hlx i x hx).2)
 refine ⟨A,n,c,l,rfl,⟨hll,hsrc,hsp,fun q hq => ?_⟩,hnc,hcm⟩
 obtain ⟨i,hi,rfl⟩:=List.getElem_of_mem hq
 exact (hlx i _ (List.getElem?_eq_getElem hi)).1
end
end Go.Proofs.YtbkfhndmeljlcaaGreatDoor
namespace Go.Proofs.YtbkfhndmeljlcaaGreatDoor
open Go.RowKit Go.ChangeShapes Go.WideShapes Go.Deep
theorem kA_ {α : Type} {l : List α} (h : l.length = 3) : ∃ a b c,l = [a,b,c]:=by
 match l,h with
 | [a,b,c],_ => exact ⟨a,b,c,rfl⟩
end Go.Proofs.YtbkfhndmeljlcaaGreatDoor
namespace Go.Proofs.YtbkfhndmeljlcaaGreatDoor
open Go.RowKit
section
variable {w : World}
theorem g9_ (l : List UInt8) (hl : l.length ≤ 1000000) : Calls Tryz.prog 55 #[.string (zc_ l)] w (yZ_ (zK_ l) w):=by
 have hsz:=zy_ l
 obtain ⟨i0,hi0,hz0,hz1,hz2⟩:=info_parts gj_
 have HP0:=hQ_ (show ∀ (r : Int) (wr : World),zK_ l = (r,0,0,[]) → Chg [] w wr → yZ_ (zK_ l) w (.returned (.tuple #[.agg #[.int .i64 0,.int .i64 0,.slice none 0 0],.int .i64 r])) wr from fun r wr h hc => by
  rw [h]
  exact ⟨_,rfl,World.ownsRow_nil _ _ _ _,by simp,by simp,hc⟩)
 have HP1:=hQ_ (show ∀ (p m : Int) (fs : List FnV) (v : Value) (wr : World),zK_ l = (0,p,m,fs) → wr.ownsRow w.heap.size 58 3 v fs.length (yx_ fs) → fs.length ≤ 1000 → (∀ f ∈ fs,okF f) → Chg [] w wr → yZ_ (zK_ l) w (.returned (.tuple #[.agg #[.int .i64 p,.int .i64 m,v],.int .i64 0])) wr from fun p m fs v wr h h1 h2 h3 h4 => by
  rw [h]
  exact ⟨v,rfl,h1,h2,h3,h4⟩)
 generalize yZ_ (zK_ l) w = PO at HP0 HP1 ⊢
 by_cases h2 : 2048 < l.length
 · have HRP:=hQ_ (show zK_ l = (3,0,0,[]) from by unfold zK_; rw [if_pos h2])
   have h2I : (2048 : Int) < ((zc_ l).size : Int):=by omega
   generalize zc_ l = S at *
   clear hl h2 hsz
   go_enter Tryz.func55,Tryz.ntmps55
   go_upto_region 1 with fail
   have hN:=zb_.new w 24 [.int .i64 0,.int .i64 0,.slice none 0 0]
   have hal:=(Chg.refl [] w).alloc (.cells #[.int .i64 0,.int .i64 0,.slice none 0 0] 24)
   obtain ⟨g,hg⟩ : ∃ g,g = w.heap.size:=⟨_,rfl⟩
   have hw1s : (w.alloc (.cells #[.int .i64 0,.int .i64 0,.slice none 0 0] 24)).heap.size = g + 1:=by rw [hg]; simp
   rw [← hg] at hN ⊢
   have HG:=hQ_ hN
   have HW1:=hQ_ hal
   have HGS:=hQ_ hg
   have HGZ:=hQ_ hw1s
   have hnl : ¬ g < w.heap.size:=by omega
   generalize w.alloc (.cells #[.int .i64 0,.int .i64 0,.slice none 0 0] 24) = w1 at HG HW1 HGZ ⊢
   clear hN hal hg hw1s
   have z0:=HG.out.cell 0
   have z1:=HG.out.cell 1
   have z2:=HG.out.cell 2
   have f0:=HG.out.frozen 0
   have f1:=HG.out.frozen 1
   have f2:=HG.out.frozen 2
   go_wp2_with fail
   have HCF:=((HW1.out.setCell (p:=⟨g,0,none⟩) (fun h => absurd h hnl) (.int .i64 0)).setCell (p:=⟨g,1,none⟩) (fun h => absurd h hnl) (.int .i64 0)).setCell (p:=⟨g,2,none⟩) (fun h => absurd h hnl) (.slice none 0 0)
   have HSS:=((HG.out.set_ 0 (.int .i64 0)).set_ 1 (.int .i64 0)).set_ 2 (.slice none 0 0)
   exact bodyPost_ret_by (ze_ (p:=2) (u:=3) (ty:=24) rfl _ _ g 24 [.int .i64 0,.int .i64 0,.slice none 0 0] _ rfl HSS Tryz.underlying24 (by kernel_rfl)) rfl (HP0.out 3 _ HRP.out HCF)
 · have h2I : ¬ (2048 : Int) < ((zc_ l).size : Int):=by omega
   have HRP:=hQ_ (show zK_ l = (match yu_ l with | none => (12,0,0,[]) | some (p,m,l') => if zJ_ p m l' = 0 then (if (zS_ p m l').1 = l then (0,(p : Int),(m : Int),l') else (12,0,0,[])) else (zJ_ p m l',0,0,[])) from by
    unfold zK_
    rw [if_neg h2]
    cases yu_ l with
    | none => rfl
    | some q => rfl)
   have HL:=hQ_ (fun (W : World) => zab (w:=W) l (by omega))
   have hsr:=xy_ l []
   by_cases hrest : (zB_ l []).2 = []
   · rw [decide_eq_true hrest] at HL
     unfold yK_ at HL
     cases hLs : (zB_ l []).1 with
     | nil =>
       rw [hLs] at HL
       have HNO:=hQ_ (show zK_ l = (12,0,0,[]) from by
        rw [HRP.out,show yu_ l = none from by unfold yu_; rw [hLs]])
       generalize zc_ l = S at *
       clear hl h2 hsz hLs hsr hrest HRP
       go_enter Tryz.func55,Tryz.ntmps55
       go_upto_region 1 with fail
       have hN:=zb_.new w 24 [.int .i64 0,.int .i64 0,.slice none 0 0]
       have hal:=(Chg.refl [] w).alloc (.cells #[.int .i64 0,.int .i64 0,.slice none 0 0] 24)
       obtain ⟨g,hg⟩ : ∃ g,g = w.heap.size:=⟨_,rfl⟩
       have hw1s : (w.alloc (.cells #[.int .i64 0,.int .i64 0,.slice none 0 0] 24)).heap.size = g + 1:=by rw [hg]; simp
       rw [← hg] at hN ⊢
       have HG:=hQ_ hN
       have HW1:=hQ_ hal
       have HGS:=hQ_ hg
       have HGZ:=hQ_ hw1s
       have hnl : ¬ g < w.heap.size:=by omega
       generalize w.alloc (.cells #[.int .i64 0,.int .i64 0,.slice none 0 0] 24) = w1 at HG HW1 HGZ ⊢
       clear hN hal hg hw1s
       go_wp2_with (
        go_at_call 84
        refine (HL.out _).mono ?_
        rintro e w2 ⟨v2,rfl,ho2,hc2⟩
        obtain ⟨A2,c2,rfl,_⟩:=zl_ (n:=0) ho2
        have HG2:=hQ_ (HG.out.keep hc2)
        have HW2:=hQ_ (HW1.out.trans hc2)
        have z0:=HG2.out.cell 0
        have z1:=HG2.out.cell 1
        have z2:=HG2.out.cell 2
        have f0:=HG2.out.frozen 0
        have f1:=HG2.out.frozen 1
        have f2:=HG2.out.frozen 2
        clear ho2 hc2)
       have HCF:=((HW2.out.setCell (p:=⟨g,0,none⟩) (fun h => absurd h hnl) (.int .i64 0)).setCell (p:=⟨g,1,none⟩) (fun h => absurd h hnl) (.int .i64 0)).setCell (p:=⟨g,2,none⟩) (fun h => absurd h hnl) (.slice none 0 0)
       have HSS:=((HG2.out.set_ 0 (.int .i64 0)).set_ 1 (.int .i64 0)).set_ 2 (.slice none 0 0)
       exact bodyPost_ret_by (ze_ (p:=2) (u:=3) (ty:=24) rfl _ _ g 24 [.int .i64 0,.int .i64 0,.slice none 0 0] _ rfl HSS Tryz.underlying24 (by kernel_rfl)) rfl (HP0.out 12 _ HNO.out HCF)
     | cons a T =>
       rw [hLs] at HL
       have HPA:=hQ_ (show yu_ l = (match xP_ a with | none => none | some (p,m) => (z5_ T).map fun fs => (p,m,fs)) from by
        unfold yu_
        rw [hLs]
        simp only
        rw [if_pos hrest]
        cases xP_ a with
        | none => rfl
        | some q => rfl)
       have hsum : a.length + (T.map List.length).sum + (T.length + 1) ≤ 2048:=by
        rw [hLs,hrest] at hsr
        simp only [List.length_nil,List.map_cons,List.sum_cons,List.length_cons] at hsr
        omega
       have HS:=hQ_ (fun (W : World) => zbu (w:=W) a (by omega))
       unfold gH_ at HS
       have HSU:=hQ_ hsum
       clear hsr hrest hLs hl
       obtain ⟨S,hS⟩ : ∃ S,S = zc_ l:=⟨_,rfl⟩
       rw [← hS] at HL hsz h2I ⊢
       have HSL:=hQ_ hS
       clear hS
       obtain ⟨SA,hSA⟩ : ∃ S,S = zc_ a:=⟨_,rfl⟩
       have HSA:=hQ_ hSA
       rw [← hSA] at HS
       clear hSA
       obtain ⟨n,hn⟩ : ∃ n,n = (a :: T).length:=⟨_,rfl⟩
       rw [← hn] at HL
       have HN:=hQ_ (show n = T.length + 1 from hn)
       have hn0 : 0 < n:=by rw [hn]; simp
       have hn1 : ¬ (n : Int) < 1:=by omega
       have hn2 : (0 : Int) < (n : Int):=by omega
       clear hn hsz h2
       go_enter Tryz.func55,Tryz.ntmps55
       go_upto_region 1 with fail
       have hN:=zb_.new w 24 [.int .i64 0,.int .i64 0,.slice none 0 0]
       have hal:=(Chg.refl [] w).alloc (.cells #[.int .i64 0,.int .i64 0,.slice none 0 0] 24)
       obtain ⟨g,hg⟩ : ∃ g,g = w.heap.size:=⟨_,rfl⟩
       have hw1s : (w.alloc (.cells #[.int .i64 0,.int .i64 0,.slice none 0 0] 24)).heap.size = g + 1:=by rw [hg]; simp
       rw [← hg] at hN ⊢
       have HG:=hQ_ hN
       have HW1:=hQ_ hal
       have HGS:=hQ_ hg
       have HGZ:=hQ_ hw1s
       have hnl : ¬ g < w.heap.size:=by omega
       generalize w.alloc (.cells #[.int .i64 0,.int .i64 0,.slice none 0 0] 24) = w1 at HG HW1 HGZ ⊢
       clear hN hal hg hw1s
       go_upto_region 7 with (
        go_at_call 84
        refine (HL.out _).mono ?_
        rintro e w2 ⟨v2,rfl,ho2,hc2⟩
        obtain ⟨gl,cl,rfl,hcl⟩:=k8_ ho2 hn0
        have HG2:=hQ_ (HG.out.keep hc2)
        have HO2:=hQ_ ho2
        have HW2:=hQ_ (HW1.out.trans hc2)
        clear ho2 hc2)
       have hN:=zb_.new w2 24 [.int .i64 0,.int .i64 0,.slice none 0 0]
       have hal:=(Chg.refl [] w2).alloc (.cells #[.int .i64 0,.int .i64 0,.slice none 0 0] 24)
       have HU3:=hQ_ hN
       have HG3:=hQ_ (HG2.out.keep hal)
       have HO3:=hQ_ (zq_ HO2.out hal)
       have HW3:=hQ_ (HW2.out.trans hal)
       have hgu : g < w2.heap.size:=HG2.out.lt
       have hglu : gl < w2.heap.size:=(HO2.out.lt gl rfl).2
       clear hN hal
       generalize w2.heap.size = gu at HU3 hgu hglu ⊢
       generalize w2.alloc (.cells #[.int .i64 0,.int .i64 0,.slice none 0 0] 24) = w3 at HG3 HW3 HU3 HO3 ⊢
       have y0:=kC_ HO3.out (j:=0) (s:=a) rfl
       rw [← HSA.out] at y0
       go_upto_region 8 with (
        go_at_call 85
        refine (HS.out _).mono ?_
        rintro e w4 ⟨x,y,b,rfl,hb1,hb0,hc4⟩
        have HB1:=hQ_ hb1
        have HB0:=hQ_ hb0
        have HG4:=hQ_ (HG3.out.keep hc4)
        have HU4:=hQ_ (HU3.out.keep hc4)
        have HO4:=hQ_ (zq_ HO3.out hc4)
        have HW4:=hQ_ (HW3.out.trans hc4)
        have u0:=HU4.out.cell 0
        have u1:=HU4.out.cell 1
        have q0:=HU4.out.frozen 0
        have q1:=HU4.out.frozen 1
        clear hc4 hb1 hb0)
       have hgw : w.heap.size ≤ gu:=by have:=HGS.out; omega
       have hne : g ≠ gu:=by omega
       have hnlu : ¬ gu < w.heap.size:=by omega
       have HU5:=hQ_ (show zb_ ((w4.setCell ⟨gu,0,none⟩ (.int .i64 (x : Int))).setCell ⟨gu,1,none⟩ (.int .i64 (y : Int))) gu 24 [.int .i64 (x : Int),.int .i64 (y : Int),.slice none 0 0] from by have:=(HU4.out.set_ 0 (.int .i64 (x : Int))).set_ 1 (.int .i64 (y : Int)); simpa using this)
       have HG5:=hQ_ ((HG4.out.far (p:=⟨gu,0,none⟩) hne (.int .i64 (x : Int))).far (p:=⟨gu,1,none⟩) hne (.int .i64 (y : Int)))
       have HO5:=hQ_ (zn_ (p:=⟨gu,1,none⟩) (u:=.int .i64 (y : Int)) (zn_ (p:=⟨gu,0,none⟩) (u:=.int .i64 (x : Int)) HO4.out (fun hb => by injection hb with hb; simp only at hb; omega)) (fun hb => by injection hb with hb; simp only at hb; omega))
       have HW5:=hQ_ ((HW4.out.setCell (p:=⟨gu,0,none⟩) (fun h => absurd h hnlu) (.int .i64 (x : Int))).setCell (p:=⟨gu,1,none⟩) (fun h => absurd h hnlu) (.int .i64 (y : Int)))
       clear u0 u1 q0 q1 y0
       generalize (w4.setCell ⟨gu,0,none⟩ (.int .i64 (x : Int))).setCell ⟨gu,1,none⟩ (.int .i64 (y : Int)) = w5 at HU5 HG5 HO5 HW5 ⊢
       cases b with
       | false =>
         have HNO:=hQ_ (show zK_ l = (12,0,0,[]) from by
          rw [HRP.out,HPA.out,HB0.out rfl])
         have z0:=HG5.out.cell 0
         have z1:=HG5.out.cell 1
         have z2:=HG5.out.cell 2
         have f0:=HG5.out.frozen 0
         have f1:=HG5.out.frozen 1
         have f2:=HG5.out.frozen 2
         go_wp2_with fail
         have HCF:=((HW5.out.setCell (p:=⟨g,0,none⟩) (fun h => absurd h hnl) (.int .i64 0)).setCell (p:=⟨g,1,none⟩) (fun h => absurd h hnl) (.int .i64 0)).setCell (p:=⟨g,2,none⟩) (fun h => absurd h hnl) (.slice none 0 0)
         have HSS:=((HG5.out.set_ 0 (.int .i64 0)).set_ 1 (.int .i64 0)).set_ 2 (.slice none 0 0)
         exact bodyPost_ret_by (ze_ (p:=2) (u:=3) (ty:=24) rfl _ _ g 24 [.int .i64 0,.int .i64 0,.slice none 0 0] _ rfl HSS Tryz.underlying24 (by kernel_rfl)) rfl (HP0.out 12 _ HNO.out HCF)
       | true =>
         have HPB:=hQ_ (show yu_ l = (z5_ T).map fun fs => (x,y,fs) from by rw [HPA.out,HB1.out rfl])
         clear HPA HB1 HB0
         go_wp2_with fail
         go_loopw [7] (fun i wr => ∃ (k : Nat) (fs : List FnV) (A' : Option Addr) (c' : Nat),i = .int .i64 ((k + 1 : Nat) : Int) ∧ k + 1 ≤ n ∧ Hid (fs.length = k) ∧ Hid (zb_ wr g 24 [.int .i64 0,.int .i64 0,.slice none 0 0]) ∧ Hid (zb_ wr gu 24 [.int .i64 (x : Int),.int .i64 (y : Int),.slice A' k c']) ∧ Hid (wr.ownsRow (gu + 1) 58 3 (.slice A' k c') k (yx_ fs)) ∧ Hid (wr.ownsRow w1.heap.size 9 1 (.slice (some ⟨gl,0,none⟩) n cl) n (kt_ (a :: T))) ∧ Hid ((z5_ (T.drop k)).map (fs ++ ·) = z5_ T) ∧ Hid (3 * k + ((T.drop k).map List.length).sum + (T.drop k).length ≤ 2048) ∧ Hid (∀ f ∈ fs,okF f) ∧ Hid (Chg [] w wr) ∧ Hid (gu + 1 ≤ wr.heap.size)) (fun i _ => n - (intOf i).toNat)
         case atStart => exact ⟨0,[],none,0,rfl,by omega,hQ_ rfl,HG5,HU5,hQ_ (World.ownsRow_nil _ _ _ _),HO5,hQ_ (by rw [List.drop_zero]; cases z5_ T <;> rfl),hQ_ (by have:=HSU.out; rw [List.drop_zero]; omega),hQ_ (by simp),HW5,hQ_ HU5.out.lt⟩
         case round =>
          obtain ⟨k,fs,A',c',rfl,hk,HFL,HGr,HUr,HOF,HOL,HFP,HSM,HFA,HCr,HZr⟩:=hrel
          by_cases hkn : k + 1 < n
          · have hkI : ((k + 1 : Nat) : Int) < (n : Int):=by omega
            obtain ⟨s,hs⟩ : ∃ s,T[k]? = some s:=⟨T[k]'(by have:=HN.out; omega),by simp⟩
            have yk0:=kC_ HOL.out (j:=k + 1) (s:=s) (by rw [List.getElem?_cons_succ]; exact hs)
            have hdr : T.drop k = s :: T.drop (k + 1):=List.drop_eq_getElem?_toList_append.trans (by rw [hs]; rfl)
            have hsl : s.length ≤ 2048:=by
             have:=HSM.out
             rw [hdr,List.map_cons,List.sum_cons] at this
             omega
            have HFU:=hQ_ (fun (W : World) => k9_ (w:=W) s (by omega))
            unfold xr_ qJ_ at HFU
            obtain ⟨SK,hSK⟩ : ∃ S,S = zc_ s:=⟨_,rfl⟩
            rw [← hSK] at yk0 HFU
            have HDR:=hQ_ hdr
            have HSL:=hQ_ hsl
            clear hs hdr hSK hsl
            cases hf : xW_ s with
            | none =>
              rw [hf] at HFU
              simp only at HFU
              have HNO:=hQ_ (show zK_ l = (12,0,0,[]) from by
               have h1 : z5_ T = none:=by rw [← HFP.out,HDR.out,z5_,hf]; rfl
               rw [HRP.out,HPB.out,h1]; rfl)
              go_upto_region 14 with (
               go_at_call 86
               refine (HFU.out _).mono ?_
               rintro e w7 ⟨rfl,hc7⟩
               have HG7:=hQ_ (HGr.out.keep hc7)
               have HC7:=hQ_ (HCr.out.trans hc7)
               clear hc7)
              have HG8:=hQ_ (HG7.out.keep ((Chg.refl [] w7).alloc (.cells #[.int .i32 0,.int .i64 0,.string ⟨#[]⟩] 58)))
              have HC8:=hQ_ (HC7.out.alloc (.cells #[.int .i32 0,.int .i64 0,.string ⟨#[]⟩] 58))
              generalize w7.heap.size = gx
              generalize w7.alloc (.cells #[.int .i32 0,.int .i64 0,.string ⟨#[]⟩] 58) = w8 at HG8 HC8 ⊢
              have z0:=HG8.out.cell 0
              have z1:=HG8.out.cell 1
              have z2:=HG8.out.cell 2
              have f0:=HG8.out.frozen 0
              have f1:=HG8.out.frozen 1
              have f2:=HG8.out.frozen 2
              go_wp2_with fail
              have HCF:=((HC8.out.setCell (p:=⟨g,0,none⟩) (fun h => absurd h hnl) (.int .i64 0)).setCell (p:=⟨g,1,none⟩) (fun h => absurd h hnl) (.int .i64 0)).setCell (p:=⟨g,2,none⟩) (fun h => absurd h hnl) (.slice none 0 0)
              have HSS:=((HG8.out.set_ 0 (.int .i64 0)).set_ 1 (.int .i64 0)).set_ 2 (.slice none 0 0)
              exact bodyPost_ret_by (ze_ (p:=2) (u:=3) (ty:=24) rfl _ _ g 24 [.int .i64 0,.int .i64 0,.slice none 0 0] _ rfl HSS Tryz.underlying24 (by kernel_rfl)) rfl (HP0.out 12 _ HNO.out HCF)
            | some f =>
              rw [hf] at HFU
              simp only at HFU
              have hok:=gq_ hf
              obtain ⟨fn,fa,fc⟩:=f
              have HFD:=hQ_ (show (z5_ (T.drop (k + 1))).map ((fs ++ [⟨fn,fa,fc⟩]) ++ ·) = z5_ T from by
               rw [← HFP.out,HDR.out,z5_,hf]
               simp only
               cases z5_ (T.drop (k + 1)) with
               | none => rfl
               | some r => simp)
              have HSD:=hQ_ (show 3 * (k + 1) + ((T.drop (k + 1)).map List.length).sum + (T.drop (k + 1)).length ≤ 2048 from by
               have:=HSM.out
               rw [HDR.out,List.map_cons,List.sum_cons,List.length_cons] at this
               omega)
              have HFB:=hQ_ (show ∀ f ∈ fs ++ [⟨fn,fa,fc⟩],okF f from fun f hf => by
               rcases List.mem_append.1 hf with hf | hf
               · exact HFA.out f hf
               · rw [List.mem_singleton] at hf
                 subst hf
                 have:=HSL.out
                 unfold okF
                 simp only at hok ⊢
                 omega)
              have hk682 : 3 * (k + 1) ≤ 2048:=by have:=HSD.out; omega
              clear hf hok
              unfold fnC at HFU
              simp only at HFU
              go_upto_region 14 with (
               go_at_call 86
               refine (HFU.out _).mono ?_
               rintro e w7 ⟨rfl,hc7⟩
               have HG7:=hQ_ (HGr.out.keep hc7)
               have HU7:=hQ_ (HUr.out.keep hc7)
               have HF7:=hQ_ (zg_ HOF.out hc7)
               have HL7:=hQ_ (zq_ HOL.out hc7)
               have HC7:=hQ_ (HCr.out.trans hc7)
               have HZ7:=hQ_ (Nat.le_trans HZr.out hc7.size)
               clear hc7)
              have hN:=zb_.new w7 58 [.int .i32 fn,.int .i64 fa,.string fc]
              have hal:=(Chg.refl [] w7).alloc (.cells #[.int .i32 fn,.int .i64 fa,.string fc] 58)
              have HX8:=hQ_ hN
              have HG8:=hQ_ (HG7.out.keep hal)
              have HU8:=hQ_ (HU7.out.keep hal)
              have HF8:=hQ_ (zg_ HF7.out hal)
              have HL8:=hQ_ (zq_ HL7.out hal)
              have HC8:=hQ_ (HC7.out.trans hal)
              have HZ8:=hQ_ (Nat.le_trans HZ7.out hal.size)
              clear hN hal yk0
              generalize w7.heap.size = gx at HX8 ⊢
              generalize w7.alloc (.cells #[.int .i32 fn,.int .i64 fa,.string fc] 58) = w8 at HX8 HG8 HU8 HF8 HL8 HC8 HZ8 ⊢
              have x0:=HX8.out.cell 0
              have x1:=HX8.out.cell 1
              have x2:=HX8.out.cell 2
              have u2:=HU8.out.cell 2
              have HAL:=hQ_ ((Chg.refl [] w8).alloc (.cells #[.int .i32 fn,.int .i64 fa,.string fc] 58))
              have HOA:=hQ_ (zg_ HF8.out HAL.out)
              go_wp2_with (
               at_builtin
               refine wpList_append_own _ rfl (.tmp 61) (.tmp 63) _ rfl (gu + 1) 58 i0 _ 3 32 Tryz.underlying22 hi0 hz0 hz1 hz2 rfl (by decide) (.slice A' k c') k (yx_ fs) rfl HOA.out ⟨w8.heap.size,0,none⟩ 1 1 [.int .i32 fn,.int .i64 fa,.string fc] rfl rfl (zo_ _ _ _) (by simp [Value.oneCell']) (by simp only [maxLen]; omega) (by omega) (by have:=HZ8.out; simp; omega) ?_
               intro v' w11 ho11 hg11 _
               obtain ⟨A11,c11,rfl,_⟩:=zl_ ho11
               have HO11:=hQ_ ho11
               have HU11:=hQ_ (zh_ (HU8.out.keep HAL.out) HOA.out (by decide) hg11)
               have HG11:=hQ_ (zh_ (HG8.out.keep HAL.out) HOA.out (by decide) hg11)
               have HL11:=hQ_ (yP_ (zq_ HL8.out HAL.out) HOA.out (by decide) hg11)
               have HC11:=hQ_ (zM_ (HC8.out.trans HAL.out) hg11 (fun g hg => by have:=(HOA.out.lt g hg).1; omega))
               have HZ11:=hQ_ (Nat.le_trans HZ8.out (Nat.le_trans HAL.out.size hg11.size))
               have e2:=HU11.out.cell 2
               have q2:=HU11.out.frozen 2
               clear ho11 hg11)
              have HU12:=hQ_ (show zb_ (w11.setCell ⟨gu,2,none⟩ (.slice A11 (k + 1) c11)) gu 24 [.int .i64 (x : Int),.int .i64 (y : Int),.slice A11 (k + 1) c11] from by have:=HU11.out.set_ 2 (.slice A11 (k + 1) c11); simpa using this)
              have HO12:=hQ_ (show (w11.setCell ⟨gu,2,none⟩ (.slice A11 (k + 1) c11)).ownsRow (gu + 1) 58 3 (.slice A11 (k + 1) c11) (k + 1) (yx_ (fs ++ [⟨fn,fa,fc⟩])) from by
               rw [xR_]
               exact zn_ (p:=⟨gu,2,none⟩) (u:=.slice A11 (k + 1) c11) HO11.out (fun hb => by have:=(HO11.out.lt _ hb).1; simp only at this; omega))
              have HG12:=hQ_ (HG11.out.far (p:=⟨gu,2,none⟩) hne (.slice A11 (k + 1) c11))
              have HL12:=hQ_ (zn_ (p:=⟨gu,2,none⟩) (u:=.slice A11 (k + 1) c11) HL11.out (fun hb => by injection hb with hb; simp only at hb; omega))
              have HC12:=hQ_ (HC11.out.setCell (p:=⟨gu,2,none⟩) (fun hh => by simp only at hh; omega) (.slice A11 (k + 1) c11))
              have HZ12:=hQ_ (show gu + 1 ≤ (w11.setCell ⟨gu,2,none⟩ (.slice A11 (k + 1) c11)).heap.size from by rw [zu_]; exact HZ11.out)
              go_roundw
              case rel => exact ⟨k + 1,fs ++ [⟨fn,fa,fc⟩],A11,c11,by go_num,by omega,hQ_ (by rw [List.length_append,HFL.out]; rfl),HG12,HU12,HO12,HL12,HFD,HSD,HFB,HC12,HZ12⟩
              case measure => simp [intOf]; omega
          · have hkI : ¬ ((k + 1 : Nat) : Int) < (n : Int):=by omega
            have HFE:=hQ_ (show z5_ T = some fs from by
             have:=HFP.out
             rw [List.drop_eq_nil_of_le (by have:=HN.out; omega),z5_] at this
             rw [← this]
             simp)
            have hk682 : 3 * k ≤ 2048:=by have:=HSM.out; omega
            have hsm : ∀ f ∈ fs,f.code.size ≤ 9223372036854775807:=fun f hf => by have:=HFA.out f hf; unfold okF at this; omega
            obtain ⟨A9,c9,e9,hfr⟩:=Fnr.of_own (n:=k) (l:=fs) HOF.out (by omega) (fun f hf => by have:=HFA.out f hf; unfold okF at this; omega)
            injection e9 with e1 _ e2
            subst e1; subst e2
            have HRQ:=hQ_ (show zK_ l = if zJ_ (x : Int) (y : Int) fs = 0 then (if (zS_ (x : Int) (y : Int) fs).1 = l then (0,(x : Int),(y : Int),fs) else (12,0,0,[])) else (zJ_ (x : Int) (y : Int) fs,0,0,[]) from by
             rw [HRP.out,HPB.out,HFE.out]
             rfl)
            have HRI:=hQ_ (v1_ (pages:=(x : Int)) (most:=(y : Int)) hfr hsm)
            have HTX:=hQ_ (fun (W : World) (h : Chg [] wr W) => v0_ (pages:=(x : Int)) (most:=(y : Int)) (hfr.keep h) hsm)
            unfold yY_ at HRI
            unfold zG_ at HTX
            unfold zX_ at HRI HTX
            generalize zJ_ (x : Int) (y : Int) fs = R at HRQ HRI
            generalize zS_ (x : Int) (y : Int) fs = TX at HRQ HTX
            obtain ⟨T1,E1⟩:=TX
            simp only at HRQ HTX
            have u0:=HUr.out.cell 0
            have u1:=HUr.out.cell 1
            have u2:=HUr.out.cell 2
            clear hsm hfr HRP HPB HFE
            by_cases hR : R = 0
            · subst hR
              rw [if_pos rfl] at HRQ
              by_cases hT : T1 = l
              · rw [if_pos hT] at HRQ
                subst hT
                rw [← HSL.out] at HTX
                go_upto_region 23 with (first
                 | (go_at_call 52
                    refine HRI.out.mono ?_
                    rintro e w8 ⟨rfl,hc8⟩
                    have HK8:=hQ_ hc8
                    have HU8:=hQ_ (HUr.out.keep hc8)
                    have y0:=HU8.out.cell 0
                    have y1:=HU8.out.cell 1
                    have y2:=HU8.out.cell 2
                    clear hc8)
                 | (go_at_call 26
                    refine (HTX.out _ HK8.out).mono ?_
                    rintro e w9 ⟨rfl,hc9⟩
                    have HK9:=hQ_ (HK8.out.trans hc9)
                    clear hc9))
                clear u0 u1 u2 y0 y1 y2
                have HG9:=hQ_ (HGr.out.keep HK9.out)
                have HU9:=hQ_ (HUr.out.keep HK9.out)
                have HO9:=hQ_ (zg_ HOF.out HK9.out)
                have HC9:=hQ_ (HCr.out.trans HK9.out)
                have u0:=HU9.out.cell 0
                have u1:=HU9.out.cell 1
                have u2:=HU9.out.cell 2
                have z0:=HG9.out.cell 0
                have z1:=HG9.out.cell 1
                have z2:=HG9.out.cell 2
                have f0:=HG9.out.frozen 0
                have f1:=HG9.out.frozen 1
                have f2:=HG9.out.frozen 2
                have hfar : ∀ (W : World) (j : Nat) (u : Value),W.ownsRow (gu + 1) 58 3 (.slice A' k c') k (yx_ fs) → (W.setCell ⟨g,j,none⟩ u).ownsRow (gu + 1) 58 3 (.slice A' k c') k (yx_ fs):=fun W j u h => zn_ (p:=⟨g,j,none⟩) (u:=u) h (fun hb => by have:=(h.lt _ hb).1; simp only at this; omega)
                have HOZ:=hQ_ (z1_ (hfar _ 2 (.slice A' k c') (hfar _ 1 (.int .i64 (y : Int)) (hfar _ 0 (.int .i64 (x : Int)) HO9.out))) (show w.heap.size ≤ gu + 1 by omega))
                go_wp2_with fail
                have HCF:=((HC9.out.setCell (p:=⟨g,0,none⟩) (fun h => absurd h hnl) (.int .i64 (x : Int))).setCell (p:=⟨g,1,none⟩) (fun h => absurd h hnl) (.int .i64 (y : Int))).setCell (p:=⟨g,2,none⟩) (fun h => absurd h hnl) (.slice A' k c')
                have HSS:=((HG9.out.set_ 0 (.int .i64 (x : Int))).set_ 1 (.int .i64 (y : Int))).set_ 2 (.slice A' k c')
                exact bodyPost_ret_by (ze_ (p:=2) (u:=3) (ty:=24) rfl _ _ g 24 [.int .i64 (x : Int),.int .i64 (y : Int),.slice A' k c'] _ rfl HSS Tryz.underlying24 (by kernel_rfl)) rfl (HP1.out _ _ fs _ _ HRQ.out (by rw [HFL.out]; exact HOZ.out) (by rw [HFL.out]; omega) HFA.out HCF)
              · rw [if_neg hT] at HRQ
                have hne2:=zaT hT
                rw [← HSL.out] at hne2
                generalize zc_ T1 = S1 at hne2 HTX
                clear hT
                go_upto_region 22 with (first
                 | (go_at_call 52
                    refine HRI.out.mono ?_
                    rintro e w8 ⟨rfl,hc8⟩
                    have HK8:=hQ_ hc8
                    have HU8:=hQ_ (HUr.out.keep hc8)
                    have y0:=HU8.out.cell 0
                    have y1:=HU8.out.cell 1
                    have y2:=HU8.out.cell 2
                    clear hc8)
                 | (go_at_call 26
                    refine (HTX.out _ HK8.out).mono ?_
                    rintro e w9 ⟨rfl,hc9⟩
                    have HK9:=hQ_ (HK8.out.trans hc9)
                    clear hc9))
                clear u0 u1 u2 y0 y1 y2
                have HG9:=hQ_ (HGr.out.keep HK9.out)
                have HU9:=hQ_ (HUr.out.keep HK9.out)
                have HO9:=hQ_ (zg_ HOF.out HK9.out)
                have HC9:=hQ_ (HCr.out.trans HK9.out)
                have u0:=HU9.out.cell 0
                have u1:=HU9.out.cell 1
                have u2:=HU9.out.cell 2
                have z0:=HG9.out.cell 0
                have z1:=HG9.out.cell 1
                have z2:=HG9.out.cell 2
                have f0:=HG9.out.frozen 0
                have f1:=HG9.out.frozen 1
                have f2:=HG9.out.frozen 2
                go_wp2_with fail
                have HCF:=((HC9.out.setCell (p:=⟨g,0,none⟩) (fun h => absurd h hnl) (.int .i64 0)).setCell (p:=⟨g,1,none⟩) (fun h => absurd h hnl) (.int .i64 0)).setCell (p:=⟨g,2,none⟩) (fun h => absurd h hnl) (.slice none 0 0)
                have HSS:=((HG9.out.set_ 0 (.int .i64 0)).set_ 1 (.int .i64 0)).set_ 2 (.slice none 0 0)
                exact bodyPost_ret_by (ze_ (p:=2) (u:=3) (ty:=24) rfl _ _ g 24 [.int .i64 0,.int .i64 0,.slice none 0 0] _ rfl HSS Tryz.underlying24 (by kernel_rfl)) rfl (HP0.out 12 _ HRQ.out HCF)
            · rw [if_neg hR] at HRQ
              have hd : (R == 0) = false:=by simpa using hR
              clear hR HTX
              go_upto_region 19 with (
               go_at_call 52
               refine HRI.out.mono ?_
               rintro e w8 ⟨rfl,hc8⟩
               have HG8:=hQ_ (HGr.out.keep hc8)
               have HC8:=hQ_ (HCr.out.trans hc8)
               clear hc8)
              have z0:=HG8.out.cell 0
              have z1:=HG8.out.cell 1
              have z2:=HG8.out.cell 2
              have f0:=HG8.out.frozen 0
              have f1:=HG8.out.frozen 1
              have f2:=HG8.out.frozen 2
              go_wp2_with fail
              have HCF:=((HC8.out.setCell (p:=⟨g,0,none⟩) (fun h => absurd h hnl) (.int .i64 0)).setCell (p:=⟨g,1,none⟩) (fun h => absurd h hnl) (.int .i64 0)).setCell (p:=⟨g,2,none⟩) (fun h => absurd h hnl) (.slice none 0 0)
              have HSS:=((HG8.out.set_ 0 (.int .i64 0)).set_ 1 (.int .i64 0)).set_ 2 (.slice none 0 0)
              exact bodyPost_ret_by (ze_ (p:=2) (u:=3) (ty:=24) rfl _ _ g 24 [.int .i64 0,.int .i64 0,.slice none 0 0] _ rfl HSS Tryz.underlying24 (by kernel_rfl)) rfl (HP0.out R _ HRQ.out HCF)
   · rw [decide_eq_false hrest] at HL
     unfold yK_ at HL
     have HNO:=hQ_ (show zK_ l = (12,0,0,[]) from by
      rw [HRP.out,show yu_ l = none from by
       unfold yu_
       cases (zB_ l []).1 with
       | nil => rfl
       | cons a T => simp only; rw [if_neg hrest]])
     generalize (zB_ l []).1 = L0 at HL
     generalize zc_ l = S at *
     clear hl h2 hsz hsr hrest HRP
     go_enter Tryz.func55,Tryz.ntmps55
     go_upto_region 1 with fail
     have hN:=zb_.new w 24 [.int .i64 0,.int .i64 0,.slice none 0 0]
     have hal:=(Chg.refl [] w).alloc (.cells #[.int .i64 0,.int .i64 0,.slice none 0 0] 24)
     obtain ⟨g,hg⟩ : ∃ g,g = w.heap.size:=⟨_,rfl⟩
     have hw1s : (w.alloc (.cells #[.int .i64 0,.int .i64 0,.slice none 0 0] 24)).heap.size = g + 1:=by rw [hg]; simp
     rw [← hg] at hN ⊢
     have HG:=hQ_ hN
     have HW1:=hQ_ hal
     have HGS:=hQ_ hg
     have HGZ:=hQ_ hw1s
     have hnl : ¬ g < w.heap.size:=by omega
     generalize w.alloc (.cells #[.int .i64 0,.int .i64 0,.slice none 0 0] 24) = w1 at HG HW1 HGZ ⊢
     clear hN hal hg hw1s
     go_wp2_with (
      go_at_call 84
      refine (HL.out _).mono ?_
      rintro e w2 ⟨v2,rfl,ho2,hc2⟩
      have HG2:=hQ_ (HG.out.keep hc2)
      have HW2:=hQ_ (HW1.out.trans hc2)
      have z0:=HG2.out.cell 0
      have z1:=HG2.out.cell 1
      have z2:=HG2.out.cell 2
      have f0:=HG2.out.frozen 0
      have f1:=HG2.out.frozen 1
      have f2:=HG2.out.frozen 2
      clear ho2 hc2)
     have HCF:=((HW2.out.setCell (p:=⟨g,0,none⟩) (fun h => absurd h hnl) (.int .i64 0)).setCell (p:=⟨g,1,none⟩) (fun h => absurd h hnl) (.int .i64 0)).setCell (p:=⟨g,2,none⟩) (fun h => absurd h hnl) (.slice none 0 0)
     have HSS:=((HG2.out.set_ 0 (.int .i64 0)).set_ 1 (.int .i64 0)).set_ 2 (.slice none 0 0)
     exact bodyPost_ret_by (ze_ (p:=2) (u:=3) (ty:=24) rfl _ _ g 24 [.int .i64 0,.int .i64 0,.slice none 0 0] _ rfl HSS Tryz.underlying24 (by kernel_rfl)) rfl (HP0.out 12 _ HNO.out HCF)
end
end Go.Proofs.YtbkfhndmeljlcaaGreatDoor
namespace Go.Proofs.YtbkfhndmeljlcaaGreatDoor
open Go.RowKit
theorem zfT {t u : FnV} : t = u ↔ t.name = u.name ∧ t.args = u.args ∧ t.code = u.code:=by
 constructor
 · rintro rfl; exact ⟨rfl,rfl,rfl⟩
 · rintro ⟨h1,h2,h3⟩
   cases t; cases u; simp only at h1 h2 h3; subst h1; subst h2; subst h3; rfl
def qp_ (P : Prop) (W : World) (e : Ending) (w' : World) : Prop:=∃ b : Bool,e = .returned (.bool b) ∧ (b = true ↔ P) ∧ Chg [] W w'
theorem ba_tl {a b : ByteArray} (h : a.toList = b.toList) : a = b:=by
 rw [ByteArray.toList_eq,ByteArray.toList_eq] at h
 have:=Array.toList_inj.1 h
 cases a; cases b
 simp only at this
 rw [this]
theorem zaX {α : Type} {l l2 : List α} {k : Nat} {t u : α} (h : l.take k = l2.take k) (h1 : l[k]? = some t) (h2 : l2[k]? = some u) : l.take (k + 1) = l2.take (k + 1) ↔ t = u:=by
 rw [List.take_add_one,List.take_add_one,h,h1,h2]
 simp
end Go.Proofs.YtbkfhndmeljlcaaGreatDoor
namespace Go.Proofs.YtbkfhndmeljlcaaGreatDoor
open Go.RowKit
section
variable {W : World} {A A2 : Option Addr} {n c n2 c2 : Nat} {l l2 : List FnV}
theorem jI_ {p m p2 m2 : Int} (h : Fnr W A n c l) (h2 : Fnr W A2 n2 c2 l2) : Calls Tryz.prog 22 #[zX_ p m A n c,zX_ p2 m2 A2 n2 c2] W (qp_ (p = p2 ∧ m = m2 ∧ l = l2) W):=by
 have HPO:=hQ_ (show ∀ (b : Bool) (wr : World),(b = true ↔ (p = p2 ∧ m = m2 ∧ l = l2)) → Chg [] W wr → qp_ (p = p2 ∧ m = m2 ∧ l = l2) W (.returned (.bool b)) wr from fun b wr h1 h2 => ⟨b,rfl,h1,h2⟩)
 generalize qp_ (p = p2 ∧ m = m2 ∧ l = l2) W = PO at HPO ⊢
 have HH:=hQ_ h
 have HH2:=hQ_ h2
 have HL:=hQ_ h.len
 have HL2:=hQ_ h2.len
 have hm1:=h.max
 have hm2:=h2.max
 clear h h2
 unfold zX_
 have HN:=hQ_ (fun (w : World) => zb_.new w 24 [.int .i64 p,.int .i64 m,.slice A n c])
 have HN2:=hQ_ (fun (w : World) => zb_.new w 24 [.int .i64 p2,.int .i64 m2,.slice A2 n2 c2])
 go_enter Tryz.func22,Tryz.ntmps22
 go_upto_region 1 with fail
 have hX:=HN.out W
 have hc1:=(Chg.refl [] W).alloc (.cells #[.int .i64 p,.int .i64 m,.slice A n c] 24)
 have hY:=HN2.out (W.alloc (.cells #[.int .i64 p,.int .i64 m,.slice A n c] 24))
 have hc2:=(Chg.refl [] (W.alloc (.cells #[.int .i64 p,.int .i64 m,.slice A n c] 24))).alloc (.cells #[.int .i64 p2,.int .i64 m2,.slice A2 n2 c2] 24)
 have hX2:=hX.keep hc2
 have HC:=hQ_ (hc1.trans hc2)
 rw [show (W.alloc (.cells #[.int .i64 p,.int .i64 m,.slice A n c] 24)).heap.size = W.heap.size + 1 by simp] at hY
 generalize W.heap.size = g1 at hX2 hY ⊢
 generalize (W.alloc (.cells #[.int .i64 p,.int .i64 m,.slice A n c] 24)).alloc (.cells #[.int .i64 p2,.int .i64 m2,.slice A2 n2 c2] 24) = w2 at hX2 hY HC ⊢
 have HX:=hQ_ hX2
 have HY:=hQ_ hY
 have x0:=hX2.cell 0
 have x1:=hX2.cell 1
 have x2:=hX2.cell 2
 have y0:=hY.cell 0
 have y1:=hY.cell 1
 have y2:=hY.cell 2
 clear hX hX2 hY hc1 hc2
 by_cases q1 : p = p2
 · have b1 : (p == p2) = true:=by simpa using q1
   by_cases q2 : m = m2
   · have b2 : (m == m2) = true:=by simpa using q2
     by_cases hn : n = n2
     · subst hn
       have HQ1:=hQ_ q1
       have HQ2:=hQ_ q2
       subst q1
       subst q2
       go_wp2_with fail
       go_loopw [30] (fun i wr => ∃ k : Nat,i = .int .i64 (k : Int) ∧ k ≤ n ∧ Hid (l.take k = l2.take k) ∧ Hid (Chg [] w2 wr)) (fun i _ => n - (intOf i).toNat)
       case atStart => exact ⟨0,rfl,by omega,hQ_ rfl,hQ_ (Chg.refl [] _)⟩
       case round =>
        obtain ⟨k,rfl,hk,HT,HCr⟩:=hrel
        have HCW:=hQ_ (HC.out.trans HCr.out)
        by_cases hkn : k < n
        · have hkI : (k : Int) < (n : Int):=by omega
          obtain ⟨t,htk⟩ : ∃ t,l[k]? = some t:=⟨l[k]'(by rw [HL.out]; exact hkn),by simp⟩
          obtain ⟨u,huk⟩ : ∃ t,l2[k]? = some t:=⟨l2[k]'(by rw [HL2.out]; exact hkn),by simp⟩
          have HST:=hQ_ (zaX HT.out htk huk)
          have HNE:=hQ_ (show t ≠ u → l ≠ l2 from fun hne he => by rw [he,huk] at htk; injection htk with htk; exact hne htk.symm)
          obtain ⟨fb,fo,rfl,hfbl,e0,e1,e2⟩:=(HH.out.keep HCW.out).cell htk
          obtain ⟨gb,go,rfl,hgbl,d0,d1,d2⟩:=(HH2.out.keep HCW.out).cell huk
          have xx2:=(HX.out.keep HCr.out).cell 2
          have yy2:=(HY.out.keep HCr.out).cell 2
          clear htk huk
          go_upto_region 6 with fail
          by_cases r1 : t.name = u.name
          · by_cases r2 : t.args = u.args
            · by_cases r3 : t.code.toList = u.code.toList
              · have HS3:=hQ_ (HST.out.2 (zfT.2 ⟨r1,r2,ba_tl r3⟩))
                go_region
                go_wp2_with fail
                go_roundw
                case rel => exact ⟨k + 1,by go_num,by omega,HS3,hQ_ HCr.out.drew⟩
                case measure => simp [intOf]; omega
              · have HS3:=hQ_ (HNE.out (fun h => r3 (by rw [h])))
                go_region
                go_wp2_with fail
                exact HPO.out false _ ⟨(fun h => by cases h),fun h => absurd h.2.2 HS3.out⟩ HCW.out.drew
            · have HS3:=hQ_ (HNE.out (fun h => r2 (by rw [h])))
              go_region
              go_wp2_with fail
              exact HPO.out false _ ⟨(fun h => by cases h),fun h => absurd h.2.2 HS3.out⟩ HCW.out.drew
          · have HS3:=hQ_ (HNE.out (fun h => r1 (by rw [h])))
            go_region
            go_wp2_with fail
            exact HPO.out false _ ⟨(fun h => by cases h),fun h => absurd h.2.2 HS3.out⟩ HCW.out.drew
        · have hkI : ¬ (k : Int) < (n : Int):=by omega
          have HE:=hQ_ (show l = l2 from by
           have:=HT.out
           rw [List.take_of_length_le (by rw [HL.out]; omega),List.take_of_length_le (by rw [HL2.out]; omega)] at this
           exact this)
          go_wp2_with fail
          exact HPO.out true _ (by simpa using HE.out) HCW.out
     · have hnI : ((n : Int) == (n2 : Int)) = false:=by simp; omega
       go_wp2_with fail
       exact HPO.out false _ ⟨(fun h => by cases h),fun h => absurd (by rw [← HL.out,← HL2.out,h.2.2]) hn⟩ HC.out
   · have b2 : (m == m2) = false:=by simpa using q2
     go_wp2_with fail
     exact HPO.out false _ ⟨(fun h => by cases h),fun h => absurd h.2.1 q2⟩ HC.out
 · have b1 : (p == p2) = false:=by simpa using q1
   go_wp2_with fail
   exact HPO.out false _ ⟨(fun h => by cases h),fun h => absurd h.1 q1⟩ HC.out
end
end Go.Proofs.YtbkfhndmeljlcaaGreatDoor
namespace Go.Proofs.YtbkfhndmeljlcaaGreatDoor
open Go.RowKit
structure UOk (W : World) (pg ms : Int) (A : Option Addr) (n c : Nat) (R : Int) (T : List UInt8) (E : Int) : Prop where
  ur : ∀ w,Chg [] W w → Calls Tryz.prog 54 #[.agg #[.int .i64 pg,.int .i64 ms,.slice A n c]] w (yY_ w R)
  rr : ∀ w,Chg [] W w → Calls Tryz.prog 52 #[.agg #[.int .i64 pg,.int .i64 ms,.slice A n c]] w (yY_ w R)
  ut : ∀ w,Chg [] W w → xq_ w.heap.size w → Calls Tryz.prog 31 #[.agg #[.int .i64 pg,.int .i64 ms,.slice A n c]] w (zG_ T E w)
  rt : ∀ w,Chg [] W w → Calls Tryz.prog 26 #[.agg #[.int .i64 pg,.int .i64 ms,.slice A n c]] w (zG_ T E w)
section
variable {W W' : World} {pg ms : Int} {A : Option Addr} {n c : Nat} {l : List FnV}
theorem UOk.of_fnr (h : Fnr W A n c l) (hsm : ∀ f ∈ l,f.code.size ≤ 9223372036854775807) : UOk W pg ms A n c (zJ_ pg ms l) (zS_ pg ms l).1 (zS_ pg ms l).2 :=
 ⟨fun _ hc => vW_ (h.keep hc) hsm,fun _ hc => v1_ (h.keep hc) hsm,fun _ hc hp => uP_ (h.keep hc) hsm hp,fun _ hc => v0_ (h.keep hc) hsm⟩
theorem UOk.keep {R : Int} {T : List UInt8} {E : Int} (h : UOk W pg ms A n c R T E) (hc : Chg [] W W') : UOk W' pg ms A n c R T E :=
 ⟨fun w k => h.ur w (hc.trans k),fun w k => h.rr w (hc.trans k),fun w k hp => h.ut w (hc.trans k) hp,fun w k => h.rt w (hc.trans k)⟩
end
end Go.Proofs.YtbkfhndmeljlcaaGreatDoor
namespace Go.Proofs.YtbkfhndmeljlcaaGreatDoor
open Go.RowKit
open Go.Lib (decDigits encodeRune)
def kuG : FnV:=⟨102,0,⟨#[49]⟩⟩
theorem dg0 : decDigits 0 = [48]:=by rw [Lib.decDigits_one (by omega)]; rfl
theorem dg1 : decDigits 1 = [49]:=by rw [Lib.decDigits_one (by omega)]; rfl
theorem dg2 : decDigits 2 = [50]:=by rw [Lib.decDigits_one (by omega)]; rfl
end Go.Proofs.YtbkfhndmeljlcaaGreatDoor
namespace Go.Proofs.YtbkfhndmeljlcaaGreatDoor
open Go.RowKit
section
variable {P : Program} {T : Turns} {w0 : World} {a0 : Act} {ops : List Oper} {Q : Exit → Act → World → Prop} {F : Said} {k : Nat} {rest : List Oper}
  {d : Option Tmp} {ty : TypeId} {pos : String} {af : Array Go.Edge} {g : Option (Nat × Bool)}
theorem qc_ {x : Operand} {t : TypeId} {s : ByteArray} (hT : T.Ok) (hx : Det a0 F x (.string s)) (ht : P.underlying t = some .string)
    (hg : zC_ ops F true ⟨d,.call { callee:=.builtin .len,args:=#[x],argTypes:=#[t] },ty,pos,af,g⟩) (h : Flow P T w0 a0 ops Q ((d,isV (.int .i64 (s.size : Int))) :: F) (k + 1) rest) :
    Flow P T w0 a0 ops Q F k (⟨d,.call { callee:=.builtin .len,args:=#[x],argTypes:=#[t] },ty,pos,af,g⟩ :: rest):=by
 refine flow1 (x:=x) (v:=.string s) (r:=.int .i64 (s.size : Int)) hT (by simp [Op.operands,Call.operands]) hx hg (fun ev W he e => ?_) h
 unfold execOp
 simp only [resolve,invoke,builtin,Sem.run_bind,Sem.run_pure,Result.andThen_ok,List.map_toArray,List.map_cons,List.map_nil,e]
 simp [Builtin.len_,underlying,ht,go_sem,goInt]
end
end Go.Proofs.YtbkfhndmeljlcaaGreatDoor
namespace Go.Proofs.YtbkfhndmeljlcaaGreatDoor
open Go.RowKit
theorem g3_ (l : List UInt8) (k : Nat) : (zc_ l).extract k (zc_ l).size = zc_ (l.drop k):=by
 apply ByteArray.ext
 simp [zc_,ByteArray.extract,ByteArray.copySlice,ByteArray.size]
 exact List.take_of_length_le (by simp)
end Go.Proofs.YtbkfhndmeljlcaaGreatDoor
