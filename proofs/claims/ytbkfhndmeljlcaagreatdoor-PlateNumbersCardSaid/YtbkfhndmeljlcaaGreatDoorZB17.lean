import Derived.Test.YtbkfhndmeljlcaaGreatDoorZB16
import Derived.Deep.Fields
set_option maxRecDepth 100000
set_option maxHeartbeats 16000000
namespace Go.Proofs.YtbkfhndmeljlcaaGreatDoor
open Go.RowKit Go.ChangeShapes Go.WideShapes Go.Deep
theorem ko_ {α : Type} {l : List α} (h : l.length = 3) : ∃ a b c,l = [a,b,c]:=by
 match l,h with
 | [a,b,c],_ => exact ⟨a,b,c,rfl⟩
end Go.Proofs.YtbkfhndmeljlcaaGreatDoor
namespace Go.Proofs.YtbkfhndmeljlcaaGreatDoor
open Go.RowKit
section
variable {w : World}
theorem gT_ (l : List UInt8) (hl : l.length ≤ 1000000) : Calls Tryz.prog 55 #[.string (zc_ l)] w (yW_ (zK_ l) w):=by
 have hsz:=zw_ l
 obtain ⟨i0,hi0,hz0,hz1,hz2⟩:=info_parts q6_
 have HP0:=hQ_ (show ∀ (r : Int) (wr : World),zK_ l = (r,0,0,[]) → Chg [] w wr → yW_ (zK_ l) w (.returned (.tuple #[.agg #[.int .i64 0,.int .i64 0,.slice none 0 0],.int .i64 r])) wr from fun r wr h hc => by
  rw [h]
  exact ⟨_,rfl,World.ownsRow_nil _ _ _ _,by simp,by simp,hc⟩)
 have HP1:=hQ_ (show ∀ (p m : Int) (fs : List FnV) (v : Value) (wr : World),zK_ l = (0,p,m,fs) → wr.ownsRow w.heap.size 58 3 v fs.length (y3_ fs) → fs.length ≤ 1000 → (∀ f ∈ fs,okF f) → Chg [] w wr → yW_ (zK_ l) w (.returned (.tuple #[.agg #[.int .i64 p,.int .i64 m,v],.int .i64 0])) wr from fun p m fs v wr h h1 h2 h3 h4 => by
  rw [h]
  exact ⟨v,rfl,h1,h2,h3,h4⟩)
 generalize yW_ (zK_ l) w = PO at HP0 HP1 ⊢
 by_cases h2 : 2048 < l.length
 · have HRP:=hQ_ (show zK_ l = (3,0,0,[]) from by unfold zK_; rw [if_pos h2])
   have h2I : (2048 : Int) < ((zc_ l).size : Int):=by omega
   generalize zc_ l = S at *
   clear hl h2 hsz
   go_enter Tryz.func55,Tryz.ntmps55
   go_upto_region 1 with fail
   have hN:=zb_.new w 24 [.int .i64 0,.int .i64 0,.slice none 0 0]
   have hal:=(Chg.refl [] w).alloc (.cells #[.int .i64 0,.int .i64 0,.slice none 0 0] 24)
   obtain ⟨g,hg⟩ : ∃ g,g = w.heap.size:=⟨_,rfl⟩
   have hw1s : (w.alloc (.cells #[.int .i64 0,.int .i64 0,.slice none 0 0] 24)).heap.size = g + 1:=by rw [hg]; simp
   rw [← hg] at hN ⊢
   have HG:=hQ_ hN
   have HW1:=hQ_ hal
   have HGS:=hQ_ hg
   have HGZ:=hQ_ hw1s
   have hnl : ¬ g < w.heap.size:=by omega
   generalize w.alloc (.cells #[.int .i64 0,.int .i64 0,.slice none 0 0] 24) = w1 at HG HW1 HGZ ⊢
   clear hN hal hg hw1s
   have z0:=HG.out.cell 0
   have z1:=HG.out.cell 1
   have z2:=HG.out.cell 2
   have f0:=HG.out.frozen 0
   have f1:=HG.out.frozen 1
   have f2:=HG.out.frozen 2
   go_wp2_with fail
   have HCF:=((HW1.out.setCell (p:=⟨g,0,none⟩) (fun h => absurd h hnl) (.int .i64 0)).setCell (p:=⟨g,1,none⟩) (fun h => absurd h hnl) (.int .i64 0)).setCell (p:=⟨g,2,none⟩) (fun h => absurd h hnl) (.slice none 0 0)
   have HSS:=((HG.out.set_ 0 (.int .i64 0)).set_ 1 (.int .i64 0)).set_ 2 (.slice none 0 0)
   exact bodyPost_ret_by (ze_ (p:=2) (u:=3) (ty:=24) rfl _ _ g 24 [.int .i64 0,.int .i64 0,.slice none 0 0] _ rfl HSS Tryz.underlying24 (by kernel_rfl)) rfl (HP0.out 3 _ HRP.out HCF)
 · have h2I : ¬ (2048 : Int) < ((zc_ l).size : Int):=by omega
   have HRP:=hQ_ (show zK_ l = (match yq_ l with | none => (12,0,0,[]) | some (p,m,l') => if zJ_ p m l' = 0 then (if (zM_ p m l').1 = l then (0,(p : Int),(m : Int),l') else (12,0,0,[])) else (zJ_ p m l',0,0,[])) from by
    unfold zK_
    rw [if_neg h2]
    cases yq_ l with
    | none => rfl
    | some q => rfl)
   have HL:=hQ_ (fun (W : World) => gV_ (w:=W) l (by omega))
   have hsr:=xw_ l []
   by_cases hrest : (zz_ l []).2 = []
   · rw [decide_eq_true hrest] at HL
     unfold yH_ at HL
     cases hLs : (zz_ l []).1 with
     | nil =>
       rw [hLs] at HL
       have HNO:=hQ_ (show zK_ l = (12,0,0,[]) from by
        rw [HRP.out,show yq_ l = none from by unfold yq_; rw [hLs]])
       generalize zc_ l = S at *
       clear hl h2 hsz hLs hsr hrest HRP
       go_enter Tryz.func55,Tryz.ntmps55
       go_upto_region 1 with fail
       have hN:=zb_.new w 24 [.int .i64 0,.int .i64 0,.slice none 0 0]
       have hal:=(Chg.refl [] w).alloc (.cells #[.int .i64 0,.int .i64 0,.slice none 0 0] 24)
       obtain ⟨g,hg⟩ : ∃ g,g = w.heap.size:=⟨_,rfl⟩
       have hw1s : (w.alloc (.cells #[.int .i64 0,.int .i64 0,.slice none 0 0] 24)).heap.size = g + 1:=by rw [hg]; simp
       rw [← hg] at hN ⊢
       have HG:=hQ_ hN
       have HW1:=hQ_ hal
       have HGS:=hQ_ hg
       have HGZ:=hQ_ hw1s
       have hnl : ¬ g < w.heap.size:=by omega
       generalize w.alloc (.cells #[.int .i64 0,.int .i64 0,.slice none 0 0] 24) = w1 at HG HW1 HGZ ⊢
       clear hN hal hg hw1s
       go_wp2_with (
        go_at_call 84
        refine (HL.out _).mono ?_
        rintro e w2 ⟨v2,rfl,ho2,hc2⟩
        obtain ⟨A2,c2,rfl,_⟩:=zm_ (n:=0) ho2
        have HG2:=hQ_ (HG.out.keep hc2)
        have HW2:=hQ_ (HW1.out.trans hc2)
        have z0:=HG2.out.cell 0
        have z1:=HG2.out.cell 1
        have z2:=HG2.out.cell 2
        have f0:=HG2.out.frozen 0
        have f1:=HG2.out.frozen 1
        have f2:=HG2.out.frozen 2
        clear ho2 hc2)
       have HCF:=((HW2.out.setCell (p:=⟨g,0,none⟩) (fun h => absurd h hnl) (.int .i64 0)).setCell (p:=⟨g,1,none⟩) (fun h => absurd h hnl) (.int .i64 0)).setCell (p:=⟨g,2,none⟩) (fun h => absurd h hnl) (.slice none 0 0)
       have HSS:=((HG2.out.set_ 0 (.int .i64 0)).set_ 1 (.int .i64 0)).set_ 2 (.slice none 0 0)
       exact bodyPost_ret_by (ze_ (p:=2) (u:=3) (ty:=24) rfl _ _ g 24 [.int .i64 0,.int .i64 0,.slice none 0 0] _ rfl HSS Tryz.underlying24 (by kernel_rfl)) rfl (HP0.out 12 _ HNO.out HCF)
     | cons a T =>
       rw [hLs] at HL
       have HPA:=hQ_ (show yq_ l = (match xO_ a with | none => none | some (p,m) => (z3_ T).map fun fs => (p,m,fs)) from by
        unfold yq_
        rw [hLs]
        simp only
        rw [if_pos hrest]
        cases xO_ a with
        | none => rfl
        | some q => rfl)
       have hsum : a.length + (T.map List.length).sum + (T.length + 1) ≤ 2048:=by
        rw [hLs,hrest] at hsr
        simp only [List.length_nil,List.map_cons,List.sum_cons,List.length_cons] at hsr
        omega
       have HS:=hQ_ (fun (W : World) => zaY (w:=W) a (by omega))
       unfold gt_ at HS
       have HSU:=hQ_ hsum
       clear hsr hrest hLs hl
       obtain ⟨S,hS⟩ : ∃ S,S = zc_ l:=⟨_,rfl⟩
       rw [← hS] at HL hsz h2I ⊢
       have HSL:=hQ_ hS
       clear hS
       obtain ⟨SA,hSA⟩ : ∃ S,S = zc_ a:=⟨_,rfl⟩
       have HSA:=hQ_ hSA
       rw [← hSA] at HS
       clear hSA
       obtain ⟨n,hn⟩ : ∃ n,n = (a :: T).length:=⟨_,rfl⟩
       rw [← hn] at HL
       have HN:=hQ_ (show n = T.length + 1 from hn)
       have hn0 : 0 < n:=by rw [hn]; simp
       have hn1 : ¬ (n : Int) < 1:=by omega
       have hn2 : (0 : Int) < (n : Int):=by omega
       clear hn hsz h2
       go_enter Tryz.func55,Tryz.ntmps55
       go_upto_region 1 with fail
       have hN:=zb_.new w 24 [.int .i64 0,.int .i64 0,.slice none 0 0]
       have hal:=(Chg.refl [] w).alloc (.cells #[.int .i64 0,.int .i64 0,.slice none 0 0] 24)
       obtain ⟨g,hg⟩ : ∃ g,g = w.heap.size:=⟨_,rfl⟩
       have hw1s : (w.alloc (.cells #[.int .i64 0,.int .i64 0,.slice none 0 0] 24)).heap.size = g + 1:=by rw [hg]; simp
       rw [← hg] at hN ⊢
       have HG:=hQ_ hN
       have HW1:=hQ_ hal
       have HGS:=hQ_ hg
       have HGZ:=hQ_ hw1s
       have hnl : ¬ g < w.heap.size:=by omega
       generalize w.alloc (.cells #[.int .i64 0,.int .i64 0,.slice none 0 0] 24) = w1 at HG HW1 HGZ ⊢
       clear hN hal hg hw1s
       go_upto_region 7 with (
        go_at_call 84
        refine (HL.out _).mono ?_
        rintro e w2 ⟨v2,rfl,ho2,hc2⟩
        obtain ⟨gl,cl,rfl,hcl⟩:=kV_ ho2 hn0
        have HG2:=hQ_ (HG.out.keep hc2)
        have HO2:=hQ_ ho2
        have HW2:=hQ_ (HW1.out.trans hc2)
        clear ho2 hc2)
       have hN:=zb_.new w2 24 [.int .i64 0,.int .i64 0,.slice none 0 0]
       have hal:=(Chg.refl [] w2).alloc (.cells #[.int .i64 0,.int .i64 0,.slice none 0 0] 24)
       have HU3:=hQ_ hN
       have HG3:=hQ_ (HG2.out.keep hal)
       have HO3:=hQ_ (zn_ HO2.out hal)
       have HW3:=hQ_ (HW2.out.trans hal)
       have hgu : g < w2.heap.size:=HG2.out.lt
       have hglu : gl < w2.heap.size:=(HO2.out.lt gl rfl).2
       clear hN hal
       generalize w2.heap.size = gu at HU3 hgu hglu ⊢
       generalize w2.alloc (.cells #[.int .i64 0,.int .i64 0,.slice none 0 0] 24) = w3 at HG3 HW3 HU3 HO3 ⊢
       have y0:=kq_ HO3.out (j:=0) (s:=a) rfl
       rw [← HSA.out] at y0
       go_upto_region 8 with (
        go_at_call 85
        refine (HS.out _).mono ?_
        rintro e w4 ⟨x,y,b,rfl,hb1,hb0,hc4⟩
        have HB1:=hQ_ hb1
        have HB0:=hQ_ hb0
        have HG4:=hQ_ (HG3.out.keep hc4)
        have HU4:=hQ_ (HU3.out.keep hc4)
        have HO4:=hQ_ (zn_ HO3.out hc4)
        have HW4:=hQ_ (HW3.out.trans hc4)
        have u0:=HU4.out.cell 0
        have u1:=HU4.out.cell 1
        have q0:=HU4.out.frozen 0
        have q1:=HU4.out.frozen 1
        clear hc4 hb1 hb0)
       have hgw : w.heap.size ≤ gu:=by have:=HGS.out; omega
       have hne : g ≠ gu:=by omega
       have hnlu : ¬ gu < w.heap.size:=by omega
       have HU5:=hQ_ (show zb_ ((w4.setCell ⟨gu,0,none⟩ (.int .i64 (x : Int))).setCell ⟨gu,1,none⟩ (.int .i64 (y : Int))) gu 24 [.int .i64 (x : Int),.int .i64 (y : Int),.slice none 0 0] from by have:=(HU4.out.set_ 0 (.int .i64 (x : Int))).set_ 1 (.int .i64 (y : Int)); simpa using this)
       have HG5:=hQ_ ((HG4.out.far (p:=⟨gu,0,none⟩) hne (.int .i64 (x : Int))).far (p:=⟨gu,1,none⟩) hne (.int .i64 (y : Int)))
       have HO5:=hQ_ (zs_ (p:=⟨gu,1,none⟩) (u:=.int .i64 (y : Int)) (zs_ (p:=⟨gu,0,none⟩) (u:=.int .i64 (x : Int)) HO4.out (fun hb => by injection hb with hb; simp only at hb; omega)) (fun hb => by injection hb with hb; simp only at hb; omega))
       have HW5:=hQ_ ((HW4.out.setCell (p:=⟨gu,0,none⟩) (fun h => absurd h hnlu) (.int .i64 (x : Int))).setCell (p:=⟨gu,1,none⟩) (fun h => absurd h hnlu) (.int .i64 (y : Int)))
       clear u0 u1 q0 q1 y0
       generalize (w4.setCell ⟨gu,0,none⟩ (.int .i64 (x : Int))).setCell ⟨gu,1,none⟩ (.int .i64 (y : Int)) = w5 at HU5 HG5 HO5 HW5 ⊢
       cases b with
       | false =>
         have HNO:=hQ_ (show zK_ l = (12,0,0,[]) from by
          rw [HRP.out,HPA.out,HB0.out rfl])
         have z0:=HG5.out.cell 0
         have z1:=HG5.out.cell 1
         have z2:=HG5.out.cell 2
         have f0:=HG5.out.frozen 0
         have f1:=HG5.out.frozen 1
         have f2:=HG5.out.frozen 2
         go_wp2_with fail
         have HCF:=((HW5.out.setCell (p:=⟨g,0,none⟩) (fun h => absurd h hnl) (.int .i64 0)).setCell (p:=⟨g,1,none⟩) (fun h => absurd h hnl) (.int .i64 0)).setCell (p:=⟨g,2,none⟩) (fun h => absurd h hnl) (.slice none 0 0)
         have HSS:=((HG5.out.set_ 0 (.int .i64 0)).set_ 1 (.int .i64 0)).set_ 2 (.slice none 0 0)
         exact bodyPost_ret_by (ze_ (p:=2) (u:=3) (ty:=24) rfl _ _ g 24 [.int .i64 0,.int .i64 0,.slice none 0 0] _ rfl HSS Tryz.underlying24 (by kernel_rfl)) rfl (HP0.out 12 _ HNO.out HCF)
       | true =>
         have HPB:=hQ_ (show yq_ l = (z3_ T).map fun fs => (x,y,fs) from by rw [HPA.out,HB1.out rfl])
         clear HPA HB1 HB0
         go_wp2_with fail
         go_loopw [7] (fun i wr => ∃ (k : Nat) (fs : List FnV) (A' : Option Addr) (c' : Nat),i = .int .i64 ((k + 1 : Nat) : Int) ∧ k + 1 ≤ n ∧ Hid (fs.length = k) ∧ Hid (zb_ wr g 24 [.int .i64 0,.int .i64 0,.slice none 0 0]) ∧ Hid (zb_ wr gu 24 [.int .i64 (x : Int),.int .i64 (y : Int),.slice A' k c']) ∧ Hid (wr.ownsRow (gu + 1) 58 3 (.slice A' k c') k (y3_ fs)) ∧ Hid (wr.ownsRow w1.heap.size 9 1 (.slice (some ⟨gl,0,none⟩) n cl) n (kk_ (a :: T))) ∧ Hid ((z3_ (T.drop k)).map (fs ++ ·) = z3_ T) ∧ Hid (3 * k + ((T.drop k).map List.length).sum + (T.drop k).length ≤ 2048) ∧ Hid (∀ f ∈ fs,okF f) ∧ Hid (Chg [] w wr) ∧ Hid (gu + 1 ≤ wr.heap.size)) (fun i _ => n - (intOf i).toNat)
         case atStart => exact ⟨0,[],none,0,rfl,by omega,hQ_ rfl,HG5,HU5,hQ_ (World.ownsRow_nil _ _ _ _),HO5,hQ_ (by rw [List.drop_zero]; cases z3_ T <;> rfl),hQ_ (by have:=HSU.out; rw [List.drop_zero]; omega),hQ_ (by simp),HW5,hQ_ HU5.out.lt⟩
         case round =>
          obtain ⟨k,fs,A',c',rfl,hk,HFL,HGr,HUr,HOF,HOL,HFP,HSM,HFA,HCr,HZr⟩:=hrel
          by_cases hkn : k + 1 < n
          · have hkI : ((k + 1 : Nat) : Int) < (n : Int):=by omega
            obtain ⟨s,hs⟩ : ∃ s,T[k]? = some s:=⟨T[k]'(by have:=HN.out; omega),by simp⟩
            have yk0:=kq_ HOL.out (j:=k + 1) (s:=s) (by rw [List.getElem?_cons_succ]; exact hs)
            have hdr : T.drop k = s :: T.drop (k + 1):=List.drop_eq_getElem?_toList_append.trans (by rw [hs]; rfl)
            have hsl : s.length ≤ 2048:=by
             have:=HSM.out
             rw [hdr,List.map_cons,List.sum_cons] at this
             omega
            have HFU:=hQ_ (fun (W : World) => kW_ (w:=W) s (by omega))
            unfold xo_ qw_ at HFU
            obtain ⟨SK,hSK⟩ : ∃ S,S = zc_ s:=⟨_,rfl⟩
            rw [← hSK] at yk0 HFU
            have HDR:=hQ_ hdr
            have HSL:=hQ_ hsl
            clear hs hdr hSK hsl
            cases hf : xT_ s with
            | none =>
              rw [hf] at HFU
              simp only at HFU
              have HNO:=hQ_ (show zK_ l = (12,0,0,[]) from by
               have h1 : z3_ T = none:=by rw [← HFP.out,HDR.out,z3_,hf]; rfl
               rw [HRP.out,HPB.out,h1]; rfl)
              go_upto_region 14 with (
               go_at_call 86
               refine (HFU.out _).mono ?_
               rintro e w7 ⟨rfl,hc7⟩
               have HG7:=hQ_ (HGr.out.keep hc7)
               have HC7:=hQ_ (HCr.out.trans hc7)
               clear hc7)
              have HG8:=hQ_ (HG7.out.keep ((Chg.refl [] w7).alloc (.cells #[.int .i32 0,.int .i64 0,.string ⟨#[]⟩] 58)))
              have HC8:=hQ_ (HC7.out.alloc (.cells #[.int .i32 0,.int .i64 0,.string ⟨#[]⟩] 58))
              generalize w7.heap.size = gx
              generalize w7.alloc (.cells #[.int .i32 0,.int .i64 0,.string ⟨#[]⟩] 58) = w8 at HG8 HC8 ⊢
              have z0:=HG8.out.cell 0
              have z1:=HG8.out.cell 1
              have z2:=HG8.out.cell 2
              have f0:=HG8.out.frozen 0
              have f1:=HG8.out.frozen 1
              have f2:=HG8.out.frozen 2
              go_wp2_with fail
              have HCF:=((HC8.out.setCell (p:=⟨g,0,none⟩) (fun h => absurd h hnl) (.int .i64 0)).setCell (p:=⟨g,1,none⟩) (fun h => absurd h hnl) (.int .i64 0)).setCell (p:=⟨g,2,none⟩) (fun h => absurd h hnl) (.slice none 0 0)
              have HSS:=((HG8.out.set_ 0 (.int .i64 0)).set_ 1 (.int .i64 0)).set_ 2 (.slice none 0 0)
              exact bodyPost_ret_by (ze_ (p:=2) (u:=3) (ty:=24) rfl _ _ g 24 [.int .i64 0,.int .i64 0,.slice none 0 0] _ rfl HSS Tryz.underlying24 (by kernel_rfl)) rfl (HP0.out 12 _ HNO.out HCF)
            | some f =>
              rw [hf] at HFU
              simp only at HFU
              have hok:=gd_ hf
              obtain ⟨fn,fa,fc⟩:=f
              have HFD:=hQ_ (show (z3_ (T.drop (k + 1))).map ((fs ++ [⟨fn,fa,fc⟩]) ++ ·) = z3_ T from by
               rw [← HFP.out,HDR.out,z3_,hf]
               simp only
               cases z3_ (T.drop (k + 1)) with
               | none => rfl
               | some r => simp)
              have HSD:=hQ_ (show 3 * (k + 1) + ((T.drop (k + 1)).map List.length).sum + (T.drop (k + 1)).length ≤ 2048 from by
               have:=HSM.out
               rw [HDR.out,List.map_cons,List.sum_cons,List.length_cons] at this
               omega)
              have HFB:=hQ_ (show ∀ f ∈ fs ++ [⟨fn,fa,fc⟩],okF f from fun f hf => by
               rcases List.mem_append.1 hf with hf | hf
               · exact HFA.out f hf
               · rw [List.mem_singleton] at hf
                 subst hf
                 have:=HSL.out
                 unfold okF
                 simp only at hok ⊢
                 omega)
              have hk682 : 3 * (k + 1) ≤ 2048:=by have:=HSD.out; omega
              clear hf hok
              unfold fnC at HFU
              simp only at HFU
              go_upto_region 14 with (
               go_at_call 86
               refine (HFU.out _).mono ?_
               rintro e w7 ⟨rfl,hc7⟩
               have HG7:=hQ_ (HGr.out.keep hc7)
               have HU7:=hQ_ (HUr.out.keep hc7)
               have HF7:=hQ_ (zg_ HOF.out hc7)
               have HL7:=hQ_ (zn_ HOL.out hc7)
               have HC7:=hQ_ (HCr.out.trans hc7)
               have HZ7:=hQ_ (Nat.le_trans HZr.out hc7.size)
               clear hc7)
              have hN:=zb_.new w7 58 [.int .i32 fn,.int .i64 fa,.string fc]
              have hal:=(Chg.refl [] w7).alloc (.cells #[.int .i32 fn,.int .i64 fa,.string fc] 58)
              have HX8:=hQ_ hN
              have HG8:=hQ_ (HG7.out.keep hal)
              have HU8:=hQ_ (HU7.out.keep hal)
              have HF8:=hQ_ (zg_ HF7.out hal)
              have HL8:=hQ_ (zn_ HL7.out hal)
              have HC8:=hQ_ (HC7.out.trans hal)
              have HZ8:=hQ_ (Nat.le_trans HZ7.out hal.size)
              clear hN hal yk0
              generalize w7.heap.size = gx at HX8 ⊢
              generalize w7.alloc (.cells #[.int .i32 fn,.int .i64 fa,.string fc] 58) = w8 at HX8 HG8 HU8 HF8 HL8 HC8 HZ8 ⊢
              have x0:=HX8.out.cell 0
              have x1:=HX8.out.cell 1
              have x2:=HX8.out.cell 2
              have u2:=HU8.out.cell 2
              have HAL:=hQ_ ((Chg.refl [] w8).alloc (.cells #[.int .i32 fn,.int .i64 fa,.string fc] 58))
              have HOA:=hQ_ (zg_ HF8.out HAL.out)
              go_wp2_with (
               at_builtin
               refine wpList_append_own _ rfl (.tmp 61) (.tmp 63) _ rfl (gu + 1) 58 i0 _ 3 32 Tryz.underlying22 hi0 hz0 hz1 hz2 rfl (by decide) (.slice A' k c') k (y3_ fs) rfl HOA.out ⟨w8.heap.size,0,none⟩ 1 1 [.int .i32 fn,.int .i64 fa,.string fc] rfl rfl (zq_ _ _ _) (by simp [Value.oneCell']) (by simp only [maxLen]; omega) (by omega) (by have:=HZ8.out; simp; omega) ?_
               intro v' w11 ho11 hg11 _
               obtain ⟨A11,c11,rfl,_⟩:=zm_ ho11
               have HO11:=hQ_ ho11
               have HU11:=hQ_ (zi_ (HU8.out.keep HAL.out) HOA.out (by decide) hg11)
               have HG11:=hQ_ (zi_ (HG8.out.keep HAL.out) HOA.out (by decide) hg11)
               have HL11:=hQ_ (yM_ (zn_ HL8.out HAL.out) HOA.out (by decide) hg11)
               have HC11:=hQ_ (zQ_ (HC8.out.trans HAL.out) hg11 (fun g hg => by have:=(HOA.out.lt g hg).1; omega))
               have HZ11:=hQ_ (Nat.le_trans HZ8.out (Nat.le_trans HAL.out.size hg11.size))
               have e2:=HU11.out.cell 2
               have q2:=HU11.out.frozen 2
               clear ho11 hg11)
              have HU12:=hQ_ (show zb_ (w11.setCell ⟨gu,2,none⟩ (.slice A11 (k + 1) c11)) gu 24 [.int .i64 (x : Int),.int .i64 (y : Int),.slice A11 (k + 1) c11] from by have:=HU11.out.set_ 2 (.slice A11 (k + 1) c11); simpa using this)
              have HO12:=hQ_ (show (w11.setCell ⟨gu,2,none⟩ (.slice A11 (k + 1) c11)).ownsRow (gu + 1) 58 3 (.slice A11 (k + 1) c11) (k + 1) (y3_ (fs ++ [⟨fn,fa,fc⟩])) from by
               rw [vg_]
               exact zs_ (p:=⟨gu,2,none⟩) (u:=.slice A11 (k + 1) c11) HO11.out (fun hb => by have:=(HO11.out.lt _ hb).1; simp only at this; omega))
              have HG12:=hQ_ (HG11.out.far (p:=⟨gu,2,none⟩) hne (.slice A11 (k + 1) c11))
              have HL12:=hQ_ (zs_ (p:=⟨gu,2,none⟩) (u:=.slice A11 (k + 1) c11) HL11.out (fun hb => by injection hb with hb; simp only at hb; omega))
              have HC12:=hQ_ (HC11.out.setCell (p:=⟨gu,2,none⟩) (fun hh => by simp only at hh; omega) (.slice A11 (k + 1) c11))
              have HZ12:=hQ_ (show gu + 1 ≤ (w11.setCell ⟨gu,2,none⟩ (.slice A11 (k + 1) c11)).heap.size from by rw [zG_]; exact HZ11.out)
              go_roundw
              case rel => exact ⟨k + 1,fs ++ [⟨fn,fa,fc⟩],A11,c11,by go_num,by omega,hQ_ (by rw [List.length_append,HFL.out]; rfl),HG12,HU12,HO12,HL12,HFD,HSD,HFB,HC12,HZ12⟩
              case measure => simp [intOf]; omega
          · have hkI : ¬ ((k + 1 : Nat) : Int) < (n : Int):=by omega
            have HFE:=hQ_ (show z3_ T = some fs from by
             have:=HFP.out
             rw [List.drop_eq_nil_of_le (by have:=HN.out; omega),z3_] at this
             rw [← this]
             simp)
            have hk682 : 3 * k ≤ 2048:=by have:=HSM.out; omega
            have hsm : ∀ f ∈ fs,f.code.size ≤ 9223372036854775807:=fun f hf => by have:=HFA.out f hf; unfold okF at this; omega
            obtain ⟨A9,c9,e9,hfr⟩:=Fnr.of_own (n:=k) (l:=fs) HOF.out (by omega) (fun f hf => by have:=HFA.out f hf; unfold okF at this; omega)
            injection e9 with e1 _ e2
            subst e1; subst e2
            have HRQ:=hQ_ (show zK_ l = if zJ_ (x : Int) (y : Int) fs = 0 then (if (zM_ (x : Int) (y : Int) fs).1 = l then (0,(x : Int),(y : Int),fs) else (12,0,0,[])) else (zJ_ (x : Int) (y : Int) fs,0,0,[]) from by
             rw [HRP.out,HPB.out,HFE.out]
             rfl)
            have HRI:=hQ_ (vW_ (pages:=(x : Int)) (most:=(y : Int)) hfr hsm)
            have HTX:=hQ_ (fun (W : World) (h : Chg [] wr W) => vV_ (pages:=(x : Int)) (most:=(y : Int)) (hfr.keep h) hsm)
            unfold yV_ at HRI
            unfold zF_ at HTX
            unfold z2_ at HRI HTX
            generalize zJ_ (x : Int) (y : Int) fs = R at HRQ HRI
            generalize zM_ (x : Int) (y : Int) fs = TX at HRQ HTX
            obtain ⟨T1,E1⟩:=TX
            simp only at HRQ HTX
            have u0:=HUr.out.cell 0
            have u1:=HUr.out.cell 1
            have u2:=HUr.out.cell 2
            clear hsm hfr HRP HPB HFE
            by_cases hR : R = 0
            · subst hR
              rw [if_pos rfl] at HRQ
              by_cases hT : T1 = l
              · rw [if_pos hT] at HRQ
                subst hT
                rw [← HSL.out] at HTX
                go_upto_region 23 with (first
                 | (go_at_call 52
                    refine HRI.out.mono ?_
                    rintro e w8 ⟨rfl,hc8⟩
                    have HK8:=hQ_ hc8
                    have HU8:=hQ_ (HUr.out.keep hc8)
                    have y0:=HU8.out.cell 0
                    have y1:=HU8.out.cell 1
                    have y2:=HU8.out.cell 2
                    clear hc8)
                 | (go_at_call 26
                    refine (HTX.out _ HK8.out).mono ?_
                    rintro e w9 ⟨rfl,hc9⟩
                    have HK9:=hQ_ (HK8.out.trans hc9)
                    clear hc9))
                clear u0 u1 u2 y0 y1 y2
                have HG9:=hQ_ (HGr.out.keep HK9.out)
                have HU9:=hQ_ (HUr.out.keep HK9.out)
                have HO9:=hQ_ (zg_ HOF.out HK9.out)
                have HC9:=hQ_ (HCr.out.trans HK9.out)
                have u0:=HU9.out.cell 0
                have u1:=HU9.out.cell 1
                have u2:=HU9.out.cell 2
                have z0:=HG9.out.cell 0
                have z1:=HG9.out.cell 1
                have z2:=HG9.out.cell 2
                have f0:=HG9.out.frozen 0
                have f1:=HG9.out.frozen 1
                have f2:=HG9.out.frozen 2
                have hfar : ∀ (W : World) (j : Nat) (u : Value),W.ownsRow (gu + 1) 58 3 (.slice A' k c') k (y3_ fs) → (W.setCell ⟨g,j,none⟩ u).ownsRow (gu + 1) 58 3 (.slice A' k c') k (y3_ fs):=fun W j u h => zs_ (p:=⟨g,j,none⟩) (u:=u) h (fun hb => by have:=(h.lt _ hb).1; simp only at this; omega)
                have HOZ:=hQ_ (z8_ (hfar _ 2 (.slice A' k c') (hfar _ 1 (.int .i64 (y : Int)) (hfar _ 0 (.int .i64 (x : Int)) HO9.out))) (show w.heap.size ≤ gu + 1 by omega))
                go_wp2_with fail
                have HCF:=((HC9.out.setCell (p:=⟨g,0,none⟩) (fun h => absurd h hnl) (.int .i64 (x : Int))).setCell (p:=⟨g,1,none⟩) (fun h => absurd h hnl) (.int .i64 (y : Int))).setCell (p:=⟨g,2,none⟩) (fun h => absurd h hnl) (.slice A' k c')
                have HSS:=((HG9.out.set_ 0 (.int .i64 (x : Int))).set_ 1 (.int .i64 (y : Int))).set_ 2 (.slice A' k c')
                exact bodyPost_ret_by (ze_ (p:=2) (u:=3) (ty:=24) rfl _ _ g 24 [.int .i64 (x : Int),.int .i64 (y : Int),.slice A' k c'] _ rfl HSS Tryz.underlying24 (by kernel_rfl)) rfl (HP1.out _ _ fs _ _ HRQ.out (by rw [HFL.out]; exact HOZ.out) (by rw [HFL.out]; omega) HFA.out HCF)
              · rw [if_neg hT] at HRQ
                have hne2:=zaz hT
                rw [← HSL.out] at hne2
                generalize zc_ T1 = S1 at hne2 HTX
                clear hT
                go_upto_region 22 with (first
                 | (go_at_call 52
                    refine HRI.out.mono ?_
                    rintro e w8 ⟨rfl,hc8⟩
                    have HK8:=hQ_ hc8
                    have HU8:=hQ_ (HUr.out.keep hc8)
                    have y0:=HU8.out.cell 0
                    have y1:=HU8.out.cell 1
                    have y2:=HU8.out.cell 2
                    clear hc8)
                 | (go_at_call 26
                    refine (HTX.out _ HK8.out).mono ?_
                    rintro e w9 ⟨rfl,hc9⟩
                    have HK9:=hQ_ (HK8.out.trans hc9)
                    clear hc9))
                clear u0 u1 u2 y0 y1 y2
                have HG9:=hQ_ (HGr.out.keep HK9.out)
                have HU9:=hQ_ (HUr.out.keep HK9.out)
                have HO9:=hQ_ (zg_ HOF.out HK9.out)
                have HC9:=hQ_ (HCr.out.trans HK9.out)
                have u0:=HU9.out.cell 0
                have u1:=HU9.out.cell 1
                have u2:=HU9.out.cell 2
                have z0:=HG9.out.cell 0
                have z1:=HG9.out.cell 1
                have z2:=HG9.out.cell 2
                have f0:=HG9.out.frozen 0
                have f1:=HG9.out.frozen 1
                have f2:=HG9.out.frozen 2
                go_wp2_with fail
                have HCF:=((HC9.out.setCell (p:=⟨g,0,none⟩) (fun h => absurd h hnl) (.int .i64 0)).setCell (p:=⟨g,1,none⟩) (fun h => absurd h hnl) (.int .i64 0)).setCell (p:=⟨g,2,none⟩) (fun h => absurd h hnl) (.slice none 0 0)
                have HSS:=((HG9.out.set_ 0 (.int .i64 0)).set_ 1 (.int .i64 0)).set_ 2 (.slice none 0 0)
                exact bodyPost_ret_by (ze_ (p:=2) (u:=3) (ty:=24) rfl _ _ g 24 [.int .i64 0,.int .i64 0,.slice none 0 0] _ rfl HSS Tryz.underlying24 (by kernel_rfl)) rfl (HP0.out 12 _ HRQ.out HCF)
            · rw [if_neg hR] at HRQ
              have hd : (R == 0) = false:=by simpa using hR
              clear hR HTX
              go_upto_region 19 with (
               go_at_call 52
               refine HRI.out.mono ?_
               rintro e w8 ⟨rfl,hc8⟩
               have HG8:=hQ_ (HGr.out.keep hc8)
               have HC8:=hQ_ (HCr.out.trans hc8)
               clear hc8)
              have z0:=HG8.out.cell 0
              have z1:=HG8.out.cell 1
              have z2:=HG8.out.cell 2
              have f0:=HG8.out.frozen 0
              have f1:=HG8.out.frozen 1
              have f2:=HG8.out.frozen 2
              go_wp2_with fail
              have HCF:=((HC8.out.setCell (p:=⟨g,0,none⟩) (fun h => absurd h hnl) (.int .i64 0)).setCell (p:=⟨g,1,none⟩) (fun h => absurd h hnl) (.int .i64 0)).setCell (p:=⟨g,2,none⟩) (fun h => absurd h hnl) (.slice none 0 0)
              have HSS:=((HG8.out.set_ 0 (.int .i64 0)).set_ 1 (.int .i64 0)).set_ 2 (.slice none 0 0)
              exact bodyPost_ret_by (ze_ (p:=2) (u:=3) (ty:=24) rfl _ _ g 24 [.int .i64 0,.int .i64 0,.slice none 0 0] _ rfl HSS Tryz.underlying24 (by kernel_rfl)) rfl (HP0.out R _ HRQ.out HCF)
   · rw [decide_eq_false hrest] at HL
     unfold yH_ at HL
     have HNO:=hQ_ (show zK_ l = (12,0,0,[]) from by
      rw [HRP.out,show yq_ l = none from by
       unfold yq_
       cases (zz_ l []).1 with
       | nil => rfl
       | cons a T => simp only; rw [if_neg hrest]])
     generalize (zz_ l []).1 = L0 at HL
     generalize zc_ l = S at *
     clear hl h2 hsz hsr hrest HRP
     go_enter Tryz.func55,Tryz.ntmps55
     go_upto_region 1 with fail
     have hN:=zb_.new w 24 [.int .i64 0,.int .i64 0,.slice none 0 0]
     have hal:=(Chg.refl [] w).alloc (.cells #[.int .i64 0,.int .i64 0,.slice none 0 0] 24)
     obtain ⟨g,hg⟩ : ∃ g,g = w.heap.size:=⟨_,rfl⟩
     have hw1s : (w.alloc (.cells #[.int .i64 0,.int .i64 0,.slice none 0 0] 24)).heap.size = g + 1:=by rw [hg]; simp
     rw [← hg] at hN ⊢
     have HG:=hQ_ hN
     have HW1:=hQ_ hal
     have HGS:=hQ_ hg
     have HGZ:=hQ_ hw1s
     have hnl : ¬ g < w.heap.size:=by omega
     generalize w.alloc (.cells #[.int .i64 0,.int .i64 0,.slice none 0 0] 24) = w1 at HG HW1 HGZ ⊢
     clear hN hal hg hw1s
     go_wp2_with (
      go_at_call 84
      refine (HL.out _).mono ?_
      rintro e w2 ⟨v2,rfl,ho2,hc2⟩
      have HG2:=hQ_ (HG.out.keep hc2)
      have HW2:=hQ_ (HW1.out.trans hc2)
      have z0:=HG2.out.cell 0
      have z1:=HG2.out.cell 1
      have z2:=HG2.out.cell 2
      have f0:=HG2.out.frozen 0
      have f1:=HG2.out.frozen 1
      have f2:=HG2.out.frozen 2
      clear ho2 hc2)
     have HCF:=((HW2.out.setCell (p:=⟨g,0,none⟩) (fun h => absurd h hnl) (.int .i64 0)).setCell (p:=⟨g,1,none⟩) (fun h => absurd h hnl) (.int .i64 0)).setCell (p:=⟨g,2,none⟩) (fun h => absurd h hnl) (.slice none 0 0)
     have HSS:=((HG2.out.set_ 0 (.int .i64 0)).set_ 1 (.int .i64 0)).set_ 2 (.slice none 0 0)
     exact bodyPost_ret_by (ze_ (p:=2) (u:=3) (ty:=24) rfl _ _ g 24 [.int .i64 0,.int .i64 0,.slice none 0 0] _ rfl HSS Tryz.underlying24 (by kernel_rfl)) rfl (HP0.out 12 _ HNO.out HCF)
end
end Go.Proofs.YtbkfhndmeljlcaaGreatDoor
namespace Go.Proofs.YtbkfhndmeljlcaaGreatDoor
open Go.RowKit
theorem zft {t u : FnV} : t = u ↔ t.name = u.name ∧ t.args = u.args ∧ t.code = u.code:=by
 constructor
 · rintro rfl; exact ⟨rfl,rfl,rfl⟩
 · rintro ⟨h1,h2,h3⟩
   cases t; cases u; simp only at h1 h2 h3; subst h1; subst h2; subst h3; rfl
def qb_ (P : Prop) (W : World) (e : Ending) (w' : World) : Prop:=∃ b : Bool,e = .returned (.bool b) ∧ (b = true ↔ P) ∧ Chg [] W w'
theorem ba_tl {a b : ByteArray} (h : a.toList = b.toList) : a = b:=by
 rw [ByteArray.toList_eq,ByteArray.toList_eq] at h
 have:=Array.toList_inj.1 h
 cases a; cases b
 simp only at this
 rw [this]
theorem zaE {α : Type} {l l2 : List α} {k : Nat} {t u : α} (h : l.take k = l2.take k) (h1 : l[k]? = some t) (h2 : l2[k]? = some u) : l.take (k + 1) = l2.take (k + 1) ↔ t = u:=by
 rw [List.take_add_one,List.take_add_one,h,h1,h2]
 simp
end Go.Proofs.YtbkfhndmeljlcaaGreatDoor
namespace Go.Proofs.YtbkfhndmeljlcaaGreatDoor
open Go.RowKit
section
variable {W : World} {A A2 : Option Addr} {n c n2 c2 : Nat} {l l2 : List FnV}
theorem ju_ {p m p2 m2 : Int} (h : Fnr W A n c l) (h2 : Fnr W A2 n2 c2 l2) : Calls Tryz.prog 22 #[z2_ p m A n c,z2_ p2 m2 A2 n2 c2] W (qb_ (p = p2 ∧ m = m2 ∧ l = l2) W):=by
 have HPO:=hQ_ (show ∀ (b : Bool) (wr : World),(b = true ↔ (p = p2 ∧ m = m2 ∧ l = l2)) → Chg [] W wr → qb_ (p = p2 ∧ m = m2 ∧ l = l2) W (.returned (.bool b)) wr from fun b wr h1 h2 => ⟨b,rfl,h1,h2⟩)
 generalize qb_ (p = p2 ∧ m = m2 ∧ l = l2) W = PO at HPO ⊢
 have HH:=hQ_ h
 have HH2:=hQ_ h2
 have HL:=hQ_ h.len
 have HL2:=hQ_ h2.len
 have hm1:=h.max
 have hm2:=h2.max
 clear h h2
 unfold z2_
 have HN:=hQ_ (fun (w : World) => zb_.new w 24 [.int .i64 p,.int .i64 m,.slice A n c])
 have HN2:=hQ_ (fun (w : World) => zb_.new w 24 [.int .i64 p2,.int .i64 m2,.slice A2 n2 c2])
 go_enter Tryz.func22,Tryz.ntmps22
 go_upto_region 1 with fail
 have hX:=HN.out W
 have hc1:=(Chg.refl [] W).alloc (.cells #[.int .i64 p,.int .i64 m,.slice A n c] 24)
 have hY:=HN2.out (W.alloc (.cells #[.int .i64 p,.int .i64 m,.slice A n c] 24))
 have hc2:=(Chg.refl [] (W.alloc (.cells #[.int .i64 p,.int .i64 m,.slice A n c] 24))).alloc (.cells #[.int .i64 p2,.int .i64 m2,.slice A2 n2 c2] 24)
 have hX2:=hX.keep hc2
 have HC:=hQ_ (hc1.trans hc2)
 rw [show (W.alloc (.cells #[.int .i64 p,.int .i64 m,.slice A n c] 24)).heap.size = W.heap.size + 1 by simp] at hY
 generalize W.heap.size = g1 at hX2 hY ⊢
 generalize (W.alloc (.cells #[.int .i64 p,.int .i64 m,.slice A n c] 24)).alloc (.cells #[.int .i64 p2,.int .i64 m2,.slice A2 n2 c2] 24) = w2 at hX2 hY HC ⊢
 have HX:=hQ_ hX2
 have HY:=hQ_ hY
 have x0:=hX2.cell 0
 have x1:=hX2.cell 1
 have x2:=hX2.cell 2
 have y0:=hY.cell 0
 have y1:=hY.cell 1
 have y2:=hY.cell 2
 clear hX hX2 hY hc1 hc2
 by_cases q1 : p = p2
 · have b1 : (p == p2) = true:=by simpa using q1
   by_cases q2 : m = m2
   · have b2 : (m == m2) = true:=by simpa using q2
     by_cases hn : n = n2
     · subst hn
       have HQ1:=hQ_ q1
       have HQ2:=hQ_ q2
       subst q1
       subst q2
       go_wp2_with fail
       go_loopw [30] (fun i wr => ∃ k : Nat,i = .int .i64 (k : Int) ∧ k ≤ n ∧ Hid (l.take k = l2.take k) ∧ Hid (Chg [] w2 wr)) (fun i _ => n - (intOf i).toNat)
       case atStart => exact ⟨0,rfl,by omega,hQ_ rfl,hQ_ (Chg.refl [] _)⟩
       case round =>
        obtain ⟨k,rfl,hk,HT,HCr⟩:=hrel
        have HCW:=hQ_ (HC.out.trans HCr.out)
        by_cases hkn : k < n
        · have hkI : (k : Int) < (n : Int):=by omega
          obtain ⟨t,htk⟩ : ∃ t,l[k]? = some t:=⟨l[k]'(by rw [HL.out]; exact hkn),by simp⟩
          obtain ⟨u,huk⟩ : ∃ t,l2[k]? = some t:=⟨l2[k]'(by rw [HL2.out]; exact hkn),by simp⟩
          have HST:=hQ_ (zaE HT.out htk huk)
          have HNE:=hQ_ (show t ≠ u → l ≠ l2 from fun hne he => by rw [he,huk] at htk; injection htk with htk; exact hne htk.symm)
          obtain ⟨fb,fo,rfl,hfbl,e0,e1,e2⟩:=(HH.out.keep HCW.out).cell htk
          obtain ⟨gb,go,rfl,hgbl,d0,d1,d2⟩:=(HH2.out.keep HCW.out).cell huk
          have xx2:=(HX.out.keep HCr.out).cell 2
          have yy2:=(HY.out.keep HCr.out).cell 2
          clear htk huk
          go_upto_region 6 with fail
          by_cases r1 : t.name = u.name
          · by_cases r2 : t.args = u.args
            · by_cases r3 : t.code.toList = u.code.toList
              · have HS3:=hQ_ (HST.out.2 (zft.2 ⟨r1,r2,ba_tl r3⟩))
                go_region
                go_wp2_with fail
                go_roundw
                case rel => exact ⟨k + 1,by go_num,by omega,HS3,hQ_ HCr.out.drew⟩
                case measure => simp [intOf]; omega
              · have HS3:=hQ_ (HNE.out (fun h => r3 (by rw [h])))
                go_region
                go_wp2_with fail
                exact HPO.out false _ ⟨(fun h => by cases h),fun h => absurd h.2.2 HS3.out⟩ HCW.out.drew
            · have HS3:=hQ_ (HNE.out (fun h => r2 (by rw [h])))
              go_region
              go_wp2_with fail
              exact HPO.out false _ ⟨(fun h => by cases h),fun h => absurd h.2.2 HS3.out⟩ HCW.out.drew
          · have HS3:=hQ_ (HNE.out (fun h => r1 (by rw [h])))
            go_region
            go_wp2_with fail
            exact HPO.out false _ ⟨(fun h => by cases h),fun h => absurd h.2.2 HS3.out⟩ HCW.out.drew
        · have hkI : ¬ (k : Int) < (n : Int):=by omega
          have HE:=hQ_ (show l = l2 from by
           have:=HT.out
           rw [List.take_of_length_le (by rw [HL.out]; omega),List.take_of_length_le (by rw [HL2.out]; omega)] at this
           exact this)
          go_wp2_with fail
          exact HPO.out true _ (by simpa using HE.out) HCW.out
     · have hnI : ((n : Int) == (n2 : Int)) = false:=by simp; omega
       go_wp2_with fail
       exact HPO.out false _ ⟨(fun h => by cases h),fun h => absurd (by rw [← HL.out,← HL2.out,h.2.2]) hn⟩ HC.out
   · have b2 : (m == m2) = false:=by simpa using q2
     go_wp2_with fail
     exact HPO.out false _ ⟨(fun h => by cases h),fun h => absurd h.2.1 q2⟩ HC.out
 · have b1 : (p == p2) = false:=by simpa using q1
   go_wp2_with fail
   exact HPO.out false _ ⟨(fun h => by cases h),fun h => absurd h.1 q1⟩ HC.out
end
end Go.Proofs.YtbkfhndmeljlcaaGreatDoor
namespace Go.Proofs.YtbkfhndmeljlcaaGreatDoor
open Go.RowKit
structure UOk (W : World) (pg ms : Int) (A : Option Addr) (n c : Nat) (R : Int) (T : List UInt8) (E : Int) : Prop where
  ur : ∀ w,Chg [] W w → Calls Tryz.prog 54 #[.agg #[.int .i64 pg,.int .i64 ms,.slice A n c]] w (yV_ w R)
  rr : ∀ w,Chg [] W w → Calls Tryz.prog 52 #[.agg #[.int .i64 pg,.int .i64 ms,.slice A n c]] w (yV_ w R)
  ut : ∀ w,Chg [] W w → xu_ w.heap.size w → Calls Tryz.prog 31 #[.agg #[.int .i64 pg,.int .i64 ms,.slice A n c]] w (zF_ T E w)
  rt : ∀ w,Chg [] W w → Calls Tryz.prog 26 #[.agg #[.int .i64 pg,.int .i64 ms,.slice A n c]] w (zF_ T E w)
section
variable {W W' : World} {pg ms : Int} {A : Option Addr} {n c : Nat} {l : List FnV}
theorem UOk.of_fnr (h : Fnr W A n c l) (hsm : ∀ f ∈ l,f.code.size ≤ 9223372036854775807) : UOk W pg ms A n c (zJ_ pg ms l) (zM_ pg ms l).1 (zM_ pg ms l).2 :=
 ⟨fun _ hc => vS_ (h.keep hc) hsm,fun _ hc => vW_ (h.keep hc) hsm,fun _ hc hp => uJ_ (h.keep hc) hsm hp,fun _ hc => vV_ (h.keep hc) hsm⟩
theorem UOk.keep {R : Int} {T : List UInt8} {E : Int} (h : UOk W pg ms A n c R T E) (hc : Chg [] W W') : UOk W' pg ms A n c R T E :=
 ⟨fun w k => h.ur w (hc.trans k),fun w k => h.rr w (hc.trans k),fun w k hp => h.ut w (hc.trans k) hp,fun w k => h.rt w (hc.trans k)⟩
end
end Go.Proofs.YtbkfhndmeljlcaaGreatDoor
namespace Go.Proofs.YtbkfhndmeljlcaaGreatDoor
open Go.RowKit
open Go.Lib (decDigits encodeRune)
def kuG : FnV:=⟨102,0,⟨#[49]⟩⟩
theorem dg0 : decDigits 0 = [48]:=by rw [Lib.decDigits_one (by omega)]; rfl
theorem dg1 : decDigits 1 = [49]:=by rw [Lib.decDigits_one (by omega)]; rfl
theorem dg2 : decDigits 2 = [50]:=by rw [Lib.decDigits_one (by omega)]; rfl
end Go.Proofs.YtbkfhndmeljlcaaGreatDoor
namespace Go.Proofs.YtbkfhndmeljlcaaGreatDoor
open Go.RowKit
theorem gO_ (l : List UInt8) (k : Nat) : (zc_ l).extract k (zc_ l).size = zc_ (l.drop k):=by
 apply ByteArray.ext
 simp [zc_,ByteArray.extract,ByteArray.copySlice,ByteArray.size]
 exact List.take_of_length_le (by simp)
end Go.Proofs.YtbkfhndmeljlcaaGreatDoor
namespace Go.Proofs.YtbkfhndmeljlcaaGreatDoor
open Go.RowKit
def xi_ (w : World) (cs : List (Nat × List UInt8)) (r : Int) (e : Ending) (w' : World) : Prop :=
 ∃ v ls,e = .returned (.tuple #[v,.int .i64 r]) ∧ w'.ownsRow w.heap.size 44 2 v ls.length (vO_ ls) ∧ (∀ a ∈ ls,RMade w' w.heap.size a) ∧ kl_ ls cs ∧ Chg [] w w'
theorem xi_.no {w w' : World} {r : Int} (hc : Chg [] w w') : xi_ w [] r (.returned (.tuple #[.slice none 0 0,.int .i64 r])) w':=⟨_,[],rfl,World.ownsRow_nil _ _ _ _,by simp,rfl,hc⟩
def un_ (T : List UInt8) (E pg ms pages : Int) : List (Nat × List UInt8) × Int :=
 if E ≠ 0 then ([],E) else if pages < yj_ T E ms ∨ 64 < pages then ([],25) else (vY_ T pg.toNat,0)
theorem gx_ (m n : Nat) : (bts (zt_ m)).drop n = bts (zt_ (m - n)):=by
 unfold bts zt_
 rw [List.map_replicate,List.drop_replicate,List.map_replicate]
theorem zaJ {P : Program} {ops : Array Oper} {rest : List Oper} {o : Oper} {a : Act} {w w' : World} {Q : Exit → Act → World → Prop} {v u x : Value} (hgd : o.guard = none) (d s : Operand) (t t' : TypeId)
    (ho : o.op = .call { callee:=.builtin .copy,args:=#[d,s],argTypes:=#[t,t'] }) (hd : a.eval d = v) (hs : a.eval s = u) (hr : (Builtin.copy_ #[t,t'] o.type #[v,u]).run P w = .ok x w') (h : wpList P ops Q rest (a.put o.dst x) w') : wpList P ops Q (o :: rest) a w:=by
      refine wpList_plain hgd fun _ hK => ?_
      unfold Oper.wp execOp
      simp only [ho,resolve,invoke,builtin,Sem.run_bind,Sem.run_pure,Result.andThen_ok,List.map_toArray,List.map_cons,List.map_nil,hd,hs,hr]
      exact hK _ _ h
theorem RMade.more {w : World} {B0 B1 : Nat} {a : ChV} (h : RMade w B0 a) (hB : B1 ≤ B0) : RMade w B1 a:=by
 obtain ⟨g,r,hg,hb,hW⟩:=h.b
 exact { h with b:=⟨g,r,hg,Nat.le_trans hB hb,hW⟩ }
theorem kE_ (w : World) (B : Nat) (hB : B ≤ w.heap.size) (a : ChV) : (w.alloc (.cells #[.int .i64 a.page,.slice a.bA a.bn a.bc] 44)).ownsRow B 44 2 (.slice (some ⟨w.heap.size,0,none⟩) 1 1) 1 (vO_ [a]) :=
 ⟨by simp [vO_,chC],.inr ⟨w.heap.size,1,#[.int .i64 a.page,.slice a.bA a.bn a.bc],rfl,hB,heap_alloc_new w _,Nat.le_refl _,by unfold maxLen; omega,by simp,by simp [vO_,chC]⟩⟩
theorem u2_ (W : World) : (Instr.makeSlice 33 (.int .i64 64) (.int .i64 64)).run Tryz.prog W = .ok (.slice (some ⟨W.heap.size,0,none⟩) 64 64) (W.alloc (.cells (bts (zt_ 64)).toArray 5)):=zbz 64 (by omega) W
section
variable {w : World} {pg ms : Int} {A : Option Addr} {n c : Nat} {E : Int} {T : List UInt8}
theorem jD_ (hT : zaq w pg ms A n c T E) (hTl : T.length ≤ 2048) (hms : E = 0 → 0 ≤ pg ∧ pg ≤ ms ∧ ms ≤ 64) (pages : Int) (hP : xu_ w.heap.size w) : Calls Tryz.prog 20 #[.agg #[.int .i64 pg,.int .i64 ms,.slice A n c],.int .i64 pages] w (xi_ w (un_ T E pg ms pages).1 (un_ T E pg ms pages).2):=by
 obtain ⟨i0,hi,hz0,hz1,hz2⟩:=info_parts u6_
 have HT:=hQ_ hT
 have HP:=hQ_ hP
 have HND:=hQ_ (fun (W : World) (hc : Chg [] w W) (hp : xu_ W.heap.size W) => va_ (hT.keep hc) hTl (fun h => ⟨by have:=hms h; omega,(hms h).2.2⟩) hp)
 have HNO:=hQ_ (show ∀ (r : Int) (wr : World),un_ T E pg ms pages = ([],r) → Chg [] w wr → xi_ w (un_ T E pg ms pages).1 (un_ T E pg ms pages).2 (.returned (.tuple #[.slice none 0 0,.int .i64 r])) wr from fun r wr h hc => by rw [h]; exact xi_.no hc)
 have HYES:=hQ_ (show ∀ (v : Value) (ls : List ChV) (wr : World) (B : Nat),un_ T E pg ms pages = (vY_ T pg.toNat,0) → w.heap.size ≤ B → wr.ownsRow B 44 2 v ls.length (vO_ ls) → (∀ a ∈ ls,RMade wr B a) → kl_ ls (vY_ T pg.toNat) → Chg [] w wr → xi_ w (un_ T E pg ms pages).1 (un_ T E pg ms pages).2 (.returned (.tuple #[v,.int .i64 0])) wr from fun v ls wr B h hB h1 h2 h3 h4 => by rw [h]; exact ⟨v,ls,rfl,jv_ h1 hB,fun a ha => (h2 a ha).more hB,h3,h4⟩)
 have HDEF:=hQ_ (show un_ T E pg ms pages = if E ≠ 0 then ([],E) else if pages < yj_ T E ms ∨ 64 < pages then ([],25) else (vY_ T pg.toNat,0) from rfl)
 clear hT hP
 generalize un_ T E pg ms pages = RP at HNO HYES HDEF ⊢
 generalize xi_ w RP.1 RP.2 = PO at HNO HYES ⊢
 unfold zaq zF_ at HT
 go_enter Tryz.func20,Tryz.ntmps20
 go_upto_region 1 with fail
 have hN:=zb_.new w 24 [.int .i64 pg,.int .i64 ms,.slice A n c]
 have hal:=(Chg.refl [] w).alloc (.cells #[.int .i64 pg,.int .i64 ms,.slice A n c] 24)
 have HU1:=hQ_ hN
 have HC1:=hQ_ hal
 clear hN hal
 have HGW:=hQ_ (Nat.le_refl w.heap.size)
 obtain ⟨gu,hgu⟩ : ∃ gu,gu = w.heap.size:=⟨_,rfl⟩
 rw [← hgu] at HU1 ⊢
 clear hgu
 generalize w.alloc (.cells #[.int .i64 pg,.int .i64 ms,.slice A n c] 24) = w1 at HU1 HC1 ⊢
 have u0:=HU1.out.cell 0
 have u1:=HU1.out.cell 1
 have u2:=HU1.out.cell 2
 by_cases hE : E = 0
 · subst hE
   obtain ⟨hp0,hpm,hm1⟩:=hms rfl
   obtain ⟨p,rfl⟩ : ∃ p : Nat,pg = (p : Int):=⟨pg.toNat,by omega⟩
   have hp64 : p ≤ 64:=by omega
   have hnz : yj_ T 0 ms = 1 + (zr_ T.length : Int) + ms:=by unfold yj_; rw [if_pos rfl]
   by_cases hbad : pages < yj_ T 0 ms ∨ 64 < pages
   · have HR:=hQ_ (show RP = ([],25) from by rw [HDEF.out,if_neg (by simp),if_pos hbad])
     generalize yj_ T 0 ms = N at HND hbad
     clear hnz HDEF hTl hms
     generalize zc_ T = S at HT
     by_cases hb1 : pages < N
     · clear hbad
       go_wp2_with (first
        | (go_at_call 31
           refine (HT.out _ HC1.out (HP.out.here HC1.out)).mono ?_
           rintro e w2 ⟨rfl,hc2⟩
           have HC2:=hQ_ (HC1.out.trans hc2)
           have HU2:=hQ_ (HU1.out.keep hc2)
           have v0:=HU2.out.cell 0
           have v1:=HU2.out.cell 1
           have v2:=HU2.out.cell 2
           clear hc2)
        | (go_at_call 19
           refine (HND.out _ HC2.out (HP.out.here HC2.out)).mono ?_
           rintro e w3 ⟨rfl,hc3⟩
           have HC3:=hQ_ (HC2.out.trans hc3)
           clear hc3))
       exact HNO.out 25 _ HR.out HC3.out
     · have hb2 : 64 < pages:=by omega
       clear hbad
       go_wp2_with (first
        | (go_at_call 31
           refine (HT.out _ HC1.out (HP.out.here HC1.out)).mono ?_
           rintro e w2 ⟨rfl,hc2⟩
           have HC2:=hQ_ (HC1.out.trans hc2)
           have HU2:=hQ_ (HU1.out.keep hc2)
           have v0:=HU2.out.cell 0
           have v1:=HU2.out.cell 1
           have v2:=HU2.out.cell 2
           clear hc2)
        | (go_at_call 19
           refine (HND.out _ HC2.out (HP.out.here HC2.out)).mono ?_
           rintro e w3 ⟨rfl,hc3⟩
           have HC3:=hQ_ (HC2.out.trans hc3)
           clear hc3))
       exact HNO.out 25 _ HR.out HC3.out
   · have HR:=hQ_ (show RP = (vY_ T p,0) from by rw [HDEF.out,if_neg (by simp),if_neg hbad]; rfl)
     obtain ⟨hb1,hb2⟩ : ¬ pages < yj_ T 0 ms ∧ ¬ 64 < pages:=by omega
     obtain ⟨h,hh⟩ : ∃ h,h = zr_ T.length:=⟨_,rfl⟩
     have hh33 : h ≤ 33:=by rw [hh]; unfold zr_; omega
     have HPG:=hQ_ (fun (W : World) => xa_ T (by omega) W)
     have HCS:=hQ_ (show vY_ T p = [(0,zR_ T.length p)] ++ plT T h ++ plM (1 + h) p from by rw [hh]; rfl)
     have HHT:=hQ_ (show T.length ≤ h * 64 ∧ (0 < h → (h - 1) * 64 ≤ T.length) from by rw [hh]; unfold zr_; omega)
     rw [← hh] at HPG
     clear hh hbad HDEF hnz hms
     generalize yj_ T 0 ms = N at HND hb1
     have HMT:=hQ_ (fun (W : World) => qY_ (w:=W) T.length p (by omega) (by omega))
     have hsz : (zc_ T).size = T.length:=zw_ T
     obtain ⟨S,hS⟩ : ∃ S,S = zc_ T:=⟨_,rfl⟩
     rw [← hS] at HT hsz HPG
     have HS:=hQ_ hS
     clear hS
     obtain ⟨nT,hnT⟩ : ∃ nT,nT = T.length:=⟨_,rfl⟩
     have HNT:=hQ_ hnT
     rw [← hnT] at hsz hTl HMT HCS HHT
     clear hnT
     -- the Meta
     go_upto_region 7 with (first
      | (go_at_call 31
         refine (HT.out _ HC1.out (HP.out.here HC1.out)).mono ?_
         rintro e w2 ⟨rfl,hc2⟩
         have HC2:=hQ_ (HC1.out.trans hc2)
         have HU2:=hQ_ (HU1.out.keep hc2)
         have v0:=HU2.out.cell 0
         have v1:=HU2.out.cell 1
         have v2:=HU2.out.cell 2
         clear hc2)
      | (go_at_call 19
         refine (HND.out _ HC2.out (HP.out.here HC2.out)).mono ?_
         rintro e w3 ⟨rfl,hc3⟩
         have HC3:=hQ_ (HC2.out.trans hc3)
         have HU3:=hQ_ (HU2.out.keep hc3)
         have x0:=HU3.out.cell 0
         clear hc3)
      | (go_at_call 46
         refine (HMT.out _).mono ?_
         rintro e w4 ⟨v4,rfl,ho4,hc4⟩
         rw [yT_] at ho4
         obtain ⟨g4,r4,rfl,hg4,hW4,hm4⟩:=xb_ ho4 (by omega)
         have HW4:=hQ_ hW4
         have HM4:=hQ_ hm4
         have HG4:=hQ_ (Nat.le_trans HC3.out.size hg4)
         have HC4:=hQ_ (HC3.out.trans hc4)
         have HU4:=hQ_ (HU3.out.keep hc4)
         clear hc4 ho4 hW4 hm4 hg4))
     clear u0 u1 u2 v0 v1 v2 x0
     obtain ⟨c4,hc4⟩ : ∃ c4,c4 = 64 + r4.length:=⟨_,rfl⟩
     have HC4C:=hQ_ hc4
     rw [← hc4] at HM4 ⊢
     clear hc4
     have hal:=(Chg.refl [] w4).alloc (.cells #[.int .i64 0,.slice (some ⟨g4,0,none⟩) 64 c4] 44)
     have HOA:=hQ_ (kE_ w4 w.heap.size HC4.out.size ⟨0,some ⟨g4,0,none⟩,64,c4,zR_ nT p⟩)
     have HRA:=hQ_ (show ∀ a ∈ [(⟨0,some ⟨g4,0,none⟩,64,c4,zR_ nT p⟩ : ChV)],RMade (w4.alloc (.cells #[.int .i64 0,.slice (some ⟨g4,0,none⟩) 64 c4] 44)) w.heap.size a from fun a ha => by
      rw [List.mem_singleton] at ha; subst ha
      have hm:=HM4.out
      unfold maxLen at hm
      exact ⟨⟨g4,r4,rfl,HG4.out,HW4.out.keep hal,HC4C.out,by rw [← HC4C.out]; exact hm⟩,yT_ _ _,rfl,by simp only; omega⟩)
     have HU5:=hQ_ (HU4.out.keep hal)
     have HC5:=hQ_ (HC4.out.trans hal)
     clear hal
     generalize w4.heap.size = g5 at HOA ⊢
     generalize w4.alloc (.cells #[.int .i64 0,.slice (some ⟨g4,0,none⟩) 64 c4] 44) = w5 at HOA HRA HU5 HC5 ⊢
     have HS0:=hQ_ (show kl_ [(⟨0,some ⟨g4,0,none⟩,64,c4,zR_ nT p⟩ : ChV)] ([(0,zR_ nT p)] ++ plT T 0) from rfl)
     generalize [(⟨0,some ⟨g4,0,none⟩,64,c4,zR_ nT p⟩ : ChV)] = ls0 at HOA HRA HS0
     have hl0 : ls0.length = 1:=by have:=HS0.out.len; simpa [plT] using this
     have HL0:=hQ_ hl0
     clear hl0 HW4 HM4 HG4 HC4C HC4 HU4 HC3 HC2 HU2 HU3
     go_wp2_with (
      go_at_call 44
      refine (HPG.out _).mono ?_
      rintro e wq ⟨rfl,rfl⟩)
     go_loopw [8,38] (fun v i wr => ∃ (k : Nat) (ls : List ChV) (A' : Option Addr) (c' : Nat),k ≤ h ∧ i = .int .i64 (k : Int) ∧ v = .slice A' (1 + k) c' ∧ Hid (ls.length = 1 + k) ∧ Hid (wr.ownsRow w.heap.size 44 2 (.slice A' (1 + k) c') (1 + k) (vO_ ls)) ∧ Hid (∀ a ∈ ls,RMade wr w.heap.size a) ∧ Hid (kl_ ls ([(0,zR_ nT p)] ++ plT T k)) ∧ Hid (zb_ wr gu 24 [.int .i64 (p : Int),.int .i64 ms,.slice A n c]) ∧ Hid (Chg [] w wr)) (fun _ i _ => h - (intOf i).toNat)
     case atStart => exact ⟨0,ls0,some ⟨g5,0,none⟩,1,by omega,rfl,rfl,HL0,HOA,HRA,HS0,HU5,HC5⟩
     case round =>
      clear HOA HRA HS0 HU5 HC5 HL0
      obtain ⟨k,ls,A',c',hk,rfl,rfl,HLS,HOR,HRR,HSR,HUR,HCr⟩:=hrel
      by_cases hkh : k < h
      · have hkI : (k : Int) < (h : Int):=by omega
        have hk64 : k * 64 ≤ S.size:=by
         have h1:=HHT.out.2 (by omega)
         have h2 : k * 64 ≤ (h - 1) * 64:=Nat.mul_le_mul_right 64 (by omega)
         omega
        have hex : S.extract (k * 64) nT = zc_ (T.drop (k * 64)):=by rw [← hsz,HS.out]; exact gO_ T (k * 64)
        have HEX:=hQ_ hex
        have hN:=zb_.new wr 5 (bts (zt_ 64))
        have hal:=(Chg.refl [] wr).alloc (.cells (bts (zt_ 64)).toArray 5)
        obtain ⟨w6,hcp,hW6,hc6⟩:=kT_ (P:=Tryz.prog) (wr.alloc (.cells (bts (zt_ 64)).toArray 5)) 33 9 3 5 wr.heap.size 64 64 (T.drop (k * 64)) _ 5 Tryz.underlying33 zaK hN (by rw [zx_,zI_])
        have HCP:=hQ_ hcp
        have hc6' : Chg [] wr w6:=hal.then_ hc6 (fun i hi hlt => by rw [List.mem_singleton] at hi; subst hi; exact absurd hlt (Nat.lt_irrefl _))
        have HW6:=hQ_ (show zb_ w6 wr.heap.size 5 (bts (pgT T k)) from by
         have e : bts (pgT T k) = bts ((T.drop (k * 64)).take 64) ++ (bts (zt_ 64)).drop ((T.drop (k * 64)).take 64).length:=by
          unfold pgT
          rw [ub_,gx_]
         rw [e]; exact hW6)
        have HB5:=hQ_ (HCr.out.size)
        have HC6:=hQ_ hc6'
        have HA6:=hQ_ hal
        clear hN hal hcp hW6 hc6 hc6'
        obtain ⟨g6,hg6⟩ : ∃ g6,g6 = wr.heap.size:=⟨_,rfl⟩
        have hmk : (Instr.makeSlice 33 (.int .i64 64) (.int .i64 64)).run Tryz.prog wr = .ok (.slice (some ⟨g6,0,none⟩) 64 64) (wr.alloc (.cells (bts (zt_ 64)).toArray 5)):=by rw [hg6]; exact u2_ wr
        rw [← hg6] at HW6 HB5 HCP
        clear hg6
        generalize wr.alloc (.cells (bts (zt_ 64)).toArray 5) = w55 at hmk HCP HA6
        have HR6:=hQ_ (show ∀ a ∈ ls,RMade w6 w.heap.size a from fun a ha => (HRR.out a ha).chg HC6.out (by simp))
        have HO6:=hQ_ (z0_ HOR.out HC6.out (by simp))
        have HU6:=hQ_ (HUR.out.keep HC6.out)
        have HC7:=hQ_ (HCr.out.trans HC6.out)
        have hws : w.heap.size ≤ w6.heap.size:=HC7.out.size
        have HALX:=hQ_ ((Chg.refl [] w6).alloc (.cells #[.int .i64 (1 + (k : Int)),.slice (some ⟨g6,0,none⟩) 64 64] 44))
        have HOX:=hQ_ (z0_ HO6.out HALX.out (by simp))
        have hcpf:=HCP.out
        rw [← HEX.out] at hcpf
        have HCPF:=hQ_ hcpf
        clear hcpf
        go_wp2_with (first
         | (with_reducible refine zaJ (v:=.slice (some ⟨g6,0,none⟩) 64 64) (u:=.string (S.extract (k * 64) nT)) rfl (.tmp 42) (.tmp 46) 33 9 rfl rfl rfl HCPF.out ?_)
         | (at_builtin
            refine wpList_append_own _ rfl (.tmp 48) (.tmp 53) _ rfl w.heap.size 44 i0 _ 2 32 Tryz.underlying39 hi hz0 hz1 hz2 rfl (by decide) (.slice A' (1 + k) c') (1 + k) (vO_ ls) rfl HOX.out ⟨w6.heap.size,0,none⟩ 1 1 [.int .i64 (1 + (k : Int)),.slice (some ⟨g6,0,none⟩) 64 64] rfl rfl ?c1 ?c2 ?c3 ?c4 ?c5 ?_
            case c1 => exact zq_ _ _ _
            case c2 => simp [Value.oneCell']
            case c3 => simp only [maxLen]; omega
            case c4 => omega
            case c5 => simp; omega
            intro v' w8 hown' hg' _))
        obtain ⟨A8,c8,rfl,_⟩:=zm_ hown'
        have HO8:=hQ_ hown'
        have HU8:=hQ_ (zi_ (HU6.out.keep HALX.out) HOX.out (by decide) hg')
        have HC8:=hQ_ (kc_ (HC7.out.trans HALX.out) hg' (fun g hg => (HOX.out.lt g hg).1))
        have HR8:=hQ_ (show ∀ a ∈ ls ++ [(⟨((1 + k : Nat) : Int),some ⟨g6,0,none⟩,64,64,pgT T k⟩ : ChV)],RMade w8 w.heap.size a from fun a ha => by
         rcases List.mem_append.1 ha with h | h
         · exact ((HR6.out a h).chg HALX.out (by simp)).grown HOX.out hg'
         · simp only [List.mem_cons,List.not_mem_nil,or_false] at h
           subst h
           exact ((MadeCh.rmade ⟨⟨g6,rfl,HB5.out,HW6.out⟩,zbk _ _,rfl,rfl,by simp only; omega⟩).chg HALX.out (by simp)).grown HOX.out hg')
        clear hown' hg'
        go_roundw
        case rel =>
         refine ⟨k + 1,ls ++ [(⟨((1 + k : Nat) : Int),some ⟨g6,0,none⟩,64,64,pgT T k⟩ : ChV)],A8,c8,by omega,by go_num,rfl,hQ_ (by rw [List.length_append,HLS.out]; rfl),hQ_ ?_,HR8,hQ_ ?_,HU8,HC8⟩
         · rw [uG_,je_]
           have:=HO8.out
           rw [show (1 : Int) + (k : Int) = ((1 + k : Nat) : Int) by omega] at this
           exact this
         · rw [plT,← List.append_assoc]
           exact HSR.out.snoc (a:=⟨((1 + k : Nat) : Int),some ⟨g6,0,none⟩,64,64,pgT T k⟩) rfl
        case measure => simp [intOf]; omega
      · have hkI : ¬ (k : Int) < (h : Int):=by omega
        obtain rfl : h = k:=by omega
        have u0:=HUR.out.cell 0
        clear hkI hkh hk
        go_wp2_with (
         go_at_call 44
         refine (HPG.out _).mono ?_
         rintro e wq ⟨rfl,rfl⟩)
        clear u0
        obtain ⟨q1,hq1⟩ : ∃ q1,q1 = 1 + h:=⟨_,rfl⟩
        have HQ1:=hQ_ hq1
        rw [← hq1] at HLS HOR ⊢
        clear hq1
        have HSR2:=hQ_ (show kl_ ls ([(0,zR_ nT p)] ++ plT T h ++ plM (1 + h) 0) from by have:=HSR.out; simpa [plM] using this)
        go_loopw [8,61] (fun v i wr => ∃ (j : Nat) (ls : List ChV) (A' : Option Addr) (c' : Nat),j ≤ p ∧ i = .int .i64 (j : Int) ∧ v = .slice A' (q1 + j) c' ∧ Hid (ls.length = q1 + j) ∧ Hid (wr.ownsRow w.heap.size 44 2 (.slice A' (q1 + j) c') (q1 + j) (vO_ ls)) ∧ Hid (∀ a ∈ ls,RMade wr w.heap.size a) ∧ Hid (kl_ ls ([(0,zR_ nT p)] ++ plT T h ++ plM (1 + h) j)) ∧ Hid (Chg [] w wr)) (fun _ i _ => p - (intOf i).toNat)
        case atStart => exact ⟨0,ls,A',c',by omega,rfl,rfl,HLS,HOR,HRR,HSR2,HCr⟩
        case round =>
         clear HLS HOR HRR HSR HSR2 HCr HUR
         obtain ⟨j,ls,A',c',hj,rfl,rfl,HLS,HOR,HRR,HSR,HCr⟩:=hrel
         by_cases hjp : j < p
         · have hjI : (j : Int) < (p : Int):=by omega
           have hq34 : q1 ≤ 34:=by have:=HQ1.out; omega
           have hN:=zb_.new wr 5 (bts (zt_ 64))
           have hal:=(Chg.refl [] wr).alloc (.cells (bts (zt_ 64)).toArray 5)
           have hmk0:=u2_ wr
           obtain ⟨g6,hg6⟩ : ∃ g6,g6 = wr.heap.size:=⟨_,rfl⟩
           have HB5:=hQ_ (HCr.out.size)
           rw [← hg6] at hN hmk0 HB5
           clear hg6
           obtain ⟨w6,hw6⟩ : ∃ w6,w6 = wr.alloc (.cells (bts (zt_ 64)).toArray 5):=⟨_,rfl⟩
           rw [← hw6] at hN hal hmk0
           have HW6:=hQ_ hN
           have HC6:=hQ_ hal
           clear hN hal hw6
           have HR6:=hQ_ (show ∀ a ∈ ls,RMade w6 w.heap.size a from fun a ha => (HRR.out a ha).chg HC6.out (by simp))
           have HO6:=hQ_ (z0_ HOR.out HC6.out (by simp))
           have HC7:=hQ_ (HCr.out.trans HC6.out)
           have hws : w.heap.size ≤ w6.heap.size:=HC7.out.size
           have HALX:=hQ_ ((Chg.refl [] w6).alloc (.cells #[.int .i64 (1 + (h : Int) + (j : Int)),.slice (some ⟨g6,0,none⟩) 64 64] 44))
           have HOX:=hQ_ (z0_ HO6.out HALX.out (by simp))
           go_wp2_with (first
            | (at_builtin
               refine wpList_append_own _ rfl (.tmp 64) (.tmp 70) _ rfl w.heap.size 44 i0 _ 2 32 Tryz.underlying39 hi hz0 hz1 hz2 rfl (by decide) (.slice A' (q1 + j) c') (q1 + j) (vO_ ls) rfl HOX.out ⟨w6.heap.size,0,none⟩ 1 1 [.int .i64 (1 + (h : Int) + (j : Int)),.slice (some ⟨g6,0,none⟩) 64 64] rfl rfl ?c1 ?c2 ?c3 ?c4 ?c5 ?_
               case c1 => exact zq_ _ _ _
               case c2 => simp [Value.oneCell']
               case c3 => simp only [maxLen]; omega
               case c4 => omega
               case c5 => simp; omega
               intro v' w8 hown' hg' _))
           obtain ⟨A8,c8,rfl,_⟩:=zm_ hown'
           have HO8:=hQ_ hown'
           have HC8:=hQ_ (kc_ (HC7.out.trans HALX.out) hg' (fun g hg => (HOX.out.lt g hg).1))
           have HR8:=hQ_ (show ∀ a ∈ ls ++ [(⟨((1 + h + j : Nat) : Int),some ⟨g6,0,none⟩,64,64,zt_ 64⟩ : ChV)],RMade w8 w.heap.size a from fun a ha => by
            rcases List.mem_append.1 ha with h | h
            · exact ((HR6.out a h).chg HALX.out (by simp)).grown HOX.out hg'
            · simp only [List.mem_cons,List.not_mem_nil,or_false] at h
              subst h
              exact ((MadeCh.rmade ⟨⟨g6,rfl,HB5.out,HW6.out⟩,by rw [zI_],rfl,rfl,by simp only; omega⟩).chg HALX.out (by simp)).grown HOX.out hg')
           clear hown' hg'
           go_roundw
           case rel =>
            refine ⟨j + 1,ls ++ [(⟨((1 + h + j : Nat) : Int),some ⟨g6,0,none⟩,64,64,zt_ 64⟩ : ChV)],A8,c8,by omega,by go_num,rfl,hQ_ (by rw [List.length_append,HLS.out]; rfl),hQ_ ?_,HR8,hQ_ ?_,HC8⟩
            · rw [uG_,je_]
              have:=HO8.out
              rw [show (1 : Int) + (h : Int) + (j : Int) = ((1 + h + j : Nat) : Int) by omega] at this
              exact this
            · rw [plM,← List.append_assoc]
              exact HSR.out.snoc (a:=⟨((1 + h + j : Nat) : Int),some ⟨g6,0,none⟩,64,64,zt_ 64⟩) rfl
           case measure => simp [intOf]; omega
         · have hjI : ¬ (j : Int) < (p : Int):=by omega
           obtain rfl : p = j:=by omega
           have HF:=hQ_ (HYES.out (.slice A' (q1 + p) c') ls wr w.heap.size (by rw [HR.out]; rfl) (Nat.le_refl _) (by rw [HLS.out]; exact HOR.out) HRR.out (by
            show kl_ ls (vY_ T p)
            rw [HCS.out]; exact HSR.out) HCr.out)
           go_wp2_with fail
           exact HF.out
 · have hd : (E == 0) = false:=by simpa using hE
   have HR:=hQ_ (show RP = ([],E) from by rw [HDEF.out,if_pos hE])
   generalize zc_ T = S at HT
   clear hE HDEF hms hTl
   go_wp2_with (
    go_at_call 31
    refine (HT.out _ HC1.out (HP.out.here HC1.out)).mono ?_
    rintro e w2 ⟨rfl,hc2⟩
    have HC2:=hQ_ (HC1.out.trans hc2)
    clear hc2)
   exact HNO.out E _ HR.out HC2.out
end
end Go.Proofs.YtbkfhndmeljlcaaGreatDoor
namespace Go.Proofs.YtbkfhndmeljlcaaGreatDoor
open Go.RowKit
theorem zfz (w : World) (xs : List Value) (t : Nat) : ∀ (j : Nat) (u : Value),xs[j]? = some u → (w.alloc (.cells xs.toArray t)).cell? ((⟨w.heap.size,0,none⟩ : Addr).add j) = some u:=fun j u hj => by
 rw [zl_,Nat.zero_add,(zb_.new w t xs).cell]; exact hj
theorem qc_ {P : Program} {w : World} {ops : Array Oper} {rest : List Oper} {o : Oper} {a : Act} {Q : Exit → Act → World → Prop} (hgd : o.guard = none) (s x : Operand) (t : TypeId)
    (ho : o.op = .call { callee:=.builtin .append,args:=#[s,x],argTypes:=#[t,t] })
    (base : Nat) (e : TypeId) (i : TypeInfo) (z : Value) (size bytes : Nat) (ht : P.underlying t = some (.slice e)) (hi : P.info? e = some i) (hz : i.zero = some z)
    (hsize : i.size = size) (hby : i.bytes = bytes) (hzs : z.cells.size = size) (hsz : 0 < size)
    (v : Value) (n : Nat) (xs : List Value) (hse : a.eval s = v) (hown : w.ownsRow base e size v n xs)
    (ad : Addr) (m c : Nat) (news : List Value) (hxe : a.eval x = .slice (some ad) m c) (hl : news.length = m * size) (hnews : ∀ j u,news[j]? = some u → w.cell? (ad.add j) = some u) (h1 : ∀ u ∈ news,u.oneCell' = true)
    (h63 : n + m ≤ maxLen) (hbytes : (n + m) * bytes ≤ 140737488355328) (hbase : base ≤ w.heap.size)
    (h : ∀ v' w',w'.ownsRow base e size v' (n + m) (xs ++ news) → w.grownBy w' v.ownBlock → (v'.ownBlock = v.ownBlock ∨ v'.ownBlock = some w.heap.size) → wpList P ops Q rest (a.put o.dst v') w') : wpList P ops Q (o :: rest) a w:=by
      refine wpList_plain hgd fun K hK => ?_
      obtain ⟨v',w',hrun,h2,h3,_,h5⟩:=run_append_own_at (P:=P) w base t o.type e i z size bytes ht hi hz hsize hby hzs hsz v n xs hown ad m c news hl hnews h1 h63 hbytes hbase
      unfold Oper.wp execOp
      simp only [ho,resolve,invoke,builtin,Sem.run_bind,Sem.run_pure,Result.andThen_ok,List.map_toArray,List.map_cons,List.map_nil,hse,hxe,hrun]
      exact hK _ _ (h v' w' h2 h3 h5)
theorem Chg.ownN {T : List Nat} {a w w' : World} {B n k : Nat} {e : TypeId} {v : Value} {xs : List Value} (h : Chg T a w) (ho : w.ownsRow B e k v n xs) (hB : a.heap.size ≤ B) (hg : w.grownBy w' v.ownBlock) : Chg T a w':=by
 refine h.then_ (T':=match v.ownBlock with | some g => [g] | none => []) ?_ ?_
 · refine Chg.of_grown hg fun g hr _ => ?_
   rw [hr]; simp
 · intro i hi hlt
   exfalso
   rcases ho.2 with ⟨rfl,_⟩ | ⟨g,cap,cur,rfl,hb,_⟩
   · simp [Value.ownBlock] at hi
   · simp [Value.ownBlock] at hi; omega
end Go.Proofs.YtbkfhndmeljlcaaGreatDoor
namespace Go.Proofs.YtbkfhndmeljlcaaGreatDoor
open Go.RowKit
theorem zdy {a b x y : Nat} (hx : x ≤ a) (hy : y ≤ b) : (x : Int) * (y : Int) ≤ (a : Int) * (b : Int):=by
 have h:=Nat.mul_le_mul hx hy
 exact_mod_cast h
def j5_ (w : World) (e : Ending) (w' : World) : Prop:=∃ A c xs,e = .returned (.slice A 200 c) ∧ xs.length = 200 ∧ Src w' A (nms xs) ∧ (∀ ad,A = some ad → ad.spot = none ∧ ad.block < w'.heap.size) ∧ (∀ y ∈ xs,-9223372036854775808 ≤ y ∧ y ≤ 9223372036854775807) ∧ Chg [] w w'
end Go.Proofs.YtbkfhndmeljlcaaGreatDoor
