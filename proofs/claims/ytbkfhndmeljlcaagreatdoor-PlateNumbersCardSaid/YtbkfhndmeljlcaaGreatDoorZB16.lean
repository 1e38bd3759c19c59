import Derived.Test.YtbkfhndmeljlcaaGreatDoorZB15
set_option maxRecDepth 100000
set_option maxHeartbeats 16000000
namespace Go.Proofs.YtbkfhndmeljlcaaGreatDoor
open Go.RowKit
def gv_ (l : List UInt8) (w : World) (e : Ending) (w' : World) : Prop :=
 (∃ (p m : Nat) (fs : List FnV) (v : Value),yq_ l = some (p,m,fs) ∧ e = .returned (.tuple #[.agg #[.int .i64 (p : Int),.int .i64 (m : Int),v],.bool true]) ∧ w'.ownsRow w.heap.size 58 3 v fs.length (y3_ fs) ∧ fs.length ≤ 1000 ∧ (∀ f ∈ fs,0 ≤ f.args ∧ f.args ≤ 9 ∧ f.code.size ≤ 2048) ∧ Chg [] w w') ∨
 (yq_ l = none ∧ e = .returned (.tuple #[.agg #[.int .i64 0,.int .i64 0,.slice none 0 0],.bool false]) ∧ Chg [] w w')
theorem q6_ : (Tryz.prog.info? 58).map (fun i => (i.zero,i.size,i.bytes)) = some (some (.agg #[.int .i32 0,.int .i64 0,.string ⟨#[]⟩]),3,32):=by kernel_rfl
theorem gd_ {s : List UInt8} {f : FnV} (h : xT_ s = some f) : 0 ≤ f.args ∧ f.args ≤ 9 ∧ f.code.size ≤ s.length ∧ 2 ≤ s.length:=by
 unfold xT_ at h
 split at h
 · rename_i x y code he
   split at h
   · rename_i hc
     injection h with h
     subst h
     have hl : (s.drop (Utf8.decode ⟨s.toArray⟩ 0).2).length = (x :: y :: code).length:=by rw [he]
     rw [List.length_drop,List.length_cons,List.length_cons] at hl
     have hz : (ByteArray.mk code.toArray).size = code.length:=by simp [ByteArray.size]
     refine ⟨by simp only; omega,by simp only; omega,by simp only; omega,by omega⟩
   · cases h
 · cases h
theorem kV_ {w : World} {B n : Nat} {v : Value} {L : List (List UInt8)} (h : w.ownsRow B 9 1 v n (kk_ L)) (hn : 0 < n) : ∃ g c,v = .slice (some ⟨g,0,none⟩) n c ∧ n ≤ c:=by
 rcases h.2 with ⟨rfl,rfl⟩ | ⟨g,cap,cur,rfl,hb,hg,hnc,rest⟩
 · omega
 · exact ⟨g,cap,rfl,hnc⟩
theorem kq_ {w : World} {B n g c : Nat} {L : List (List UInt8)} (h : w.ownsRow B 9 1 (.slice (some ⟨g,0,none⟩) n c) n (kk_ L)) {j : Nat} {s : List UInt8} (hj : L[j]? = some s) : w.cell? ⟨g,j,none⟩ = some (.string (zc_ s)):=by
 have:=h.cells rfl j (.string (zc_ s)) (by unfold kk_; rw [List.getElem?_map,hj]; rfl)
 rwa [zl_,Nat.zero_add] at this
section
variable {w : World}
theorem zax (l : List UInt8) (hl : l.length ≤ 2048) : Calls Tryz.prog 61 #[.string (zc_ l)] w (gv_ l w):=by
 obtain ⟨i0,hi0,hz0,hz1,hz2⟩:=info_parts q6_
 have HL:=hQ_ (fun (W : World) => gG_ (w:=W) l (by omega))
 have HP0:=hQ_ (show yq_ l = none → ∀ (wr : World),Chg [] w wr → gv_ l w (.returned (.tuple #[.agg #[.int .i64 0,.int .i64 0,.slice none 0 0],.bool false])) wr from fun hp wr hc => .inr ⟨hp,rfl,hc⟩)
 have HP1:=hQ_ (show ∀ (p m : Nat) (fs : List FnV) (v : Value) (wr : World),yq_ l = some (p,m,fs) → wr.ownsRow w.heap.size 58 3 v fs.length (y3_ fs) → fs.length ≤ 1000 → (∀ f ∈ fs,0 ≤ f.args ∧ f.args ≤ 9 ∧ f.code.size ≤ 2048) → Chg [] w wr → gv_ l w (.returned (.tuple #[.agg #[.int .i64 (p : Int),.int .i64 (m : Int),v],.bool true])) wr from fun p m fs v wr h1 h2 h3 h4 h5 => .inl ⟨p,m,fs,v,h1,rfl,h2,h3,h4,h5⟩)
 generalize gv_ l w = PO at HP0 HP1 ⊢
 have hsr:=xw_ l []
 by_cases hok : vv_ l = true
 · rw [hok] at HL
   unfold vv_ at hok
   simp only [Bool.and_eq_true,decide_eq_true_eq] at hok
   obtain ⟨hpos,hrest⟩:=hok
   obtain ⟨a,T,hLs⟩ : ∃ a T,(zz_ l []).1 = a :: T:=by
    cases h : (zz_ l []).1 with
    | nil => rw [h] at hpos; simp at hpos
    | cons a T => exact ⟨a,T,rfl⟩
   have HPA:=hQ_ (show yq_ l = (match xO_ a with | none => none | some (p,m) => (z3_ T).map fun fs => (p,m,fs)) from by
    unfold yq_
    rw [hLs]
    simp only
    rw [if_pos hrest]
    cases xO_ a with
    | none => rfl
    | some q => rfl)
   have hsum : a.length + (T.map List.length).sum + (T.length + 1) ≤ 2048:=by
    rw [hLs,hrest] at hsr
    simp only [List.length_nil,List.map_cons,List.sum_cons,List.length_cons] at hsr
    omega
   unfold yH_ at HL
   rw [hLs] at HL
   have HS:=hQ_ (fun (W : World) => gE_ (w:=W) a (by omega))
   have HSU:=hQ_ hsum
   clear hsr hpos hrest hLs hl
   obtain ⟨S,hS⟩ : ∃ S,S = zc_ l:=⟨_,rfl⟩
   rw [← hS] at HL ⊢
   clear hS
   unfold kh_ zcF at HS
   obtain ⟨SA,hSA⟩ : ∃ S,S = zc_ a:=⟨_,rfl⟩
   have HSA:=hQ_ hSA
   rw [← hSA] at HS
   clear hSA
   obtain ⟨n,hn⟩ : ∃ n,n = (a :: T).length:=⟨_,rfl⟩
   rw [← hn] at HL
   have HN:=hQ_ (show n = T.length + 1 from hn)
   have hn0 : 0 < n:=by rw [hn]; simp
   clear hn
   cases hha : xO_ a with
   | none =>
     rw [hha] at HPA HS
     simp only at HPA HS
     go_enter Tryz.func61,Tryz.ntmps61
     go_upto_region 1 with fail
     have hN:=zb_.new w 24 [.int .i64 0,.int .i64 0,.slice none 0 0]
     have hal:=(Chg.refl [] w).alloc (.cells #[.int .i64 0,.int .i64 0,.slice none 0 0] 24)
     obtain ⟨g,hg⟩ : ∃ g,g = w.heap.size:=⟨_,rfl⟩
     have hw1s : (w.alloc (.cells #[.int .i64 0,.int .i64 0,.slice none 0 0] 24)).heap.size = g + 1:=by rw [hg]; simp
     rw [← hg] at hN ⊢
     have HG:=hQ_ hN
     have HW1:=hQ_ hal
     have HGS:=hQ_ hg
     have HGZ:=hQ_ hw1s
     generalize w.alloc (.cells #[.int .i64 0,.int .i64 0,.slice none 0 0] 24) = w1 at HG HW1 HGZ ⊢
     clear hN hal hg hw1s
     go_upto_region 5 with (first
      | (go_at_call 93
         refine (HL.out _).mono ?_
         rintro e w2 ⟨v2,rfl,ho2,hc2⟩
         obtain ⟨gl,cl,rfl,hcl⟩:=kV_ ho2 hn0
         have HG2:=hQ_ (HG.out.keep hc2)
         have HO2:=hQ_ ho2
         have HW2:=hQ_ (HW1.out.trans hc2)
         have y0:=kq_ ho2 (j:=0) (s:=a) rfl
         rw [← HSA.out] at y0
         clear ho2 hc2)
      | (go_at_call 94
         refine (HS.out _).mono ?_
         rintro e w3 ⟨rfl,hc3⟩
         have HG3:=hQ_ (HG2.out.keep hc3)
         have HW3:=hQ_ (HW2.out.trans hc3)
         clear hc3))
     have HG4:=hQ_ (HG3.out.keep ((Chg.refl [] w3).alloc (.cells #[.int .i64 0,.int .i64 0,.slice none 0 0] 24)))
     have HW4:=hQ_ (HW3.out.alloc (.cells #[.int .i64 0,.int .i64 0,.slice none 0 0] 24))
     generalize w3.heap.size = gu
     generalize w3.alloc (.cells #[.int .i64 0,.int .i64 0,.slice none 0 0] 24) = w4 at HG4 HW4 ⊢
     have z0:=HG4.out.cell 0
     have z1:=HG4.out.cell 1
     have z2:=HG4.out.cell 2
     have f0:=HG4.out.frozen 0
     have f1:=HG4.out.frozen 1
     have f2:=HG4.out.frozen 2
     go_wp2_with fail
     have hnl : ¬ g < w.heap.size:=by have:=HGS.out; omega
     have HC:=((HW4.out.setCell (p:=⟨g,0,none⟩) (fun h => absurd h hnl) (.int .i64 0)).setCell (p:=⟨g,1,none⟩) (fun h => absurd h hnl) (.int .i64 0)).setCell (p:=⟨g,2,none⟩) (fun h => absurd h hnl) (.slice none 0 0)
     have HSS:=((HG4.out.set_ 0 (.int .i64 0)).set_ 1 (.int .i64 0)).set_ 2 (.slice none 0 0)
     refine bodyPost_ret_by (ze_ (p:=2) (u:=3) (ty:=24) rfl _ _ g 24 [.int .i64 0,.int .i64 0,.slice none 0 0] _ rfl HSS Tryz.underlying24 (by kernel_rfl)) rfl (HP0.out HPA.out _ HC)
   | some pm =>
     obtain ⟨p,m⟩:=pm
     rw [hha] at HPA HS
     simp only at HPA HS
     by_cases hT : T = []
     · subst hT
       obtain rfl : n = 1:=by have:=HN.out; simpa using this
       go_enter Tryz.func61,Tryz.ntmps61
       go_upto_region 1 with fail
       have hN:=zb_.new w 24 [.int .i64 0,.int .i64 0,.slice none 0 0]
       have hal:=(Chg.refl [] w).alloc (.cells #[.int .i64 0,.int .i64 0,.slice none 0 0] 24)
       obtain ⟨g,hg⟩ : ∃ g,g = w.heap.size:=⟨_,rfl⟩
       have hw1s : (w.alloc (.cells #[.int .i64 0,.int .i64 0,.slice none 0 0] 24)).heap.size = g + 1:=by rw [hg]; simp
       rw [← hg] at hN ⊢
       have HG:=hQ_ hN
       have HW1:=hQ_ hal
       have HGS:=hQ_ hg
       have HGZ:=hQ_ hw1s
       generalize w.alloc (.cells #[.int .i64 0,.int .i64 0,.slice none 0 0] 24) = w1 at HG HW1 HGZ ⊢
       clear hN hal hg hw1s
       go_upto_region 5 with (first
        | (go_at_call 93
           refine (HL.out _).mono ?_
           rintro e w2 ⟨v2,rfl,ho2,hc2⟩
           obtain ⟨gl,cl,rfl,hcl⟩:=kV_ ho2 hn0
           have HG2:=hQ_ (HG.out.keep hc2)
           have HO2:=hQ_ ho2
           have HW2:=hQ_ (HW1.out.trans hc2)
           have y0:=kq_ ho2 (j:=0) (s:=a) rfl
           rw [← HSA.out] at y0
           clear ho2 hc2)
        | (go_at_call 94
           refine (HS.out _).mono ?_
           rintro e w3 ⟨rfl,hc3⟩
           have HG3:=hQ_ (HG2.out.keep hc3)
           have HO3:=hQ_ (zn_ HO2.out hc3)
           have HW3:=hQ_ (HW2.out.trans hc3)
           clear hc3))
       have hN:=zb_.new w3 24 [.int .i64 (p : Int),.int .i64 (m : Int),.slice none 0 0]
       have hal:=(Chg.refl [] w3).alloc (.cells #[.int .i64 (p : Int),.int .i64 (m : Int),.slice none 0 0] 24)
       have HU4:=hQ_ hN
       have HG4:=hQ_ (HG3.out.keep hal)
       have HO4:=hQ_ (zn_ HO3.out hal)
       have HW4:=hQ_ (HW3.out.trans hal)
       have hgu : g < w3.heap.size:=HG3.out.lt
       clear hN hal y0
       generalize w3.heap.size = gu at HU4 hgu ⊢
       generalize w3.alloc (.cells #[.int .i64 (p : Int),.int .i64 (m : Int),.slice none 0 0] 24) = w4 at HG4 HW4 HU4 HO4 ⊢
       have u0:=HU4.out.cell 0
       have u1:=HU4.out.cell 1
       have u2:=HU4.out.cell 2
       have g0:=HG4.out.cell 0
       have g1:=HG4.out.cell 1
       have g2:=HG4.out.cell 2
       have f0:=HG4.out.frozen 0
       have f1:=HG4.out.frozen 1
       have f2:=HG4.out.frozen 2
       have hnl : ¬ g < w.heap.size:=by have:=HGS.out; omega
       have HC:=((HW4.out.setCell (p:=⟨g,0,none⟩) (fun h => absurd h hnl) (.int .i64 (p : Int))).setCell (p:=⟨g,1,none⟩) (fun h => absurd h hnl) (.int .i64 (m : Int))).setCell (p:=⟨g,2,none⟩) (fun h => absurd h hnl) (.slice none 0 0)
       have HSS:=((HG4.out.set_ 0 (.int .i64 (p : Int))).set_ 1 (.int .i64 (m : Int))).set_ 2 (.slice none 0 0)
       have HFIN:=hQ_ (HP1.out p m [] (.slice none 0 0) _ (by rw [HPA.out]; rfl) (World.ownsRow_nil _ _ _ _) (by simp) (by simp) HC)
       go_wp2_with fail
       all_goals
         go_loopw [32] (fun i wr => i = .int .i64 0 ∧ wr = w4) (fun _ _ => 0)
         · exact ⟨rfl,rfl⟩
         · obtain ⟨rfl,rfl⟩:=hrel
           go_wp2_with fail
           exact bodyPost_ret_by (ze_ (p:=2) (u:=3) (ty:=24) rfl _ _ g 24 [.int .i64 (p : Int),.int .i64 (m : Int),.slice none 0 0] _ rfl HSS Tryz.underlying24 (by kernel_rfl)) rfl HFIN.out
     · obtain ⟨nt,hnt⟩ : ∃ q,q = T.length:=⟨_,rfl⟩
       have HNT:=hQ_ hnt
       obtain rfl : n = nt + 1:=by rw [hnt]; exact HN.out
       have hnt0 : 0 < nt:=by rw [hnt]; exact List.length_pos_iff.2 hT
       clear hnt hT
       go_enter Tryz.func61,Tryz.ntmps61
       go_upto_region 1 with fail
       have hN:=zb_.new w 24 [.int .i64 0,.int .i64 0,.slice none 0 0]
       have hal:=(Chg.refl [] w).alloc (.cells #[.int .i64 0,.int .i64 0,.slice none 0 0] 24)
       obtain ⟨g,hg⟩ : ∃ g,g = w.heap.size:=⟨_,rfl⟩
       have hw1s : (w.alloc (.cells #[.int .i64 0,.int .i64 0,.slice none 0 0] 24)).heap.size = g + 1:=by rw [hg]; simp
       rw [← hg] at hN ⊢
       have HG:=hQ_ hN
       have HW1:=hQ_ hal
       have HGS:=hQ_ hg
       have HGZ:=hQ_ hw1s
       generalize w.alloc (.cells #[.int .i64 0,.int .i64 0,.slice none 0 0] 24) = w1 at HG HW1 HGZ ⊢
       clear hN hal hg hw1s
       go_upto_region 5 with (first
        | (go_at_call 93
           refine (HL.out _).mono ?_
           rintro e w2 ⟨v2,rfl,ho2,hc2⟩
           obtain ⟨gl,cl,rfl,hcl⟩:=kV_ ho2 hn0
           have HG2:=hQ_ (HG.out.keep hc2)
           have HO2:=hQ_ ho2
           have HW2:=hQ_ (HW1.out.trans hc2)
           have y0:=kq_ ho2 (j:=0) (s:=a) rfl
           rw [← HSA.out] at y0
           clear ho2 hc2)
        | (go_at_call 94
           refine (HS.out _).mono ?_
           rintro e w3 ⟨rfl,hc3⟩
           have HG3:=hQ_ (HG2.out.keep hc3)
           have HO3:=hQ_ (zn_ HO2.out hc3)
           have HW3:=hQ_ (HW2.out.trans hc3)
           clear hc3))
       have hN:=zb_.new w3 24 [.int .i64 (p : Int),.int .i64 (m : Int),.slice none 0 0]
       have hal:=(Chg.refl [] w3).alloc (.cells #[.int .i64 (p : Int),.int .i64 (m : Int),.slice none 0 0] 24)
       have HU4:=hQ_ hN
       have HG4:=hQ_ (HG3.out.keep hal)
       have HO4:=hQ_ (zn_ HO3.out hal)
       have HW4:=hQ_ (HW3.out.trans hal)
       have hgu : g < w3.heap.size:=HG3.out.lt
       clear hN hal y0
       generalize w3.heap.size = gu at HU4 hgu ⊢
       generalize w3.alloc (.cells #[.int .i64 (p : Int),.int .i64 (m : Int),.slice none 0 0] 24) = w4 at HG4 HW4 HU4 HO4 ⊢
       have hc1 : ¬ cl = 1:=by omega
       have h1I : (1 : Int) ≤ ((nt + 1 : Nat) : Int):=by omega
       have h1c : (1 : Int) ≤ (cl : Int):=by omega
       go_wp2_with fail
       go_loopw [32] (fun i wr => ∃ (k : Nat) (fs : List FnV) (A' : Option Addr) (c' : Nat),i = .int .i64 (k : Int) ∧ k ≤ nt ∧ Hid (fs.length = k) ∧ Hid (zb_ wr g 24 [.int .i64 0,.int .i64 0,.slice none 0 0]) ∧ Hid (zb_ wr gu 24 [.int .i64 (p : Int),.int .i64 (m : Int),.slice A' k c']) ∧ Hid (wr.ownsRow (gu + 1) 58 3 (.slice A' k c') k (y3_ fs)) ∧ Hid (wr.ownsRow w1.heap.size 9 1 (.slice (some ⟨gl,0,none⟩) (nt + 1) cl) (nt + 1) (kk_ (a :: T))) ∧ Hid ((z3_ (T.drop k)).map (fs ++ ·) = z3_ T) ∧ Hid (3 * k + ((T.drop k).map List.length).sum + (T.drop k).length ≤ 2048) ∧ Hid (∀ f ∈ fs,0 ≤ f.args ∧ f.args ≤ 9 ∧ f.code.size ≤ 2048) ∧ Hid (Chg [] w wr) ∧ Hid (gu + 1 ≤ wr.heap.size)) (fun i _ => nt - (intOf i).toNat)
       case atStart => exact ⟨0,[],none,0,rfl,by omega,hQ_ rfl,HG4,HU4,hQ_ (World.ownsRow_nil _ _ _ _),HO4,hQ_ (by rw [List.drop_zero]; cases z3_ T <;> rfl),hQ_ (by have:=HSU.out; rw [List.drop_zero]; omega),hQ_ (by simp),HW4,hQ_ HU4.out.lt⟩
       case round =>
        obtain ⟨k,fs,A',c',rfl,hk,HFL,HGr,HUr,HOF,HOL,HFP,HSM,HFA,HCr,HZr⟩:=hrel
        have hnl : ¬ g < w.heap.size:=by have:=HGS.out; omega
        have hgw : w.heap.size ≤ gu:=by have:=HGS.out; omega
        by_cases hkn : k < nt
        · have hkI : (k : Int) < (nt : Int):=by omega
          obtain ⟨s,hs⟩ : ∃ s,T[k]? = some s:=⟨T[k]'(by rw [← HNT.out]; exact hkn),by simp⟩
          have yk0:=kq_ HOL.out (j:=k + 1) (s:=s) (by rw [List.getElem?_cons_succ]; exact hs)
          have hdr : T.drop k = s :: T.drop (k + 1):=List.drop_eq_getElem?_toList_append.trans (by rw [hs]; rfl)
          have hsl : s.length ≤ 2048:=by
           have:=HSM.out
           rw [hdr,List.map_cons,List.sum_cons] at this
           omega
          have HFU:=hQ_ (fun (W : World) => zay (w:=W) s (by omega))
          unfold xo_ qw_ at HFU
          obtain ⟨SK,hSK⟩ : ∃ S,S = zc_ s:=⟨_,rfl⟩
          rw [← hSK] at yk0 HFU
          have yk : wr.cell? ⟨gl,1 + k,none⟩ = some (.string SK):=by rw [Nat.add_comm]; exact yk0
          have HDR:=hQ_ hdr
          have HSL:=hQ_ hsl
          clear hs yk0 hdr hSK hsl
          cases hf : xT_ s with
          | none =>
            rw [hf] at HFU
            simp only at HFU
            have HNO:=hQ_ (show yq_ l = none from by
             have h1 : z3_ T = none:=by rw [← HFP.out,HDR.out,z3_,hf]; rfl
             rw [HPA.out,h1]; rfl)
            go_upto_region 11 with (
             go_at_call 95
             refine (HFU.out _).mono ?_
             rintro e w7 ⟨rfl,hc7⟩
             have HG7:=hQ_ (HGr.out.keep hc7)
             have HC7:=hQ_ (HCr.out.trans hc7)
             clear hc7)
            have HG8:=hQ_ (HG7.out.keep ((Chg.refl [] w7).alloc (.cells #[.int .i32 0,.int .i64 0,.string ⟨#[]⟩] 58)))
            have HC8:=hQ_ (HC7.out.alloc (.cells #[.int .i32 0,.int .i64 0,.string ⟨#[]⟩] 58))
            generalize w7.heap.size = gx
            generalize w7.alloc (.cells #[.int .i32 0,.int .i64 0,.string ⟨#[]⟩] 58) = w8 at HG8 HC8 ⊢
            have z0:=HG8.out.cell 0
            have z1:=HG8.out.cell 1
            have z2:=HG8.out.cell 2
            have f0:=HG8.out.frozen 0
            have f1:=HG8.out.frozen 1
            have f2:=HG8.out.frozen 2
            go_wp2_with fail
            have HC:=((HC8.out.setCell (p:=⟨g,0,none⟩) (fun h => absurd h hnl) (.int .i64 0)).setCell (p:=⟨g,1,none⟩) (fun h => absurd h hnl) (.int .i64 0)).setCell (p:=⟨g,2,none⟩) (fun h => absurd h hnl) (.slice none 0 0)
            have HSS:=((HG8.out.set_ 0 (.int .i64 0)).set_ 1 (.int .i64 0)).set_ 2 (.slice none 0 0)
            exact bodyPost_ret_by (ze_ (p:=2) (u:=3) (ty:=24) rfl _ _ g 24 [.int .i64 0,.int .i64 0,.slice none 0 0] _ rfl HSS Tryz.underlying24 (by kernel_rfl)) rfl (HP0.out HNO.out _ HC)
          | some f =>
            rw [hf] at HFU
            simp only at HFU
            have hok:=gd_ hf
            obtain ⟨fn,fa,fc⟩:=f
            have HFD:=hQ_ (show (z3_ (T.drop (k + 1))).map ((fs ++ [⟨fn,fa,fc⟩]) ++ ·) = z3_ T from by
             rw [← HFP.out,HDR.out,z3_,hf]
             simp only
             cases z3_ (T.drop (k + 1)) with
             | none => rfl
             | some r => simp)
            have HSD:=hQ_ (show 3 * (k + 1) + ((T.drop (k + 1)).map List.length).sum + (T.drop (k + 1)).length ≤ 2048 from by
             have:=HSM.out
             rw [HDR.out,List.map_cons,List.sum_cons,List.length_cons] at this
             omega)
            have HFB:=hQ_ (show ∀ f ∈ fs ++ [⟨fn,fa,fc⟩],0 ≤ f.args ∧ f.args ≤ 9 ∧ f.code.size ≤ 2048 from fun f hf => by
             rcases List.mem_append.1 hf with hf | hf
             · exact HFA.out f hf
             · rw [List.mem_singleton] at hf
               subst hf
               have:=HSL.out
               simp only at hok ⊢
               omega)
            have hk682 : 3 * (k + 1) ≤ 2048:=by have:=HSD.out; omega
            clear hf hok
            unfold fnC at HFU
            simp only at HFU
            go_upto_region 11 with (
             go_at_call 95
             refine (HFU.out _).mono ?_
             rintro e w7 ⟨rfl,hc7⟩
             have HG7:=hQ_ (HGr.out.keep hc7)
             have HU7:=hQ_ (HUr.out.keep hc7)
             have HF7:=hQ_ (zg_ HOF.out hc7)
             have HL7:=hQ_ (zn_ HOL.out hc7)
             have HC7:=hQ_ (HCr.out.trans hc7)
             have HZ7:=hQ_ (Nat.le_trans HZr.out hc7.size)
             clear hc7)
            have hN:=zb_.new w7 58 [.int .i32 fn,.int .i64 fa,.string fc]
            have hal:=(Chg.refl [] w7).alloc (.cells #[.int .i32 fn,.int .i64 fa,.string fc] 58)
            have HX8:=hQ_ hN
            have HG8:=hQ_ (HG7.out.keep hal)
            have HU8:=hQ_ (HU7.out.keep hal)
            have HF8:=hQ_ (zg_ HF7.out hal)
            have HL8:=hQ_ (zn_ HL7.out hal)
            have HC8:=hQ_ (HC7.out.trans hal)
            have HZ8:=hQ_ (Nat.le_trans HZ7.out hal.size)
            clear hN hal yk
            generalize w7.heap.size = gx at HX8 ⊢
            generalize w7.alloc (.cells #[.int .i32 fn,.int .i64 fa,.string fc] 58) = w8 at HX8 HG8 HU8 HF8 HL8 HC8 HZ8 ⊢
            have x0:=HX8.out.cell 0
            have x1:=HX8.out.cell 1
            have x2:=HX8.out.cell 2
            have u2:=HU8.out.cell 2
            have HAL:=hQ_ ((Chg.refl [] w8).alloc (.cells #[.int .i32 fn,.int .i64 fa,.string fc] 58))
            have HOA:=hQ_ (zg_ HF8.out HAL.out)
            go_wp2_with (
             at_builtin
             refine wpList_append_own _ rfl (.tmp 45) (.tmp 47) _ rfl (gu + 1) 58 i0 _ 3 32 Tryz.underlying22 hi0 hz0 hz1 hz2 rfl (by decide) (.slice A' k c') k (y3_ fs) rfl HOA.out ⟨w8.heap.size,0,none⟩ 1 1 [.int .i32 fn,.int .i64 fa,.string fc] rfl rfl (zq_ _ _ _) (by simp [Value.oneCell']) (by simp only [maxLen]; omega) (by omega) (by have:=HZ8.out; simp; omega) ?_
             intro v' w11 ho11 hg11 _
             obtain ⟨A11,c11,rfl,_⟩:=zm_ ho11
             have HO11:=hQ_ ho11
             have HU11:=hQ_ (zi_ (HU8.out.keep HAL.out) HOA.out (by decide) hg11)
             have HG11:=hQ_ (zi_ (HG8.out.keep HAL.out) HOA.out (by decide) hg11)
             have HL11:=hQ_ (yM_ (zn_ HL8.out HAL.out) HOA.out (by decide) hg11)
             have HC11:=hQ_ (zQ_ (HC8.out.trans HAL.out) hg11 (fun g hg => by have:=(HOA.out.lt g hg).1; omega))
             have HZ11:=hQ_ (Nat.le_trans HZ8.out (Nat.le_trans HAL.out.size hg11.size))
             have e2:=HU11.out.cell 2
             have q2:=HU11.out.frozen 2
             clear ho11 hg11)
            have HU12:=hQ_ (show zb_ (w11.setCell ⟨gu,2,none⟩ (.slice A11 (k + 1) c11)) gu 24 [.int .i64 (p : Int),.int .i64 (m : Int),.slice A11 (k + 1) c11] from by have:=HU11.out.set_ 2 (.slice A11 (k + 1) c11); simpa using this)
            have HO12:=hQ_ (show (w11.setCell ⟨gu,2,none⟩ (.slice A11 (k + 1) c11)).ownsRow (gu + 1) 58 3 (.slice A11 (k + 1) c11) (k + 1) (y3_ (fs ++ [⟨fn,fa,fc⟩])) from by
             rw [vg_]
             exact zs_ (p:=⟨gu,2,none⟩) (u:=.slice A11 (k + 1) c11) HO11.out (fun hb => by have:=(HO11.out.lt _ hb).1; simp only at this; omega))
            have HG12:=hQ_ (HG11.out.far (p:=⟨gu,2,none⟩) (by simp only; omega) (.slice A11 (k + 1) c11))
            have HL12:=hQ_ (zs_ (p:=⟨gu,2,none⟩) (u:=.slice A11 (k + 1) c11) HL11.out (fun hb => by
             injection hb with hb
             have h1:=HL11.out.2
             rcases h1 with ⟨h1,_⟩ | ⟨g',cap',cur',h1,h2,h3,_⟩
             · cases h1
             · injection h1 with h1
               injection h1 with h1
               injection h1 with h1
               simp only at hb
               rw [← h1,hb] at h3
               have h4:=HU11.out
               unfold zb_ at h4
               rw [h4] at h3
               injection h3 with h3
               injection h3 with h3 h5
               revert h5
               decide))
            have HC12:=hQ_ (HC11.out.setCell (p:=⟨gu,2,none⟩) (fun hh => by simp only at hh; omega) (.slice A11 (k + 1) c11))
            have HZ12:=hQ_ (show gu + 1 ≤ (w11.setCell ⟨gu,2,none⟩ (.slice A11 (k + 1) c11)).heap.size from by rw [zG_]; exact HZ11.out)
            go_roundw
            case rel => exact ⟨k + 1,fs ++ [⟨fn,fa,fc⟩],A11,c11,by go_num,by omega,hQ_ (by rw [List.length_append,HFL.out]; rfl),HG12,HU12,HO12,HL12,HFD,HSD,HFB,HC12,HZ12⟩
            case measure => simp [intOf]; omega
        · have hkI : ¬ (k : Int) < (nt : Int):=by omega
          obtain rfl : k = nt:=by omega
          have HFE:=hQ_ (show z3_ T = some fs from by
           have:=HFP.out
           rw [List.drop_eq_nil_of_le (by rw [← HNT.out]; exact Nat.le_refl _),z3_] at this
           rw [← this]
           simp)
          have hk682 : 3 * k ≤ 2048:=by have:=HSM.out; omega
          have u0:=HUr.out.cell 0
          have u1:=HUr.out.cell 1
          have u2:=HUr.out.cell 2
          have g0:=HGr.out.cell 0
          have g1:=HGr.out.cell 1
          have g2:=HGr.out.cell 2
          have f0:=HGr.out.frozen 0
          have f1:=HGr.out.frozen 1
          have f2:=HGr.out.frozen 2
          have HC:=((HCr.out.setCell (p:=⟨g,0,none⟩) (fun h => absurd h hnl) (.int .i64 (p : Int))).setCell (p:=⟨g,1,none⟩) (fun h => absurd h hnl) (.int .i64 (m : Int))).setCell (p:=⟨g,2,none⟩) (fun h => absurd h hnl) (.slice A' k c')
          have HSS:=((HGr.out.set_ 0 (.int .i64 (p : Int))).set_ 1 (.int .i64 (m : Int))).set_ 2 (.slice A' k c')
          have hfar : ∀ (W : World) (j : Nat) (u : Value),W.ownsRow (gu + 1) 58 3 (.slice A' k c') k (y3_ fs) → (W.setCell ⟨g,j,none⟩ u).ownsRow (gu + 1) 58 3 (.slice A' k c') k (y3_ fs):=fun W j u h => zs_ (p:=⟨g,j,none⟩) (u:=u) h (fun hb => by have:=(h.lt _ hb).1; simp only at this; omega)
          have HFIN:=hQ_ (HP1.out p m fs (.slice A' k c') _ (by rw [HPA.out,HFE.out]; rfl) (by rw [HFL.out]; exact z8_ (hfar _ 2 (.slice A' k c') (hfar _ 1 (.int .i64 (m : Int)) (hfar _ 0 (.int .i64 (p : Int)) HOF.out))) (by omega)) (by rw [HFL.out]; omega) HFA.out HC)
          go_wp2_with fail
          exact bodyPost_ret_by (ze_ (p:=2) (u:=3) (ty:=24) rfl _ _ g 24 [.int .i64 (p : Int),.int .i64 (m : Int),.slice A' k c'] _ rfl HSS Tryz.underlying24 (by kernel_rfl)) rfl HFIN.out
 · have hokf : vv_ l = false:=by simpa using hok
   have HNO:=hQ_ (show yq_ l = none from by
    unfold yq_
    unfold vv_ at hokf
    cases h : (zz_ l []).1 with
    | nil => rfl
    | cons a T =>
      rw [h] at hokf
      simp only
      rw [if_neg (by intro hr; rw [hr] at hokf; simp at hokf)])
   rw [hokf] at HL
   unfold yH_ at HL
   generalize (zz_ l []).1 = L0 at HL
   obtain ⟨S,hS⟩ : ∃ S,S = zc_ l:=⟨_,rfl⟩
   rw [← hS] at HL ⊢
   clear hS hok hokf hsr
   go_enter Tryz.func61,Tryz.ntmps61
   go_upto_region 1 with fail
   have hN:=zb_.new w 24 [.int .i64 0,.int .i64 0,.slice none 0 0]
   have hal:=(Chg.refl [] w).alloc (.cells #[.int .i64 0,.int .i64 0,.slice none 0 0] 24)
   obtain ⟨g,hg⟩ : ∃ g,g = w.heap.size:=⟨_,rfl⟩
   have hw1s : (w.alloc (.cells #[.int .i64 0,.int .i64 0,.slice none 0 0] 24)).heap.size = g + 1:=by rw [hg]; simp
   rw [← hg] at hN ⊢
   have HG:=hQ_ hN
   have HW1:=hQ_ hal
   have HGS:=hQ_ hg
   have HGZ:=hQ_ hw1s
   generalize w.alloc (.cells #[.int .i64 0,.int .i64 0,.slice none 0 0] 24) = w1 at HG HW1 HGZ ⊢
   clear hN hal hg hw1s
   go_wp2_with (
    go_at_call 93
    refine (HL.out _).mono ?_
    rintro e w2 ⟨v2,rfl,ho2,hc2⟩
    have HG2:=hQ_ (HG.out.keep hc2)
    have HW2:=hQ_ (HW1.out.trans hc2)
    have z0:=HG2.out.cell 0
    have z1:=HG2.out.cell 1
    have z2:=HG2.out.cell 2
    have f0:=HG2.out.frozen 0
    have f1:=HG2.out.frozen 1
    have f2:=HG2.out.frozen 2
    clear ho2 hc2)
   have hnl : ¬ g < w.heap.size:=by have:=HGS.out; omega
   have HC:=((HW2.out.setCell (p:=⟨g,0,none⟩) (fun h => absurd h hnl) (.int .i64 0)).setCell (p:=⟨g,1,none⟩) (fun h => absurd h hnl) (.int .i64 0)).setCell (p:=⟨g,2,none⟩) (fun h => absurd h hnl) (.slice none 0 0)
   have HSS:=((HG2.out.set_ 0 (.int .i64 0)).set_ 1 (.int .i64 0)).set_ 2 (.slice none 0 0)
   exact bodyPost_ret_by (ze_ (p:=2) (u:=3) (ty:=24) rfl _ _ g 24 [.int .i64 0,.int .i64 0,.slice none 0 0] _ rfl HSS Tryz.underlying24 (by kernel_rfl)) rfl (HP0.out HNO.out _ HC)
end
def okF (f : FnV) : Prop:=0 ≤ f.args ∧ f.args ≤ 9 ∧ f.code.size ≤ 2048
def yW_ (x : Int × Int × Int × List FnV) (w : World) (e : Ending) (w' : World) : Prop :=
 ∃ v,e = .returned (.tuple #[.agg #[.int .i64 x.2.1,.int .i64 x.2.2.1,v],.int .i64 x.1]) ∧ w'.ownsRow w.heap.size 58 3 v x.2.2.2.length (y3_ x.2.2.2) ∧ x.2.2.2.length ≤ 1000 ∧ (∀ f ∈ x.2.2.2,okF f) ∧ Chg [] w w'
theorem zaz {a b : List UInt8} (h : a ≠ b) : ((zc_ a).toList == (zc_ b).toList) = false:=by
 rw [ByteArray.toList_eq,ByteArray.toList_eq,ye_,ye_,beq_eq_false_iff_ne]
 exact h
section
variable {w : World}
theorem gF_ (l : List UInt8) (hl : l.length ≤ 1000000) (hP : xu_ w.heap.size w) : Calls Tryz.prog 32 #[.string (zc_ l)] w (yW_ (zK_ l) w):=by
 have hsz:=zw_ l
 by_cases h2 : 2048 < l.length
 · have HPO:=hQ_ (show ∀ wr,Chg [] w wr → yW_ (zK_ l) w (.returned (.tuple #[.agg #[.int .i64 0,.int .i64 0,.slice none 0 0],.int .i64 3])) wr from fun wr hc => by
    unfold zK_
    rw [if_pos h2]
    exact ⟨_,rfl,World.ownsRow_nil _ _ _ _,by simp,by simp,hc⟩)
   generalize yW_ (zK_ l) w = PO at HPO ⊢
   have h2I : (2048 : Int) < ((zc_ l).size : Int):=by omega
   generalize zc_ l = S at *
   clear hl h2 hsz
   go_enter Tryz.func32,Tryz.ntmps32
   go_upto_region 1 with fail
   have hN:=zb_.new w 24 [.int .i64 0,.int .i64 0,.slice none 0 0]
   have hal:=(Chg.refl [] w).alloc (.cells #[.int .i64 0,.int .i64 0,.slice none 0 0] 24)
   obtain ⟨g,hg⟩ : ∃ g,g = w.heap.size:=⟨_,rfl⟩
   have hw1s : (w.alloc (.cells #[.int .i64 0,.int .i64 0,.slice none 0 0] 24)).heap.size = g + 1:=by rw [hg]; simp
   rw [← hg] at hN ⊢
   have HG:=hQ_ hN
   have HW1:=hQ_ hal
   have HGS:=hQ_ hg
   have HGZ:=hQ_ hw1s
   have hnl : ¬ g < w.heap.size:=by omega
   generalize w.alloc (.cells #[.int .i64 0,.int .i64 0,.slice none 0 0] 24) = w1 at HG HW1 HGZ ⊢
   clear hN hal hg hw1s
   have z0:=HG.out.cell 0
   have z1:=HG.out.cell 1
   have z2:=HG.out.cell 2
   have f0:=HG.out.frozen 0
   have f1:=HG.out.frozen 1
   have f2:=HG.out.frozen 2
   go_wp2_with fail
   have HCF:=((HW1.out.setCell (p:=⟨g,0,none⟩) (fun h => absurd h hnl) (.int .i64 0)).setCell (p:=⟨g,1,none⟩) (fun h => absurd h hnl) (.int .i64 0)).setCell (p:=⟨g,2,none⟩) (fun h => absurd h hnl) (.slice none 0 0)
   have HSS:=((HG.out.set_ 0 (.int .i64 0)).set_ 1 (.int .i64 0)).set_ 2 (.slice none 0 0)
   exact bodyPost_ret_by (ze_ (p:=2) (u:=3) (ty:=24) rfl _ _ g 24 [.int .i64 0,.int .i64 0,.slice none 0 0] _ rfl HSS Tryz.underlying24 (by kernel_rfl)) rfl (HPO.out _ HCF)
 · have h2I : ¬ (2048 : Int) < ((zc_ l).size : Int):=by omega
   have HRD:=hQ_ (fun (W : World) => zax (w:=W) l (by omega))
   cases hp : yq_ l with
   | none =>
     have HPO:=hQ_ (show ∀ wr,Chg [] w wr → yW_ (zK_ l) w (.returned (.tuple #[.agg #[.int .i64 0,.int .i64 0,.slice none 0 0],.int .i64 12])) wr from fun wr hc => by
      unfold zK_
      rw [if_neg h2,hp]
      exact ⟨_,rfl,World.ownsRow_nil _ _ _ _,by simp,by simp,hc⟩)
     generalize yW_ (zK_ l) w = PO at HPO ⊢
     have HR2:=hQ_ (fun (W : World) => (HRD.out W).mono (R':=fun e w' => e = .returned (.tuple #[.agg #[.int .i64 0,.int .i64 0,.slice none 0 0],.bool false]) ∧ Chg [] W w') (by
      rintro e w' (⟨p,m,fs,v,h,_⟩ | ⟨_,h1,h2⟩)
      · rw [hp] at h; cases h
      · exact ⟨h1,h2⟩))
     generalize zc_ l = S at *
     clear hl h2 hsz HRD hp
     go_enter Tryz.func32,Tryz.ntmps32
     go_upto_region 1 with fail
     have hN:=zb_.new w 24 [.int .i64 0,.int .i64 0,.slice none 0 0]
     have hal:=(Chg.refl [] w).alloc (.cells #[.int .i64 0,.int .i64 0,.slice none 0 0] 24)
     obtain ⟨g,hg⟩ : ∃ g,g = w.heap.size:=⟨_,rfl⟩
     have hw1s : (w.alloc (.cells #[.int .i64 0,.int .i64 0,.slice none 0 0] 24)).heap.size = g + 1:=by rw [hg]; simp
     rw [← hg] at hN ⊢
     have HG:=hQ_ hN
     have HW1:=hQ_ hal
     have HGS:=hQ_ hg
     have HGZ:=hQ_ hw1s
     have hnl : ¬ g < w.heap.size:=by omega
     generalize w.alloc (.cells #[.int .i64 0,.int .i64 0,.slice none 0 0] 24) = w1 at HG HW1 HGZ ⊢
     clear hN hal hg hw1s
     go_upto_region 4 with (
      go_at_call 61
      refine (HR2.out _).mono ?_
      rintro e w2 ⟨rfl,hc2⟩
      have HG2:=hQ_ (HG.out.keep hc2)
      have HW2:=hQ_ (HW1.out.trans hc2)
      clear hc2)
     have HG4:=hQ_ (HG2.out.keep ((Chg.refl [] w2).alloc (.cells #[.int .i64 0,.int .i64 0,.slice none 0 0] 24)))
     have HW4:=hQ_ (HW2.out.alloc (.cells #[.int .i64 0,.int .i64 0,.slice none 0 0] 24))
     generalize w2.heap.size = gu
     generalize w2.alloc (.cells #[.int .i64 0,.int .i64 0,.slice none 0 0] 24) = w4 at HG4 HW4 ⊢
     have z0:=HG4.out.cell 0
     have z1:=HG4.out.cell 1
     have z2:=HG4.out.cell 2
     have f0:=HG4.out.frozen 0
     have f1:=HG4.out.frozen 1
     have f2:=HG4.out.frozen 2
     go_wp2_with fail
     have HCF:=((HW4.out.setCell (p:=⟨g,0,none⟩) (fun h => absurd h hnl) (.int .i64 0)).setCell (p:=⟨g,1,none⟩) (fun h => absurd h hnl) (.int .i64 0)).setCell (p:=⟨g,2,none⟩) (fun h => absurd h hnl) (.slice none 0 0)
     have HSS:=((HG4.out.set_ 0 (.int .i64 0)).set_ 1 (.int .i64 0)).set_ 2 (.slice none 0 0)
     exact bodyPost_ret_by (ze_ (p:=2) (u:=3) (ty:=24) rfl _ _ g 24 [.int .i64 0,.int .i64 0,.slice none 0 0] _ rfl HSS Tryz.underlying24 (by kernel_rfl)) rfl (HPO.out _ HCF)
   | some x =>
     obtain ⟨p,m,fs⟩:=x
     have HR2:=hQ_ (fun (W : World) => (HRD.out W).mono (R':=fun e w' => ∃ v,e = .returned (.tuple #[.agg #[.int .i64 (p : Int),.int .i64 (m : Int),v],.bool true]) ∧ w'.ownsRow W.heap.size 58 3 v fs.length (y3_ fs) ∧ fs.length ≤ 1000 ∧ (∀ f ∈ fs,okF f) ∧ Chg [] W w') (by
      rintro e w' (⟨p',m',fs',v,h,h1,h2,h3,h4,h5⟩ | ⟨h,_⟩)
      · rw [hp] at h
        injection h with h
        injection h with ha h
        injection h with hb hc
        subst ha; subst hb; subst hc
        exact ⟨v,h1,h2,h3,h4,h5⟩
      · rw [hp] at h; cases h))
     clear HRD
     have HP:=hQ_ hP
     have HRP:=hQ_ (show zK_ l = if zJ_ (p : Int) (m : Int) fs = 0 then (if (zM_ (p : Int) (m : Int) fs).1 = l then (0,(p : Int),(m : Int),fs) else (12,0,0,[])) else (zJ_ (p : Int) (m : Int) fs,0,0,[]) from by
      unfold zK_
      rw [if_neg h2,hp])
     have HRI:=hQ_ (fun (W : World) (A : Option Addr) (n c : Nat) (h : Fnr W A n c fs) (hs : ∀ f ∈ fs,f.code.size ≤ 9223372036854775807) => vS_ (pages:=(p : Int)) (most:=(m : Int)) h hs)
     have HTX:=hQ_ (fun (W : World) (A : Option Addr) (n c : Nat) (h : Fnr W A n c fs) (hs : ∀ f ∈ fs,f.code.size ≤ 9223372036854775807) (hp : xu_ W.heap.size W) => uJ_ (pages:=(p : Int)) (most:=(m : Int)) h hs hp)
     unfold yV_ at HRI
     unfold zF_ at HTX
     unfold z2_ at HRI HTX
     clear hp hP h2
     generalize zJ_ (p : Int) (m : Int) fs = R at HRP HRI
     generalize zM_ (p : Int) (m : Int) fs = TX at HRP HTX
     obtain ⟨T1,E1⟩:=TX
     simp only at HRP HTX
     by_cases hR : R = 0
     · subst hR
       rw [if_pos rfl] at HRP
       by_cases hT : T1 = l
       · rw [if_pos hT] at HRP
         subst hT
         have HPO:=hQ_ (show ∀ v wr,wr.ownsRow w.heap.size 58 3 v fs.length (y3_ fs) → fs.length ≤ 1000 → (∀ f ∈ fs,okF f) → Chg [] w wr → yW_ (zK_ T1) w (.returned (.tuple #[.agg #[.int .i64 (p : Int),.int .i64 (m : Int),v],.int .i64 0])) wr from fun v wr h1 h2 h3 h4 => by
          rw [HRP.out]
          exact ⟨v,rfl,h1,h2,h3,h4⟩)
         generalize yW_ (zK_ T1) w = PO at HPO ⊢
         generalize zc_ T1 = S at *
         clear hl hsz HRP
         go_enter Tryz.func32,Tryz.ntmps32
         go_upto_region 1 with fail
         have hN:=zb_.new w 24 [.int .i64 0,.int .i64 0,.slice none 0 0]
         have hal:=(Chg.refl [] w).alloc (.cells #[.int .i64 0,.int .i64 0,.slice none 0 0] 24)
         obtain ⟨g,hg⟩ : ∃ g,g = w.heap.size:=⟨_,rfl⟩
         have hw1s : (w.alloc (.cells #[.int .i64 0,.int .i64 0,.slice none 0 0] 24)).heap.size = g + 1:=by rw [hg]; simp
         rw [← hg] at hN ⊢
         have HG:=hQ_ hN
         have HW1:=hQ_ hal
         have HGS:=hQ_ hg
         have HGZ:=hQ_ hw1s
         have hnl : ¬ g < w.heap.size:=by omega
         generalize w.alloc (.cells #[.int .i64 0,.int .i64 0,.slice none 0 0] 24) = w1 at HG HW1 HGZ ⊢
         clear hN hal hg hw1s
         go_upto_region 4 with (
          go_at_call 61
          refine (HR2.out _).mono ?_
          rintro e w2 ⟨v2,rfl,ho2,hfl2,hfa2,hc2⟩
          obtain ⟨A,c,rfl,hfr⟩:=Fnr.of_own ho2 (by omega) (fun f hf => by have:=hfa2 f hf; unfold okF at this; omega)
          have HG2:=hQ_ (HG.out.keep hc2)
          have HW2:=hQ_ (HW1.out.trans hc2)
          have HO2:=hQ_ ho2
          have HR3:=hQ_ hfr
          have HFL:=hQ_ hfl2
          have HFA:=hQ_ hfa2
          clear hc2 ho2 hfr hfl2 hfa2)
         have hN:=zb_.new w2 24 [.int .i64 (p : Int),.int .i64 (m : Int),.slice A fs.length c]
         have hal:=(Chg.refl [] w2).alloc (.cells #[.int .i64 (p : Int),.int .i64 (m : Int),.slice A fs.length c] 24)
         have HU4:=hQ_ hN
         have HG4:=hQ_ (HG2.out.keep hal)
         have HO4:=hQ_ (zg_ HO2.out hal)
         have HR4:=hQ_ (HR3.out.keep hal)
         have HW4:=hQ_ (HW2.out.trans hal)
         have HSM:=hQ_ (show ∀ f ∈ fs,f.code.size ≤ 9223372036854775807 from fun f hf => by have:=HFA.out f hf; unfold okF at this; omega)
         clear hN hal
         generalize w2.heap.size = gu at HU4 ⊢
         generalize w2.alloc (.cells #[.int .i64 (p : Int),.int .i64 (m : Int),.slice A fs.length c] 24) = w4 at HG4 HW4 HU4 HO4 HR4 ⊢
         generalize fs.length = n at *
         have u0:=HU4.out.cell 0
         have u1:=HU4.out.cell 1
         have u2:=HU4.out.cell 2
         go_upto_region 10 with (first
          | (go_at_call 54
             refine (HRI.out _ _ _ _ HR4.out HSM.out).mono ?_
             rintro e w5 ⟨rfl,hc5⟩
             have HG5:=hQ_ (HG4.out.keep hc5)
             have HU5:=hQ_ (HU4.out.keep hc5)
             have HO5:=hQ_ (zg_ HO4.out hc5)
             have HR5:=hQ_ (HR4.out.keep hc5)
             have HW5:=hQ_ (HW4.out.trans hc5)
             have y0:=HU5.out.cell 0
             have y1:=HU5.out.cell 1
             have y2:=HU5.out.cell 2
             clear hc5)
          | (go_at_call 31
             refine (HTX.out _ _ _ _ HR5.out HSM.out (HP.out.here HW5.out)).mono ?_
             rintro e w6 ⟨rfl,hc6⟩
             have HG6:=hQ_ (HG5.out.keep hc6)
             have HU6:=hQ_ (HU5.out.keep hc6)
             have HO6:=hQ_ (zg_ HO5.out hc6)
             have HW6:=hQ_ (HW5.out.trans hc6)
             clear hc6))
         clear u0 u1 u2 y0 y1 y2
         have u0:=HU6.out.cell 0
         have u1:=HU6.out.cell 1
         have u2:=HU6.out.cell 2
         have z0:=HG6.out.cell 0
         have z1:=HG6.out.cell 1
         have z2:=HG6.out.cell 2
         have f0:=HG6.out.frozen 0
         have f1:=HG6.out.frozen 1
         have f2:=HG6.out.frozen 2
         have hfar : ∀ (W : World) (j : Nat) (u : Value),W.ownsRow w1.heap.size 58 3 (.slice A n c) n (y3_ fs) → (W.setCell ⟨g,j,none⟩ u).ownsRow w1.heap.size 58 3 (.slice A n c) n (y3_ fs):=fun W j u h => zs_ (p:=⟨g,j,none⟩) (u:=u) h (fun hb => by have:=(h.lt _ hb).1; have:=HGZ.out; simp only at *; omega)
         have HOZ:=hQ_ (z8_ (hfar _ 2 (.slice A n c) (hfar _ 1 (.int .i64 (m : Int)) (hfar _ 0 (.int .i64 (p : Int)) HO6.out))) (show w.heap.size ≤ w1.heap.size from HW1.out.size))
         go_wp2_with fail
         have HCF:=((HW6.out.setCell (p:=⟨g,0,none⟩) (fun h => absurd h hnl) (.int .i64 (p : Int))).setCell (p:=⟨g,1,none⟩) (fun h => absurd h hnl) (.int .i64 (m : Int))).setCell (p:=⟨g,2,none⟩) (fun h => absurd h hnl) (.slice A n c)
         have HSS:=((HG6.out.set_ 0 (.int .i64 (p : Int))).set_ 1 (.int .i64 (m : Int))).set_ 2 (.slice A n c)
         exact bodyPost_ret_by (ze_ (p:=2) (u:=3) (ty:=24) rfl _ _ g 24 [.int .i64 (p : Int),.int .i64 (m : Int),.slice A n c] _ rfl HSS Tryz.underlying24 (by kernel_rfl)) rfl (HPO.out _ _ HOZ.out HFL.out HFA.out HCF)
       · rw [if_neg hT] at HRP
         have HPO:=hQ_ (show ∀ wr,Chg [] w wr → yW_ (zK_ l) w (.returned (.tuple #[.agg #[.int .i64 0,.int .i64 0,.slice none 0 0],.int .i64 12])) wr from fun wr hc => by
          rw [HRP.out]
          exact ⟨_,rfl,World.ownsRow_nil _ _ _ _,by simp,by simp,hc⟩)
         generalize yW_ (zK_ l) w = PO at HPO ⊢
         have hne:=zaz hT
         generalize zc_ l = S at *
         generalize zc_ T1 = S1 at hne HTX
         clear hl hsz HRP hT
         go_enter Tryz.func32,Tryz.ntmps32
         go_upto_region 1 with fail
         have hN:=zb_.new w 24 [.int .i64 0,.int .i64 0,.slice none 0 0]
         have hal:=(Chg.refl [] w).alloc (.cells #[.int .i64 0,.int .i64 0,.slice none 0 0] 24)
         obtain ⟨g,hg⟩ : ∃ g,g = w.heap.size:=⟨_,rfl⟩
         have hw1s : (w.alloc (.cells #[.int .i64 0,.int .i64 0,.slice none 0 0] 24)).heap.size = g + 1:=by rw [hg]; simp
         rw [← hg] at hN ⊢
         have HG:=hQ_ hN
         have HW1:=hQ_ hal
         have HGS:=hQ_ hg
         have HGZ:=hQ_ hw1s
         have hnl : ¬ g < w.heap.size:=by omega
         generalize w.alloc (.cells #[.int .i64 0,.int .i64 0,.slice none 0 0] 24) = w1 at HG HW1 HGZ ⊢
         clear hN hal hg hw1s
         go_upto_region 4 with (
          go_at_call 61
          refine (HR2.out _).mono ?_
          rintro e w2 ⟨v2,rfl,ho2,hfl2,hfa2,hc2⟩
          obtain ⟨A,c,rfl,hfr⟩:=Fnr.of_own ho2 (by omega) (fun f hf => by have:=hfa2 f hf; unfold okF at this; omega)
          have HG2:=hQ_ (HG.out.keep hc2)
          have HW2:=hQ_ (HW1.out.trans hc2)
          have HO2:=hQ_ ho2
          have HR3:=hQ_ hfr
          have HFL:=hQ_ hfl2
          have HFA:=hQ_ hfa2
          clear hc2 ho2 hfr hfl2 hfa2)
         have hN:=zb_.new w2 24 [.int .i64 (p : Int),.int .i64 (m : Int),.slice A fs.length c]
         have hal:=(Chg.refl [] w2).alloc (.cells #[.int .i64 (p : Int),.int .i64 (m : Int),.slice A fs.length c] 24)
         have HU4:=hQ_ hN
         have HG4:=hQ_ (HG2.out.keep hal)
         have HO4:=hQ_ (zg_ HO2.out hal)
         have HR4:=hQ_ (HR3.out.keep hal)
         have HW4:=hQ_ (HW2.out.trans hal)
         have HSM:=hQ_ (show ∀ f ∈ fs,f.code.size ≤ 9223372036854775807 from fun f hf => by have:=HFA.out f hf; unfold okF at this; omega)
         clear hN hal
         generalize w2.heap.size = gu at HU4 ⊢
         generalize w2.alloc (.cells #[.int .i64 (p : Int),.int .i64 (m : Int),.slice A fs.length c] 24) = w4 at HG4 HW4 HU4 HO4 HR4 ⊢
         generalize fs.length = n at *
         have u0:=HU4.out.cell 0
         have u1:=HU4.out.cell 1
         have u2:=HU4.out.cell 2
         go_upto_region 10 with (first
          | (go_at_call 54
             refine (HRI.out _ _ _ _ HR4.out HSM.out).mono ?_
             rintro e w5 ⟨rfl,hc5⟩
             have HG5:=hQ_ (HG4.out.keep hc5)
             have HU5:=hQ_ (HU4.out.keep hc5)
             have HO5:=hQ_ (zg_ HO4.out hc5)
             have HR5:=hQ_ (HR4.out.keep hc5)
             have HW5:=hQ_ (HW4.out.trans hc5)
             have y0:=HU5.out.cell 0
             have y1:=HU5.out.cell 1
             have y2:=HU5.out.cell 2
             clear hc5)
          | (go_at_call 31
             refine (HTX.out _ _ _ _ HR5.out HSM.out (HP.out.here HW5.out)).mono ?_
             rintro e w6 ⟨rfl,hc6⟩
             have HG6:=hQ_ (HG5.out.keep hc6)
             have HU6:=hQ_ (HU5.out.keep hc6)
             have HO6:=hQ_ (zg_ HO5.out hc6)
             have HW6:=hQ_ (HW5.out.trans hc6)
             clear hc6))
         clear u0 u1 u2 y0 y1 y2
         have u0:=HU6.out.cell 0
         have u1:=HU6.out.cell 1
         have u2:=HU6.out.cell 2
         have z0:=HG6.out.cell 0
         have z1:=HG6.out.cell 1
         have z2:=HG6.out.cell 2
         have f0:=HG6.out.frozen 0
         have f1:=HG6.out.frozen 1
         have f2:=HG6.out.frozen 2
         go_wp2_with fail
         have HCF:=((HW6.out.setCell (p:=⟨g,0,none⟩) (fun h => absurd h hnl) (.int .i64 0)).setCell (p:=⟨g,1,none⟩) (fun h => absurd h hnl) (.int .i64 0)).setCell (p:=⟨g,2,none⟩) (fun h => absurd h hnl) (.slice none 0 0)
         have HSS:=((HG6.out.set_ 0 (.int .i64 0)).set_ 1 (.int .i64 0)).set_ 2 (.slice none 0 0)
         exact bodyPost_ret_by (ze_ (p:=2) (u:=3) (ty:=24) rfl _ _ g 24 [.int .i64 0,.int .i64 0,.slice none 0 0] _ rfl HSS Tryz.underlying24 (by kernel_rfl)) rfl (HPO.out _ HCF)
     · rw [if_neg hR] at HRP
       have HPO:=hQ_ (show ∀ wr,Chg [] w wr → yW_ (zK_ l) w (.returned (.tuple #[.agg #[.int .i64 0,.int .i64 0,.slice none 0 0],.int .i64 R])) wr from fun wr hc => by
        rw [HRP.out]
        exact ⟨_,rfl,World.ownsRow_nil _ _ _ _,by simp,by simp,hc⟩)
       generalize yW_ (zK_ l) w = PO at HPO ⊢
       have hd : (R == 0) = false:=by simpa using hR
       generalize zc_ l = S at *
       clear hl hsz HRP hR HTX
       go_enter Tryz.func32,Tryz.ntmps32
       go_upto_region 1 with fail
       have hN:=zb_.new w 24 [.int .i64 0,.int .i64 0,.slice none 0 0]
       have hal:=(Chg.refl [] w).alloc (.cells #[.int .i64 0,.int .i64 0,.slice none 0 0] 24)
       obtain ⟨g,hg⟩ : ∃ g,g = w.heap.size:=⟨_,rfl⟩
       have hw1s : (w.alloc (.cells #[.int .i64 0,.int .i64 0,.slice none 0 0] 24)).heap.size = g + 1:=by rw [hg]; simp
       rw [← hg] at hN ⊢
       have HG:=hQ_ hN
       have HW1:=hQ_ hal
       have HGS:=hQ_ hg
       have HGZ:=hQ_ hw1s
       have hnl : ¬ g < w.heap.size:=by omega
       generalize w.alloc (.cells #[.int .i64 0,.int .i64 0,.slice none 0 0] 24) = w1 at HG HW1 HGZ ⊢
       clear hN hal hg hw1s
       go_upto_region 4 with (
        go_at_call 61
        refine (HR2.out _).mono ?_
        rintro e w2 ⟨v2,rfl,ho2,hfl2,hfa2,hc2⟩
        obtain ⟨A,c,rfl,hfr⟩:=Fnr.of_own ho2 (by omega) (fun f hf => by have:=hfa2 f hf; unfold okF at this; omega)
        have HG2:=hQ_ (HG.out.keep hc2)
        have HW2:=hQ_ (HW1.out.trans hc2)
        have HO2:=hQ_ ho2
        have HR3:=hQ_ hfr
        have HFL:=hQ_ hfl2
        have HFA:=hQ_ hfa2
        clear hc2 ho2 hfr hfl2 hfa2)
       have hN:=zb_.new w2 24 [.int .i64 (p : Int),.int .i64 (m : Int),.slice A fs.length c]
       have hal:=(Chg.refl [] w2).alloc (.cells #[.int .i64 (p : Int),.int .i64 (m : Int),.slice A fs.length c] 24)
       have HU4:=hQ_ hN
       have HG4:=hQ_ (HG2.out.keep hal)
       have HO4:=hQ_ (zg_ HO2.out hal)
       have HR4:=hQ_ (HR3.out.keep hal)
       have HW4:=hQ_ (HW2.out.trans hal)
       have HSM:=hQ_ (show ∀ f ∈ fs,f.code.size ≤ 9223372036854775807 from fun f hf => by have:=HFA.out f hf; unfold okF at this; omega)
       clear hN hal
       generalize w2.heap.size = gu at HU4 ⊢
       generalize w2.alloc (.cells #[.int .i64 (p : Int),.int .i64 (m : Int),.slice A fs.length c] 24) = w4 at HG4 HW4 HU4 HO4 HR4 ⊢
       generalize fs.length = n at *
       have u0:=HU4.out.cell 0
       have u1:=HU4.out.cell 1
       have u2:=HU4.out.cell 2
       go_upto_region 7 with (first
        | (go_at_call 54
           refine (HRI.out _ _ _ _ HR4.out HSM.out).mono ?_
           rintro e w5 ⟨rfl,hc5⟩
           have HG5:=hQ_ (HG4.out.keep hc5)
           have HU5:=hQ_ (HU4.out.keep hc5)
           have HO5:=hQ_ (zg_ HO4.out hc5)
           have HR5:=hQ_ (HR4.out.keep hc5)
           have HW5:=hQ_ (HW4.out.trans hc5)
           have y0:=HU5.out.cell 0
           have y1:=HU5.out.cell 1
           have y2:=HU5.out.cell 2
           clear hc5))
       have z0:=HG5.out.cell 0
       have z1:=HG5.out.cell 1
       have z2:=HG5.out.cell 2
       have f0:=HG5.out.frozen 0
       have f1:=HG5.out.frozen 1
       have f2:=HG5.out.frozen 2
       go_wp2_with fail
       have HCF:=((HW5.out.setCell (p:=⟨g,0,none⟩) (fun h => absurd h hnl) (.int .i64 0)).setCell (p:=⟨g,1,none⟩) (fun h => absurd h hnl) (.int .i64 0)).setCell (p:=⟨g,2,none⟩) (fun h => absurd h hnl) (.slice none 0 0)
       have HSS:=((HG5.out.set_ 0 (.int .i64 0)).set_ 1 (.int .i64 0)).set_ 2 (.slice none 0 0)
       exact bodyPost_ret_by (ze_ (p:=2) (u:=3) (ty:=24) rfl _ _ g 24 [.int .i64 0,.int .i64 0,.slice none 0 0] _ rfl HSS Tryz.underlying24 (by kernel_rfl)) rfl (HPO.out _ HCF)
end
end Go.Proofs.YtbkfhndmeljlcaaGreatDoor
