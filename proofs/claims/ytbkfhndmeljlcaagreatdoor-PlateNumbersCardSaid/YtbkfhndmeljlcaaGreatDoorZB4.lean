import Derived.Test.YtbkfhndmeljlcaaGreatDoorZB3
import Derived.Deep.DeepCutAuto
set_option maxRecDepth 100000
set_option maxHeartbeats 16000000
namespace Go.Proofs.YtbkfhndmeljlcaaGreatDoor
open Go.RowKit
section
variable {w w' : World} {B B2 n m k k2 : Nat} {e e2 : TypeId} {v v2 : Value} {xs ys : List Value}
theorem zg_ (h : w.ownsRow B e k v n xs) (hc : Chg [] w w') : w'.ownsRow B e k v n xs:=by
 refine ⟨h.1,h.2.imp id ?_⟩
 rintro ⟨g,cap,cur,rfl,hb,hg,r⟩
 refine ⟨g,cap,cur,rfl,hb,?_,r⟩
 rw [hc.block g ?_ (by simp)]
 · exact hg
 · rcases Nat.lt_or_ge g w.heap.size with hlt | hge
   · exact hlt
   · rw [Array.getElem?_eq_none hge] at hg; cases hg
theorem zm_ (h : w.ownsRow B e k v n xs) : ∃ A c,v = .slice A n c ∧ n ≤ c ∧ c ≤ 9223372036854775807 ∧ (∀ ad,A = some ad → ad.spot = none ∧ B ≤ ad.block ∧ ad.off = 0 ∧ ad.block < w.heap.size):=by
 rcases h.2 with ⟨rfl,rfl⟩ | ⟨g,cap,cur,rfl,hb,hg,hn,hc,hs,ht⟩
 · exact ⟨none,0,rfl,Nat.le_refl _,by omega,fun ad h => by cases h⟩
 · have hgl : g < w.heap.size:=by
    rcases Nat.lt_or_ge g w.heap.size with hlt | hge
    · exact hlt
    · rw [Array.getElem?_eq_none hge] at hg; cases hg
   exact ⟨some ⟨g,0,none⟩,cap,rfl,hn,by unfold maxLen at hc; omega,fun ad h => by injection h with h; subst h; exact ⟨rfl,hb,rfl,hgl⟩⟩
theorem zA_ (h : w.ownsRow B e k v n xs) {A : Option Addr} {c : Nat} (hv : v = .slice A n c) {j : Nat} {u : Value} (hj : xs[j]? = some u) : ∃ g,A = some ⟨g,0,none⟩ ∧ w.cell? ⟨g,j,none⟩ = some u:=by
 rcases h.2 with ⟨rfl,rfl⟩ | ⟨g,cap,cur,rfl,hb,hg,hn,hc,hs,ht⟩
 · have:=(List.getElem?_eq_some_iff.1 hj).1
   have h1:=h.1
   simp at h1
   subst h1
   simp at hj
 · injection hv with h1
   refine ⟨g,h1.symm,?_⟩
   have:=h.cells (g:=g) rfl j u hj
   rwa [zl_,Nat.zero_add] at this
theorem yM_ (h : w.ownsRow B e k v n xs) (h2 : w.ownsRow B2 e2 k2 v2 m ys) (hne : e ≠ e2) (hg : w.grownBy w' v2.ownBlock) : w'.ownsRow B e k v n xs:=by
 refine ⟨h.1,h.2.imp id ?_⟩
 rintro ⟨g,cap,cur,rfl,hb,hh,r⟩
 refine ⟨g,cap,cur,rfl,hb,?_,r⟩
 rw [hg.block g ?_ ?_]
 · exact hh
 · rcases Nat.lt_or_ge g w.heap.size with hlt | hge
   · exact hlt
   · rw [Array.getElem?_eq_none hge] at hh; cases hh
 · intro hc
   rcases h2.2 with ⟨rfl,_⟩ | ⟨g2,cap2,cur2,rfl,hb2,hh2,_⟩
   · simp [Value.ownBlock] at hc
   · simp [Value.ownBlock] at hc
     subst hc
     rw [hh] at hh2
     simp at hh2
     exact hne hh2.2
end
def zv_ (s : ByteArray) : Nat → Nat → List Nat
  | 0,_ => []
  | f + 1,pos => if pos < s.size then (Utf8.decode s pos).1 :: zv_ s f (pos + (Utf8.decode s pos).2) else []
def z6_ (s : ByteArray) : List Nat:=zv_ s s.size 0
theorem y6_ (s : ByteArray) (pos : Nat) (h : pos < s.size) : 1 ≤ (Utf8.decode s pos).2:=by
 by_cases ha : (s[pos]'h).toNat < 128
 · rw [decode_ascii s pos h ha]; exact Nat.le_refl _
 · exact (decode_high s pos h (by omega)).2
theorem ug_ (s : ByteArray) : ∀ (f g pos : Nat),s.size - pos ≤ f → f ≤ g → zv_ s f pos = zv_ s g pos
  | 0,0,_,_,_ => rfl
  | 0,g + 1,pos,h,_ => by
    rw [zv_,zv_,if_neg (by omega)]
  | f + 1,g + 1,pos,h,hg => by
    rw [zv_,zv_]
    by_cases hp : pos < s.size
    · rw [if_pos hp,if_pos hp,ug_ s f g _ (by have:=y6_ s pos hp; omega) (by omega)]
    · rw [if_neg hp,if_neg hp]
theorem uV_ (s : ByteArray) : ∀ (f pos : Nat),(zv_ s f pos).length ≤ f
  | 0,_ => Nat.le_refl _
  | f + 1,pos => by
    rw [zv_]
    split
    · have:=uV_ s f (pos + (Utf8.decode s pos).2); simp; omega
    · simp
theorem kx_ (s : ByteArray) : ∀ (f pos : Nat),∀ r ∈ zv_ s f pos,r ≤ 2147483647
  | 0,_,r,h => by cases h
  | f + 1,pos,r,h => by
    rw [zv_] at h
    split at h
    · rcases List.mem_cons.1 h with rfl | h
      · exact decode_le s pos
      · exact kx_ s f _ r h
    · cases h
def r32 (l : List Nat) : List Value:=l.map fun k : Nat => Value.int .i32 (k : Int)
theorem zed (l : List Nat) : (r32 l).length = l.length:=by simp [r32]
theorem zee (l m : List Nat) : r32 (l ++ m) = r32 l ++ r32 m:=by simp [r32]
theorem zbJ : (Tryz.prog.info? 21).map (fun i => (i.zero,i.size,i.bytes)) = some (some (.int .i32 0),1,4):=by kernel_rfl
def j6_ (s : ByteArray) (w : World) (e : Ending) (w' : World) : Prop:=∃ v,e = .returned v ∧ w'.ownsRow w.heap.size 21 1 v (z6_ s).length (r32 (z6_ s)) ∧ Chg [] w w'
theorem zaT (s : ByteArray) (w : World) (hs : s.size ≤ 1000000) : Calls Tryz.prog 76 #[.string s] w (j6_ s w):=by
 obtain ⟨i0,hi0,hz0,hz1,hz2⟩:=info_parts zbJ
 go_enter Tryz.func76,Tryz.ntmps76
 go_upto_region 3 with fail
 have hI : (w.iter s 0).heap[w.heap.size]? = some (.stringIter s 0):=World.iter_heap w s 0
 have hc0 : Chg [] w (w.iter s 0):=(Chg.refl [] w).alloc _
 obtain ⟨kI,hkI⟩ : ∃ k,k = w.heap.size:=⟨_,rfl⟩
 have hsz : (w.iter s 0).heap.size = kI + 1:=by rw [hkI]; simp [World.iter]
 rw [← hkI] at hI ⊢
 generalize w.iter s 0 = w1 at hI hc0 hsz ⊢
 have HI:=hQ_ hI
 have HC0:=hQ_ hc0
 have HK:=hQ_ hkI
 have HSZ:=hQ_ hsz
 clear hI hc0 hkI hsz
 go_loopw [3,5] (fun v _ wr => (∃ out : List Nat,wr.ownsRow (kI + 1) 21 1 v out.length (r32 out) ∧ out.length ≤ 1000000 ∧ ∃ pos f,Hid (wr.heap[kI]? = some (.stringIter s pos)) ∧ s.size - pos ≤ f ∧ out.length + f ≤ s.size ∧ Hid (z6_ s = out ++ zv_ s f pos)) ∧ Hid (Chg [kI] w1 wr)) (fun _ _ wr => s.size - wr.iterPos kI)
 case atStart => exact ⟨⟨[],World.ownsRow_nil _ _ _ _,by simp,0,s.size,HI,by omega,by simp,hQ_ rfl⟩,hQ_ (Chg.refl _ _)⟩
 case round =>
  obtain ⟨⟨out,ho,hol,pos,f,HIr,hf,hof,HR⟩,HCr⟩:=hrel
  have HO:=hQ_ ho
  clear ho
  by_cases hlt : pos < s.size
  · obtain ⟨f',rfl⟩ : ∃ f',f = f' + 1:=⟨f - 1,by omega⟩
    have hnx:=fun ty => Lib.run_next_any_at (P:=Tryz.prog) wr kI s pos ty HIr.out hlt
    go_upto_region 5 with fail
    obtain ⟨d,hd⟩ : ∃ d,d = (Utf8.decode s pos).2:=⟨_,rfl⟩
    obtain ⟨r,hr⟩ : ∃ r,r = (Utf8.decode s pos).1:=⟨_,rfl⟩
    have hw:=y6_ s pos hlt
    rw [← hd] at hw
    have HR2:=hQ_ (show z6_ s = (out ++ [r]) ++ zv_ s f' (pos + d) from by rw [HR.out,zv_,if_pos hlt,← hd,← hr]; simp)
    have HI2:=hQ_ (Lib.iterAt_heap wr kI s pos (pos + d) HIr.out)
    have HC2:=hQ_ (show Chg [kI] w1 (wr.iterAt kI s (pos + d)) from HCr.out.trans ⟨rfl,rfl,rfl,by rw [Lib.iterAt_size]; exact Nat.le_refl _,fun i _ hn => Lib.iterAt_other wr kI i s (pos + d) (by simpa using hn)⟩)
    have HO2:=hQ_ (show (wr.iterAt kI s (pos + d)).ownsRow (kI + 1) 21 1 _ out.length (r32 out) from z0_ HO.out (T:=[kI]) ⟨rfl,rfl,rfl,by rw [Lib.iterAt_size]; exact Nat.le_refl _,fun i _ hn => Lib.iterAt_other wr kI i s (pos + d) (by simpa using hn)⟩ (by simp))
    rw [← hd,← hr]
    generalize wr.iterAt kI s (pos + d) = w3 at HI2 HC2 HO2 ⊢
    have HMP:=hQ_ (show wr.iterPos kI = pos from by unfold World.iterPos; rw [HIr.out])
    have hkw : kI < w3.heap.size:=hQ_ (Array.getElem?_eq_some_iff.1 HI2.out).1 |>.out
    have hr32 : (r : Int) ≤ 2147483647:=by have:=decode_le s pos; omega
    clear hr hd hnx
    go_wp2_with (
     at_builtin
     refine wpList_append_own _ rfl (.tmp 11) (.tmp 13) _ rfl (kI + 1) 21 i0 _ 1 4 Tryz.underlying68 hi0 hz0 hz1 hz2 rfl (by decide) u3 out.length (r32 out) rfl (zn_ HO2.out ((Chg.refl [] w3).alloc _)) ⟨w3.heap.size,0,none⟩ 1 1 [.int .i32 (r : Int)] rfl rfl (zq_ _ _ _) (by simp [Value.oneCell']) (by simp only [maxLen]; omega) (by omega) (by simp; omega) ?_
     intro v' w6 ho6 hg6 _
     have HO6:=hQ_ ho6
     have HG6:=hQ_ hg6
     clear ho6 hg6)
    have HOW:=hQ_ (zn_ HO2.out ((Chg.refl [] w3).alloc (.cells #[.int .i32 (r : Int)] 21)))
    have HI6:=hQ_ (show w6.heap[kI]? = some (.stringIter s (pos + d)) from by
     rw [HG6.out.block kI (by simp; omega) (fun hc => by have:=(HOW.out.lt kI hc.symm).1; omega)]
     exact (((Chg.refl [] w3).alloc (.cells #[.int .i32 (r : Int)] 21)).block kI hkw (by simp)).trans HI2.out)
    have HC6:=hQ_ (show Chg [kI] w1 w6 from zQ_ (HC2.out.alloc _) HG6.out (fun g hg => by have:=(HOW.out.lt g hg).1; have:=HSZ.out; omega))
    have HP6:=hQ_ (show w6.iterPos kI = pos + d from by unfold World.iterPos; rw [HI6.out])
    go_roundw
    case rel => exact ⟨⟨out ++ [r],by rw [List.length_append,zee]; exact HO6.out,by simp; omega,pos + d,f',HI6,by omega,by simp; omega,HR2⟩,HC6⟩
    case measure => rw [HP6.out,HMP.out]; omega
  · have HRZ:=hQ_ (show z6_ s = out from by rw [HR.out]; cases f with
      | zero => simp [zv_]
      | succ f => rw [zv_,if_neg hlt]; simp)
    have hnx:=fun ty => Lib.run_next_end_at (P:=Tryz.prog) wr kI s pos ty HIr.out hlt
    have HCz:=hQ_ (show Chg [] w wr from HC0.out.then_ HCr.out (fun i hi hl => by have:=HK.out; simp only [List.mem_cons,List.not_mem_nil,or_false] at hi; omega))
    have HOz:=hQ_ (show j6_ s w (.returned u3) wr from ⟨_,rfl,by rw [HRZ.out]; exact vH_ HO.out (by have:=HK.out; omega),HCz.out⟩)
    go_wp2_with fail
    go_ret
    exact HOz.out
def zcw (s : ByteArray) (r : Int) : Bool:=(z6_ s).any fun x => (x : Int) == r
theorem k4_ (s : ByteArray) (r : Int) (w : World) (hs : s.size ≤ 1000000) : Calls Tryz.prog 105 #[.string s,.int .i32 r] w (zy_ (zcw s r) w):=by
 go_enter Tryz.func105,Tryz.ntmps105
 go_upto_region 2 with fail
 have hI : (w.iter s 0).heap[w.heap.size]? = some (.stringIter s 0):=World.iter_heap w s 0
 have hc0 : Chg [] w (w.iter s 0):=(Chg.refl [] w).alloc _
 obtain ⟨kI,hkI⟩ : ∃ k,k = w.heap.size:=⟨_,rfl⟩
 rw [← hkI] at hI ⊢
 generalize w.iter s 0 = w1 at hI hc0 ⊢
 have HI:=hQ_ hI
 have HC0:=hQ_ hc0
 have HK:=hQ_ hkI
 clear hI hc0 hkI
 go_loopw [6] (fun _ wr => (∃ pos f,Hid (wr.heap[kI]? = some (.stringIter s pos)) ∧ s.size - pos ≤ f ∧ Hid (zcw s r = (zv_ s f pos).any fun x => (x : Int) == r)) ∧ Hid (Chg [kI] w1 wr)) (fun _ wr => s.size - wr.iterPos kI)
 case atStart => exact ⟨⟨0,s.size,HI,by omega,hQ_ rfl⟩,hQ_ (Chg.refl _ _)⟩
 case round =>
  obtain ⟨⟨pos,f,HIr,hf,HR⟩,HCr⟩:=hrel
  have HCZ:=hQ_ (fun (W : World) (hW : Chg [kI] w1 W) => show Chg [] w W from HC0.out.then_ hW (fun i hi hl => by have:=HK.out; simp only [List.mem_cons,List.not_mem_nil,or_false] at hi; omega))
  by_cases hlt : pos < s.size
  · obtain ⟨f',rfl⟩ : ∃ f',f = f' + 1:=⟨f - 1,by omega⟩
    have hnx:=fun ty => Lib.run_next_any_at (P:=Tryz.prog) wr kI s pos ty HIr.out hlt
    go_upto_region 4 with fail
    obtain ⟨d,hd⟩ : ∃ d,d = (Utf8.decode s pos).2:=⟨_,rfl⟩
    obtain ⟨x,hx⟩ : ∃ r,r = (Utf8.decode s pos).1:=⟨_,rfl⟩
    have hw:=y6_ s pos hlt
    rw [← hd] at hw
    have HR2:=hQ_ (show zcw s r = (((x : Int) == r) || (zv_ s f' (pos + d)).any fun x => (x : Int) == r) from by rw [HR.out,zv_,if_pos hlt,← hd,← hx]; simp)
    have HI2:=hQ_ (Lib.iterAt_heap wr kI s pos (pos + d) HIr.out)
    have HC2:=hQ_ (show Chg [kI] w1 (wr.iterAt kI s (pos + d)) from HCr.out.trans ⟨rfl,rfl,rfl,by rw [Lib.iterAt_size]; exact Nat.le_refl _,fun i _ hn => Lib.iterAt_other wr kI i s (pos + d) (by simpa using hn)⟩)
    rw [← hd,← hx]
    have HMP:=hQ_ (show wr.iterPos kI = pos from by unfold World.iterPos; rw [HIr.out])
    have HP2:=hQ_ (show (wr.iterAt kI s (pos + d)).iterPos kI = pos + d from by unfold World.iterPos; rw [HI2.out])
    generalize wr.iterAt kI s (pos + d) = w3 at HI2 HC2 HP2 ⊢
    clear hx hd hnx
    by_cases hxr : (x : Int) = r
    · have hxd : ((x : Int) == r) = true:=by simpa using hxr
      have HPO:=hQ_ (show zy_ (zcw s r) w (.returned (.bool true)) w3 from ⟨by rw [HR2.out,hxd]; rfl,HCZ.out _ HC2.out⟩)
      clear hxr
      go_wp2_with fail
      go_ret
      exact HPO.out
    · have hxd : ((x : Int) == r) = false:=by simpa using hxr
      have HR3:=hQ_ (show zcw s r = (zv_ s f' (pos + d)).any fun x => (x : Int) == r from by rw [HR2.out,hxd]; rfl)
      go_wp2_with fail
      go_roundw
      case rel => exact ⟨⟨pos + d,f',HI2,by omega,HR3⟩,HC2⟩
      case measure => rw [HP2.out,HMP.out]; omega
  · have hnx:=fun ty => Lib.run_next_end_at (P:=Tryz.prog) wr kI s pos ty HIr.out hlt
    have HPO:=hQ_ (show zy_ (zcw s r) w (.returned (.bool false)) wr from ⟨by rw [HR.out]; cases f with
      | zero => simp [zv_]
      | succ f => rw [zv_,if_neg hlt]; simp,HCZ.out _ HCr.out⟩)
    go_wp2_with fail
    go_ret
    exact HPO.out
def zU_ (r : Int) : Bool:=(decide (97 ≤ r) && decide (r ≤ 122)) || (decide (255 < r) && (r != 65533) && decide (r ≤ 1114111) && (decide (r < 55296) || decide (57343 < r)))
def kR_ : List Nat:=[43,45,42,47,37,38,124,94,60,61,33,46,44,64,36,35,63,58,59,91,93,126,171,187,169,174,164,161,955,960]
def zP_ (r : Int) : Bool:=(decide (97 ≤ r) && decide (r ≤ 122)) || (decide (65 ≤ r) && decide (r ≤ 90)) || kR_.any fun x => (x : Int) == r
theorem uz_ (r : Int) (w : World) : Calls Tryz.prog 77 #[.int .i32 r] w fun e w' => e = .returned (.bool (zU_ r)) ∧ w = w':=by
 obtain ⟨b,hb⟩ : ∃ b,b = zU_ r:=⟨_,rfl⟩
 rw [← hb]
 have HB:=hQ_ hb
 clear hb
 by_cases h1 : 97 ≤ r
 · by_cases h2 : r ≤ 122
   · have HE:=hQ_ (show b = true from by rw [HB.out]; simp [zU_,h1,h2])
     go_enter Tryz.func77,Tryz.ntmps77
     go_wp2_with fail
     go_ret
     exact ⟨zC_ HE.out.symm,rfl⟩
   · have h2d : decide (r ≤ 122) = false:=by simpa using h2
     by_cases h3 : 255 < r
     · by_cases h4 : r = 65533
       · subst h4
         have HE:=hQ_ (show b = false from by rw [HB.out]; rfl)
         clear h1 h2 h2d h3
         go_enter Tryz.func77,Tryz.ntmps77
         go_wp2_with fail
         go_ret
         exact ⟨zC_ HE.out.symm,rfl⟩
       · have h4d : (r != 65533) = true:=by simpa using h4
         by_cases h5 : r ≤ 1114111
         · by_cases h6 : r < 55296
           · have HE:=hQ_ (show b = true from by rw [HB.out]; simp [zU_,h3,h4,h5,h6])
             go_enter Tryz.func77,Tryz.ntmps77
             go_wp2_with fail
             go_ret
             exact ⟨zC_ HE.out.symm,rfl⟩
           · have h6d : decide (r < 55296) = false:=by simpa using h6
             by_cases h7 : 57343 < r
             · have HE:=hQ_ (show b = true from by rw [HB.out]; simp [zU_,h3,h4,h5,h7])
               go_enter Tryz.func77,Tryz.ntmps77
               go_wp2_with fail
               go_ret
               exact ⟨zC_ HE.out.symm,rfl⟩
             · have h7d : decide (57343 < r) = false:=by simpa using h7
               have HE:=hQ_ (show b = false from by rw [HB.out]; simp [zU_,h2,h6,h7])
               go_enter Tryz.func77,Tryz.ntmps77
               go_wp2_with fail
               go_ret
               exact ⟨zC_ HE.out.symm,rfl⟩
         · have h5d : decide (r ≤ 1114111) = false:=by simpa using h5
           have HE:=hQ_ (show b = false from by rw [HB.out]; simp [zU_,h2,h5])
           go_enter Tryz.func77,Tryz.ntmps77
           go_wp2_with fail
           go_ret
           exact ⟨zC_ HE.out.symm,rfl⟩
     · have h3d : decide (255 < r) = false:=by simpa using h3
       have HE:=hQ_ (show b = false from by rw [HB.out]; simp [zU_,h2,h3])
       go_enter Tryz.func77,Tryz.ntmps77
       go_wp2_with fail
       go_ret
       exact ⟨zC_ HE.out.symm,rfl⟩
 · have h1d : decide (97 ≤ r) = false:=by simpa using h1
   have h3d : decide (255 < r) = false:=by simp; omega
   have h3 : ¬ 255 < r:=by omega
   have HE:=hQ_ (show b = false from by rw [HB.out]; simp [zU_,h1,h3])
   go_enter Tryz.func77,Tryz.ntmps77
   go_wp2_with fail
   go_ret
   exact ⟨zC_ HE.out.symm,rfl⟩
def jr_ : ByteArray:=⟨#[43,45,42,47,37,38,124,94,60,61,33,46,44,64,36,35,63,58,59,91,93,126,194,171,194,187,194,169,194,174,194,164,194,161,206,187,207,128]⟩
theorem ks_ : z6_ jr_ = kR_:=by decide +kernel
set_option maxRecDepth 10000 in
theorem zcJ (r : Int) (w : World) : Calls Tryz.prog 105 #[.string ⟨#[43,45,42,47,37,38,124,94,60,61,33,46,44,64,36,35,63,58,59,91,93,126,194,171,194,187,194,169,194,174,194,164,194,161,206,187,207,128]⟩,.int .i32 r] w (zy_ (kR_.any fun x => (x : Int) == r) w):=by
 have h:=k4_ jr_ r w (by decide)
 unfold zcw at h
 rw [ks_] at h
 exact h
set_option maxRecDepth 10000 in
theorem jO_ (r : Int) (w : World) : Calls Tryz.prog 78 #[.int .i32 r] w (zy_ (zP_ r) w):=by
 obtain ⟨b,hb⟩ : ∃ b,b = zP_ r:=⟨_,rfl⟩
 rw [← hb]
 have HB:=hQ_ hb
 clear hb
 have hsg:=hQ_ (zcJ r w)
 by_cases hz : 97 ≤ r ∧ r ≤ 122
 · obtain ⟨h1,h2⟩:=hz
   have HE:=hQ_ (show b = true from by rw [HB.out]; simp [zP_,h1,h2])
   go_enter Tryz.func78,Tryz.ntmps78
   go_wp2_with fail
   go_ret
   exact ⟨zC_ HE.out.symm,Chg.refl _ _⟩
 · by_cases hZ : 65 ≤ r ∧ r ≤ 90
   · obtain ⟨h3,h4⟩:=hZ
     have h1d : decide (97 ≤ r) = false:=by simp; omega
     have h1 : ¬ 97 ≤ r:=by omega
     have HE:=hQ_ (show b = true from by rw [HB.out]; simp [zP_,h3,h4])
     go_enter Tryz.func78,Tryz.ntmps78
     go_wp2_with fail
     go_ret
     exact ⟨zC_ HE.out.symm,Chg.refl _ _⟩
   · have HE:=hQ_ (show b = kR_.any fun x => (x : Int) == r from by
      rw [HB.out]
      unfold zP_
      have e1 : (decide (97 ≤ r) && decide (r ≤ 122)) = false:=by simp; omega
      have e2 : (decide (65 ≤ r) && decide (r ≤ 90)) = false:=by simp; omega
      rw [e1,e2]; simp)
     by_cases h1 : 97 ≤ r
     · have h2 : ¬ r ≤ 122:=fun h => hz ⟨h1,h⟩
       have h2d : decide (r ≤ 122) = false:=by simpa using h2
       have h3 : 65 ≤ r:=by omega
       have h4 : ¬ r ≤ 90:=by omega
       have h4d : decide (r ≤ 90) = false:=by simpa using h4
       clear hz hZ
       go_enter Tryz.func78,Tryz.ntmps78
       go_wp2_with fail
       refine hsg.out.mono ?_
       rintro e w1 ⟨rfl,hc⟩
       have HC:=hQ_ hc
       clear hc
       rw [← HE.out]
       go_wp2_with fail
       go_ret
       exact ⟨rfl,HC.out⟩
     · have h1d : decide (97 ≤ r) = false:=by simpa using h1
       clear hz
       by_cases h3 : 65 ≤ r
       · have h4 : ¬ r ≤ 90:=fun h => hZ ⟨h3,h⟩
         have h4d : decide (r ≤ 90) = false:=by simpa using h4
         clear hZ
         go_enter Tryz.func78,Tryz.ntmps78
         go_wp2_with fail
         refine hsg.out.mono ?_
         rintro e w1 ⟨rfl,hc⟩
         have HC:=hQ_ hc
         clear hc
         rw [← HE.out]
         go_wp2_with fail
         go_ret
         exact ⟨rfl,HC.out⟩
       · have h3d : decide (65 ≤ r) = false:=by simpa using h3
         clear hZ
         go_enter Tryz.func78,Tryz.ntmps78
         go_wp2_with fail
         refine hsg.out.mono ?_
         rintro e w1 ⟨rfl,hc⟩
         have HC:=hQ_ hc
         clear hc
         rw [← HE.out]
         go_wp2_with fail
         go_ret
         exact ⟨rfl,HC.out⟩
structure TkV where
  sign : Int
  n : Int
  name : Int
def tkC (t : TkV) : List Value:=[.int .i32 t.sign,.int .i64 t.n,.int .i32 t.name]
def xI_ : List TkV → List Value
  | [] => []
  | t :: l => tkC t ++ xI_ l
theorem yr_ : ∀ l,(xI_ l).length = l.length * 3
  | [] => rfl
  | t :: l => by rw [xI_,List.length_append,yr_ l]; simp [tkC]; omega
theorem ya_ : ∀ l m,xI_ (l ++ m) = xI_ l ++ xI_ m
  | [],_ => rfl
  | t :: l,m => by rw [List.cons_append,xI_,xI_,ya_ l m,List.append_assoc]
theorem ut_ (t : TkV) : xI_ [t] = tkC t:=by simp [xI_]
theorem uu_ : ∀ (l : List TkV) (k : Nat) (t : TkV) (j : Nat),l[k]? = some t → j < 3 → (xI_ l)[k * 3 + j]? = (tkC t)[j]?
  | [],k,t,j,h,hj => by simp at h
  | u :: l,0,t,j,h,hj => by
    simp at h; subst h
    rw [xI_,List.getElem?_append_left (by simp [tkC]; omega)]
    congr 1; omega
  | u :: l,k + 1,t,j,h,hj => by
    simp at h
    rw [xI_,List.getElem?_append_right (by simp [tkC]; omega)]
    rw [← uu_ l k t j h hj]
    congr 1; simp [tkC]; omega
def zo_ (l : List TkV) : List Int:=l.map (·.sign)
theorem v5_ : (Tryz.prog.info? 110).map (fun i => (i.zero,i.size,i.bytes)) = some (some (.agg #[.int .i32 0,.int .i64 0,.int .i32 0]),3,24):=by kernel_rfl
structure Tks (W : World) (A : Option Addr) (n c : Nat) (l : List TkV) : Prop where
  len : l.length = n
  src : Src W A (xI_ l)
  cap : n ≤ c
  max : n ≤ 100000
  spot : 0 < n → ∀ ad,A = some ad → ad.spot = none
section
variable {W W' : World} {A : Option Addr} {n c : Nat} {l : List TkV}
theorem Tks.keep (h : Tks W A n c l) (hc : Chg [] W W') : Tks W' A n c l:=⟨h.len,h.src.keep hc,h.cap,h.max,h.spot⟩
theorem Tks.nil (W : World) : Tks W none 0 0 []:=⟨rfl,Src.nil _ _,Nat.le_refl _,by omega,fun h => absurd h (by omega)⟩
theorem Tks.cell (h : Tks W A n c l) {k : Nat} {t : TkV} (hk : l[k]? = some t) : ∃ b o,A = some ⟨b,o,none⟩ ∧ b < W.heap.size ∧ W.cell? ⟨b,o + k * 3,none⟩ = some (.int .i32 t.sign) ∧ W.cell? ⟨b,o + k * 3 + 1,none⟩ = some (.int .i64 t.n) ∧ W.cell? ⟨b,o + k * 3 + 2,none⟩ = some (.int .i32 t.name):=by
 have hkl:=(List.getElem?_eq_some_iff.1 hk).1
 obtain ⟨⟨b,o,s⟩,e,hb,hx⟩:=h.src (by rw [yr_]; omega)
 obtain rfl : s = none:=h.spot (by have:=h.len; omega) _ e
 refine ⟨b,o,e,hb,?_,?_,?_⟩
 · have:=hx _ _ ((uu_ l k t 0 hk (by omega)).trans rfl); rwa [zl_] at this
 · have:=hx _ _ ((uu_ l k t 1 hk (by omega)).trans rfl); rwa [zl_] at this
 · have:=hx _ _ ((uu_ l k t 2 hk (by omega)).trans rfl); rwa [zl_] at this
theorem Tks.of_own {B : Nat} {e : TypeId} {v : Value} (h : W.ownsRow B e 3 v n (xI_ l)) (hm : n ≤ 100000) : ∃ A c,v = .slice A n c ∧ Tks W A n c l:=by
 have hl : l.length = n:=by have:=h.1; rw [yr_] at this; omega
 rcases h.2 with ⟨rfl,rfl⟩ | ⟨g,cap,cur,rfl,hb,hg,hn,hc,hs,ht⟩
 · exact ⟨none,0,rfl,hl,fun h => absurd h (by rw [yr_]; omega),Nat.le_refl _,by omega,fun h => absurd h (by omega)⟩
 · refine ⟨_,cap,rfl,hl,fun _ => ⟨_,rfl,?_,fun j u hj => h.cells rfl j u hj⟩,hn,hm,fun _ ad e => by injection e with e; subst e; rfl⟩
   rcases Nat.lt_or_ge g W.heap.size with hlt | hge
   · exact hlt
   · rw [Array.getElem?_eq_none hge] at hg; cases hg
end
structure Lo (B : Nat) (T : List Nat) (a b : World) : Prop where
  os : b.os = a.os
  tape : b.tape = a.tape
  output : b.output = a.output
  size : a.heap.size ≤ b.heap.size
  block : ∀ k,k < B → k < a.heap.size → k ∉ T → b.heap[k]? = a.heap[k]?
theorem Lo.of_chg {B : Nat} {T T' : List Nat} {a b : World} (h : Chg T' a b) (hT : ∀ i ∈ T',B ≤ i ∨ i ∈ T) : Lo B T a b :=
 ⟨h.os,h.tape,h.output,h.size,fun k hB hk hn => h.block k hk fun hm => by rcases hT k hm with h | h; omega; exact hn h⟩
theorem Lo.refl (B : Nat) (T : List Nat) (a : World) : Lo B T a a:=Lo.of_chg (Chg.refl [] a) fun i hi => by cases hi
theorem Lo.trans {B : Nat} {T : List Nat} {a b c : World} (h : Lo B T a b) (k : Lo B T b c) : Lo B T a c :=
 ⟨k.os.trans h.os,k.tape.trans h.tape,k.output.trans h.output,Nat.le_trans h.size k.size,fun i hB hi hn => (k.block i hB (Nat.lt_of_lt_of_le hi h.size) hn).trans (h.block i hB hi hn)⟩
theorem Lo.chg {B : Nat} {T : List Nat} {w a b : World} (h0 : Chg [] w a) (h : Lo B T a b) (hB : w.heap.size ≤ B) (hT : ∀ i ∈ T,w.heap.size ≤ i) : Chg [] w b :=
 ⟨h.os.trans h0.os,h.tape.trans h0.tape,h.output.trans h0.output,Nat.le_trans h0.size h.size,fun k hk _ => (h.block k (by omega) (Nat.lt_of_lt_of_le hk h0.size) fun hm => by have:=hT k hm; omega).trans (h0.block k hk (by simp))⟩
theorem Lo.of_grown {B B2 e k n : Nat} {T : List Nat} {v : Value} {xs : List Value} {a b : World} (ho : a.ownsRow B2 e k v n xs) (hB : B ≤ B2) (hg : a.grownBy b v.ownBlock) : Lo B T a b :=
 ⟨hg.os,hg.tape,hg.output,hg.size,fun i hi hk _ => hg.block i hk fun hc => by have:=(ho.lt i hc.symm).1; omega⟩
def nts (l : List Nat) : List Value:=l.map fun k : Nat => Value.int .i64 (k : Int)
theorem zeq (l : List Nat) : (nts l).length = l.length:=by simp [nts]
theorem zbq (l m : List Nat) : nts (l ++ m) = nts l ++ nts m:=by simp [nts]
theorem ql_ (l : List Int) (i : Nat) (x : Int) : (nms l).set i (.int .i64 x) = nms (l.set i x):=by simp [nms]
structure PV where
  p : NPart
  v : Value
def pvC (x : PV) : List Value:=[.bool x.p.loop,.int .i64 (x.p.at_ : Int),.int .i64 (x.p.waits : Int),x.v]
def vR_ : List PV → List Value
  | [] => []
  | x :: l => pvC x ++ vR_ l
theorem x9_ : ∀ l,(vR_ l).length = l.length * 4
  | [] => rfl
  | x :: l => by rw [vR_,List.length_append,x9_ l]; simp [pvC]; omega
theorem xL_ : ∀ l m,vR_ (l ++ m) = vR_ l ++ vR_ m
  | [],_ => rfl
  | x :: l,m => by rw [List.cons_append,vR_,vR_,xL_ l m,List.append_assoc]
theorem kY_ (x : PV) : vR_ [x] = pvC x:=by simp [vR_]
theorem yP_ : ∀ (l : List PV) (k : Nat) (x : PV) (j : Nat),l[k]? = some x → j < 4 → (vR_ l)[k * 4 + j]? = (pvC x)[j]?
  | [],k,x,j,h,hj => by simp at h
  | y :: l,0,x,j,h,hj => by
    simp at h; subst h
    rw [vR_,List.getElem?_append_left (by simp [pvC]; omega)]
    congr 1; omega
  | y :: l,k + 1,x,j,h,hj => by
    simp at h
    rw [vR_,List.getElem?_append_right (by simp [pvC]; omega)]
    rw [← yP_ l k x j h hj]
    congr 1; simp [pvC]; omega
structure Mt (W : World) (gm gt B n : Nat) (m : NSt) (vo : Value) (xs : List PV) : Prop where
  rec_ : zb_ W gm 168 [.slice (some ⟨gt,0,none⟩) n n,.int .i64 (m.deep : Int),vo]
  to_ : zb_ W gt 3 (nms m.tO)
  len : m.tO.length = n
  op : m.op = (xs.map (·.p)).reverse
  own : W.ownsRow B 182 4 vo xs.length (vR_ xs)
  left : ∀ x ∈ xs,W.ownsRow B 3 1 x.v x.p.left.length (nts x.p.left)
  apart : xs.Pairwise fun x y => x.v.ownBlock = none ∨ x.v.ownBlock ≠ y.v.ownBlock
  lo : gm < B ∧ gt < B ∧ gm ≠ gt
  few : xs.length ≤ 16
  deep : m.deep ≤ 16
  wf : ∀ x ∈ xs,x.p.at_ < n ∧ x.p.waits < n ∧ x.p.left.length ≤ n ∧ ∀ j ∈ x.p.left,j < n
  big : n ≤ 100000
  room : B ≤ W.heap.size
theorem zG_ (W : World) (p : Addr) (u : Value) : (W.setCell p u).heap.size = W.heap.size:=by simp [World.setCell]
section
variable {W W' : World} {gm gt B n : Nat} {m : NSt} {vo : Value} {xs : List PV}
theorem Mt.keep (h : Mt W gm gt B n m vo xs) (hc : Chg [] W W') : Mt W' gm gt B n m vo xs :=
 { h with rec_:=h.rec_.keep hc,to_:=h.to_.keep hc,own:=zg_ h.own hc,left:=fun x hx => zn_ (h.left x hx) hc,room:=Nat.le_trans h.room hc.size }
theorem xl_ {e k q g c j : Nat} {u : Value} {cs : List Value} (h : W.ownsRow B e k (.slice (some ⟨g,0,none⟩) q c) q cs) : (W.setCell ⟨g,j,none⟩ u).ownsRow B e k (.slice (some ⟨g,0,none⟩) q c) q (cs.set j u):=by
 refine ⟨by rw [List.length_set]; exact h.1,?_⟩
 rcases h.2 with ⟨h',_⟩ | ⟨g',cap,cur,h',hb,hg,hn,hc,hs,ht⟩
 · cases h'
 · injection h' with h1 _ h3
   injection h1 with h1
   injection h1 with h1
   subst h1
   subst h3
   refine .inr ⟨g,c,cur.setIfInBounds j u,rfl,hb,?_,hn,hc,by simpa using hs,?_⟩
   · have:=heap_setCell_same W g j cur e u hg
     simpa using this
   · rw [Array.toList_setIfInBounds,List.take_set,ht]
theorem zZ_ {e k q g c j : Nat} {cs : List Value} (h : W.ownsRow B e k (.slice (some ⟨g,0,none⟩) q c) q cs) : W.frozen? ⟨g,j,none⟩ = false:=by
 rcases h.2 with ⟨h',_⟩ | ⟨g',cap,cur,h',hb,hg,hn,hc,hs,ht⟩
 · cases h'
 · injection h' with h1 _ h3
   injection h1 with h1
   injection h1 with h1
   subst h1
   exact frozen_of_row W g j cur e hg
theorem zs_ {e k q : Nat} {v u : Value} {cs : List Value} {p : Addr} (h : W.ownsRow B e k v q cs) (hp : v.ownBlock ≠ some p.block) : (W.setCell p u).ownsRow B e k v q cs:=by
 refine ⟨h.1,h.2.imp id ?_⟩
 rintro ⟨g,cap,cur,rfl,hb,hg,r⟩
 exact ⟨g,cap,cur,rfl,hb,(Below.heap_setCell W p u g (fun hc => hp (by rw [← hc]; rfl))).trans hg,r⟩
theorem qU_ {B2 e k q e2 k2 q2 : Nat} {v v2 : Value} {cs cs2 : List Value} (h : W.ownsRow B e k v q cs) (h2 : W.ownsRow B2 e2 k2 v2 q2 cs2) (hne : e ≠ e2) {g : Nat} (hg : v.ownBlock = some g) : v2.ownBlock ≠ some g:=by
 intro hg2
 rcases h.2 with ⟨rfl,_⟩ | ⟨a,cap,cur,rfl,_,ha,_⟩
 · cases hg
 rcases h2.2 with ⟨rfl,_⟩ | ⟨b,cap2,cur2,rfl,_,hb,_⟩
 · cases hg2
 injection hg with hg
 injection hg2 with hg2
 simp only at hg hg2
 rw [hg] at ha
 rw [hg2] at hb
 rw [ha] at hb
 injection hb with hb
 injection hb with _ hb _
 exact hne hb
theorem vD_ {e k q q' : Nat} {A : Option Addr} {c : Nat} {cs : List Value} (h : W.ownsRow B e k (.slice A q c) q cs) (hq : q' ≤ q) (h0 : A ≠ none) : W.ownsRow B e k (.slice A q' c) q' (cs.take (q' * k)):=by
 have hl:=h.1
 refine ⟨by rw [List.length_take,hl]; exact Nat.min_eq_left (Nat.mul_le_mul_right _ hq),?_⟩
 rcases h.2 with ⟨h',_⟩ | ⟨g',cap,cur,h',hb,hg,hn,hc,hs,ht⟩
 · injection h' with h1; exact absurd h1 h0
 · injection h' with h1 _ h3
   subst h1
   subst h3
   exact .inr ⟨g',c,cur,rfl,hb,hg,by omega,hc,hs,by rw [← ht,List.take_take,Nat.min_eq_left (Nat.mul_le_mul_right _ hq)]⟩
theorem Mt.poke (h : Mt W gm gt B n m vo xs) (j : Nat) (x : Int) : Mt (W.setCell ⟨gt,j,none⟩ (.int .i64 x)) gm gt B n ⟨m.tO.set j x,m.deep,m.op⟩ vo xs:=by
 have hown : ∀ {e k q : Nat} {v : Value} {cs : List Value},W.ownsRow B e k v q cs → v.ownBlock ≠ some gt:=fun ho hc => by
  have:=(ho.lt gt hc).1; have:=h.lo; omega
 refine { h with rec_:=h.rec_.far (by simpa using h.lo.2.2) _,to_:=?_,len:=by rw [List.length_set]; exact h.len,own:=zs_ h.own (hown h.own),left:=fun y hy => zs_ (h.left y hy) (hown (h.left y hy)),room:=by rw [zG_]; exact h.room }
 have:=h.to_.set_ j (.int .i64 x)
 rwa [ql_] at this
theorem Mt.waits {ys : List PV} {x : PV} {g c q : Nat} (h : Mt W gm gt B n m vo (ys ++ [x])) (hv : vo = .slice (some ⟨g,0,none⟩) q c) (i : Nat) (hi : i < n) :
    Mt (W.setCell ⟨g,ys.length * 4 + 2,none⟩ (.int .i64 (i : Int))) gm gt B n ⟨m.tO,m.deep,⟨x.p.loop,x.p.at_,i,x.p.left⟩ :: (ys.map (·.p)).reverse⟩ vo (ys ++ [⟨⟨x.p.loop,x.p.at_,i,x.p.left⟩,x.v⟩]):=by
 subst hv
 have hq : q = (ys ++ [x]).length:=by
  rcases h.own.2 with ⟨e,_⟩ | ⟨_,_,_,e,_⟩
  · cases e
  · injection e
 subst hq
 have hB:=(h.own.lt g rfl).1
 have hlo:=h.lo
 refine ⟨h.rec_.far (by simp only; omega) _,h.to_.far (by simp only; omega) _,h.len,by simp,?_,fun y hy => ?_,?_,h.lo,by have:=h.few; simpa using this,h.deep,fun y hy => ?_,h.big,by rw [zG_]; exact h.room⟩
 · have ho:=xl_ (j:=ys.length * 4 + 2) (u:=.int .i64 (i : Int)) h.own
   have e1 : (ys ++ [(⟨⟨x.p.loop,x.p.at_,i,x.p.left⟩,x.v⟩ : PV)]).length = (ys ++ [x]).length:=by simp
   have e2 : (vR_ (ys ++ [x])).set (ys.length * 4 + 2) (.int .i64 (i : Int)) = vR_ (ys ++ [⟨⟨x.p.loop,x.p.at_,i,x.p.left⟩,x.v⟩]):=by
    rw [xL_,xL_,kY_,kY_,List.set_append_right _ _ (by rw [x9_]; omega),x9_]
    rw [show ys.length * 4 + 2 - ys.length * 4 = 2 by omega]
    rfl
   rw [e1,← e2]
   exact ho
 · rcases List.mem_append.1 hy with hy | hy
   · exact zs_ (h.left y (List.mem_append_left _ hy)) (qU_ h.own (h.left y (List.mem_append_left _ hy)) (by decide) rfl)
   · simp only [List.mem_cons,List.not_mem_nil,or_false] at hy
     subst hy
     have hx:=h.left x (by simp)
     exact zs_ hx (qU_ h.own hx (by decide) rfl)
 · have:=h.apart
   rw [List.pairwise_append] at this ⊢
   refine ⟨this.1,List.pairwise_singleton _ _,fun y hy z hz => ?_⟩
   simp only [List.mem_cons,List.not_mem_nil,or_false] at hz
   subst hz
   exact this.2.2 y hy x (by simp)
 · rcases List.mem_append.1 hy with hy | hy
   · exact h.wf y (List.mem_append_left _ hy)
   · simp only [List.mem_cons,List.not_mem_nil,or_false] at hy
     subst hy
     have:=h.wf x (by simp)
     exact ⟨this.1,hi,this.2.2⟩
theorem Mt.drop {ys : List PV} {x : PV} {A : Option Addr} {c q : Nat} (h : Mt W gm gt B n m vo (ys ++ [x])) (hv : vo = .slice A q c) :
    Mt (W.setCell ⟨gm,2,none⟩ (.slice A ys.length c)) gm gt B n ⟨m.tO,m.deep,(ys.map (·.p)).reverse⟩ (.slice A ys.length c) ys:=by
 subst hv
 have hq : q = (ys ++ [x]).length:=by
  rcases h.own.2 with ⟨e,e2⟩ | ⟨_,_,_,e,_⟩
  · injection e with _ e _; rw [e2,e]
  · injection e
 subst hq
 have hA : A ≠ none:=by
  rintro rfl
  rcases h.own.2 with ⟨e,_⟩ | ⟨_,_,_,e,_⟩
  · injection e with _ e _; simp at e
  · injection e with e _; cases e
 have hown : ∀ {e k q : Nat} {v : Value} {cs : List Value},W.ownsRow B e k v q cs → v.ownBlock ≠ some gm:=fun ho hc => by
  have:=(ho.lt gm hc).1; have:=h.lo; omega
 have ht:=vD_ (q':=ys.length) h.own (by simp) hA
 have e2 : (vR_ (ys ++ [x])).take (ys.length * 4) = vR_ ys:=by rw [xL_,← x9_,List.take_left]
 rw [e2] at ht
 refine ⟨?_,h.to_.far (by simpa using Ne.symm h.lo.2.2) _,h.len,rfl,zs_ ht (hown ht),fun y hy => ?_,?_,h.lo,by have:=h.few; simp at this; omega,h.deep,fun y hy => h.wf y (List.mem_append_left _ hy),h.big,by rw [zG_]; exact h.room⟩
 · have:=h.rec_.set_ 2 (.slice A ys.length c)
   simpa using this
 · have:=h.left y (List.mem_append_left _ hy)
   exact zs_ this (hown this)
 · exact (List.pairwise_append.1 h.apart).1
end
section
variable {W : World} {gm gt B n : Nat} {m : NSt} {vo : Value}
theorem v3_ (h : Mt W gm gt B n m vo []) : Calls Tryz.prog 151 #[.pointer (some ⟨gm,0,none⟩)] W fun e w' =>
 e = .returned (.tuple #[.agg #[.bool false,.int .i64 0,.int .i64 0,.slice none 0 0],.bool false]) ∧ Chg [] W w':=by
 obtain ⟨A,c,rfl,_,_,_⟩:=zm_ h.own
 have hr:=h.rec_
 simp only [List.length_nil] at hr
 clear h
 go_enter Tryz.func151,Tryz.ntmps151
 go_upto_region 1 with fail
 have hal : Chg [] W (W.alloc (.cells #[.bool false,.int .i64 0,.int .i64 0,.slice none 0 0] 182)):=(Chg.refl [] W).alloc _
 have c2:=(hr.keep hal).cell 2
 have hN : zb_ (W.alloc (.cells #[.bool false,.int .i64 0,.int .i64 0,.slice none 0 0] 182)) W.heap.size 182 [.bool false,.int .i64 0,.int .i64 0,.slice none 0 0]:=zb_.new W 182 [.bool false,.int .i64 0,.int .i64 0,.slice none 0 0]
 obtain ⟨g9,hg9⟩ : ∃ g,g = W.heap.size:=⟨_,rfl⟩
 rw [← hg9] at hN ⊢
 generalize W.alloc (.cells #[.bool false,.int .i64 0,.int .i64 0,.slice none 0 0] 182) = w1 at hal c2 hN ⊢
 have f0:=hN.frozen 0
 have f1:=hN.frozen 1
 have f2:=hN.frozen 2
 have f3:=hN.frozen 3
 have k0:=hN.cell 0
 have k1:=hN.cell 1
 have k2:=hN.cell 2
 have k3:=hN.cell 3
 have HC:=hQ_ (show Chg [] W (w1) from hal)
 have HN:=hQ_ hN
 have HG:=hQ_ hg9
 clear hal hN hg9 hr
 go_wp2_with fail
 have hz:=(((HN.out.set_ 0 (.bool false)).set_ 1 (.int .i64 0)).set_ 2 (.int .i64 0)).set_ 3 (.slice none 0 0)
 simp only [List.set_cons_zero,List.set_cons_succ] at hz
 have HCz:=hQ_ (((((HC.out.setCell (p:=⟨g9,0,none⟩) (fun h => absurd h (by have:=HG.out; simp only; omega)) (.bool false)).setCell (p:=⟨g9,1,none⟩) (fun h => absurd h (by have:=HG.out; simp only; omega)) (.int .i64 0)).setCell (p:=⟨g9,2,none⟩) (fun h => absurd h (by have:=HG.out; simp only; omega)) (.int .i64 0)).setCell (p:=⟨g9,3,none⟩) (fun h => absurd h (by have:=HG.out; simp only; omega)) (.slice none 0 0)))
 generalize (((w1.setCell ⟨g9,0,none⟩ (.bool false)).setCell ⟨g9,1,none⟩ (.int .i64 0)).setCell ⟨g9,2,none⟩ (.int .i64 0)).setCell ⟨g9,3,none⟩ (.slice none 0 0) = w9 at hz HCz ⊢
 clear k0 k1 k2 k3 f0 f1 f2 f3 c2
 have k0:=hz.cell 0
 have k1:=hz.cell 1
 have k2:=hz.cell 2
 have k3:=hz.cell 3
 exact bodyPost_ret (v:=.tuple #[.agg #[.bool false,.int .i64 0,.int .i64 0,.slice none 0 0],.bool false]) (by simp [results,Tryz.results151,go_sem,k0,k1,k2,k3]) rfl ⟨rfl,HCz.out⟩
theorem y4_ {ys : List PV} {x : PV} (h : Mt W gm gt B n m vo (ys ++ [x])) : Calls Tryz.prog 151 #[.pointer (some ⟨gm,0,none⟩)] W fun e w' =>
 e = .returned (.tuple #[.agg #[.bool x.p.loop,.int .i64 (x.p.at_ : Int),.int .i64 (x.p.waits : Int),x.v],.bool true]) ∧ Chg [] W w':=by
 obtain ⟨px,vx⟩:=x
 obtain ⟨Av,cv,e,_⟩:=zp_ (h.left ⟨px,vx⟩ (by simp))
 simp only at e
 subst e
 have hl : (ys ++ [(⟨px,.slice Av px.left.length cv⟩ : PV)]).length = ys.length + 1:=by simp
 obtain ⟨A,c,rfl,hc1,hc2,_⟩:=zm_ h.own
 have hr:=h.rec_
 rw [hl] at hr hc1
 have hf:=h.few
 rw [hl] at hf
 have hal : Chg [] W (W.alloc (.cells #[.bool false,.int .i64 0,.int .i64 0,.slice none 0 0] 182)):=(Chg.refl [] W).alloc _
 have hg : ∀ j u,(pvC ⟨px,.slice Av px.left.length cv⟩)[j]? = some u → j < 4 → (vR_ (ys ++ [⟨px,.slice Av px.left.length cv⟩]))[ys.length * 4 + j]? = some u:=fun j u hu hj => (yP_ (ys ++ [⟨px,.slice Av px.left.length cv⟩]) ys.length ⟨px,.slice Av px.left.length cv⟩ j (by simp) hj).trans hu
 obtain ⟨g,rfl,j0⟩:=zA_ (zg_ h.own hal) rfl (hg 0 _ rfl (by omega))
 obtain ⟨g',e,j1⟩:=zA_ (zg_ h.own hal) rfl (hg 1 _ rfl (by omega))
 injection e with e; injection e with e; subst e
 obtain ⟨g',e,j2⟩:=zA_ (zg_ h.own hal) rfl (hg 2 _ rfl (by omega))
 injection e with e; injection e with e; subst e
 obtain ⟨g',e,j3⟩:=zA_ (zg_ h.own hal) rfl (hg 3 _ rfl (by omega))
 injection e with e; injection e with e; subst e
 generalize ys.length = q at *
 clear hg hl h
 rw [Nat.add_zero] at j0
 have hsub : IntKind.i64.wrap (((q + 1 : Nat) : Int) - 1) = (q : Int):=by rw [IntWalk.i64_in _ (by omega)]; omega
 have hne : (((q + 1 : Nat) : Int) == 0) = false:=by simp; omega
 have hq0 : (0 : Int) ≤ (q : Int):=by omega
 have hq1 : (q : Int) < ((q + 1 : Nat) : Int):=by omega
 go_enter Tryz.func151,Tryz.ntmps151
 go_upto_region 1 with fail
 have c2:=(hr.keep hal).cell 2
 have hN : zb_ (W.alloc (.cells #[.bool false,.int .i64 0,.int .i64 0,.slice none 0 0] 182)) W.heap.size 182 [.bool false,.int .i64 0,.int .i64 0,.slice none 0 0]:=zb_.new W 182 [.bool false,.int .i64 0,.int .i64 0,.slice none 0 0]
 obtain ⟨g9,hg9⟩ : ∃ g,g = W.heap.size:=⟨_,rfl⟩
 rw [← hg9] at hN ⊢
 generalize W.alloc (.cells #[.bool false,.int .i64 0,.int .i64 0,.slice none 0 0] 182) = w1 at hal c2 hN j0 j1 j2 j3 ⊢
 have f0:=hN.frozen 0
 have f1:=hN.frozen 1
 have f2:=hN.frozen 2
 have f3:=hN.frozen 3
 have k0:=hN.cell 0
 have k1:=hN.cell 1
 have k2:=hN.cell 2
 have k3:=hN.cell 3
 have HC:=hQ_ (show Chg [] W (w1) from hal)
 have HN:=hQ_ hN
 have HG:=hQ_ hg9
 clear hal hN hg9 hr
 go_wp2_with fail
 go_region
 have hz:=(((HN.out.set_ 0 (.bool px.loop)).set_ 1 (.int .i64 (px.at_ : Int))).set_ 2 (.int .i64 (px.waits : Int))).set_ 3 (.slice Av px.left.length cv)
 simp only [List.set_cons_zero,List.set_cons_succ] at hz
 have HCz:=hQ_ (((((HC.out.setCell (p:=⟨g9,0,none⟩) (fun h => absurd h (by have:=HG.out; simp only; omega)) (.bool px.loop)).setCell (p:=⟨g9,1,none⟩) (fun h => absurd h (by have:=HG.out; simp only; omega)) (.int .i64 (px.at_ : Int))).setCell (p:=⟨g9,2,none⟩) (fun h => absurd h (by have:=HG.out; simp only; omega)) (.int .i64 (px.waits : Int))).setCell (p:=⟨g9,3,none⟩) (fun h => absurd h (by have:=HG.out; simp only; omega)) (.slice Av px.left.length cv)))
 have hz2:=hz.drew
 have HCz2:=hQ_ HCz.out.drew
 generalize ((((w1.setCell ⟨g9,0,none⟩ (.bool px.loop)).setCell ⟨g9,1,none⟩ (.int .i64 (px.at_ : Int))).setCell ⟨g9,2,none⟩ (.int .i64 (px.waits : Int))).setCell ⟨g9,3,none⟩ (.slice Av px.left.length cv)).drew = w9 at hz2 HCz2 ⊢
 clear k0 k1 k2 k3 f0 f1 f2 f3 c2 j0 j1 j2 j3 hz HCz
 have k0:=hz2.cell 0
 have k1:=hz2.cell 1
 have k2:=hz2.cell 2
 have k3:=hz2.cell 3
 go_wp2_with fail
 exact bodyPost_ret (v:=.tuple #[.agg #[.bool px.loop,.int .i64 (px.at_ : Int),.int .i64 (px.waits : Int),.slice Av px.left.length cv],.bool true]) (by simp [results,Tryz.results151,go_sem,k0,k1,k2,k3]) rfl ⟨rfl,HCz2.out⟩
end
section
variable {W : World} {gm gt B n : Nat} {m : NSt} {vo : Value}
theorem g7_ (h : Mt W gm gt B n m vo []) (i : Nat) : Calls Tryz.prog 140 #[.pointer (some ⟨gm,0,none⟩),.int .i64 (i : Int)] W (zy_ false W):=by
 go_enter Tryz.func140,Tryz.ntmps140
 go_wp2_with fail
 refine (v3_ h).mono ?_
 rintro e w1 ⟨rfl,hc1⟩
 have HC:=hQ_ (hc1.alloc (.cells #[.bool false,.int .i64 0,.int .i64 0,.slice none 0 0] 182))
 clear hc1 h
 go_wp2_with fail
 go_ret
 exact ⟨rfl,HC.out⟩
theorem zdd {ys : List PV} {x : PV} (h : Mt W gm gt B n m vo (ys ++ [x])) (hn : x.p.loop = true ∨ x.p.waits ≠ x.p.at_) (i : Nat) : Calls Tryz.prog 140 #[.pointer (some ⟨gm,0,none⟩),.int .i64 (i : Int)] W (zy_ false W):=by
 have hin:=y4_ h
 obtain ⟨⟨lp,at_,wt,lf⟩,vx⟩:=x
 obtain ⟨Av,cv,e,_⟩:=zp_ (h.left ⟨⟨lp,at_,wt,lf⟩,vx⟩ (by simp))
 simp only at e
 subst e
 simp only at hin hn
 clear h
 go_enter Tryz.func140,Tryz.ntmps140
 go_wp2_with fail
 refine hin.mono ?_
 rintro e w1 ⟨rfl,hc1⟩
 have HC:=hQ_ (hc1.alloc (.cells #[.bool lp,.int .i64 (at_ : Int),.int .i64 (wt : Int),.slice Av lf.length cv] 182))
 clear hc1 hin
 by_cases hl : lp = true
 · subst hl
   go_wp2_with fail
   go_ret
   exact ⟨rfl,HC.out⟩
 · obtain rfl : lp = false:=by simpa using hl
   have hne : wt ≠ at_:=by simpa using hn
   have hd : ((wt : Int) != (at_ : Int)) = true:=by simp; omega
   go_wp2_with fail
   go_ret
   exact ⟨rfl,HC.out⟩
def x6_ (gm gt B n : Nat) (m' : NSt) (W : World) (e : Ending) (w' : World) : Prop:=e = .returned (.bool true) ∧ (∃ vo' xs',Mt w' gm gt B n m' vo' xs') ∧ Lo B [gm,gt] W w'
theorem zbM {ys : List PV} {x : PV} (h : Mt W gm gt B n m vo (ys ++ [x])) (hl : x.p.loop = false) (hw : x.p.waits = x.p.at_) (i : Nat) (hi : i < n) : Calls Tryz.prog 140 #[.pointer (some ⟨gm,0,none⟩),.int .i64 (i : Int)] W
    (x6_ gm gt B n ⟨m.tO.set x.p.at_ ((i : Int) + 1),m.deep,⟨x.p.loop,x.p.at_,i,x.p.left⟩ :: (ys.map (·.p)).reverse⟩ W):=by
      have hin:=y4_ h
      obtain ⟨⟨lp,at_,wt,lf⟩,vx⟩:=x
      obtain ⟨Av,cv,e,_⟩:=zp_ (h.left ⟨⟨lp,at_,wt,lf⟩,vx⟩ (by simp))
      simp only at e hl hw
      have hw':=hw.symm
      subst e hl hw'
      simp only at hin
      have H:=hQ_ h
      clear h
      go_enter Tryz.func140,Tryz.ntmps140
      go_wp2_with fail
      refine hin.mono ?_
      rintro e w1 ⟨rfl,hc1⟩
      clear hin
      go_upto_region 2 with fail
      have hal : Chg [] w1 (w1.alloc (.cells #[.bool false,.int .i64 (at_ : Int),.int .i64 (at_ : Int),.slice Av lf.length cv] 182)):=(Chg.refl [] w1).alloc _
      have hN : zb_ (w1.alloc (.cells #[.bool false,.int .i64 (at_ : Int),.int .i64 (at_ : Int),.slice Av lf.length cv] 182)) w1.heap.size 182 [.bool false,.int .i64 (at_ : Int),.int .i64 (at_ : Int),.slice Av lf.length cv]:=zb_.new w1 182 [.bool false,.int .i64 (at_ : Int),.int .i64 (at_ : Int),.slice Av lf.length cv]
      obtain ⟨g5,hg5⟩ : ∃ g,g = w1.heap.size:=⟨_,rfl⟩
      rw [← hg5] at hN ⊢
      generalize w1.alloc (.cells #[.bool false,.int .i64 (at_ : Int),.int .i64 (at_ : Int),.slice Av lf.length cv] 182) = w2 at hal hN ⊢
      have HC2:=hQ_ (hc1.new hal)
      have H2:=hQ_ (H.out.keep HC2.out)
      have HN:=hQ_ hN
      have HG:=hQ_ (show gm < w1.heap.size ∧ gt < w1.heap.size from ⟨(H.out.rec_.keep hc1).lt,(H.out.to_.keep hc1).lt⟩)
      have HG5:=hQ_ hg5
      clear hal hN hc1 hg5
      have hlo:=H2.out.lo
      have hat:=(H2.out.wf _ (List.mem_append_right _ (List.mem_singleton_self _))).1
      simp only at hat
      obtain ⟨b0,b1,b2⟩:=(show w2.cell? ⟨g5,0,none⟩ = some (.bool false) ∧ w2.cell? ⟨g5,1,none⟩ = some (.int .i64 (at_ : Int)) ∧ w2.cell? ⟨g5,2,none⟩ = some (.int .i64 (at_ : Int)) from ⟨HN.out.cell 0,HN.out.cell 1,HN.out.cell 2⟩)
      have c0:=H2.out.rec_.cell 0
      have t0 : w2.cell? ⟨gt,at_,none⟩ = some (.int .i64 (m.tO[at_]'(by rw [H2.out.len]; exact hat))):=(H2.out.to_.cell at_).trans (yX_ _ _ (by rw [H2.out.len]; exact hat))
      have f0:=H2.out.to_.frozen at_
      have hat0 : (0 : Int) ≤ (at_ : Int):=by omega
      have hat1 : (at_ : Int) < (n : Int):=by omega
      have hbig:=H2.out.big
      have hsum : IntKind.i64.wrap ((i : Int) + 1) = (i : Int) + 1:=IntWalk.i64_in _ (by omega)
      have hdn : ((at_ : Int) != (at_ : Int)) = false:=by simp
      go_wp2_with fail
      go_region
      have H3:=hQ_ ((H2.out.poke at_ ((i : Int) + 1)).keep (Chg.refl [] _).drew)
      have HL3:=hQ_ (show Lo B [gm,gt] W (w2.setCell ⟨gt,at_,none⟩ (.int .i64 ((i : Int) + 1))).drew from Lo.of_chg ((HC2.out.sub (T':=[gt]) (by simp)).setCell (p:=⟨gt,at_,none⟩) (by simp) (.int .i64 ((i : Int) + 1))).drew (by simp))
      generalize (w2.setCell ⟨gt,at_,none⟩ (.int .i64 ((i : Int) + 1))).drew = w3 at H3 HL3 ⊢
      clear b0 b1 b2 c0 t0 f0 hsum hdn
      obtain ⟨A,c,rfl,hc1,hc2,_⟩:=zm_ H3.out.own
      have hll : (ys ++ [(⟨⟨false,at_,at_,lf⟩,.slice Av lf.length cv⟩ : PV)]).length = ys.length + 1:=by simp
      have c2:=H3.out.rec_.cell 2
      obtain ⟨g,rfl,j2⟩:=zA_ H3.out.own rfl ((yP_ _ ys.length _ 2 (by simp) (by omega)).trans (show (pvC ⟨⟨false,at_,at_,lf⟩,.slice Av lf.length cv⟩)[2]? = some (.int .i64 (at_ : Int)) from rfl))
      rw [hll] at c2
      have f2 : w3.frozen? ⟨g,ys.length * 4 + 2,none⟩ = false:=zZ_ H3.out.own
      have H4:=hQ_ (H3.out.waits rfl i hi)
      have hfew:=H3.out.few
      have HGB:=hQ_ (H3.out.own.lt g rfl).1
      rw [hll] at hfew
      obtain ⟨q,hq⟩ : ∃ q,q = ys.length:=⟨_,rfl⟩
      rw [← hq] at c2 j2 f2 hfew H4
      have hsub : IntKind.i64.wrap (((q + 1 : Nat) : Int) - 1) = (q : Int):=by rw [IntWalk.i64_in _ (by omega)]; omega
      have hq0 : (0 : Int) ≤ (q : Int):=by omega
      have hq1 : (q : Int) < ((q + 1 : Nat) : Int):=by omega
      clear hq hll H3
      go_wp2_with fail
      go_region
      have HL4:=hQ_ (show Lo B [gm,gt] W (w3.setCell ⟨g,q * 4 + 2,none⟩ (.int .i64 (i : Int))).drew from HL3.out.trans (Lo.of_chg ((Chg.refl [g] w3).setCell (p:=⟨g,q * 4 + 2,none⟩) (by simp) _).drew (by have:=HGB.out; simp; omega)))
      have H5:=hQ_ (H4.out.keep (Chg.refl [] _).drew)
      generalize (w3.setCell ⟨g,q * 4 + 2,none⟩ (.int .i64 (i : Int))).drew = w4 at HL4 H5 ⊢
      clear c2 j2 f2 hsub
      go_wp2_with fail
      go_ret
      exact ⟨rfl,⟨_,_,H5.out⟩,HL4.out⟩
end
section
variable {W : World} {gm gt B n : Nat} {m : NSt} {vo : Value}
theorem zag (h : Mt W gm gt B n m vo []) (i : Nat) : Calls Tryz.prog 141 #[.pointer (some ⟨gm,0,none⟩),.int .i64 (i : Int)] W (zy_ false W):=by
 go_enter Tryz.func141,Tryz.ntmps141
 go_wp2_with fail
 refine (v3_ h).mono ?_
 rintro e w1 ⟨rfl,hc1⟩
 have HC:=hQ_ (hc1.alloc (.cells #[.bool false,.int .i64 0,.int .i64 0,.slice none 0 0] 182))
 clear hc1 h
 go_wp2_with fail
 go_ret
 exact ⟨rfl,HC.out⟩
theorem zdl {ys : List PV} {x : PV} (h : Mt W gm gt B n m vo (ys ++ [x])) (hn : x.p.loop = true) (i : Nat) : Calls Tryz.prog 141 #[.pointer (some ⟨gm,0,none⟩),.int .i64 (i : Int)] W (zy_ false W):=by
 have hin:=y4_ h
 obtain ⟨⟨lp,at_,wt,lf⟩,vx⟩:=x
 obtain ⟨Av,cv,e,_⟩:=zp_ (h.left ⟨⟨lp,at_,wt,lf⟩,vx⟩ (by simp))
 simp only at e
 subst e
 simp only at hin hn
 clear h
 subst hn
 go_enter Tryz.func141,Tryz.ntmps141
 go_wp2_with fail
 refine hin.mono ?_
 rintro e w1 ⟨rfl,hc1⟩
 have HC:=hQ_ (hc1.alloc (.cells #[.bool true,.int .i64 (at_ : Int),.int .i64 (wt : Int),.slice Av lf.length cv] 182))
 clear hc1 hin
 go_wp2_with fail
 go_ret
 exact ⟨rfl,HC.out⟩
theorem zbZ {ys : List PV} {x : PV} (h : Mt W gm gt B n m vo (ys ++ [x])) (hl : x.p.loop = false) (i : Nat) : Calls Tryz.prog 141 #[.pointer (some ⟨gm,0,none⟩),.int .i64 (i : Int)] W
    (x6_ gm gt B n ⟨m.tO.set x.p.waits (i : Int),m.deep,(ys.map (·.p)).reverse⟩ W):=by
      have hin:=y4_ h
      obtain ⟨⟨lp,at_,wt,lf⟩,vx⟩:=x
      obtain ⟨Av,cv,e,_⟩:=zp_ (h.left ⟨⟨lp,at_,wt,lf⟩,vx⟩ (by simp))
      simp only at e hl
      subst e hl
      simp only at hin
      have H:=hQ_ h
      clear h
      go_enter Tryz.func141,Tryz.ntmps141
      go_wp2_with fail
      refine hin.mono ?_
      rintro e w1 ⟨rfl,hc1⟩
      clear hin
      go_upto_region 2 with fail
      have hal : Chg [] w1 (w1.alloc (.cells #[.bool false,.int .i64 (at_ : Int),.int .i64 (wt : Int),.slice Av lf.length cv] 182)):=(Chg.refl [] w1).alloc _
      have hN : zb_ (w1.alloc (.cells #[.bool false,.int .i64 (at_ : Int),.int .i64 (wt : Int),.slice Av lf.length cv] 182)) w1.heap.size 182 [.bool false,.int .i64 (at_ : Int),.int .i64 (wt : Int),.slice Av lf.length cv]:=zb_.new w1 182 [.bool false,.int .i64 (at_ : Int),.int .i64 (wt : Int),.slice Av lf.length cv]
      obtain ⟨g5,hg5⟩ : ∃ g,g = w1.heap.size:=⟨_,rfl⟩
      rw [← hg5] at hN ⊢
      generalize w1.alloc (.cells #[.bool false,.int .i64 (at_ : Int),.int .i64 (wt : Int),.slice Av lf.length cv] 182) = w2 at hal hN ⊢
      have HC2:=hQ_ (hc1.new hal)
      have H2:=hQ_ (H.out.keep HC2.out)
      have HN:=hQ_ hN
      clear hal hN hc1 hg5
      have hwt:=(H2.out.wf _ (List.mem_append_right _ (List.mem_singleton_self _))).2.1
      simp only at hwt
      obtain ⟨b0,b2⟩:=(show w2.cell? ⟨g5,0,none⟩ = some (.bool false) ∧ w2.cell? ⟨g5,2,none⟩ = some (.int .i64 (wt : Int)) from ⟨HN.out.cell 0,HN.out.cell 2⟩)
      have c0:=H2.out.rec_.cell 0
      have t0 : w2.cell? ⟨gt,wt,none⟩ = some (.int .i64 (m.tO[wt]'(by rw [H2.out.len]; exact hwt))):=(H2.out.to_.cell wt).trans (yX_ _ _ (by rw [H2.out.len]; exact hwt))
      have f0:=H2.out.to_.frozen wt
      have hat0 : (0 : Int) ≤ (wt : Int):=by omega
      have hat1 : (wt : Int) < (n : Int):=by omega
      have hbig:=H2.out.big
      go_wp2_with fail
      go_region
      have H3:=hQ_ ((H2.out.poke wt (i : Int)).keep (Chg.refl [] _).drew)
      have HL3:=hQ_ (show Lo B [gm,gt] W (w2.setCell ⟨gt,wt,none⟩ (.int .i64 (i : Int))).drew from Lo.of_chg ((HC2.out.sub (T':=[gt]) (by simp)).setCell (p:=⟨gt,wt,none⟩) (by simp) (.int .i64 (i : Int))).drew (by simp))
      generalize (w2.setCell ⟨gt,wt,none⟩ (.int .i64 (i : Int))).drew = w3 at H3 HL3 ⊢
      clear b0 b2 c0 t0 f0
      obtain ⟨A,c,rfl,hc1,hc2,_⟩:=zm_ H3.out.own
      have hll : (ys ++ [(⟨⟨false,at_,wt,lf⟩,.slice Av lf.length cv⟩ : PV)]).length = ys.length + 1:=by simp
      have c2:=H3.out.rec_.cell 2
      have f2:=H3.out.rec_.frozen 2
      rw [hll] at c2 hc1
      obtain ⟨g,rfl,_⟩:=zA_ H3.out.own rfl ((yP_ _ ys.length _ 2 (by simp) (by omega)).trans (show (pvC ⟨⟨false,at_,wt,lf⟩,.slice Av lf.length cv⟩)[2]? = some (.int .i64 (wt : Int)) from rfl))
      have H4:=hQ_ (H3.out.drop rfl)
      have hfew:=H3.out.few
      rw [hll] at hfew
      obtain ⟨q,hq⟩ : ∃ q,q = ys.length:=⟨_,rfl⟩
      rw [← hq] at c2 hfew H4 hc1
      have hsub : IntKind.i64.wrap (((q + 1 : Nat) : Int) - 1) = (q : Int):=by rw [IntWalk.i64_in _ (by omega)]; omega
      have hq0 : (0 : Int) ≤ (q : Int):=by omega
      have hq1 : (q : Int) < ((q + 1 : Nat) : Int):=by omega
      have hq2 : (q : Int) ≤ (c : Int):=by omega
      have hqt : (q : Int).toNat = q:=Int.toNat_natCast _
      clear hq hll H3
      go_wp2_with fail
      go_region
      have HL4:=hQ_ (show Lo B [gm,gt] W (w3.setCell ⟨gm,2,none⟩ (.slice (some ⟨g,0,none⟩) q c)).drew from HL3.out.trans (Lo.of_chg ((Chg.refl [gm] w3).setCell (p:=⟨gm,2,none⟩) (by simp) _).drew (by simp)))
      have H5:=hQ_ (H4.out.keep (Chg.refl [] _).drew)
      generalize (w3.setCell ⟨gm,2,none⟩ (.slice (some ⟨g,0,none⟩) q c)).drew = w4 at HL4 H5 ⊢
      clear c2 f2 hsub
      go_wp2_with fail
      go_ret
      exact ⟨rfl,⟨_,_,H5.out⟩,HL4.out⟩
end
theorem uS_ (v : Int) (j : Nat) : ∀ (l : List Nat) (t : List Int),yQ_ v (l ++ [j]) t = (yQ_ v l t).set j v
  | [],t => rfl
  | k :: l,t => by rw [List.cons_append,yQ_,uS_ v j l,yQ_]
section
variable {W : World} {gm gt B n : Nat} {m : NSt} {vo : Value}
theorem jZ_ (h : Mt W gm gt B n m vo []) (i : Nat) : Calls Tryz.prog 142 #[.pointer (some ⟨gm,0,none⟩),.int .i64 (i : Int)] W (zy_ false W):=by
 go_enter Tryz.func142,Tryz.ntmps142
 go_wp2_with fail
 refine (v3_ h).mono ?_
 rintro e w1 ⟨rfl,hc1⟩
 have HC:=hQ_ (hc1.alloc (.cells #[.bool false,.int .i64 0,.int .i64 0,.slice none 0 0] 182))
 clear hc1 h
 go_wp2_with fail
 go_ret
 exact ⟨rfl,HC.out⟩
theorem zaf {ys : List PV} {x : PV} (h : Mt W gm gt B n m vo (ys ++ [x])) (hn : x.p.loop = false) (i : Nat) : Calls Tryz.prog 142 #[.pointer (some ⟨gm,0,none⟩),.int .i64 (i : Int)] W (zy_ false W):=by
 have hin:=y4_ h
 obtain ⟨⟨lp,at_,wt,lf⟩,vx⟩:=x
 obtain ⟨Av,cv,e,_⟩:=zp_ (h.left ⟨⟨lp,at_,wt,lf⟩,vx⟩ (by simp))
 simp only at e
 subst e
 simp only at hin hn
 clear h
 subst hn
 go_enter Tryz.func142,Tryz.ntmps142
 go_wp2_with fail
 refine hin.mono ?_
 rintro e w1 ⟨rfl,hc1⟩
 have HC:=hQ_ (hc1.alloc (.cells #[.bool false,.int .i64 (at_ : Int),.int .i64 (wt : Int),.slice Av lf.length cv] 182))
 clear hc1 hin
 go_wp2_with fail
 go_ret
 exact ⟨rfl,HC.out⟩
theorem qz_ {ys : List PV} {x : PV} (h : Mt W gm gt B n m vo (ys ++ [x])) (hl : x.p.loop = true) (i : Nat) (hi : i < n) : Calls Tryz.prog 142 #[.pointer (some ⟨gm,0,none⟩),.int .i64 (i : Int)] W
    (x6_ gm gt B n ⟨yQ_ ((i : Int) + 1) x.p.left (m.tO.set i (x.p.at_ : Int)),m.deep,(ys.map (·.p)).reverse⟩ W):=by
      have hin:=y4_ h
      obtain ⟨⟨lp,at_,wt,lf⟩,vx⟩:=x
      obtain ⟨Av,cv,e,_⟩:=zp_ (h.left ⟨⟨lp,at_,wt,lf⟩,vx⟩ (by simp))
      simp only at e hl
      subst e hl
      simp only at hin
      have H:=hQ_ h
      clear h
      go_enter Tryz.func142,Tryz.ntmps142
      go_wp2_with fail
      refine hin.mono ?_
      rintro e w1 ⟨rfl,hc1⟩
      clear hin
      go_upto_region 2 with fail
      have hal : Chg [] w1 (w1.alloc (.cells #[.bool true,.int .i64 (at_ : Int),.int .i64 (wt : Int),.slice Av lf.length cv] 182)):=(Chg.refl [] w1).alloc _
      have hN : zb_ (w1.alloc (.cells #[.bool true,.int .i64 (at_ : Int),.int .i64 (wt : Int),.slice Av lf.length cv] 182)) w1.heap.size 182 [.bool true,.int .i64 (at_ : Int),.int .i64 (wt : Int),.slice Av lf.length cv]:=zb_.new w1 182 [.bool true,.int .i64 (at_ : Int),.int .i64 (wt : Int),.slice Av lf.length cv]
      obtain ⟨g5,hg5⟩ : ∃ g,g = w1.heap.size:=⟨_,rfl⟩
      rw [← hg5] at hN ⊢
      generalize w1.alloc (.cells #[.bool true,.int .i64 (at_ : Int),.int .i64 (wt : Int),.slice Av lf.length cv] 182) = w2 at hal hN ⊢
      have HC2:=hQ_ (hc1.new hal)
      have H2:=hQ_ (H.out.keep HC2.out)
      have HN:=hQ_ hN
      have HG:=hQ_ (show gt < g5 by rw [hg5]; exact (H.out.to_.keep hc1).lt)
      clear hal hN hc1 hg5
      obtain ⟨b0,b1⟩:=(show w2.cell? ⟨g5,0,none⟩ = some (.bool true) ∧ w2.cell? ⟨g5,1,none⟩ = some (.int .i64 (at_ : Int)) from ⟨HN.out.cell 0,HN.out.cell 1⟩)
      have c0:=H2.out.rec_.cell 0
      have t0 : w2.cell? ⟨gt,i,none⟩ = some (.int .i64 (m.tO[i]'(by rw [H2.out.len]; exact hi))):=(H2.out.to_.cell i).trans (yX_ _ _ (by rw [H2.out.len]; exact hi))
      have f0:=H2.out.to_.frozen i
      have hat0 : (0 : Int) ≤ (i : Int):=by omega
      have hat1 : (i : Int) < (n : Int):=by omega
      have hbig:=H2.out.big
      go_wp2_with fail
      go_region
      have H3:=hQ_ ((H2.out.poke i (at_ : Int)).keep (Chg.refl [] _).drew)
      have HL3:=hQ_ (show Lo B [gm,gt] W (w2.setCell ⟨gt,i,none⟩ (.int .i64 (at_ : Int))).drew from Lo.of_chg ((HC2.out.sub (T':=[gt]) (by simp)).setCell (p:=⟨gt,i,none⟩) (by simp) (.int .i64 (at_ : Int))).drew (by simp))
      have HN3:=hQ_ (show zb_ (w2.setCell ⟨gt,i,none⟩ (.int .i64 (at_ : Int))).drew g5 182 [.bool true,.int .i64 (at_ : Int),.int .i64 (wt : Int),.slice Av lf.length cv] from (HN.out.far (by have:=HG.out; simp only; omega) _).drew)
      generalize (w2.setCell ⟨gt,i,none⟩ (.int .i64 (at_ : Int))).drew = w3 at H3 HL3 HN3 ⊢
      clear b0 b1 c0 t0 f0
      have b3:=HN3.out.cell 3
      have hsum : IntKind.i64.wrap ((i : Int) + 1) = (i : Int) + 1:=IntWalk.i64_in _ (by omega)
      obtain ⟨T,hT⟩ : ∃ T,T = m.tO.set i (at_ : Int):=⟨_,rfl⟩
      rw [← hT] at H3
      have HTT:=hQ_ hT
      obtain ⟨N,hN⟩ : ∃ N,N = lf.length:=⟨_,rfl⟩
      have HLF:=hQ_ (H3.out.wf _ (List.mem_append_right _ (List.mem_singleton_self _))).2.2
      have hNb : N ≤ 100000:=by have:=HLF.out.1; simp only at this; omega
      rw [← hN] at b3
      have HNN:=hQ_ hN
      clear hT hN
      go_wp2_with fail
      go_loopw [8,32] (fun _ s wr => ∃ k : Nat,k ≤ N ∧ s = .int .i64 (k : Int) ∧ Hid (Mt wr gm gt B n ⟨yQ_ ((i : Int) + 1) (lf.take k) T,m.deep,m.op⟩ vo (ys ++ [⟨⟨true,at_,wt,lf⟩,.slice Av lf.length cv⟩])) ∧ Hid (Lo B [gm,gt] W wr)) (fun _ s _ => N - (intOf s).toNat)
      case atStart => exact ⟨0,Nat.zero_le _,rfl,H3,HL3⟩
      case round =>
       obtain ⟨k,hk,rfl,HM,HLr⟩:=hrel
       by_cases hlt : k < N
       · have hltI : (k : Int) < (N : Int):=by omega
         have hkl : k < lf.length:=by rw [← HNN.out]; exact hlt
         obtain ⟨Av',cv',e,_,_,hs,hsp⟩:=zp_ (HM.out.left _ (List.mem_append_right _ (List.mem_singleton_self _)))
         simp only at e
         injection e with e1 _ e3
         subst e1 e3
         obtain ⟨⟨bA,oA,sA⟩,rfl,_,hx⟩:=hs (by rw [zeq]; simp only; omega)
         obtain rfl : sA = none:=(hsp _ rfl).1
         have hx1:=hx k (.int .i64 ((lf[k]'hkl : Nat) : Int)) (by simp [nts,hkl])
         rw [zl_] at hx1
         have hj:=HLF.out.2 lf[k] (List.getElem_mem hkl)
         have HTK:=hQ_ (show lf.take (k + 1) = lf.take k ++ [lf[k]] by rw [List.take_succ_eq_append_getElem hkl])
         generalize lf[k] = j at hx1 hj HTK
         have hj0 : (0 : Int) ≤ (j : Int):=by omega
         have hj1 : (j : Int) < (n : Int):=by omega
         have c0:=HM.out.rec_.cell 0
         obtain ⟨T2,hT2⟩ : ∃ T9,T9 = yQ_ ((i : Int) + 1) (lf.take k) T:=⟨_,rfl⟩
         have HM':=HM
         rw [← hT2] at HM'
         have t0 : wr.cell? ⟨gt,j,none⟩ = some (.int .i64 (T2[j]'(by rw [HM'.out.len]; exact hj))):=(HM'.out.to_.cell j).trans (yX_ _ _ (by rw [HM'.out.len]; exact hj))
         have f0:=HM'.out.to_.frozen j
         have HMz:=hQ_ (show Mt (wr.setCell ⟨gt,j,none⟩ (.int .i64 ((i : Int) + 1))) gm gt B n ⟨yQ_ ((i : Int) + 1) (lf.take (k + 1)) T,m.deep,m.op⟩ vo (ys ++ [⟨⟨true,at_,wt,lf⟩,.slice (some ⟨bA,oA,none⟩) lf.length cv⟩]) from by
          have h:=HM'.out.poke j ((i : Int) + 1)
          rw [HTK.out,uS_,← hT2]
          exact h)
         have HLz:=hQ_ (show Lo B [gm,gt] W (wr.setCell ⟨gt,j,none⟩ (.int .i64 ((i : Int) + 1))) from HLr.out.trans (Lo.of_chg ((Chg.refl [gt] wr).setCell (p:=⟨gt,j,none⟩) (by simp) _) (by simp)))
         clear hx hs hsp hT2
         go_wp2_with fail
         go_roundw
         case rel => exact ⟨k + 1,by omega,by go_num,HMz,HLz⟩
         case measure => simp [intOf]; omega
       · have hltI : ¬ (k : Int) < (N : Int):=by omega
         have H3':=HM
         rw [List.take_of_length_le (by rw [← HNN.out]; omega)] at H3'
         obtain ⟨T2,hT2⟩ : ∃ T2,T2 = yQ_ ((i : Int) + 1) lf T:=⟨_,rfl⟩
         rw [← hT2] at H3'
         have HT2:=hQ_ hT2
         clear hT2
         obtain ⟨A,c,rfl,hc1,hc2,_⟩:=zm_ H3'.out.own
         have hll : (ys ++ [(⟨⟨true,at_,wt,lf⟩,.slice Av lf.length cv⟩ : PV)]).length = ys.length + 1:=by simp
         have c2:=H3'.out.rec_.cell 2
         have f2:=H3'.out.rec_.frozen 2
         rw [hll] at c2 hc1
         obtain ⟨g,rfl,_⟩:=zA_ H3'.out.own rfl ((yP_ _ ys.length _ 2 (by simp) (by omega)).trans (show (pvC ⟨⟨true,at_,wt,lf⟩,.slice Av lf.length cv⟩)[2]? = some (.int .i64 (wt : Int)) from rfl))
         have H4:=hQ_ (H3'.out.drop rfl)
         have hfew:=H3'.out.few
         rw [hll] at hfew
         obtain ⟨q,hq⟩ : ∃ q,q = ys.length:=⟨_,rfl⟩
         rw [← hq] at c2 hfew H4 hc1
         have hsub : IntKind.i64.wrap (((q + 1 : Nat) : Int) - 1) = (q : Int):=by rw [IntWalk.i64_in _ (by omega)]; omega
         have hq0 : (0 : Int) ≤ (q : Int):=by omega
         have hq1 : (q : Int) < ((q + 1 : Nat) : Int):=by omega
         have hq2 : (q : Int) ≤ (c : Int):=by omega
         have hqt : (q : Int).toNat = q:=Int.toNat_natCast _
         clear hq hll
         go_wp2_with fail
         go_region
         have HL4:=hQ_ (show Lo B [gm,gt] W (wr.setCell ⟨gm,2,none⟩ (.slice (some ⟨g,0,none⟩) q c)).drew from HLr.out.trans (Lo.of_chg ((Chg.refl [gm] wr).setCell (p:=⟨gm,2,none⟩) (by simp) _).drew (by simp)))
         have H5:=hQ_ (H4.out.keep (Chg.refl [] _).drew)
         generalize (wr.setCell ⟨gm,2,none⟩ (.slice (some ⟨g,0,none⟩) q c)).drew = w4 at HL4 H5 ⊢
         clear c2 f2 hsub
         go_wp2_with fail
         go_ret
         have h:=H5.out
         rw [HT2.out,HTT.out] at h
         exact ⟨rfl,⟨_,_,h⟩,HL4.out⟩
end
theorem kI_ (i : Nat) (ys : List NPart) (x : NPart) (hx : x.loop = true) : ∀ zs : List NPart,(∀ z ∈ zs,z.loop = false) → yw_ i (zs ++ x :: ys) = some (zs ++ ⟨x.loop,x.at_,x.waits,x.left ++ [i]⟩ :: ys)
  | [],_ => by simp [yw_,hx]
  | z :: zs,h => by
    have hz:=h z (List.mem_cons_self ..)
    rw [List.cons_append,yw_,if_neg (by simp [hz]),kI_ i ys x hx zs fun y hy => h y (List.mem_cons_of_mem _ hy)]
    rfl
theorem jN_ (i : Nat) : ∀ zs : List NPart,(∀ z ∈ zs,z.loop = false) → yw_ i zs = none
  | [],_ => rfl
  | z :: zs,h => by
    have hz:=h z (List.mem_cons_self ..)
    rw [yw_,if_neg (by simp [hz]),jN_ i zs fun y hy => h y (List.mem_cons_of_mem _ hy)]
    rfl
theorem vT_ {P : Program} {w : World} {ops : Array Oper} {o : Oper} {a : Act} {K : Act → World → Prop} {Q : Exit → Act → World → Prop} {E : Prop} (hgd : o.guard = none) (s x : Operand) (t : TypeId)
    (ho : o.op = .call { callee:=.builtin .append,args:=#[s,x],argTypes:=#[t,t] })
    (base : Nat) (e : TypeId) (i : TypeInfo) (z : Value) (bytes : Nat) (ht : P.underlying t = some (.slice e)) (hi : P.info? e = some i) (hz : i.zero = some z)
    (hsize : i.size = 1) (hby : i.bytes = bytes) (hzs : z.cells.size = 1)
    (v : Value) (n : Nat) (xs : List Value) (hse : a.eval s = v) (hown : w.ownsRow base e 1 v n xs)
    (A : Option Addr) (m c : Nat) (news : List Value) (hxe : a.eval x = .slice A m c) (hl : news.length = m) (hs : Src w A news) (h1 : ∀ u ∈ news,u.oneCell' = true)
    (h63 : n + m ≤ maxLen) (hbytes : (n + m) * bytes ≤ 140737488355328) (hbase : base ≤ w.heap.size)
    (h : ∀ v' w',w'.ownsRow base e 1 v' (n + m) (xs ++ news) → w.grownBy w' v.ownBlock → (v'.ownBlock = v.ownBlock ∨ v'.ownBlock = some w.heap.size) → K (a.put o.dst v') w') :
    if Region.wanted o (yielded ops a.tmps) = true then Oper.wp P o a w K Q else E:=by
 have hw : Region.wanted o (yielded ops a.tmps) = true:=by simp [Region.wanted,hgd]
 rw [if_pos hw]
 obtain ⟨v',w',hrun,h2,h3,h4⟩:=vm_ (P:=P) w base t o.type e i z bytes ht hi hz hsize hby hzs v n xs hown A m c news hl hs h1 h63 hbytes hbase
 unfold Oper.wp execOp
 simp only [ho,resolve,invoke,builtin,Sem.run_bind,Sem.run_pure,Result.andThen_ok,List.map_toArray,List.map_cons,List.map_nil,hse,hxe,hrun]
 exact h v' w' h2 h3 h4
section
variable {W : World} {gm gt B n : Nat} {m : NSt} {vo : Value}
theorem Mt.leave {ys zs : List PV} {x : PV} {g c q i : Nat} {W1 w' : World} {v' : Value} (h : Mt W gm gt B n m vo (ys ++ x :: zs)) (hv : vo = .slice (some ⟨g,0,none⟩) q c) (hi : i < n) (hfl : x.p.left.length < n) (hc : Chg [] W W1)
    (ho : w'.ownsRow B 3 1 v' (x.p.left.length + 1) (nts x.p.left ++ [.int .i64 (i : Int)])) (hg : W1.grownBy w' x.v.ownBlock) (hb : v'.ownBlock = x.v.ownBlock ∨ v'.ownBlock = some W1.heap.size) :
    Mt (w'.setCell ⟨g,ys.length * 4 + 3,none⟩ v') gm gt B n ⟨m.tO,m.deep,(zs.map (·.p)).reverse ++ ⟨x.p.loop,x.p.at_,x.p.waits,x.p.left ++ [i]⟩ :: (ys.map (·.p)).reverse⟩ vo (ys ++ ⟨⟨x.p.loop,x.p.at_,x.p.waits,x.p.left ++ [i]⟩,v'⟩ :: zs):=by
 have h1:=h.keep hc
 subst hv
 have hxm:=h1.left x (by simp)
 have hq : q = (ys ++ x :: zs).length:=by
  rcases h.own.2 with ⟨e,_⟩ | ⟨_,_,_,e,_⟩
  · cases e
  · injection e
 subst hq
 have hB:=(h.own.lt g rfl).1
 have hlo:=h.lo
 have hopen:=yM_ h1.own hxm (by decide) hg
 have hfar : ∀ {k q2 : Nat} {u : Value} {cs : List Value},w'.ownsRow B 3 k u q2 cs → (w'.setCell ⟨g,ys.length * 4 + 3,none⟩ v').ownsRow B 3 k u q2 cs:=fun hu => zs_ hu (qU_ hopen hu (by decide) rfl)
 have hoth : ∀ y ∈ ys ++ zs,(y.v.ownBlock = none ∨ y.v.ownBlock ≠ x.v.ownBlock):=by
  have hp:=h.apart
  rw [List.pairwise_append,List.pairwise_cons] at hp
  intro y hy
  rcases List.mem_append.1 hy with hy | hy
  · exact hp.2.2 y hy x (by simp)
  · rcases hp.2.1.1 y hy with h | h
    · cases hyb : y.v.ownBlock with
      | none => exact .inl rfl
      | some b => exact .inr (by rw [h]; simp)
    · exact .inr (Ne.symm h)
 have hnew : ∀ y ∈ ys ++ zs,(y.v.ownBlock = none ∨ y.v.ownBlock ≠ v'.ownBlock):=fun y hy => by
  rcases hb with e | e
  · rw [e]; exact hoth y hy
  · cases hyb : y.v.ownBlock with
    | none => exact .inl rfl
    | some b =>
      refine .inr (fun hh => ?_)
      rw [e] at hh
      injection hh with hh
      have hm : y ∈ ys ++ x :: zs:=by
       rcases List.mem_append.1 hy with hy | hy
       · exact List.mem_append_left _ hy
       · exact List.mem_append_right _ (List.mem_cons_of_mem _ hy)
      have:=((h1.left y hm).lt b hyb).2
      omega
 have hleft : ∀ y ∈ ys ++ zs,(w'.setCell ⟨g,ys.length * 4 + 3,none⟩ v').ownsRow B 3 1 y.v y.p.left.length (nts y.p.left):=fun y hy => by
  have hm : y ∈ ys ++ x :: zs:=by
   rcases List.mem_append.1 hy with hy | hy
   · exact List.mem_append_left _ hy
   · exact List.mem_append_right _ (List.mem_cons_of_mem _ hy)
  exact hfar ((h1.left y hm).kept hg (hoth y hy))
 refine ⟨(zi_ h1.rec_ hxm (by decide) hg).far (by simp only; omega) _,?_,h.len,by simp,?_,fun y hy => ?_,?_,h.lo,by have:=h.few; simpa using this,h.deep,fun y hy => ?_,h.big,by rw [zG_]; exact Nat.le_trans h1.room hg.size⟩
 · refine zb_.far ?_ (by simp only; omega) _
   unfold zb_
   rw [hg.block gt h1.to_.lt (fun hc => by have:=(hxm.lt gt hc.symm).1; omega)]
   exact h1.to_
 · have ho2:=xl_ (j:=ys.length * 4 + 3) (u:=v') hopen
   have e1 : (ys ++ (⟨⟨x.p.loop,x.p.at_,x.p.waits,x.p.left ++ [i]⟩,v'⟩ : PV) :: zs).length = (ys ++ x :: zs).length:=by simp
   have e2 : (vR_ (ys ++ x :: zs)).set (ys.length * 4 + 3) v' = vR_ (ys ++ ⟨⟨x.p.loop,x.p.at_,x.p.waits,x.p.left ++ [i]⟩,v'⟩ :: zs):=by
    rw [xL_,xL_,vR_,vR_,List.set_append_right _ _ (by rw [x9_]; omega),x9_]
    rw [show ys.length * 4 + 3 - ys.length * 4 = 3 by omega]
    rfl
   rw [e1,← e2]
   exact ho2
 · rcases List.mem_append.1 hy with hy | hy
   · exact hleft y (List.mem_append_left _ hy)
   · rcases List.mem_cons.1 hy with rfl | hy
     · have:=hfar ho
       simp only [zbq,List.length_append,List.length_cons,List.length_nil]
       exact this
     · exact hleft y (List.mem_append_right _ hy)
 · have hp:=h.apart
   rw [List.pairwise_append,List.pairwise_cons] at hp ⊢
   refine ⟨hp.1,⟨fun z hz => ?_,hp.2.1.2⟩,fun y hy z hz => ?_⟩
   · rcases hnew z (List.mem_append_right _ hz) with h | h
     · cases hvb : v'.ownBlock with
       | none => exact .inl (by simp)
       | some b => exact .inr (by simp [h])
     · exact .inr (Ne.symm h)
   · rcases List.mem_cons.1 hz with rfl | hz
     · exact hnew y (List.mem_append_left _ hy)
     · exact hp.2.2 y hy z (List.mem_cons_of_mem _ hz)
 · rcases List.mem_append.1 hy with hy | hy
   · exact h.wf y (List.mem_append_left _ hy)
   · rcases List.mem_cons.1 hy with rfl | hy
     · have:=h.wf x (by simp)
       refine ⟨this.1,this.2.1,by simp only [List.length_append,List.length_cons,List.length_nil]; omega,fun j hj => ?_⟩
       rcases List.mem_append.1 hj with hj | hj
       · exact this.2.2.2 j hj
       · simp only [List.mem_cons,List.not_mem_nil,or_false] at hj
         rw [hj]; exact hi
     · exact h.wf y (by simp [hy])
theorem zdb {xs : List PV} (h : Mt W gm gt B n m vo xs) (hn : ∀ x ∈ xs,x.p.loop = false) (i : Nat) : Calls Tryz.prog 143 #[.pointer (some ⟨gm,0,none⟩),.int .i64 (i : Int)] W (zy_ false W):=by
 have c2:=h.rec_.cell 2
 obtain ⟨A,c,rfl,hc1,hc2,_⟩:=zm_ h.own
 have H:=hQ_ h
 have HN:=hQ_ hn
 have hfew:=h.few
 obtain ⟨q,hq⟩ : ∃ q,q = xs.length:=⟨_,rfl⟩
 rw [← hq] at c2 hfew hc1
 have HQ:=hQ_ hq
 clear h hn hq
 have hsub : ∀ k : Nat,k ≤ 17 → IntKind.i64.wrap ((k : Int) - 1) = (k : Int) - 1:=fun k hk => IntWalk.i64_in _ (by omega)
 have hsq:=hsub q (by omega)
 have HSUB:=hQ_ hsub
 clear hsub
 go_enter Tryz.func143,Tryz.ntmps143
 go_wp2_with fail
 go_loop [5] (fun s => ∃ k : Nat,k ≤ q ∧ s = .int .i64 ((k : Int) - 1)) (fun s => (intOf s + 1).toNat)
 case atStart => exact ⟨q,Nat.le_refl _,rfl⟩
 case round =>
  obtain ⟨k,hk,rfl⟩:=hrel
  by_cases hlt : 0 < k
  · obtain ⟨j,rfl⟩ : ∃ j,k = j + 1:=⟨k - 1,by omega⟩
    have he : ((j + 1 : Nat) : Int) - 1 = (j : Int):=by omega
    rw [he]
    have hj0 : (0 : Int) ≤ (j : Int):=by omega
    have hj1 : (j : Int) < (q : Int):=by omega
    have hjx : j < xs.length:=by rw [← HQ.out]; omega
    have hlp:=HN.out xs[j] (List.getElem_mem hjx)
    obtain ⟨g,rfl,j0⟩:=zA_ H.out.own (by rw [← HQ.out]) ((yP_ xs j xs[j] 0 (List.getElem?_eq_getElem hjx) (by omega)).trans (show (pvC xs[j])[0]? = some (.bool xs[j].p.loop) from rfl))
    rw [Nat.add_zero,hlp] at j0
    have hsj:=HSUB.out j (by omega)
    clear hlp hsq
    go_wp2_with fail
    go_round
    case rel => exact ⟨j,by omega,rfl⟩
    case measure => simp [intOf]
  · obtain rfl : k = 0:=by omega
    have hz : ¬ (0 : Int) ≤ ((0 : Nat) : Int) - 1:=by omega
    go_wp2_with fail
    go_ret
    exact ⟨rfl,Chg.refl _ _⟩
theorem zbD {ys zs : List PV} {x : PV} (h : Mt W gm gt B n m vo (ys ++ x :: zs)) (hl : x.p.loop = true) (hn : ∀ z ∈ zs,z.p.loop = false) (i : Nat) (hi : i < n) (hfl : x.p.left.length < n) : Calls Tryz.prog 143 #[.pointer (some ⟨gm,0,none⟩),.int .i64 (i : Int)] W
    (x6_ gm gt B n ⟨m.tO,m.deep,(zs.map (·.p)).reverse ++ ⟨x.p.loop,x.p.at_,x.p.waits,x.p.left ++ [i]⟩ :: (ys.map (·.p)).reverse⟩ W):=by
      have HHL:=hQ_ hl
      clear hl
      have c2:=h.rec_.cell 2
      obtain ⟨A,c,rfl,hc1,hc2,_⟩:=zm_ h.own
      have H:=hQ_ h
      have HN:=hQ_ hn
      obtain ⟨i0,hi0,hz0,hz1,hz2⟩:=info_parts ve_
      have hfew:=h.few
      obtain ⟨q,hq⟩ : ∃ q,q = (ys ++ x :: zs).length:=⟨_,rfl⟩
      obtain ⟨b,hb⟩ : ∃ b,b = ys.length:=⟨_,rfl⟩
      have hbq : b < q:=by rw [hb,hq]; simp
      have hxb : (ys ++ x :: zs)[b]? = some x:=by rw [hb]; simp
      have hzs : ∀ (j : Nat) (hj : j < (ys ++ x :: zs).length),b < j → ((ys ++ x :: zs)[j]).p.loop = false:=fun j hj hbj => by
       have : (ys ++ x :: zs)[j] ∈ zs:=by
        rw [List.getElem_append_right (by omega)]
        obtain ⟨d,hd⟩ : ∃ d,j - ys.length = d + 1:=⟨j - ys.length - 1,by omega⟩
        simp only [hd,List.getElem_cons_succ]
        exact List.getElem_mem _
       exact hn _ this
      rw [← hq] at c2 hfew hc1
      have HQ:=hQ_ hq
      have HBB:=hQ_ hb
      have HXB:=hQ_ hxb
      have HZS:=hQ_ hzs
      clear h hn hq hb hxb hzs
      have hsub : ∀ k : Nat,k ≤ 17 → IntKind.i64.wrap ((k : Int) - 1) = (k : Int) - 1:=fun k hk => IntWalk.i64_in _ (by omega)
      have hsq:=hsub q (by omega)
      have HSUB:=hQ_ hsub
      clear hsub
      go_enter Tryz.func143,Tryz.ntmps143
      go_wp2_with fail
      go_loop [5] (fun s => ∃ k : Nat,k ≤ q ∧ b < k ∧ s = .int .i64 ((k : Int) - 1)) (fun s => (intOf s + 1).toNat)
      case atStart => exact ⟨q,Nat.le_refl _,hbq,rfl⟩
      case round =>
       obtain ⟨k,hk,hbk,rfl⟩:=hrel
       obtain ⟨j,rfl⟩ : ∃ j,k = j + 1:=⟨k - 1,by omega⟩
       have he : ((j + 1 : Nat) : Int) - 1 = (j : Int):=by omega
       rw [he]
       have hj0 : (0 : Int) ≤ (j : Int):=by omega
       have hj1 : (j : Int) < (q : Int):=by omega
       by_cases hlt : b < j
       · have hjx : j < (ys ++ x :: zs).length:=by rw [← HQ.out]; omega
         have hlp:=HZS.out j hjx hlt
         obtain ⟨g,rfl,j0⟩:=zA_ H.out.own (by rw [← HQ.out]) ((yP_ _ j (ys ++ x :: zs)[j] 0 (List.getElem?_eq_getElem hjx) (by omega)).trans (show (pvC (ys ++ x :: zs)[j])[0]? = some (.bool (ys ++ x :: zs)[j].p.loop) from rfl))
         rw [Nat.add_zero,hlp] at j0
         have hsj:=HSUB.out j (by omega)
         clear hlp hsq
         go_wp2_with fail
         go_round
         case rel => exact ⟨j,by omega,by omega,rfl⟩
         case measure => simp [intOf]
       · obtain rfl : b = j:=by omega
         obtain ⟨g,rfl,j0⟩:=zA_ H.out.own (by rw [← HQ.out]) ((yP_ _ b x 0 HXB.out (by omega)).trans (show (pvC x)[0]? = some (.bool x.p.loop) from rfl))
         obtain ⟨g',e,j3⟩:=zA_ H.out.own (by rw [← HQ.out]) ((yP_ _ b x 3 HXB.out (by omega)).trans (show (pvC x)[3]? = some x.v from rfl))
         injection e with e; injection e with e; subst e
         rw [Nat.add_zero,HHL.out] at j0
         have hxm:=H.out.left x (by simp)
         obtain ⟨Av,cv,e,_⟩:=zp_ hxm
         rw [e] at j3 hxm
         have HE:=hQ_ e
         have HXM:=hQ_ hxm
         have hLL:=(H.out.wf x (by simp)).2.2.1
         have hbig:=H.out.big
         have hBW : B ≤ W.heap.size:=Nat.le_trans (H.out.own.lt g rfl).1 (Nat.le_of_lt (H.out.own.lt g rfl).2)
         clear e hxm hsq
         have q3 : (W.alloc (.cells #[.int .i64 (i : Int)] 3)).cell? ⟨g,b * 4 + 3,none⟩ = some (.slice Av x.p.left.length cv):=zf_ j3 ((Chg.refl [] W).alloc _)
         have q2 : (W.alloc (.cells #[.int .i64 (i : Int)] 3)).cell? ⟨gm,2,none⟩ = some (.slice (some ⟨g,0,none⟩) q c):=zf_ (by simpa using c2) ((Chg.refl [] W).alloc _)
         go_wp2_with fail
         go_region_law (
           (refine vT_ rfl (.tmp 36) (.tmp 38) 26 rfl B 3 i0 _ 8 Tryz.underlying26 hi0 hz0 hz1 hz2 rfl (.slice Av x.p.left.length cv) x.p.left.length (nts x.p.left) rfl (zn_ HXM.out (((Chg.refl [] W).alloc _).drew)) (some ⟨W.heap.size,0,none⟩) 1 1 [.int .i64 (i : Int)] rfl rfl ((Src.of_all (zb_.new W 3 [.int .i64 (i : Int)])).drew) (by simp [Value.oneCell']) (by unfold maxLen; omega) (by omega) (by simp; omega) ?_
            intro v' w' ho hg hwb
            obtain ⟨A',c',rfl,_⟩:=zp_ ho
            have HO:=hQ_ ho
            have HGR:=hQ_ hg
            have HAL:=hQ_ (show Chg [] W (W.alloc (.cells #[.int .i64 (i : Int)] 3)).drew from ((Chg.refl [] W).alloc _).drew)
            have HO2:=hQ_ (yM_ (zg_ H.out.own HAL.out) (zn_ HXM.out HAL.out) (by decide) hg)
            obtain ⟨g',e,k3⟩:=zA_ HO2.out (by rw [← HQ.out]) ((yP_ _ b x 3 HXB.out (by omega)).trans (show (pvC x)[3]? = some x.v from rfl))
            injection e with e; injection e with e; subst e
            have kf : w'.frozen? ⟨g,b * 4 + 3,none⟩ = false:=by
             have h:=HO2.out
             rw [← HQ.out] at h
             exact zZ_ h
            have k2 : w'.cell? ⟨gm,2,none⟩ = some (.slice (some ⟨g,0,none⟩) q c):=by
             have h:=(zi_ (H.out.rec_.keep HAL.out) (zn_ HXM.out HAL.out) (by decide) hg).cell 2
             rw [← HQ.out] at h
             simpa using h
            have HWB:=hQ_ hwb
            have hsv : (∀ j,w'.heap.size = j → True):=fun _ _ => trivial
            clear ho hg hwb hsv))
         all_goals
           have HM:=hQ_ (H.out.leave rfl hi hfl HAL.out HO.out (by rw [HE.out]; exact HGR.out) (by rw [HE.out]; exact HWB.out))
           rw [← HBB.out] at HM
           have HL:=hQ_ (show Lo B [gm,gt] W (w'.setCell ⟨g,b * 4 + 3,none⟩ (.slice A' (x.p.left.length + 1) c')) from ((Lo.of_chg HAL.out (by simp)).trans (Lo.of_grown (zn_ HXM.out HAL.out) (Nat.le_refl _) HGR.out)).trans (Lo.of_chg ((Chg.refl [g] w').setCell (p:=⟨g,b * 4 + 3,none⟩) (by simp) _) (by have:=(H.out.own.lt g rfl).1; simp; omega)))
           generalize w'.setCell ⟨g,b * 4 + 3,none⟩ (.slice A' (x.p.left.length + 1) c') = w9 at HM HL ⊢
           clear k2 k3 kf
           go_wp2_with fail
           go_ret
           exact ⟨rfl,⟨_,_,HM.out⟩,HL.out⟩
end
end Go.Proofs.YtbkfhndmeljlcaaGreatDoor
