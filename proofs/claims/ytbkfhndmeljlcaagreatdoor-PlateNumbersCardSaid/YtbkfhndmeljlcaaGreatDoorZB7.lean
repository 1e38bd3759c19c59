import Derived.Test.YtbkfhndmeljlcaaGreatDoorZB6
import Derived.Lib.MapLaws
import Derived.Lib.FieldsU
import Derived.StillTailTactics
set_option maxRecDepth 100000
set_option maxHeartbeats 16000000
namespace Go.Proofs.YtbkfhndmeljlcaaGreatDoor
open Go.RowKit
open Go.Lib
theorem zbP (s : ByteArray) (i : Nat) (h : s.size ≤ i) : s.get! i = 0:=by
 have h1 : s.data.size ≤ i:=h
 show s.data[i]! = 0
 rw [getElem!_neg]
 · rfl
 · omega
theorem y2_ (a t : ByteArray) (i : Nat) : (a ++ t).get! (a.size + i) = t.get! i:=by
 by_cases h : i < t.size
 · have h1 : a.size + i < (a ++ t).size:=by rw [ByteArray.size_append']; omega
   have e1:=get_at (a ++ t) (a.size + i) h1
   have e2:=get_at t i h
   rw [Nat.add_zero] at e1 e2
   rw [e1,e2,ByteArray.getElem_append_right (by omega)]
   congr 1
   omega
 · rw [zbP _ _ (by rw [ByteArray.size_append']; omega),zbP _ _ (by omega)]
theorem uj_ (a t : ByteArray) (p : Nat) : Utf8.decode (a ++ t) (a.size + p) = Utf8.decode t p:=by
 rw [decode_at,decode_at,ByteArray.size_append',show a.size + t.size - (a.size + p) = t.size - p from by omega,
   y2_,Nat.add_assoc a.size p 1,y2_,Nat.add_assoc a.size p 2,y2_,Nat.add_assoc a.size p 3,y2_]
theorem vC_ (a t : ByteArray) : ∀ (f p : Nat),zv_ (a ++ t) f (a.size + p) = zv_ t f p
  | 0,_ => rfl
  | f + 1,p => by
    rw [zv_,zv_,uj_]
    by_cases h : p < t.size
    · rw [if_pos h,if_pos (by rw [ByteArray.size_append']; omega),Nat.add_assoc,vC_ a t f _]
    · rw [if_neg h,if_neg (by rw [ByteArray.size_append']; omega)]
end Go.Proofs.YtbkfhndmeljlcaaGreatDoor
namespace Go.Proofs.YtbkfhndmeljlcaaGreatDoor
open Go.RowKit
def yE_ (r : Int) : Bool:=decide (97 ≤ r) && decide (r ≤ 122)
def vN_ (r : Int) : Bool:=decide (48 ≤ r) && decide (r ≤ 57)
def zW_ (r : Int) : Bool:=(r == 955) || (r == 960)
def xV_ (r : Int) : Bool:=(decide (0 ≤ r) && decide (r < 55296)) || (decide (57343 < r) && decide (r ≤ 1114111))
theorem y9_ (r : Int) (w : World) : Calls Tryz.prog 106 #[.int .i32 r] w fun e w' => e = .returned (.bool (yE_ r)) ∧ w = w':=by
 obtain ⟨b,hb⟩ : ∃ b,b = yE_ r:=⟨_,rfl⟩
 rw [← hb]
 have HB:=hQ_ hb
 clear hb
 by_cases h1 : 97 ≤ r
 · by_cases h2 : r ≤ 122
   · have HE:=hQ_ (show b = true from by rw [HB.out]; simp [yE_,h1,h2])
     go_enter Tryz.func106,Tryz.ntmps106
     go_wp2_with fail
     go_ret
     exact ⟨zC_ HE.out.symm,rfl⟩
   · have h2d : decide (r ≤ 122) = false:=by simpa using h2
     have HE:=hQ_ (show b = false from by rw [HB.out]; simp [yE_,h1,h2])
     go_enter Tryz.func106,Tryz.ntmps106
     go_wp2_with fail
     go_ret
     exact ⟨zC_ HE.out.symm,rfl⟩
 · have h1d : decide (97 ≤ r) = false:=by simpa using h1
   have HE:=hQ_ (show b = false from by rw [HB.out]; simp [yE_,h1])
   go_enter Tryz.func106,Tryz.ntmps106
   go_wp2_with fail
   go_ret
   exact ⟨zC_ HE.out.symm,rfl⟩
theorem j0_ (r : Int) (w : World) : Calls Tryz.prog 112 #[.int .i32 r] w fun e w' => e = .returned (.bool (vN_ r)) ∧ w = w':=by
 obtain ⟨b,hb⟩ : ∃ b,b = vN_ r:=⟨_,rfl⟩
 rw [← hb]
 have HB:=hQ_ hb
 clear hb
 by_cases h1 : 48 ≤ r
 · by_cases h2 : r ≤ 57
   · have HE:=hQ_ (show b = true from by rw [HB.out]; simp [vN_,h1,h2])
     go_enter Tryz.func112,Tryz.ntmps112
     go_wp2_with fail
     go_ret
     exact ⟨zC_ HE.out.symm,rfl⟩
   · have h2d : decide (r ≤ 57) = false:=by simpa using h2
     have HE:=hQ_ (show b = false from by rw [HB.out]; simp [vN_,h1,h2])
     go_enter Tryz.func112,Tryz.ntmps112
     go_wp2_with fail
     go_ret
     exact ⟨zC_ HE.out.symm,rfl⟩
 · have h1d : decide (48 ≤ r) = false:=by simpa using h1
   have HE:=hQ_ (show b = false from by rw [HB.out]; simp [vN_,h1])
   go_enter Tryz.func112,Tryz.ntmps112
   go_wp2_with fail
   go_ret
   exact ⟨zC_ HE.out.symm,rfl⟩
theorem jJ_ (r : Int) (w : World) : Calls Tryz.prog 92 #[.int .i32 r] w fun e w' => e = .returned (.bool (zW_ r)) ∧ w = w':=by
 by_cases h1 : r = 955
 · subst h1
   go_enter Tryz.func92,Tryz.ntmps92
   go_wp2_with fail
   go_ret
   exact ⟨rfl,rfl⟩
 · have q1 : (r == 955) = false:=by simpa using h1
   have HE:=hQ_ (show (r == 960) = zW_ r from by unfold zW_; rw [q1]; rfl)
   clear h1
   go_enter Tryz.func92,Tryz.ntmps92
   go_wp2_with fail
   go_ret
   exact ⟨zC_ HE.out,rfl⟩
theorem jo_ (r : Int) (w : World) : Calls Tryz.prog 107 #[.int .i32 r] w fun e w' => e = .returned (.bool (xV_ r)) ∧ w = w':=by
 obtain ⟨b,hb⟩ : ∃ b,b = xV_ r:=⟨_,rfl⟩
 rw [← hb]
 have HB:=hQ_ hb
 clear hb
 rcases Int.lt_or_le r 0 with h | h
 · have d1 : decide (0 ≤ r) = false:=by simp; omega
   have d2 : decide (57343 < r) = false:=by simp; omega
   have HE:=hQ_ (show b = false from by rw [HB.out]; simp [xV_]; omega)
   go_enter Tryz.func107,Tryz.ntmps107
   go_wp2_with fail
   go_ret
   exact ⟨zC_ HE.out.symm,rfl⟩
 · rcases Int.lt_or_le r 55296 with h2 | h2
   · skip
     have HE:=hQ_ (show b = true from by rw [HB.out]; simp [xV_]; omega)
     go_enter Tryz.func107,Tryz.ntmps107
     go_wp2_with fail
     go_ret
     exact ⟨zC_ HE.out.symm,rfl⟩
   · have d1 : decide (r < 55296) = false:=by simp; omega
     rcases Int.lt_or_le 57343 r with h3 | h3
     · rcases Int.lt_or_le 1114111 r with h4 | h4
       · have d2 : decide (r ≤ 1114111) = false:=by simp; omega
         have HE:=hQ_ (show b = false from by rw [HB.out]; simp [xV_]; omega)
         go_enter Tryz.func107,Tryz.ntmps107
         go_wp2_with fail
         go_ret
         exact ⟨zC_ HE.out.symm,rfl⟩
       · skip
         have HE:=hQ_ (show b = true from by rw [HB.out]; simp [xV_]; omega)
         go_enter Tryz.func107,Tryz.ntmps107
         go_wp2_with fail
         go_ret
         exact ⟨zC_ HE.out.symm,rfl⟩
     · have d2 : decide (57343 < r) = false:=by simp; omega
       have HE:=hQ_ (show b = false from by rw [HB.out]; simp [xV_]; omega)
       go_enter Tryz.func107,Tryz.ntmps107
       go_wp2_with fail
       go_ret
       exact ⟨zC_ HE.out.symm,rfl⟩
theorem g0_ {r : Int} (h : yE_ r = true) : zU_ r = true:=by
 unfold yE_ at h
 unfold zU_
 rw [h]; rfl
theorem vZ_ {r : Int} (h : yE_ r = false) (h2 : 255 < r) : zU_ r = (xV_ r && (r != 65533)):=by
 unfold yE_ at h
 unfold zU_ xV_
 rw [h]
 have e1 : decide (255 < r) = true:=by simpa using h2
 have e2 : decide (0 ≤ r) = true:=by simp; omega
 rw [e1,e2]
 cases hq : (r != 65533) <;> simp
 · rcases Int.lt_or_le r 55296 with h3 | h3
   · have : decide (r ≤ 1114111) = true:=by simp; omega
     have : decide (r < 55296) = true:=by simp; omega
     simp_all
   · have : decide (r < 55296) = false:=by simp; omega
     rw [this]; simp [Bool.and_comm]
theorem qW_ {r : Int} (h : yE_ r = false) (h2 : ¬ 255 < r) : zU_ r = false:=by
 unfold yE_ at h
 unfold zU_
 have e1 : decide (255 < r) = false:=by simpa using h2
 rw [h,e1]; rfl
theorem u8_ (r : Int) (w : World) : Calls Tryz.prog 81 #[.int .i32 r] w fun e w' => e = .returned (.bool (zU_ r)) ∧ w = w':=by
 cases hs : yE_ r with
 | true =>
   have HE:=hQ_ (g0_ hs)
   have HS:=hQ_ hs
   clear hs
   go_enter Tryz.func81,Tryz.ntmps81
   go_wp2_with fail
   refine (y9_ r _).mono ?_
   rw [HS.out]
   rintro e w' ⟨rfl,rfl⟩
   go_wp2_with fail
   go_ret
   exact ⟨zC_ HE.out.symm,rfl⟩
 | false =>
   by_cases h2 : 255 < r
   · cases hv : xV_ r with
     | true =>
       have HE:=hQ_ (show (r != 65533) = zU_ r from by rw [vZ_ hs h2,hv]; rfl)
       have HS:=hQ_ hs
       have HV:=hQ_ hv
       clear hs hv
       go_enter Tryz.func81,Tryz.ntmps81
       go_wp2_with fail
       refine (y9_ r _).mono ?_
       rw [HS.out]
       rintro e w' ⟨rfl,rfl⟩
       go_wp2_with fail
       refine (jo_ r _).mono ?_
       rw [HV.out]
       rintro e w' ⟨rfl,rfl⟩
       go_wp2_with fail
       go_ret
       exact ⟨zC_ HE.out,rfl⟩
     | false =>
       have HE:=hQ_ (show zU_ r = false from by rw [vZ_ hs h2,hv]; rfl)
       have HS:=hQ_ hs
       have HV:=hQ_ hv
       clear hs hv
       go_enter Tryz.func81,Tryz.ntmps81
       go_wp2_with fail
       refine (y9_ r _).mono ?_
       rw [HS.out]
       rintro e w' ⟨rfl,rfl⟩
       go_wp2_with fail
       refine (jo_ r _).mono ?_
       rw [HV.out]
       rintro e w' ⟨rfl,rfl⟩
       go_wp2_with fail
       go_ret
       exact ⟨zC_ HE.out.symm,rfl⟩
   · have HE:=hQ_ (qW_ hs h2)
     have HS:=hQ_ hs
     have d2 : decide (255 < r) = false:=by simpa using h2
     clear hs h2
     go_enter Tryz.func81,Tryz.ntmps81
     go_wp2_with fail
     refine (y9_ r _).mono ?_
     rw [HS.out]
     rintro e w' ⟨rfl,rfl⟩
     go_wp2_with fail
     go_ret
     exact ⟨zC_ HE.out.symm,rfl⟩
end Go.Proofs.YtbkfhndmeljlcaaGreatDoor
namespace Go.Proofs.YtbkfhndmeljlcaaGreatDoor
open Go.RowKit
def uR_ (f pos : Nat) (r : Int) : Bool:=(zv_ jr_ f pos).any fun x => (x : Int) == r
theorem zcI (r : Int) : uR_ jr_.size 0 r = kR_.any fun x => (x : Int) == r:=by
 unfold uR_
 rw [show zv_ jr_ jr_.size 0 = z6_ jr_ from rfl,ks_]
theorem g9_ (r : Int) (w : World) (h1 : yE_ r = false) (h2 : (decide (65 ≤ r) && decide (r ≤ 90)) = false) : Calls Tryz.prog 91 #[.int .i32 r] w (zy_ (kR_.any fun x => (x : Int) == r) w):=by
 have hpick : decide (65 ≤ r) = false ∨ (decide (65 ≤ r) = true ∧ decide (r ≤ 90) = false):=by
  cases hq : decide (65 ≤ r) with
  | false => exact .inl rfl
  | true => rw [hq] at h2; exact .inr ⟨rfl,by simpa using h2⟩
 have HB:=hQ_ (zcI r)
 generalize (kR_.any fun x => (x : Int) == r) = b at HB ⊢
 obtain ⟨s,hs⟩ : ∃ s : ByteArray,s = ⟨#[43,45,42,47,37,38,124,94,60,61,33,46,44,64,36,35,63,58,59,91,93,126,194,171,194,187,194,169,194,174,194,164,194,161,206,187,207,128]⟩:=⟨_,rfl⟩
 have HSS:=hQ_ (show jr_ = s from hs.symm)
 have HS:=hQ_ hs
 have H1:=hQ_ h1
 have hss : s.size = 38:=by rw [hs]; rfl
 have HZ:=hQ_ hss
 clear hs h1 h2 hss
 rcases hpick with hp | ⟨hp,hp2⟩
 all_goals
   go_enter Tryz.func91,Tryz.ntmps91
   go_wp2_with fail
   refine (y9_ r _).mono ?_
   rw [H1.out]
   rintro e w' ⟨rfl,rfl⟩
   go_upto_region 4 with fail
   rw [← HS.out]
   have hI : (w.iter s 0).heap[w.heap.size]? = some (.stringIter s 0):=World.iter_heap w s 0
   have hc0 : Chg [] w (w.iter s 0):=(Chg.refl [] w).alloc _
   obtain ⟨kI,hkI⟩ : ∃ k,k = w.heap.size:=⟨_,rfl⟩
   rw [← hkI] at hI ⊢
   generalize w.iter s 0 = w1 at hI hc0 ⊢
   have HI:=hQ_ hI
   have HC0:=hQ_ hc0
   have HK:=hQ_ hkI
   clear hI hc0 hkI
   go_loopw [4] (fun _ wr => (∃ pos f,Hid (wr.heap[kI]? = some (.stringIter s pos)) ∧ s.size - pos ≤ f ∧ Hid (b = uR_ f pos r)) ∧ Hid (Chg [kI] w1 wr)) (fun _ wr => s.size - wr.iterPos kI)
   case atStart => exact ⟨⟨0,s.size,HI,by omega,hQ_ (by rw [← HSS.out]; exact HB.out.symm)⟩,hQ_ (Chg.refl _ _)⟩
   case round =>
    obtain ⟨⟨pos,f,HIr,hf,HR⟩,HCr⟩:=hrel
    have HCZ:=hQ_ (fun (W : World) (hW : Chg [kI] w1 W) => show Chg [] w W from HC0.out.then_ hW (fun i hi hl => by have:=HK.out; simp only [List.mem_cons,List.not_mem_nil,or_false] at hi; omega))
    by_cases hlt : pos < s.size
    · obtain ⟨f',rfl⟩ : ∃ f',f = f' + 1:=⟨f - 1,by omega⟩
      have hnx:=fun ty => Lib.run_next_any_at (P:=Tryz.prog) wr kI s pos ty HIr.out hlt
      go_upto_region 6 with fail
      obtain ⟨d,hd⟩ : ∃ d,d = (Utf8.decode s pos).2:=⟨_,rfl⟩
      obtain ⟨x,hx⟩ : ∃ r,r = (Utf8.decode s pos).1:=⟨_,rfl⟩
      have hw:=y6_ s pos hlt
      rw [← hd] at hw
      have HR2:=hQ_ (show b = (((x : Int) == r) || uR_ f' (pos + d) r) from by rw [HR.out]; unfold uR_; rw [HSS.out,zv_,if_pos hlt,← hd,← hx]; simp)
      have HI2:=hQ_ (Lib.iterAt_heap wr kI s pos (pos + d) HIr.out)
      have HC2:=hQ_ (show Chg [kI] w1 (wr.iterAt kI s (pos + d)) from HCr.out.trans ⟨rfl,rfl,rfl,by rw [Lib.iterAt_size]; exact Nat.le_refl _,fun i _ hn => Lib.iterAt_other wr kI i s (pos + d) (by simpa using hn)⟩)
      rw [← hd,← hx]
      have HMP:=hQ_ (show wr.iterPos kI = pos from by unfold World.iterPos; rw [HIr.out])
      have HP2:=hQ_ (show (wr.iterAt kI s (pos + d)).iterPos kI = pos + d from by unfold World.iterPos; rw [HI2.out])
      generalize wr.iterAt kI s (pos + d) = w3 at HI2 HC2 HP2 ⊢
      clear hx hd hnx
      by_cases hxr : (x : Int) = r
      · have hxd : ((x : Int) == r) = true:=by simpa using hxr
        have HPO:=hQ_ (show zy_ b w (.returned (.bool true)) w3 from ⟨by rw [HR2.out,hxd]; rfl,HCZ.out _ HC2.out⟩)
        clear hxr
        go_wp2_with fail
        go_ret
        exact HPO.out
      · have hxd : ((x : Int) == r) = false:=by simpa using hxr
        have HR3:=hQ_ (show b = uR_ f' (pos + d) r from by rw [HR2.out,hxd]; rfl)
        go_wp2_with fail
        go_roundw
        case rel => exact ⟨⟨pos + d,f',HI2,by omega,HR3⟩,HC2⟩
        case measure => rw [HP2.out,HMP.out]; omega
    · have hnx:=fun ty => Lib.run_next_end_at (P:=Tryz.prog) wr kI s pos ty HIr.out hlt
      have HPO:=hQ_ (show zy_ b w (.returned (.bool false)) wr from ⟨by rw [HR.out]; unfold uR_; rw [HSS.out]; cases f with
        | zero => simp [zv_]
        | succ f => rw [zv_,if_neg hlt]; simp,HCZ.out _ HCr.out⟩)
      go_wp2_with fail
      go_ret
      exact HPO.out
theorem v7_ (r : Int) (w : World) : Calls Tryz.prog 91 #[.int .i32 r] w (zy_ (zP_ r) w):=by
 cases hs : yE_ r with
 | true =>
   have HE:=hQ_ (show zP_ r = true from by unfold zP_; unfold yE_ at hs; rw [hs]; rfl)
   have HS:=hQ_ hs
   clear hs
   go_enter Tryz.func91,Tryz.ntmps91
   go_wp2_with fail
   refine (y9_ r _).mono ?_
   rw [HS.out]
   rintro e w' ⟨rfl,rfl⟩
   go_wp2_with fail
   go_ret
   exact ⟨zC_ HE.out.symm,Chg.refl _ _⟩
 | false =>
   cases hZ : (decide (65 ≤ r) && decide (r ≤ 90)) with
   | true =>
     have HE:=hQ_ (show zP_ r = true from by unfold zP_; rw [hZ]; simp)
     have h3 : 65 ≤ r:=by simp at hZ; omega
     have h4 : r ≤ 90:=by simp at hZ; omega
     have HS:=hQ_ hs
     clear hs hZ
     go_enter Tryz.func91,Tryz.ntmps91
     go_wp2_with fail
     refine (y9_ r _).mono ?_
     rw [HS.out]
     rintro e w' ⟨rfl,rfl⟩
     go_wp2_with fail
     go_ret
     exact ⟨zC_ HE.out.symm,Chg.refl _ _⟩
   | false =>
     have h:=g9_ r w hs hZ
     have e : zP_ r = kR_.any fun x => (x : Int) == r:=by
      unfold zP_
      unfold yE_ at hs
      rw [hs,hZ]; simp
     rw [e]
     exact h
end Go.Proofs.YtbkfhndmeljlcaaGreatDoor
namespace Go.Proofs.YtbkfhndmeljlcaaGreatDoor
open Go.RowKit
inductive GPh where
  | idle
  | num (m : Nat)
  | wait (q : Nat)
def pend : GPh → List TkV
  | .idle => []
  | .num m => [⟨48,(m : Int),0⟩]
  | .wait q => [⟨(q : Int),0,0⟩]
def y0_ : GPh → Bool
  | .num _ => true
  | _ => false
def waits : GPh → Bool
  | .wait _ => true
  | _ => false
def yl_ (ys : List TkV) (m x : Nat) : Option (List TkV × GPh):=if (9223372036854775807 - x) / 10 < m then none else some (ys,.num (m * 10 + x))
def yb_ (bs : List TkV) (r : Nat) : Option (List TkV × GPh) :=
 if r = 32 then some (bs,.idle) else if zP_ (r : Int) = true then (if zW_ (r : Int) = true then some (bs,.wait r) else some (bs ++ [⟨(r : Int),0,0⟩],.idle)) else none
def zN_ (ys : List TkV) : GPh → Nat → Option (List TkV × GPh)
  | .wait q,r => if zU_ (r : Int) = true then some (ys ++ [⟨(q : Int),0,(r : Int)⟩],.idle) else none
  | .num m,r => if 48 ≤ r ∧ r ≤ 57 then yl_ ys m (r - 48) else yb_ (ys ++ [⟨48,(m : Int),0⟩]) r
  | .idle,r => if 48 ≤ r ∧ r ≤ 57 then yl_ ys 0 (r - 48) else yb_ ys r
def gc_ (ys : List TkV) : GPh → Option (List TkV)
  | .idle => some ys
  | .num m => some (ys ++ [⟨48,(m : Int),0⟩])
  | .wait _ => none
def vo_ : List Nat → List TkV → GPh → Option (List TkV)
  | [],ys,ph => gc_ ys ph
  | r :: rs,ys,ph => match zN_ ys ph r with
    | none => none
    | some (ys',ph') => vo_ rs ys' ph'
theorem zbR {ys ys' : List TkV} {ph ph' : GPh} {r : Nat} (h : zN_ ys ph r = some (ys',ph')) : ys'.length + (pend ph').length ≤ ys.length + (pend ph).length + 1:=by
 have ho : ∀ bs : List TkV,yb_ bs r = some (ys',ph') → ys'.length + (pend ph').length ≤ bs.length + 1:=fun bs h => by
  unfold yb_ at h
  split at h
  · injection h with h; injection h with h1 h2; subst h1; subst h2; simp [pend]
  · split at h
    · split at h
      · injection h with h; injection h with h1 h2; subst h1; subst h2; simp [pend]
      · injection h with h; injection h with h1 h2; subst h1; subst h2; simp [pend]
    · cases h
 have hc : ∀ m x,yl_ ys m x = some (ys',ph') → ys'.length + (pend ph').length ≤ ys.length + 1:=fun m x h => by
  unfold yl_ at h
  split at h
  · cases h
  · injection h with h; injection h with h1 h2; subst h1; subst h2; simp [pend]
 cases ph with
 | wait q =>
   rw [zN_] at h
   split at h
   · injection h with h; injection h with h1 h2; subst h1; subst h2; simp [pend]
   · cases h
 | num m =>
   have e1 : (pend (.num m)).length = 1:=rfl
   rw [zN_] at h
   split at h
   · have:=hc _ _ h; omega
   · have:=ho _ h; rw [List.length_append,List.length_singleton] at this; omega
 | idle =>
   have e1 : (pend .idle).length = 0:=rfl
   rw [zN_] at h
   split at h
   · have:=hc _ _ h; omega
   · have:=ho _ h; omega
theorem ka_ {L rs : List Nat} {i r : Nat} (h : L.drop i = r :: rs) : L[i]? = some r ∧ L.drop (i + 1) = rs:=by
 have h1 : L[i]? = (L.drop i)[0]?:=by rw [List.getElem?_drop]; rfl
 refine ⟨by rw [h1,h]; rfl,?_⟩
 have : L.drop (i + 1) = (L.drop i).drop 1:=by rw [List.drop_drop]
 rw [this,h]; rfl
theorem jd_ {L : List Nat} {i : Nat} (h : L.drop i = []) : L[i]? = none:=by
 have:=List.drop_eq_nil_iff.1 h
 exact List.getElem?_eq_none this
theorem gb_ {L : List Nat} : ∀ (rs : List Nat) (i f m : Nat) (ys : List TkV),L.drop i = rs → rs.length ≤ f →
    (xz_ L f i m = none ∧ vo_ rs ys (.num m) = none) ∨ ∃ m' j,xz_ L f i m = some (m',j) ∧ i ≤ j ∧ vo_ rs ys (.num m) = vo_ (L.drop j) (ys ++ [⟨48,(m' : Int),0⟩]) .idle
  | [],i,f,m,ys,h,hf => by
    refine .inr ⟨m,i,?_,Nat.le_refl _,by rw [h]; rfl⟩
    cases f with
    | zero => rfl
    | succ f => rw [xz_,jd_ h]
  | r :: rs,i,f,m,ys,h,hf => by
    obtain ⟨h1,h2⟩:=ka_ h
    obtain ⟨f,rfl⟩ : ∃ f',f = f' + 1:=⟨f - 1,by simp at hf; omega⟩
    rw [xz_,h1]
    simp only
    by_cases hd : 48 ≤ r ∧ r ≤ 57
    · rw [if_pos hd]
      have hg : zN_ ys (.num m) r = yl_ ys m (r - 48):=by rw [zN_,if_pos hd]
      by_cases hb : (9223372036854775807 - (r - 48)) / 10 < m
      · left
        rw [if_pos hb,vo_,hg]
        unfold yl_
        rw [if_pos hb]
        exact ⟨rfl,rfl⟩
      · rw [if_neg hb,vo_,hg]
        unfold yl_
        rw [if_neg hb]
        simp only
        rcases gb_ rs (i + 1) f (m * 10 + (r - 48)) ys h2 (by simp at hf; omega) with h3 | ⟨m',j,h3,h4,h5⟩
        · exact .inl h3
        · exact .inr ⟨m',j,h3,by omega,h5⟩
    · rw [if_neg hd]
      refine .inr ⟨m,i,rfl,Nat.le_refl _,?_⟩
      rw [h,vo_,vo_]
      have e : zN_ ys (.num m) r = zN_ (ys ++ [⟨48,(m : Int),0⟩]) .idle r:=by
       rw [zN_,zN_,if_neg hd,if_neg hd]
      rw [e]
theorem u0_ (r : Nat) : zW_ (r : Int) = true ↔ r = 955 ∨ r = 960:=by unfold zW_; simp; omega
theorem vL_ {L : List Nat} : ∀ (k : Nat) (i f : Nat) (ys : List TkV),L.length - i ≤ k → L.length - i < f → vo_ (L.drop i) ys .idle = xX_ L f i ys
  | k,i,f,ys,hk,hf => by
    obtain ⟨f,rfl⟩ : ∃ f',f = f' + 1:=⟨f - 1,by omega⟩
    rw [xX_]
    cases hr : L.drop i with
    | nil => rw [jd_ hr]; rfl
    | cons r rs =>
      obtain ⟨h1,h2⟩:=ka_ hr
      have hil : i < L.length:=(List.getElem?_eq_some_iff.1 h1).1
      have hrl : rs.length = L.length - (i + 1):=by rw [← h2,List.length_drop]
      obtain ⟨k,rfl⟩ : ∃ k',k = k' + 1:=⟨k - 1,by omega⟩
      rw [h1]
      simp only
      rw [vo_]
      by_cases h32 : r = 32
      · subst h32
        rw [if_pos rfl,show zN_ ys .idle 32 = some (ys,.idle) from rfl]
        simp only
        rw [← h2]
        exact vL_ k (i + 1) f ys (by omega) (by omega)
      rw [if_neg h32]
      by_cases hd : 48 ≤ r ∧ r ≤ 57
      · rw [if_pos hd]
        have hg : zN_ ys .idle r = some (ys,.num (r - 48)):=by
         rw [zN_,if_pos hd]
         unfold yl_
         rw [if_neg (by omega)]
         simp
        have hn : xz_ L L.length i 0 = xz_ L (L.length - 1) (i + 1) (r - 48):=by
         obtain ⟨n,hn⟩ : ∃ n,L.length = n + 1:=⟨L.length - 1,by omega⟩
         rw [hn,xz_,h1]
         simp only
         rw [if_pos hd,if_neg (by omega)]
         simp
        rw [hg,hn]
        simp only
        rcases gb_ rs (i + 1) (L.length - 1) (r - 48) ys h2 (by omega) with ⟨h3,h4⟩ | ⟨m',j,h3,h4,h5⟩
        · rw [h3,h4]
        · rw [h3,h5]
          exact vL_ k j f _ (by omega) (by omega)
      rw [if_neg hd]
      have hgo : zN_ ys .idle r = yb_ ys r:=by rw [zN_,if_neg hd]
      rw [hgo]
      unfold yb_
      rw [if_neg h32]
      by_cases hnm : r = 955 ∨ r = 960
      · rw [if_pos hnm]
        have hk : zP_ (r : Int) = true:=by rcases hnm with rfl | rfl <;> decide
        rw [if_pos hk,if_pos ((u0_ r).2 hnm)]
        simp only
        cases hrs : rs with
        | nil =>
          rw [hrs] at h2
          rw [jd_ h2]
          rfl
        | cons x xs =>
          rw [hrs] at h2
          obtain ⟨h3,h4⟩:=ka_ h2
          rw [h3]
          simp only
          rw [vo_]
          by_cases hnx : zU_ (x : Int) = true
          · rw [if_pos hnx,show zN_ ys (.wait r) x = some (ys ++ [⟨(r : Int),0,(x : Int)⟩],.idle) from by rw [zN_,if_pos hnx]]
            simp only
            rw [← h4]
            exact vL_ k (i + 2) f _ (by omega) (by omega)
          · rw [if_neg hnx,show zN_ ys (.wait r) x = none from by rw [zN_,if_neg hnx]]
      · rw [if_neg hnm]
        by_cases hk : zP_ (r : Int) = true
        · rw [if_pos hk,if_pos hk,if_neg (fun h => hnm ((u0_ r).1 h))]
          simp only
          rw [← h2]
          exact vL_ k (i + 1) f _ (by omega) (by omega)
        · rw [if_neg hk,if_neg hk]
theorem k7_ (s : ByteArray) (h : ¬ 512 < s.size) : xU_ s = vo_ (z6_ s) [] .idle:=by
 unfold xU_
 rw [if_neg h]
 have:=vL_ (L:=z6_ s) (z6_ s).length 0 ((z6_ s).length + 1) [] (by omega) (by omega)
 rw [List.drop_zero] at this
 exact this.symm
end Go.Proofs.YtbkfhndmeljlcaaGreatDoor
namespace Go.Proofs.YtbkfhndmeljlcaaGreatDoor
open Go.RowKit
def gSt : List Nat → List TkV → GPh → Option (List TkV × GPh)
  | [],ys,ph => some (ys,ph)
  | r :: rs,ys,ph => match zN_ ys ph r with
    | none => none
    | some (ys',ph') => gSt rs ys' ph'
theorem qu_ : ∀ (a b : List Nat) (ys : List TkV) (ph : GPh),gSt (a ++ b) ys ph = (gSt a ys ph).bind fun q => gSt b q.1 q.2
  | [],b,ys,ph => rfl
  | r :: a,b,ys,ph => by
    rw [List.cons_append,gSt,gSt]
    cases zN_ ys ph r with
    | none => rfl
    | some q => exact qu_ a b q.1 q.2
theorem zbT : ∀ (a : List Nat) (ys : List TkV) (ph : GPh),vo_ a ys ph = (gSt a ys ph).bind fun q => gc_ q.1 q.2
  | [],ys,ph => rfl
  | r :: a,ys,ph => by
    rw [vo_,gSt]
    cases zN_ ys ph r with
    | none => rfl
    | some q => exact zbT a q.1 q.2
theorem kJ_ {ys : List TkV} {ph : GPh} {ts : List TkV} (h : gc_ ys ph = some ts) (r : Nat) (hr : ¬ (48 ≤ r ∧ r ≤ 57)) : zN_ ys ph r = yb_ ts r:=by
 cases ph with
 | wait q => cases h
 | num m =>
   rw [gc_] at h
   injection h with h
   rw [zN_,if_neg hr,h]
 | idle =>
   rw [gc_] at h
   injection h with h
   rw [zN_,if_neg hr,h]
end Go.Proofs.YtbkfhndmeljlcaaGreatDoor
namespace Go.Proofs.YtbkfhndmeljlcaaGreatDoor
open Go.RowKit
open Go.Lib
def rl (l : List UInt8) : List Nat:=z6_ ⟨l.toArray⟩
theorem zdJ (a b : List UInt8) : (⟨(a ++ b).toArray⟩ : ByteArray) = ⟨a.toArray⟩ ++ ⟨b.toArray⟩:=by
 apply ByteArray.ext
 simp
theorem xg_ (a : List UInt8) : (⟨a.toArray⟩ : ByteArray).size = a.length:=by
 show a.toArray.size = _
 simp
theorem yy_ (a : List UInt8) (i : Nat) : (⟨a.toArray⟩ : ByteArray).get! i = a.getD i 0:=by
 show a.toArray[i]! = _
 simp [List.getD,getElem!_def]
 cases a[i]? <;> rfl
theorem zaW (c t : List UInt8) (r : Nat) (hc : 0 < c.length) (hd : Utf8.decode ⟨(c ++ t).toArray⟩ 0 = (r,c.length)) : rl (c ++ t) = r :: rl t:=by
 unfold rl z6_
 rw [xg_,List.length_append]
 obtain ⟨k,hk⟩ : ∃ k,c.length = k + 1:=⟨c.length - 1,by omega⟩
 rw [show c.length + t.length = (k + t.length) + 1 from by omega,zv_,if_pos (by rw [xg_,List.length_append]; omega),hd]
 have h2:=vC_ ⟨c.toArray⟩ ⟨t.toArray⟩ (k + t.length) 0
 rw [xg_,← zdJ] at h2
 simp only [Nat.zero_add,Nat.add_zero] at h2 ⊢
 rw [h2,xg_,ug_ _ t.length (k + t.length) 0 (by rw [xg_]; omega) (by omega)]
theorem qh_ (b : UInt8) (hb : b.toNat < 128) (t : List UInt8) : rl (b :: t) = b.toNat :: rl t:=by
 refine zaW [b] t b.toNat (by simp) ?_
 rw [decode_at,yy_]
 unfold decodeN
 show (if b.toNat < 128 then _ else _) = _
 rw [if_pos hb]
 rfl
def okR (r : Int) : Prop:=(0 ≤ r ∧ r < 55296) ∨ (57343 < r ∧ r ≤ 1114111)
theorem zcv (z : Int) (h0 : 0 ≤ z) (h : z < 256) : (z.toNat.toUInt8).toNat = z.toNat:=by
 have : z.toNat < 256:=by omega
 simp; omega
theorem zeK (r : Int) (hr : okR r) (t : List UInt8) : Utf8.decode ⟨(encodeRune r ++ t).toArray⟩ 0 = (r.toNat,(encodeRune r).length):=by
 have hc : (0 ≤ r ∧ r ≤ 127) ∨ (128 ≤ r ∧ r ≤ 2047) ∨ ((2048 ≤ r ∧ r < 55296) ∨ (57343 < r ∧ r ≤ 65535)) ∨ (65536 ≤ r ∧ r ≤ 1114111):=by unfold okR at hr; omega
 unfold encodeRune
 rcases hc with h | h | h | h
 · rw [encodeRuneZ_one h.1 h.2]
   have e0:=zcv r h.1 (by omega)
   rw [decode_at,xg_,yy_,yy_,yy_,yy_]
   simp only [List.map_cons,List.map_nil,List.cons_append,List.nil_append,List.getD_cons_zero,List.getD_cons_succ,List.length_cons,List.length_nil,Nat.zero_add]
   rw [e0]
   unfold decodeN
   rw [if_pos (by omega)]
 · rw [encodeRuneZ_two h.1 h.2]
   have e0:=zcv (192 + r / 64) (by omega) (by omega)
   have e1:=zcv (128 + r % 64) (by omega) (by omega)
   rw [decode_at,xg_,yy_,yy_,yy_,yy_]
   simp only [List.map_cons,List.map_nil,List.cons_append,List.nil_append,List.getD_cons_zero,List.getD_cons_succ,List.length_cons,List.length_nil,Nat.zero_add]
   rw [e0,e1]
   unfold decodeN
   rw [if_neg (by omega),if_pos (by omega),if_pos (by omega)]
   apply Prod.ext
   · simp only; omega
   · rfl
 · rw [encodeRuneZ_three h]
   have e0:=zcv (224 + r / 4096) (by omega) (by omega)
   have e1:=zcv (128 + r / 64 % 64) (by omega) (by omega)
   have e2:=zcv (128 + r % 64) (by omega) (by omega)
   rw [decode_at,xg_,yy_,yy_,yy_,yy_]
   simp only [List.map_cons,List.map_nil,List.cons_append,List.nil_append,List.getD_cons_zero,List.getD_cons_succ,List.length_cons,List.length_nil,Nat.zero_add]
   rw [e0,e1,e2]
   unfold decodeN
   rw [if_neg (by omega),if_neg (by omega),if_pos (by omega),if_pos (by omega)]
   apply Prod.ext
   · simp only; omega
   · rfl
 · rw [encodeRuneZ_four h.1 h.2]
   have e0:=zcv (240 + r / 262144) (by omega) (by omega)
   have e1:=zcv (128 + r / 4096 % 64) (by omega) (by omega)
   have e2:=zcv (128 + r / 64 % 64) (by omega) (by omega)
   have e3:=zcv (128 + r % 64) (by omega) (by omega)
   rw [decode_at,xg_,yy_,yy_,yy_,yy_]
   simp only [List.map_cons,List.map_nil,List.cons_append,List.nil_append,List.getD_cons_zero,List.getD_cons_succ,List.length_cons,List.length_nil,Nat.zero_add]
   rw [e0,e1,e2,e3]
   unfold decodeN
   rw [if_neg (by omega),if_neg (by omega),if_neg (by omega),if_pos (by omega),if_pos (by omega)]
   apply Prod.ext
   · simp only; omega
   · rfl
theorem zca (r : Int) : 1 ≤ (encodeRune r).length:=by
 unfold encodeRune
 rw [List.length_map]
 exact (encodeRuneZ_length r).1
theorem zaX (r : Int) (hr : okR r) (t : List UInt8) : rl (encodeRune r ++ t) = r.toNat :: rl t :=
 zaW _ t r.toNat (by have:=zca r; omega) (zeK r hr t)
def txB : Bool → List TkV → List UInt8
  | _,[] => []
  | nb,t :: l =>
    if t.sign = 48 then (if nb then [32] else []) ++ (decDigits t.n.toNat ++ txB true l)
    else if zW_ t.sign = true then (if zU_ t.name = true then encodeRune t.sign ++ (encodeRune t.name ++ txB false l) else txB nb l)
    else if zP_ t.sign = true then encodeRune t.sign ++ txB false l
    else txB nb l
def txN : Bool → List TkV → Bool
  | nb,[] => nb
  | nb,t :: l =>
    if t.sign = 48 then txN true l
    else if zW_ t.sign = true then (if zU_ t.name = true then txN false l else txN nb l)
    else if zP_ t.sign = true then txN false l
    else txN nb l
theorem uN_ : ∀ (a b : List TkV) (nb : Bool),txB nb (a ++ b) = txB nb a ++ txB (txN nb a) b
  | [],b,nb => rfl
  | t :: a,b,nb => by
    rw [List.cons_append,txB,txB,txN]
    repeat' split
    all_goals simp only [List.append_assoc,uN_ a b]
def gr_ (t : TkV) : Prop :=
 (t.sign = 48 ∧ 0 ≤ t.n ∧ t.n ≤ 9223372036854775807 ∧ t.name = 0) ∨
 (zW_ t.sign = true ∧ t.n = 0 ∧ zU_ t.name = true) ∨
 (t.sign ≠ 48 ∧ zW_ t.sign = false ∧ zP_ t.sign = true ∧ t.n = 0 ∧ t.name = 0)
def zeS : GPh → Prop
  | .idle => True
  | .num m => m ≤ 9223372036854775807
  | .wait q => zW_ (q : Int) = true
theorem k1_ {r : Int} (h : zU_ r = true) : okR r ∧ r ≠ 65533 ∧ (97 ≤ r):=by
 unfold zU_ at h
 unfold okR
 simp at h
 omega
theorem xB_ {r : Int} (h : zP_ r = true) : okR r ∧ r ≠ 65533 ∧ 33 ≤ r ∧ ¬ (48 ≤ r ∧ r ≤ 57):=by
 unfold zP_ at h
 unfold okR
 simp only [Bool.or_eq_true,Bool.and_eq_true,decide_eq_true_eq,List.any_eq_true,beq_iff_eq] at h
 rcases h with (h | h) | ⟨x,hx,e⟩
 · omega
 · omega
 · have : x = 43 ∨ x = 45 ∨ x = 42 ∨ x = 47 ∨ x = 37 ∨ x = 38 ∨ x = 124 ∨ x = 94 ∨ x = 60 ∨ x = 61 ∨ x = 33 ∨ x = 46 ∨ x = 44 ∨ x = 64 ∨ x = 36 ∨ x = 35 ∨ x = 63 ∨ x = 58 ∨ x = 59 ∨ x = 91 ∨ x = 93 ∨ x = 126 ∨ x = 171 ∨ x = 187 ∨ x = 169 ∨ x = 174 ∨ x = 164 ∨ x = 161 ∨ x = 955 ∨ x = 960:=by
    simpa [kR_] using hx
   omega
theorem xN_ {r : Int} (h : zW_ r = true) : zP_ r = true ∧ r ≠ 48:=by
 unfold zW_ at h
 simp at h
 rcases h with rfl | rfl
 · exact ⟨by decide,by decide⟩
 · exact ⟨by decide,by decide⟩
theorem jV_ {bs ys' : List TkV} {ph' : GPh} {r : Nat} (h : yb_ bs r = some (ys',ph')) (hb : ∀ t ∈ bs,gr_ t) : (∀ t ∈ ys',gr_ t) ∧ zeS ph':=by
 unfold yb_ at h
 split at h
 · injection h with h; injection h with h1 h2; subst h1; subst h2; exact ⟨hb,trivial⟩
 · split at h
   · rename_i hk
     split at h
     · rename_i hn
       injection h with h; injection h with h1 h2; subst h1; subst h2; exact ⟨hb,hn⟩
     · rename_i hn
       injection h with h; injection h with h1 h2; subst h1; subst h2
       refine ⟨fun t ht => ?_,trivial⟩
       rcases List.mem_append.1 ht with ht | ht
       · exact hb t ht
       · rw [List.mem_singleton] at ht
         subst ht
         have:=xB_ hk
         exact .inr (.inr ⟨by simp only; omega,by simpa using hn,hk,rfl,rfl⟩)
   · cases h
theorem jW_ {bs ys' : List TkV} {ph' : GPh} {m x : Nat} (h : yl_ bs m x = some (ys',ph')) (hx : x ≤ 9) (hb : ∀ t ∈ bs,gr_ t) : (∀ t ∈ ys',gr_ t) ∧ zeS ph':=by
 unfold yl_ at h
 split at h
 · cases h
 · injection h with h; injection h with h1 h2; subst h1; subst h2
   exact ⟨hb,by show m * 10 + x ≤ _; omega⟩
theorem q9_ {ys ys' : List TkV} {ph ph' : GPh} {r : Nat} (h : zN_ ys ph r = some (ys',ph')) (hb : ∀ t ∈ ys,gr_ t) (hp : zeS ph) : (∀ t ∈ ys',gr_ t) ∧ zeS ph':=by
 cases ph with
 | wait q =>
   rw [zN_] at h
   split at h
   · rename_i hn
     injection h with h; injection h with h1 h2; subst h1; subst h2
     refine ⟨fun t ht => ?_,trivial⟩
     rcases List.mem_append.1 ht with ht | ht
     · exact hb t ht
     · rw [List.mem_singleton] at ht
       subst ht
       exact .inr (.inl ⟨hp,rfl,hn⟩)
   · cases h
 | num m =>
   rw [zN_] at h
   split at h
   · exact jW_ h (by omega) hb
   · refine jV_ h (fun t ht => ?_)
     rcases List.mem_append.1 ht with ht | ht
     · exact hb t ht
     · rw [List.mem_singleton] at ht
       subst ht
       exact .inl ⟨rfl,by simp only; omega,by have : m ≤ 9223372036854775807:=hp; simp only; omega,rfl⟩
 | idle =>
   rw [zN_] at h
   split at h
   · exact jW_ h (by omega) hb
   · exact jV_ h hb
theorem qv_ : ∀ (rs : List Nat) {ys ts : List TkV} {ph : GPh},vo_ rs ys ph = some ts → (∀ t ∈ ys,gr_ t) → zeS ph → ∀ t ∈ ts,gr_ t
  | [],ys,ts,ph,h,hb,hp => by
    rw [vo_] at h
    cases ph with
    | idle => rw [gc_] at h; injection h with h; subst h; exact hb
    | num m =>
      rw [gc_] at h; injection h with h; subst h
      intro t ht
      rcases List.mem_append.1 ht with ht | ht
      · exact hb t ht
      · rw [List.mem_singleton] at ht
        subst ht
        exact .inl ⟨rfl,by simp only; omega,by have : m ≤ 9223372036854775807:=hp; simp only; omega,rfl⟩
    | wait q => cases h
  | r :: rs,ys,ts,ph,h,hb,hp => by
    rw [vo_] at h
    cases hq : zN_ ys ph r with
    | none => rw [hq] at h; cases h
    | some q =>
      rw [hq] at h
      obtain ⟨a,b⟩:=q9_ (ys':=q.1) (ph':=q.2) hq hb hp
      exact qv_ rs h a b
theorem zdH : ∀ (n : Nat) (t : List UInt8),rl (decDigits n ++ t) = (decDigits n).map UInt8.toNat ++ rl t:=by
 intro n
 induction n using Nat.strongRecOn with
 | _ n ih =>
   intro t
   by_cases h : n < 10
   · rw [decDigits_one h]
     have e : (UInt8.ofNat (48 + n)).toNat = 48 + n:=by simp; omega
     exact qh_ _ (by rw [e]; omega) t
   · rw [decDigits,dif_neg h,List.append_assoc,ih (n / 10) (by omega),List.map_append,List.append_assoc]
     have e : (UInt8.ofNat (48 + n % 10)).toNat = 48 + n % 10:=by simp; omega
     rw [show [UInt8.ofNat (48 + n % 10)] ++ t = UInt8.ofNat (48 + n % 10) :: t from rfl,qh_ _ (by rw [e]; omega) t]
     rfl
theorem zeH : ∀ (n : Nat) (P : List TkV),n ≤ 9223372036854775807 → gSt ((decDigits n).map UInt8.toNat) P .idle = some (P,.num n):=by
 intro n
 induction n using Nat.strongRecOn with
 | _ n ih =>
   intro P hn
   by_cases h : n < 10
   · rw [decDigits_one h]
     have e : (UInt8.ofNat (48 + n)).toNat = 48 + n:=by simp; omega
     rw [List.map_cons,List.map_nil,e,gSt,zN_,if_pos (by omega),yl_,if_neg (by omega)]
     simp only [gSt]
     congr 3
     omega
   · rw [decDigits,dif_neg h,List.map_append,qu_,ih (n / 10) (by omega) P (by omega)]
     have e : (UInt8.ofNat (48 + n % 10)).toNat = 48 + n % 10:=by simp; omega
     rw [List.map_cons,List.map_nil,e]
     simp only [Option.bind_some]
     rw [gSt,zN_,if_pos (by omega),yl_,if_neg (by omega)]
     simp only [gSt]
     congr 3
     omega
theorem uB_ (r : Nat) (rs : List Nat) (ys : List TkV) (ph : GPh) : gSt (r :: rs) ys ph = (zN_ ys ph r).bind fun q => gSt rs q.1 q.2:=by
 rw [gSt]
 cases zN_ ys ph r <;> rfl
theorem kN_ : ∀ (l : List TkV) (t : List UInt8) (ys P : List TkV) (ph : GPh),(∀ x ∈ l,gr_ x) → gc_ ys ph = some P →
    ∃ rs ys' ph',rl (txB (y0_ ph) l ++ t) = rs ++ rl t ∧ gSt rs ys ph = some (ys',ph') ∧ gc_ ys' ph' = some (P ++ l)
  | [],t,ys,P,ph,_,he => ⟨[],ys,ph,rfl,rfl,by simpa using he⟩
  | x :: l,t,ys,P,ph,hok,he => by
    have hx:=hok x (by simp)
    have hl : ∀ y ∈ l,gr_ y:=fun y hy => hok y (by simp [hy])
    have app : ∀ y : TkV,P ++ x :: l = (P ++ [x]) ++ l:=fun y => by simp
    rcases hx with ⟨h1,h2,h3,h4⟩ | ⟨h1,h2,h3⟩ | ⟨h0,h1,h2,h3,h4⟩
    · obtain ⟨n,hn⟩ : ∃ n : Nat,x.n = (n : Int):=⟨x.n.toNat,by omega⟩
      have hxe : x = ⟨48,(n : Int),0⟩:=by
       cases x
       simp only at h1 hn h4
       rw [h1,hn,h4]
      subst hxe
      have hn2 : n ≤ 9223372036854775807:=by simp only at h3; omega
      obtain ⟨rs,ys',ph',e1,e2,e3⟩:=kN_ l t P (P ++ [⟨48,(n : Int),0⟩]) (.num n) hl rfl
      have hcn : y0_ (.num n) = true:=rfl
      rw [hcn] at e1
      have key : gSt ((decDigits n).map UInt8.toNat ++ rs) P .idle = some (ys',ph'):=by
       rw [qu_,zeH n P hn2]
       exact e2
      rw [app ⟨0,0,0⟩]
      have hb : txB (y0_ ph) (⟨48,(n : Int),0⟩ :: l) = (if y0_ ph then [32] else []) ++ (decDigits n ++ txB true l):=by
       rw [txB,if_pos rfl]
       simp
      rw [hb]
      cases ph with
      | idle =>
        rw [gc_] at he
        injection he with he
        subst he
        refine ⟨_,ys',ph',?_,key,e3⟩
        show rl ([] ++ (decDigits n ++ txB true l) ++ t) = _
        rw [List.nil_append,List.append_assoc,zdH,e1,List.append_assoc]
      | num m =>
        rw [gc_] at he
        injection he with he
        refine ⟨32 :: ((decDigits n).map UInt8.toNat ++ rs),ys',ph',?_,?_,e3⟩
        · show rl ([32] ++ (decDigits n ++ txB true l) ++ t) = _
          rw [List.append_assoc,show [(32 : UInt8)] ++ (decDigits n ++ txB true l ++ t) = 32 :: (decDigits n ++ txB true l ++ t) from rfl,qh_ 32 (by decide),List.append_assoc,zdH,e1]
          simp
        · rw [uB_,zN_,if_neg (by omega),he,yb_,if_pos rfl]
          exact key
      | wait q => cases he
    · obtain ⟨hk,h48⟩:=xN_ h1
      obtain ⟨ho,_,hge,hnd⟩:=xB_ hk
      obtain ⟨ho2,_,hge2⟩:=k1_ h3
      obtain ⟨q,hq⟩ : ∃ q : Nat,x.sign = (q : Int):=⟨x.sign.toNat,by omega⟩
      obtain ⟨z,hz⟩ : ∃ z : Nat,x.name = (z : Int):=⟨x.name.toNat,by omega⟩
      have hxe : x = ⟨(q : Int),0,(z : Int)⟩:=by cases x; simp_all
      subst hxe
      simp only at h1 h3 hk h48 ho hge hnd ho2 hge2
      obtain ⟨rs,ys',ph',e1,e2,e3⟩:=kN_ l t (P ++ [⟨(q : Int),0,(z : Int)⟩]) (P ++ [⟨(q : Int),0,(z : Int)⟩]) .idle hl rfl
      have hcn : y0_ .idle = false:=rfl
      rw [hcn] at e1
      refine ⟨q :: z :: rs,ys',ph',?_,?_,by rw [app ⟨0,0,0⟩]; exact e3⟩
      · rw [txB,if_neg h48,if_pos h1,if_pos h3,List.append_assoc,List.append_assoc,zaX _ ho,zaX _ ho2,e1]
        rfl
      · rw [uB_,kJ_ he q (by omega),yb_,if_neg (by omega),if_pos hk,if_pos h1]
        simp only [Option.bind_some]
        rw [uB_,zN_,if_pos h3]
        exact e2
    · obtain ⟨ho,_,hge,hnd⟩:=xB_ h2
      obtain ⟨q,hq⟩ : ∃ q : Nat,x.sign = (q : Int):=⟨x.sign.toNat,by omega⟩
      have hxe : x = ⟨(q : Int),0,0⟩:=by cases x; simp_all
      subst hxe
      simp only at h0 h1 h2 ho hge hnd
      obtain ⟨rs,ys',ph',e1,e2,e3⟩:=kN_ l t (P ++ [⟨(q : Int),0,0⟩]) (P ++ [⟨(q : Int),0,0⟩]) .idle hl rfl
      have hcn : y0_ .idle = false:=rfl
      rw [hcn] at e1
      refine ⟨q :: rs,ys',ph',?_,?_,by rw [app ⟨0,0,0⟩]; exact e3⟩
      · rw [txB,if_neg h0,if_neg (by rw [h1]; decide),if_pos h2,List.append_assoc,zaX _ ho,e1]
        rfl
      · rw [uB_,kJ_ he q (by omega),yb_,if_neg (by omega),if_pos h2,if_neg (by rw [h1]; decide)]
        exact e2
theorem zeY (l : List TkV) (h : ∀ x ∈ l,gr_ x) : vo_ (rl (txB false l)) [] .idle = some l:=by
 obtain ⟨rs,ys',ph',e1,e2,e3⟩:=kN_ l [] [] [] .idle h rfl
 have hn : rl [] = []:=rfl
 rw [List.append_nil,hn,List.append_nil] at e1
 rw [show txB false l = txB (y0_ .idle) l from rfl,e1,zbT,e2]
 exact e3
theorem uM_ : ∀ (a b : List TkV) (nb : Bool),txN nb (a ++ b) = txN (txN nb a) b
  | [],b,nb => rfl
  | t :: a,b,nb => by
    rw [List.cons_append,txN,txN]
    repeat' split
    all_goals exact uM_ a b _
def bb (b : Bool) : Nat:=if b then 1 else 0
def pot (ys : List TkV) : GPh → Nat
  | .idle => (txB false ys).length + bb (txN false ys)
  | .num m => (txB false ys).length + bb (txN false ys) + (decDigits m).length
  | .wait q => (txB false ys).length + (encodeRune (q : Int)).length
theorem zbe (ys : List TkV) (m : Nat) : (txB false (ys ++ [⟨48,(m : Int),0⟩])).length = pot ys (.num m) ∧ txN false (ys ++ [⟨48,(m : Int),0⟩]) = true:=by
 rw [uN_,uM_,List.length_append]
 have e : txB (txN false ys) [⟨48,(m : Int),0⟩] = (if txN false ys then [32] else []) ++ (decDigits m ++ []):=by
  rw [txB,if_pos rfl]
  simp only [Int.toNat_natCast]
  rfl
 have e2 : txN (txN false ys) [⟨48,(m : Int),0⟩] = true:=by
  rw [txN,if_pos rfl]
  rfl
 rw [e,e2,pot]
 refine ⟨?_,rfl⟩
 cases txN false ys <;> simp [bb] <;> omega
theorem zeJ (m x : Nat) (hx : x ≤ 9) : (decDigits (m * 10 + x)).length ≤ (decDigits m).length + 1:=by
 by_cases h : m * 10 + x < 10
 · rw [decDigits_one h]
   simp
 · rw [decDigits,dif_neg h,List.length_append,show (m * 10 + x) / 10 = m from by omega]
   simp
theorem zab {bs ys' : List TkV} {ph' : GPh} {r : Nat} (h : yb_ bs r = some (ys',ph')) (hw : ¬ (48 ≤ r ∧ r ≤ 57)) : pot ys' ph' ≤ pot bs .idle + (encodeRune (r : Int)).length:=by
 unfold yb_ at h
 split at h
 · injection h with h; injection h with h1 h2; subst h1; subst h2; omega
 · split at h
   · rename_i hk
     split at h
     · injection h with h; injection h with h1 h2; subst h1; subst h2
       simp only [pot]; omega
     · rename_i hn
       injection h with h; injection h with h1 h2; subst h1; subst h2
       simp only [pot]
       have hn' : ¬ zW_ (r : Int) = true:=hn
       rw [uN_,uM_,List.length_append,txB,txN,if_neg (by simp only; omega),if_neg hn',if_pos hk,if_neg (by simp only; omega),if_neg hn',if_pos hk,txB,txN]
       simp [bb]; try omega
   · cases h
theorem zbQ {ys ys' : List TkV} {ph ph' : GPh} {r : Nat} (h : zN_ ys ph r = some (ys',ph')) (hp : zeS ph) : pot ys' ph' ≤ pot ys ph + (encodeRune (r : Int)).length ∧ (r : Int) ≠ 65533:=by
 have he:=zca (r : Int)
 have ho : ∀ bs,yb_ bs r = some (ys',ph') → (r : Int) ≠ 65533:=fun bs h => by
  unfold yb_ at h
  split at h
  · omega
  · split at h
    · rename_i hk
      exact (xB_ hk).2.1
    · cases h
 cases ph with
 | wait q =>
   rw [zN_] at h
   split at h
   · rename_i hn
     injection h with h; injection h with h1 h2; subst h1; subst h2
     refine ⟨?_,(k1_ hn).2.1⟩
     have hq : zW_ (q : Int) = true:=hp
     have h48:=(xN_ hq).2
     simp only [pot]
     rw [uN_,uM_,List.length_append,txB,txN,if_neg h48,if_pos hq,if_pos hn,if_neg h48,if_pos hq,if_pos hn,txB,txN]
     simp [bb]; omega
   · cases h
 | num m =>
   rw [zN_] at h
   split at h
   · rename_i hd
     refine ⟨?_,by omega⟩
     unfold yl_ at h
     split at h
     · cases h
     · injection h with h; injection h with h1 h2; subst h1; subst h2
       have:=zeJ m (r - 48) (by omega)
       simp only [pot]; omega
   · rename_i hd
     refine ⟨?_,ho _ h⟩
     unfold yb_ at h
     obtain ⟨k1,k2⟩:=zbe ys m
     split at h
     · injection h with h; injection h with h1 h2; subst h1; subst h2
       have e : pot (ys ++ [⟨48,(m : Int),0⟩]) .idle = (txB false (ys ++ [⟨48,(m : Int),0⟩])).length + bb (txN false (ys ++ [⟨48,(m : Int),0⟩])):=rfl
       rw [e,k1,k2]
       simp [bb]; try omega
     · split at h
       · rename_i hk
         split at h
         · injection h with h; injection h with h1 h2; subst h1; subst h2
           rw [← k1]
           simp only [pot]; omega
         · rename_i hn
           have hn' : ¬ zW_ (r : Int) = true:=hn
           injection h with h; injection h with h1 h2; subst h1; subst h2
           rw [← k1]
           have e : ∀ zs : List TkV,pot zs .idle = (txB false zs).length + bb (txN false zs):=fun _ => rfl
           rw [e,uN_ _ [⟨(r : Int),0,0⟩],uM_ _ [⟨(r : Int),0,0⟩],List.length_append,txB,txN,if_neg (by simp only; omega),if_neg hn',if_pos hk,if_neg (by simp only; omega),if_neg hn',if_pos hk,txB,txN]
           simp [bb]; try omega
       · cases h
 | idle =>
   rw [zN_] at h
   split at h
   · rename_i hd
     refine ⟨?_,by omega⟩
     unfold yl_ at h
     split at h
     · cases h
     · injection h with h; injection h with h1 h2; subst h1; subst h2
       have e1 : (decDigits (0 * 10 + (r - 48))).length = 1:=by rw [decDigits_one (by omega)]; rfl
       simp only [pot]; omega
   · rename_i hd
     exact ⟨zab h hd,ho _ h⟩
def zdU : List Nat → Nat
  | [] => 0
  | r :: rs => (encodeRune (r : Int)).length + zdU rs
theorem ga_ : ∀ (rs : List Nat) {ys ts : List TkV} {ph : GPh},vo_ rs ys ph = some ts → (∀ t ∈ ys,gr_ t) → zeS ph → (txB false ts).length ≤ pot ys ph + zdU rs ∧ ∀ r ∈ rs,(r : Int) ≠ 65533
  | [],ys,ts,ph,h,hb,hp => by
    refine ⟨?_,fun r hr => by simp at hr⟩
    rw [vo_] at h
    cases ph with
    | idle => rw [gc_] at h; injection h with h; subst h; simp only [pot]; omega
    | num m => rw [gc_] at h; injection h with h; subst h; rw [(zbe ys m).1]; omega
    | wait q => cases h
  | r :: rs,ys,ts,ph,h,hb,hp => by
    rw [vo_] at h
    cases hq : zN_ ys ph r with
    | none => rw [hq] at h; cases h
    | some q =>
      rw [hq] at h
      obtain ⟨a,b⟩:=q9_ (ys':=q.1) (ph':=q.2) hq hb hp
      obtain ⟨c,d⟩:=zbQ (ys':=q.1) (ph':=q.2) hq hp
      obtain ⟨e,f⟩:=ga_ rs h a b
      refine ⟨by rw [zdU]; omega,fun x hx => ?_⟩
      rcases List.mem_cons.1 hx with rfl | hx
      · exact d
      · exact f x hx
theorem zai (s : ByteArray) (p : Nat) (h : p < s.size) (hr : (Utf8.decode s p).1 ≠ 65533) : (encodeRune ((Utf8.decode s p).1 : Int)).length = (Utf8.decode s p).2 ∧ p + (Utf8.decode s p).2 ≤ s.size:=by
 have hd : Utf8.decode s p = decodeL (s.data.toList.drop p):=by
  unfold decodeL
  have e : s = ⟨(s.data.toList.take p).toArray⟩ ++ ⟨(s.data.toList.drop p).toArray⟩:=by
   rw [← zdJ,List.take_append_drop]
  have hl : (⟨(s.data.toList.take p).toArray⟩ : ByteArray).size = p:=by
   rw [xg_,List.length_take]
   have : s.data.toList.length = s.size:=rfl
   omega
  have:=uj_ ⟨(s.data.toList.take p).toArray⟩ ⟨(s.data.toList.drop p).toArray⟩ 0
  rw [← e,hl,Nat.add_zero] at this
  exact this
 have hlen : s.data.toList.length = s.size:=rfl
 have hne : s.data.toList.drop p ≠ []:=by
  intro hh
  have:=congrArg List.length hh
  rw [List.length_drop,List.length_nil] at this
  omega
 have hle : p + (Utf8.decode s p).2 ≤ s.size:=by
  rw [decode_at]
  have:=decodeN_le_n' (s.size - p) (s.get! p).toNat (s.get! (p + 1)).toNat (s.get! (p + 2)).toNat (s.get! (p + 3)).toNat (by omega)
  omega
 refine ⟨?_,hle⟩
 have hk:=encode_decode (s.data.toList.drop p) hne (fun hh => by rw [← hd] at hh; exact hr hh.1)
 rw [← hd] at hk
 rw [hk,List.length_take,List.length_drop]
 omega
theorem zaG (s : ByteArray) : ∀ (f p : Nat),p ≤ s.size → (∀ r ∈ zv_ s f p,(r : Int) ≠ 65533) → zdU (zv_ s f p) ≤ s.size - p
  | 0,p,_,_ => by rw [zv_,zdU]; omega
  | f + 1,p,hp,h => by
    rw [zv_] at h ⊢
    by_cases hlt : p < s.size
    · rw [if_pos hlt] at h ⊢
      obtain ⟨a,b⟩:=zai s p hlt (fun e => h _ (List.mem_cons_self ..) (by rw [e]; rfl))
      have:=zaG s f (p + (Utf8.decode s p).2) b (fun r hr => h r (by simp [hr]))
      have hw:=y6_ s p hlt
      rw [zdU,a]
      omega
    · rw [if_neg hlt,zdU]; omega
theorem zeZ {s : ByteArray} {ts : List TkV} (h : vo_ (z6_ s) [] .idle = some ts) : (txB false ts).length ≤ s.size:=by
 obtain ⟨a,b⟩:=ga_ _ h (fun t ht => by simp at ht) trivial
 have c:=zaG s s.size 0 (by omega) b
 have e : pot [] .idle = 0:=rfl
 unfold z6_ at a
 omega
end Go.Proofs.YtbkfhndmeljlcaaGreatDoor
namespace Go.Proofs.YtbkfhndmeljlcaaGreatDoor
open Go.RowKit
structure Fr (B : Nat) (TS : List TypeId) (a b : World) : Prop where
  os : b.os = a.os
  tape : b.tape = a.tape
  output : b.output = a.output
  size : a.heap.size ≤ b.heap.size
  block : ∀ k,k < a.heap.size → (k < B ∨ ∀ cs t fz,a.heap[k]? = some (.cells cs t fz) → t ∉ TS) → b.heap[k]? = a.heap[k]?
section
variable {B : Nat} {TS : List TypeId} {a b c : World}
theorem Fr.refl (B : Nat) (TS : List TypeId) (a : World) : Fr B TS a a:=⟨rfl,rfl,rfl,Nat.le_refl _,fun _ _ _ => rfl⟩
theorem Fr.trans (h : Fr B TS a b) (k : Fr B TS b c) : Fr B TS a c:=by
 refine ⟨k.os.trans h.os,k.tape.trans h.tape,k.output.trans h.output,Nat.le_trans h.size k.size,fun i hi hc => ?_⟩
 have h1:=h.block i hi hc
 rw [← h1]
 refine k.block i (Nat.lt_of_lt_of_le hi h.size) ?_
 rw [h1]
 exact hc
theorem Fr.of_chg (h : Chg [] a b) : Fr B TS a b:=⟨h.os,h.tape,h.output,h.size,fun k hk _ => h.block k hk (by simp)⟩
theorem Fr.new (h : Fr B TS a b) (k : Chg [] b c) : Fr B TS a c:=h.trans (Fr.of_chg k)
theorem Fr.sub {B' : Nat} {TS' : List TypeId} (h : Fr B TS a b) (hB : B' ≤ B) (hT : ∀ t,t ∈ TS → t ∈ TS') : Fr B' TS' a b :=
 ⟨h.os,h.tape,h.output,h.size,fun k hk hc => h.block k hk (hc.imp (fun h => Nat.lt_of_lt_of_le h hB) (fun h cs t fz e ht => h cs t fz e (hT t ht)))⟩
theorem Fr.chg (h : Fr B TS a b) (hB : a.heap.size ≤ B) : Chg [] a b:=⟨h.os,h.tape,h.output,h.size,fun k hk _ => h.block k hk (.inl (Nat.lt_of_lt_of_le hk hB))⟩
theorem Fr.set (h : Fr B TS a b) {p : Addr} (hp : B ≤ p.block) {cs : Array Value} {t : TypeId} {fz : Nat × Nat} (hb : b.heap[p.block]? = some (.cells cs t fz)) (ht : t ∈ TS) (u : Value) : Fr B TS a (b.setCell p u):=by
 refine h.trans ⟨rfl,rfl,rfl,?_,fun k hk hc => ?_⟩
 · rw [zG_]; exact Nat.le_refl _
 · refine Below.heap_setCell b p u k (fun e => ?_)
   subst e
   rcases hc with h1 | h1
   · omega
   · exact h1 cs t fz hb ht
theorem Fr.setw (h : Fr B TS a b) {g j t : Nat} {cs : List Value} (hW : zb_ b g t cs) (hp : B ≤ g) (ht : t ∈ TS) (u : Value) : Fr B TS a (b.setCell ⟨g,j,none⟩ u):=h.set (p:=⟨g,j,none⟩) hp hW ht u
theorem Fr.seto (h : Fr B TS a b) {g j B2 k n m e : Nat} {xs : List Value} {cap : Nat} (ho : b.ownsRow B2 e k (.slice (some ⟨g,0,none⟩) n cap) m xs) (hB : B ≤ B2) (ht : e ∈ TS) (u : Value) : Fr B TS a (b.setCell ⟨g,j,none⟩ u):=by
 rcases ho.2 with ⟨e',_⟩ | ⟨g',cap',cur,e',hb,hg,_⟩
 · cases e'
 · injection e' with e1 _ _
   injection e1 with e1
   injection e1 with e1
   subst e1
   exact h.set (p:=⟨g,j,none⟩) (Nat.le_trans hB hb) hg ht u
theorem Fr.grown (h : Fr B TS a b) {B2 k n e : Nat} {v : Value} {xs : List Value} (ho : b.ownsRow B2 e k v n xs) (hB : B ≤ B2) (ht : e ∈ TS) (hg : b.grownBy c v.ownBlock) : Fr B TS a c:=by
 refine h.trans ⟨hg.os,hg.tape,hg.output,hg.size,fun i hi hc => hg.block i hi (fun hr => ?_)⟩
 rcases ho.2 with ⟨rfl,_⟩ | ⟨g',cap',cur,rfl,hb,hgb,_⟩
 · simp [Value.ownBlock] at hr
 · simp [Value.ownBlock] at hr
   subst hr
   rcases hc with h1 | h1
   · omega
   · exact h1 _ _ _ hgb ht
theorem Fr.whole (h : Fr B TS a b) {g t : Nat} {cs : List Value} (hW : zb_ a g t cs) (ht : t ∉ TS) : zb_ b g t cs :=
 (h.block g hW.lt (.inr fun _ _ _ e => by rw [show a.heap[g]? = _ from hW] at e; injection e with e; injection e with _ e2 _; subst e2; exact ht)).trans hW
theorem Fr.obj (h : Fr B TS a b) {k : Nat} {o : Obj} (ho : a.heap[k]? = some o) (hn : ∀ cs t fz,o ≠ .cells cs t fz) : b.heap[k]? = some o:=by
 have hk : k < a.heap.size:=by
  rcases Nat.lt_or_ge k a.heap.size with h | h
  · exact h
  · rw [Array.getElem?_eq_none h] at ho; cases ho
 rw [h.block k hk (.inr fun cs t fz e => by rw [ho] at e; injection e with e; exact absurd e (hn cs t fz)),ho]
theorem Fr.own (h : Fr B TS a b) {B2 k n e : Nat} {v : Value} {xs : List Value} (ho : a.ownsRow B2 e k v n xs) (ht : e ∉ TS) : b.ownsRow B2 e k v n xs:=by
 refine ⟨ho.1,?_⟩
 rcases ho.2 with h1 | ⟨g,cap,cur,rfl,hb,hg,r⟩
 · exact .inl h1
 · refine .inr ⟨g,cap,cur,rfl,hb,?_,r⟩
   have hlt : g < a.heap.size:=by
    rcases Nat.lt_or_ge g a.heap.size with h | h
    · exact h
    · rw [Array.getElem?_eq_none h] at hg; cases hg
   exact (h.block g hlt (.inr fun _ _ _ e => by rw [hg] at e; injection e with e; injection e with _ e2 _; subst e2; exact ht)).trans hg
end
end Go.Proofs.YtbkfhndmeljlcaaGreatDoor
namespace Go.Proofs.YtbkfhndmeljlcaaGreatDoor
open Go.RowKit
abbrev glT : List TypeId:=[110,132]
structure Gl (W : World) (g : Nat) (v : Value) (ys : List TkV) (ph : GPh) : Prop where
  rec_ : zb_ W g 132 [v,.bool (y0_ ph),.bool (waits ph)]
  own : W.ownsRow (g + 1) 110 3 v (ys.length + (pend ph).length) (xI_ (ys ++ pend ph))
  few : ys.length ≤ 1000
  big : ∀ m,ph = .num m → m ≤ 9223372036854775807
def uc_ (W : World) (g : Nat) (o : Option (List TkV × GPh)) (e : Ending) (w' : World) : Prop :=
 Fr g glT W w' ∧ ((o = none ∧ e = .returned (.bool false)) ∨ ∃ ys' ph' v',o = some (ys',ph') ∧ e = .returned (.bool true) ∧ Gl w' g v' ys' ph')
theorem qS_ (ph : GPh) : (pend ph).length ≤ 1:=by cases ph <;> simp [pend]
section
variable {W W' : World} {g : Nat} {v : Value} {ys : List TkV} {ph : GPh}
theorem Gl.keep (h : Gl W g v ys ph) (hc : Chg [] W W') : Gl W' g v ys ph:=⟨h.rec_.keep hc,zg_ h.own hc,h.few,h.big⟩
theorem Gl.away (h : Gl W g v ys ph) : v.ownBlock ≠ some g:=fun e => by have:=(h.own.lt g e).1; omega
theorem Gl.slice (h : Gl W g v ys ph) : ∃ A n c,v = .slice A n c ∧ n = ys.length + (pend ph).length:=by
 obtain ⟨A,c,e,_⟩:=zm_ h.own
 exact ⟨A,_,c,e,rfl⟩
theorem Gl.begin_ {W2 : World} {v' : Value} (h : Gl W g v ys .idle) {W1 : World} (hW1 : W1 = W.setCell ⟨g,1,none⟩ (.bool true)) (hc : Chg [] W1 W2) {w3 : World} {n1 : Nat} (hn1 : n1 = ys.length + 1) (ho : w3.ownsRow (g + 1) 110 3 v' n1 (xI_ ys ++ [.int .i32 48,.int .i64 0,.int .i32 0])) (hg : W2.grownBy w3 v.ownBlock) :
    Gl (w3.setCell ⟨g,0,none⟩ v') g v' ys (.num 0) ∧ Fr g glT W (w3.setCell ⟨g,0,none⟩ v'):=by
 subst hn1
 have hr1 : zb_ W1 g 132 [v,.bool true,.bool false]:=by subst hW1; have:=h.rec_.set_ 1 (.bool true); simpa [y0_,waits] using this
 have ho1 : W1.ownsRow (g + 1) 110 3 v ys.length (xI_ ys):=by subst hW1; have:=zs_ (p:=⟨g,1,none⟩) (u:=.bool true) h.own (fun e => h.away e); simpa [pend] using this
 have hr3:=zi_ (hr1.keep hc) (zg_ ho1 hc) (by decide) hg
 refine ⟨⟨?_,?_,h.few,fun m e => by injection e with e; omega⟩,?_⟩
 · have:=hr3.set_ 0 v'
   simpa [y0_,waits] using this
 · have:=zs_ (p:=⟨g,0,none⟩) (u:=v') ho (fun e => by have:=(ho.lt g e).1; omega)
   simpa [pend,ya_,xI_,tkC] using this
 · subst hW1
   exact ((((Fr.refl g glT W).setw h.rec_ (Nat.le_refl _) (by simp [glT]) _).new hc).grown (zg_ ho1 hc) (Nat.le_succ g) (by simp [glT]) hg).setw hr3 (Nat.le_refl _) (by simp [glT]) _
theorem Gl.number {gr c m : Nat} (h : Gl W g (.slice (some ⟨gr,0,none⟩) (ys.length + 1) c) ys (.num m)) (m' : Nat) (hm : m' ≤ 9223372036854775807) :
    Gl (W.setCell ⟨gr,ys.length * 3 + 1,none⟩ (.int .i64 (m' : Int))) g (.slice (some ⟨gr,0,none⟩) (ys.length + 1) c) ys (.num m') ∧ Fr g glT W (W.setCell ⟨gr,ys.length * 3 + 1,none⟩ (.int .i64 (m' : Int))):=by
 have hgr:=(h.own.lt gr rfl).1
 refine ⟨⟨h.rec_.far (by simp only; omega) _,?_,h.few,fun m e => by injection e with e; omega⟩,(Fr.refl g glT W).seto h.own (Nat.le_succ g) (by simp [glT]) _⟩
 have h2:=xl_ (j:=ys.length * 3 + 1) (u:=.int .i64 (m' : Int)) h.own
 have e : (xI_ (ys ++ pend (.num m))).set (ys.length * 3 + 1) (.int .i64 (m' : Int)) = xI_ (ys ++ pend (.num m')):=by
  rw [ya_,ya_,List.set_append_right _ _ (by rw [yr_]; omega),yr_,show ys.length * 3 + 1 - ys.length * 3 = 1 from by omega]
  rfl
 rw [e] at h2
 exact h2
end
section
variable {W : World} {g : Nat} {v : Value} {ys : List TkV} {ph : GPh}
def jG_ : GPh → Nat
  | .num m => m
  | _ => 0
theorem zaa (h : Gl W g v ys ph) (hw : waits ph = false) (x : Nat) (hx : x ≤ 9) (hfew : ys.length ≤ 900) : Calls Tryz.prog 113 #[.pointer (some ⟨g,0,none⟩),.int .i64 (x : Int)] W (uc_ W g (yl_ ys (jG_ ph) x)):=by
 obtain ⟨i0,hi0,hz0,hz1,hz2⟩:=info_parts v5_
 obtain ⟨A,n,c,rfl,hn⟩:=h.slice
 have H:=hQ_ h
 have q0:=h.rec_.cell 0
 have q1:=h.rec_.cell 1
 have f0:=h.rec_.frozen 0
 have f1:=h.rec_.frozen 1
 have hnum:=h.big
 have HN:=hQ_ hn
 clear h hn
 go_enter Tryz.func113,Tryz.ntmps113
 go_upto_if 11 with fail
 go_cut [] (fun wx => ∃ v2,Hid (Gl wx g v2 ys (.num (jG_ ph))) ∧ Hid (Fr g glT W wx))
 case first =>
  cases ph with
  | wait q => cases hw
  | num m =>
    go_wp2_with fail
    go_meet
    exact ⟨_,H,hQ_ (Fr.refl _ _ _)⟩
  | idle =>
    go_upto_region 3 with fail
    have hn : n = ys.length:=by have:=HN.out; simpa [pend] using this
    have hn9 : n ≤ 900:=by omega
    obtain ⟨w1,hw1⟩ : ∃ w1,w1 = W.setCell ⟨g,1,none⟩ (.bool true):=⟨_,rfl⟩
    have hr1 : zb_ w1 g 132 [.slice A n c,.bool true,.bool false]:=by subst hw1; have:=H.out.rec_.set_ 1 (.bool true); simpa [y0_,waits,pend] using this
    have ho1 : w1.ownsRow (g + 1) 110 3 (.slice A n c) n (xI_ ys):=by subst hw1; have:=zs_ (p:=⟨g,1,none⟩) (u:=.bool true) H.out.own (fun e => H.out.away e); rw [← HN.out] at this; simpa [pend] using this
    rw [← hw1]
    have hal : Chg [] w1 (w1.alloc (.cells #[.int .i32 48,.int .i64 0,.int .i32 0] 110)):=(Chg.refl [] w1).alloc _
    have hsz : w1.heap.size = W.heap.size:=by subst hw1; exact zG_ _ _ _
    have hgz:=H.out.rec_.lt
    have HW1:=hQ_ hw1
    have HR1:=hQ_ hr1
    have HO1:=hQ_ ho1
    have HO2:=hQ_ (zg_ ho1 hal)
    have HR2:=hQ_ (hr1.keep hal)
    have HAL:=hQ_ hal
    have c0:=hr1.cell 0
    have c2:=HR2.out.cell 0
    have HBZ:=hQ_ (show g + 1 ≤ (w1.alloc (.cells #[.int .i32 48,.int .i64 0,.int .i32 0] 110)).heap.size from by have:=hal.size; omega)
    have HNN:=hQ_ hn
    clear hw1 hr1 ho1 hal hsz hgz q0 q1 f0 f1 hn
    go_upto_region 4 with (
     at_builtin
     refine wpList_append_own _ rfl (.tmp 19) (.tmp 21) _ rfl (g + 1) 110 i0 _ 3 24 Tryz.underlying90 hi0 hz0 hz1 hz2 rfl (by decide) (.slice A n c) n (xI_ ys) rfl HO2.out ⟨w1.heap.size,0,none⟩ 1 1 [.int .i32 48,.int .i64 0,.int .i32 0] rfl rfl (zq_ _ _ _) (by simp [Value.oneCell']) (by simp only [maxLen]; omega) (by omega) HBZ.out ?_
     intro v' w3 ho3 hg3 _
     have HO3:=hQ_ ho3
     have HG3:=hQ_ hg3
     have hr3:=zi_ HR2.out HO2.out (by decide) hg3
     have c3:=hr3.cell 0
     have f3:=hr3.frozen 0
     obtain ⟨A3,c3',rfl,_⟩:=zm_ ho3
     clear ho3 hg3 hr3)
    obtain ⟨hGl,hLow⟩:=H.out.begin_ HW1.out HAL.out (by have:=HNN.out; omega) HO3.out HG3.out
    go_meet
    exact ⟨_,hQ_ hGl,hQ_ hLow⟩
 case rest =>
  obtain ⟨v2,HG,HL⟩:=hcut
  obtain ⟨w2,rfl⟩ : ∃ w2 : World,w2 = wc:=⟨_,rfl⟩
  obtain ⟨m,hme⟩ : ∃ m,m = jG_ ph:=⟨_,rfl⟩
  rw [← hme] at HG
  have HME:=hQ_ hme
  clear hme
  have hm:=HG.out.big m rfl
  clear H HN q0 q1 f0 f1 hnum hw
  obtain ⟨A2,n2,c2,rfl,hn2⟩:=HG.out.slice
  have hn2' : n2 = ys.length + 1:=hn2
  obtain ⟨gr,hgr,y1⟩:=zA_ HG.out.own (j:=ys.length * 3 + 1) (u:=.int .i64 (m : Int)) (by rw [← hn2]) (by rw [ya_,List.getElem?_append_right (by rw [yr_]; omega),yr_,show ys.length * 3 + 1 - ys.length * 3 = 1 from by omega]; rfl)
  subst hgr
  have hown:=HG.out.own
  rw [← hn2] at hown
  have fy1:=zZ_ (j:=ys.length * 3 + 1) hown
  have r0:=HG.out.rec_.cell 0
  clear hown hn2
  obtain ⟨k,hk⟩ : ∃ k,k = ys.length:=⟨_,rfl⟩
  rw [← hk] at hn2' y1 fy1
  have HK:=hQ_ hk
  subst hn2'
  have hk9 : k ≤ 900:=by omega
  clear hk
  by_cases hbig : (9223372036854775807 - x) / 10 < m
  · have hbI : (9223372036854775807 - (x : Int)) / 10 < (m : Int):=by omega
    have hbd : decide ((9223372036854775807 - (x : Int)) / 10 < (m : Int)) = true:=by simpa using hbI
    have HP:=hQ_ (show uc_ W g (yl_ ys (jG_ ph) x) (.returned (.bool false)) w2 from ⟨HL.out,.inl ⟨by rw [← HME.out]; unfold yl_; rw [if_pos hbig],rfl⟩⟩)
    clear hbig
    go_wp2_with fail
    go_ret
    exact HP.out
  · have hbI : (m : Int) ≤ (9223372036854775807 - (x : Int)) / 10:=by omega
    have hbd : decide ((9223372036854775807 - (x : Int)) / 10 < (m : Int)) = false:=by simp; omega
    have hmx : (m : Int) * 10 + (x : Int) ≤ 9223372036854775807:=by omega
    have HP:=hQ_ (show uc_ W g (yl_ ys (jG_ ph) x) (.returned (.bool true)) (w2.setCell ⟨gr,k * 3 + 1,none⟩ (.int .i64 ((m : Int) * 10 + (x : Int)))) from by
     have hG2:=HG.out
     rw [HK.out] at hG2 ⊢
     obtain ⟨h1,h2⟩:=hG2.number (m * 10 + x) (by omega)
     rw [show ((m * 10 + x : Nat) : Int) = (m : Int) * 10 + (x : Int) from by omega] at h1 h2
     exact ⟨HL.out.trans h2,.inr ⟨ys,_,_,by rw [← HME.out]; unfold yl_; rw [if_neg hbig],rfl,h1⟩⟩)
    clear hbig
    go_wp2_with fail
    go_ret
    exact HP.out
end
end Go.Proofs.YtbkfhndmeljlcaaGreatDoor
namespace Go.Proofs.YtbkfhndmeljlcaaGreatDoor
open Go.RowKit
section
variable {W W' : World} {g : Nat} {v : Value} {ys : List TkV} {ph : GPh}
theorem Gl.done_ (h : Gl W g v ys ph) (hw : waits ph = false) (hf : ys.length ≤ 900) : Gl (W.setCell ⟨g,1,none⟩ (.bool false)) g v (ys ++ pend ph) .idle ∧ Fr g glT W (W.setCell ⟨g,1,none⟩ (.bool false)):=by
 have hp:=qS_ ph
 refine ⟨⟨?_,?_,by rw [List.length_append]; omega,fun m e => by cases e⟩,(Fr.refl g glT W).setw h.rec_ (Nat.le_refl _) (by simp [glT]) _⟩
 · have:=h.rec_.set_ 1 (.bool false)
   rw [hw] at this
   exact this
 · have:=zs_ (p:=⟨g,1,none⟩) (u:=.bool false) h.own (fun e => h.away e)
   rw [List.length_append]
   simpa [pend] using this
theorem Gl.more_ {W2 w3 : World} {v' : Value} {n1 : Nat} {t : TkV} (h : Gl W g v ys .idle) (hc : Chg [] W W2) (hn1 : n1 = ys.length + 1) (ho : w3.ownsRow (g + 1) 110 3 v' n1 (xI_ ys ++ tkC t)) (hg : W2.grownBy w3 v.ownBlock) (hf : ys.length ≤ 950) :
    Gl (w3.setCell ⟨g,0,none⟩ v') g v' (ys ++ [t]) .idle ∧ Fr g glT W (w3.setCell ⟨g,0,none⟩ v'):=by
 subst hn1
 have ho1 : W.ownsRow (g + 1) 110 3 v ys.length (xI_ ys):=by have:=h.own; simpa [pend] using this
 have hr3:=zi_ (h.rec_.keep hc) (zg_ ho1 hc) (by decide) hg
 refine ⟨⟨?_,?_,by rw [List.length_append]; simp; omega,fun m e => by cases e⟩,?_⟩
 · have:=hr3.set_ 0 v'
   simpa [y0_,waits] using this
 · have:=zs_ (p:=⟨g,0,none⟩) (u:=v') ho (fun e => by have:=(ho.lt g e).1; omega)
   rw [List.append_assoc,ya_,show xI_ ([t] ++ pend .idle) = tkC t from by simp [pend,xI_],List.length_append]
   exact this
 · exact (((Fr.of_chg hc : Fr g glT W W2)).grown (zg_ ho1 hc) (Nat.le_succ g) (by simp [glT]) hg).setw hr3 (Nat.le_refl _) (by simp [glT]) _
theorem Gl.waits_ {q : Nat} (h : Gl W g v (ys ++ [⟨(q : Int),0,0⟩]) .idle) : Gl (W.setCell ⟨g,2,none⟩ (.bool true)) g v ys (.wait q):=by
 refine ⟨?_,?_,by have:=h.few; rw [List.length_append] at this; omega,fun m e => by cases e⟩
 · have:=h.rec_.set_ 2 (.bool true)
   simpa [y0_,waits] using this
 · have:=zs_ (p:=⟨g,2,none⟩) (u:=.bool true) h.own (fun e => h.away e)
   simpa [pend] using this
theorem Gl.not_ (h : Gl W g v ys .idle) : Gl (W.setCell ⟨g,2,none⟩ (.bool false)) g v ys .idle:=by
 refine ⟨?_,?_,h.few,fun m e => by cases e⟩
 · have:=h.rec_.set_ 2 (.bool false)
   simpa [y0_,waits] using this
 · exact zs_ (p:=⟨g,2,none⟩) (u:=.bool false) h.own (fun e => h.away e)
theorem Gl.name_ {gr c q : Nat} (h : Gl W g (.slice (some ⟨gr,0,none⟩) (ys.length + 1) c) ys (.wait q)) {W1 : World} (hW : Chg [] (W.setCell ⟨g,2,none⟩ (.bool false)) W1) (r : Int) (hf : ys.length ≤ 900) :
    Gl (W1.setCell ⟨gr,ys.length * 3 + 2,none⟩ (.int .i32 r)) g (.slice (some ⟨gr,0,none⟩) (ys.length + 1) c) (ys ++ [⟨(q : Int),0,r⟩]) .idle ∧ Fr g glT W (W1.setCell ⟨gr,ys.length * 3 + 2,none⟩ (.int .i32 r)):=by
 have hgr:=(h.own.lt gr rfl).1
 have h0 : zb_ (W.setCell ⟨g,2,none⟩ (.bool false)) g 132 [.slice (some ⟨gr,0,none⟩) (ys.length + 1) c,.bool false,.bool false]:=by have:=h.rec_.set_ 2 (.bool false); simpa [y0_,waits] using this
 have h1:=h0.keep hW
 have h2:=zg_ (zs_ (p:=⟨g,2,none⟩) (u:=.bool false) h.own (fun e => h.away e)) hW
 have hL0 : Fr g glT W (W.setCell ⟨g,2,none⟩ (.bool false)):=(Fr.refl g glT W).setw h.rec_ (Nat.le_refl _) (by simp [glT]) _
 refine ⟨⟨h1.far (by simp only; omega) _,?_,by rw [List.length_append]; simp; omega,fun m e => by cases e⟩,(hL0.new hW).seto h2 (Nat.le_succ g) (by simp [glT]) _⟩
 have h3:=xl_ (j:=ys.length * 3 + 2) (u:=.int .i32 r) h2
 have e : (xI_ (ys ++ pend (.wait q))).set (ys.length * 3 + 2) (.int .i32 r) = xI_ (ys ++ [⟨(q : Int),0,r⟩] ++ pend .idle):=by
  rw [ya_,ya_,ya_,List.set_append_right _ _ (by rw [yr_]; omega),yr_,show ys.length * 3 + 2 - ys.length * 3 = 2 from by omega]
  simp [pend,xI_,tkC]
 rw [e] at h3
 have e2 : (ys ++ [(⟨(q : Int),0,r⟩ : TkV)]).length + (pend .idle).length = ys.length + (pend (.wait q)).length:=by simp [pend]
 rw [e2]
 exact h3
end
section
variable {W : World} {g : Nat} {v : Value} {ys : List TkV}
theorem g8_ {q : Nat} (h : Gl W g v ys (.wait q)) (r : Nat) (hfew : ys.length ≤ 900) : Calls Tryz.prog 88 #[.pointer (some ⟨g,0,none⟩),.int .i32 (r : Int)] W (uc_ W g (zN_ ys (.wait q) r)):=by
 obtain ⟨A,n,c,rfl,hn⟩:=h.slice
 have hn2 : n = ys.length + 1:=hn
 obtain ⟨gr,hgr,y2⟩:=zA_ h.own (j:=ys.length * 3 + 2) (u:=.int .i32 0) (by rw [← hn]) (by rw [ya_,List.getElem?_append_right (by rw [yr_]; omega),yr_,show ys.length * 3 + 2 - ys.length * 3 = 2 from by omega]; rfl)
 subst hgr
 have hown:=h.own
 rw [← hn] at hown
 have fy2:=zZ_ (j:=ys.length * 3 + 2) hown
 have hgr:=(hown.lt gr rfl).1
 have r2:=h.rec_.cell 2
 have f2:=h.rec_.frozen 2
 clear hn hown
 subst hn2
 have H:=hQ_ h
 clear h
 obtain ⟨k,hk⟩ : ∃ k,k = ys.length:=⟨_,rfl⟩
 have HK:=hQ_ hk
 rw [← hk] at y2 fy2 hfew r2
 rw [← hk] at H
 have HNM:=hQ_ (fun (W1 : World) (hW : Chg [] (W.setCell ⟨g,2,none⟩ (.bool false)) W1) => show Gl (W1.setCell ⟨gr,k * 3 + 2,none⟩ (.int .i32 (r : Int))) g (.slice (some ⟨gr,0,none⟩) (k + 1) c) (ys ++ [⟨(q : Int),0,(r : Int)⟩]) .idle ∧ Fr g glT W (W1.setCell ⟨gr,k * 3 + 2,none⟩ (.int .i32 (r : Int))) from by
  have h:=H.out
  rw [hk] at h ⊢
  exact h.name_ hW (r : Int) (by omega))
 clear hk
 go_enter Tryz.func88,Tryz.ntmps88
 go_upto_region 3 with fail
 have hr1 : zb_ (W.setCell ⟨g,2,none⟩ (.bool false)) g 132 [.slice (some ⟨gr,0,none⟩) (k + 1) c,.bool false,.bool false]:=by have:=H.out.rec_.set_ 2 (.bool false); simpa [y0_,waits] using this
 have z2 : (W.setCell ⟨g,2,none⟩ (.bool false)).cell? ⟨gr,k * 3 + 2,none⟩ = some (.int .i32 0):=by rw [← y2]; exact World.cell?_of_block (w:=W) (Below.heap_setCell W _ _ _ (by simp only; omega))
 have fz2 : (W.setCell ⟨g,2,none⟩ (.bool false)).frozen? ⟨gr,k * 3 + 2,none⟩ = false:=by rw [← fy2]; exact World.frozen?_of_block (w:=W) (Below.heap_setCell W _ _ _ (by simp only; omega))
 generalize W.setCell ⟨g,2,none⟩ (.bool false) = w1 at HNM hr1 z2 fz2 ⊢
 have hdw : Chg [] (w1.setCell ⟨gr,k * 3 + 2,none⟩ (.int .i32 (r : Int))) (w1.setCell ⟨gr,k * 3 + 2,none⟩ (.int .i32 (r : Int))).drew:=(Chg.refl [] _).drew
 have HG1:=hQ_ (And.intro ((HNM.out _ (Chg.refl [] w1)).1.keep hdw) ((HNM.out _ (Chg.refl [] w1)).2.new hdw))
 clear hdw
 have hk1 : IntKind.i64.wrap ((k : Int) + 1 - 1) = (k : Int):=by rw [show (k : Int) + 1 - 1 = (k : Int) from by omega]; exact IntWalk.i64_in _ (by omega)
 have hk2 : IntKind.i64.wrap (k : Int) = (k : Int):=IntWalk.i64_in _ (by omega)
 have hk3 : (k : Int).toNat = k:=Int.toNat_natCast _
 have hk4 : (0 : Int) ≤ (k : Int):=by omega
 have hk5 : (k : Int) < (k : Int) + 1:=by omega
 have d0 : w1.drew.cell? ⟨g,0,none⟩ = some (.slice (some ⟨gr,0,none⟩) (k + 1) c):=hr1.drew.cell 0
 have c0:=hr1.cell 0
 clear y2 fy2 r2 f2
 go_still_tail 13,(by kernel_rfl)
 change wpList _ _ _ _ _ w1.drew
 go_wp2_with fail
 generalize (w1.setCell ⟨gr,k * 3 + 2,none⟩ (.int .i32 (r : Int))).drew = w2 at HG1 ⊢
 refine (u8_ (r : Int) _).mono ?_
 rintro e w3 ⟨rfl,rfl⟩
 have HP:=hQ_ (show uc_ W g (zN_ ys (.wait q) r) (.returned (.bool (zU_ (r : Int)))) w2 from ⟨HG1.out.2,by
  cases hb : zU_ (r : Int) with
  | false => exact .inl ⟨by rw [zN_,if_neg (by rw [hb]; decide)],rfl⟩
  | true => exact .inr ⟨_,_,_,by rw [zN_,if_pos hb],rfl,HG1.out.1⟩⟩)
 go_wp2_with fail
 go_ret
 exact HP.out
theorem qt_ {ph : GPh} (h : Gl W g v ys ph) (hw : waits ph = false) (r : Nat) (hr : 48 ≤ r ∧ r ≤ 57) (hfew : ys.length ≤ 900) : Calls Tryz.prog 88 #[.pointer (some ⟨g,0,none⟩),.int .i32 (r : Int)] W (uc_ W g (zN_ ys ph r)):=by
 have e : zN_ ys ph r = yl_ ys (jG_ ph) (r - 48):=by
  cases ph with
  | wait q => cases hw
  | num m => rw [zN_,if_pos hr]; rfl
  | idle => rw [zN_,if_pos hr]; rfl
 rw [e]
 have hd : vN_ (r : Int) = true:=by unfold vN_; simp; omega
 have HD:=hQ_ hd
 have HC:=hQ_ (zaa h hw (r - 48) (by omega) hfew)
 rw [show ((r - 48 : Nat) : Int) = (r : Int) - 48 from by omega] at HC
 have r2 : W.cell? ⟨g,2,none⟩ = some (.bool false):=by have:=h.rec_.cell 2; rw [hw] at this; exact this
 obtain ⟨hr1,hr2⟩:=hr
 have hr1I : (48 : Int) ≤ (r : Int):=by omega
 have hr2I : (r : Int) ≤ 57:=by omega
 clear h hd e hw
 go_enter Tryz.func88,Tryz.ntmps88
 go_wp2_with fail
 refine (j0_ (r : Int) _).mono ?_
 rw [HD.out]
 rintro e w3 ⟨rfl,rfl⟩
 go_wp2_with fail
 refine HC.out.mono ?_
 rintro e w2 ⟨hl,hp⟩
 rcases hp with ⟨ho,rfl⟩ | ⟨ys',ph',v',ho,rfl,hG⟩
 · have HP:=hQ_ (show uc_ W g (yl_ ys (jG_ ph) (r - 48)) (.returned (.bool false)) w2 from ⟨hl,.inl ⟨ho,rfl⟩⟩)
   clear ho hl
   go_wp2_with fail
   go_ret
   exact HP.out
 · have HP:=hQ_ (show uc_ W g (yl_ ys (jG_ ph) (r - 48)) (.returned (.bool true)) w2 from ⟨hl,.inr ⟨ys',ph',v',ho,rfl,hG⟩⟩)
   clear ho hl hG
   go_wp2_with fail
   go_ret
   exact HP.out
theorem qs_ {ph : GPh} (h : Gl W g v ys ph) (hw : waits ph = false) (r : Nat) (hr : ¬ (48 ≤ r ∧ r ≤ 57)) (hrm : r ≤ 2147483647) (hfew : ys.length ≤ 900) : Calls Tryz.prog 88 #[.pointer (some ⟨g,0,none⟩),.int .i32 (r : Int)] W (uc_ W g (zN_ ys ph r)):=by
 obtain ⟨i0,hi0,hz0,hz1,hz2⟩:=info_parts v5_
 have e : zN_ ys ph r = yb_ (ys ++ pend ph) r:=by
  cases ph with
  | wait q => cases hw
  | num m => rw [zN_,if_neg hr]; rfl
  | idle => rw [zN_,if_neg hr,pend,List.append_nil]
 rw [e]
 have hd : vN_ (r : Int) = false:=by unfold vN_; simp; omega
 have HD:=hQ_ hd
 have r2 : W.cell? ⟨g,2,none⟩ = some (.bool false):=by have:=h.rec_.cell 2; rw [hw] at this; exact this
 have r1:=h.rec_.cell 1
 have f1:=h.rec_.frozen 1
 have HG:=hQ_ (h.done_ hw hfew)
 have hbl : (ys ++ pend ph).length ≤ 901:=by rw [List.length_append]; have:=qS_ ph; omega
 generalize ys ++ pend ph = bs at HG hbl ⊢
 clear h hd e hw hr hfew
 go_enter Tryz.func88,Tryz.ntmps88
 go_wp2_with fail
 refine (j0_ (r : Int) _).mono ?_
 rw [HD.out]
 rintro e w3 ⟨rfl,rfl⟩
 go_upto_region 8 with fail
 generalize W.setCell ⟨g,1,none⟩ (.bool false) = w1 at HG ⊢
 clear r1 r2 f1
 by_cases h32 : r = 32
 · subst h32
   have HP:=hQ_ (show uc_ W g (yb_ bs 32) (.returned (.bool true)) w1 from ⟨HG.out.2,.inr ⟨bs,.idle,v,rfl,rfl,HG.out.1⟩⟩)
   go_wp2_with fail
   go_ret
   exact HP.out
 · have q32 : ((r : Int) == 32) = false:=by simp; omega
   obtain ⟨A,n,c,rfl,hn⟩:=HG.out.1.slice
   have hn2 : n = bs.length:=by simpa [pend] using hn
   have c0:=HG.out.1.rec_.cell 0
   have hal : Chg [] w1 (w1.alloc (.cells #[.int .i32 (r : Int),.int .i64 0,.int .i32 0] 110)):=(Chg.refl [] w1).alloc _
   have ho1 : w1.ownsRow (g + 1) 110 3 (.slice A n c) n (xI_ bs):=by have:=HG.out.1.own; rw [← hn] at this; simpa [pend] using this
   have HO2:=hQ_ (zg_ ho1 hal)
   have HAL:=hQ_ hal
   have HR2:=hQ_ (HG.out.1.rec_.keep hal)
   have HBZ:=hQ_ (show g + 1 ≤ (w1.alloc (.cells #[.int .i32 (r : Int),.int .i64 0,.int .i32 0] 110)).heap.size from by have:=hal.size; have:=HG.out.1.rec_.lt; omega)
   have HN:=hQ_ hn2
   have hn9 : n ≤ 901:=by omega
   clear hn hn2 ho1 hal h32
   go_upto_region 11 with (
    at_builtin
    refine wpList_append_own _ rfl (.tmp 43) (.tmp 46) _ rfl (g + 1) 110 i0 _ 3 24 Tryz.underlying90 hi0 hz0 hz1 hz2 rfl (by decide) (.slice A n c) n (xI_ bs) rfl HO2.out ⟨w1.heap.size,0,none⟩ 1 1 [.int .i32 (r : Int),.int .i64 0,.int .i32 0] rfl rfl (zq_ _ _ _) (by simp [Value.oneCell']) (by simp only [maxLen]; omega) (by omega) HBZ.out ?_
    intro v' w3 ho3 hg3 _
    have HO3:=hQ_ ho3
    have HG3:=hQ_ hg3
    have hr3:=zi_ HR2.out HO2.out (by decide) hg3
    have c3:=hr3.cell 0
    have f3:=hr3.frozen 0
    obtain ⟨A3,c3',rfl,_⟩:=zm_ ho3
    clear ho3 hg3 hr3)
   obtain ⟨hm1,hm2⟩:=HG.out.1.more_ (t:=⟨(r : Int),0,0⟩) HAL.out (by have:=HN.out; omega) HO3.out HG3.out (by omega)
   have HM:=hQ_ hm1
   have HL:=hQ_ (HG.out.2.trans hm2)
   generalize w3.setCell ⟨g,0,none⟩ (.slice A3 (n + 1) c3') = w4 at HM HL ⊢
   clear hm1 hm2 c3 f3 c0 HO2 HO3 HG3 HAL HR2 HBZ
   have s2:=HM.out.rec_.cell 2
   have t2:=HM.out.rec_.frozen 2
   go_wp2_with fail
   refine (jJ_ (r : Int) _).mono ?_
   rintro e w5 ⟨rfl,rfl⟩
   cases hnm : zW_ (r : Int) with
   | true =>
     have hkn : zP_ (r : Int) = true:=by rcases (u0_ r).1 hnm with rfl | rfl <;> decide
     have HP:=hQ_ (fun (W' : World) (hc : Chg [] (w4.setCell ⟨g,2,none⟩ (.bool true)) W') => show uc_ W g (yb_ bs r) (.returned (.bool (zP_ (r : Int)))) W' from
       ⟨(HL.out.setw HM.out.rec_ (Nat.le_refl _) (by simp [glT]) _).new hc,.inr ⟨bs,.wait r,_,by unfold yb_; rw [if_neg (by intro e; subst e; revert hnm; decide),if_pos hkn,if_pos hnm],by rw [hkn],HM.out.waits_.keep hc⟩⟩)
     clear hnm hkn
     go_wp2_with fail
     refine (v7_ (r : Int) _).mono ?_
     rintro e w6 ⟨rfl,hc6⟩
     have HQ:=hQ_ (HP.out w6 hc6)
     clear hc6
     go_wp2_with fail
     go_ret
     exact HQ.out
   | false =>
     have h32 : ¬ r = 32:=by intro e; subst e; revert q32; decide
     have HP:=hQ_ (fun (W' : World) (hc : Chg [] (w4.setCell ⟨g,2,none⟩ (.bool false)) W') => show uc_ W g (yb_ bs r) (.returned (.bool (zP_ (r : Int)))) W' from
       ⟨(HL.out.setw HM.out.rec_ (Nat.le_refl _) (by simp [glT]) _).new hc,by
        cases hkn : zP_ (r : Int) with
        | true => exact .inr ⟨_,.idle,_,by unfold yb_; rw [if_neg h32,if_pos hkn,if_neg (by rw [hnm]; decide)],rfl,HM.out.not_.keep hc⟩
        | false => exact .inl ⟨by unfold yb_; rw [if_neg h32,if_neg (by rw [hkn]; decide)],rfl⟩⟩)
     clear hnm h32
     go_wp2_with fail
     refine (v7_ (r : Int) _).mono ?_
     rintro e w6 ⟨rfl,hc6⟩
     have HQ:=hQ_ (HP.out w6 hc6)
     clear hc6
     go_wp2_with fail
     go_ret
     exact HQ.out
theorem zbO {ph : GPh} (h : Gl W g v ys ph) (r : Nat) (hrm : r ≤ 2147483647) (hfew : ys.length ≤ 900) : Calls Tryz.prog 88 #[.pointer (some ⟨g,0,none⟩),.int .i32 (r : Int)] W (uc_ W g (zN_ ys ph r)):=by
 cases hw : waits ph with
 | true =>
   cases ph with
   | wait q => exact g8_ h r hfew
   | num m => cases hw
   | idle => cases hw
 | false =>
   by_cases hr : 48 ≤ r ∧ r ≤ 57
   · exact qt_ h hw r hr hfew
   · exact qs_ h hw r hr hrm hfew
end
end Go.Proofs.YtbkfhndmeljlcaaGreatDoor
namespace Go.Proofs.YtbkfhndmeljlcaaGreatDoor
open Go.RowKit
def qD_ (n : Nat) (r : Option (List Int × Nat)) (W : World) (e : Ending) (w' : World) : Prop :=
 Chg [] W w' ∧ ((∃ t d g,r = some (t,d) ∧ t.length = n ∧ e = .returned (.tuple #[.slice (some ⟨g,0,none⟩) n n,.int .i64 0]) ∧ zb_ w' g 3 (nms t)) ∨
   (r = none ∧ e = .returned (.tuple #[.slice none 0 0,.int .i64 13])))
section
variable {W : World} {A : Option Addr} {n c : Nat} {l : List TkV}
theorem zes (h : Tks W A n c l) : Calls Tryz.prog 108 #[.slice A n c] W (qD_ n (v0_ (zo_ l)) W):=by
 go_enter Tryz.func108,Tryz.ntmps108
 go_wp2_with fail
 refine (zbw h).mono ?_
 rintro e w1 ⟨hc,⟨t,d,g,hr,htl,rfl,hT,_⟩ | ⟨hr,v,d,rfl⟩⟩
 · have HPO:=hQ_ (show qD_ n (v0_ (zo_ l)) W (.returned (.tuple #[.slice (some ⟨g,0,none⟩) n n,.int .i64 0])) w1 from ⟨hc,.inl ⟨t,d,g,hr,htl,rfl,hT⟩⟩)
   clear hr htl hT hc h
   go_wp2_with fail
   go_ret2
   exact HPO.out
 · have HPO:=hQ_ (show qD_ n (v0_ (zo_ l)) W (.returned (.tuple #[.slice none 0 0,.int .i64 13])) w1 from ⟨hc,.inr ⟨hr,rfl⟩⟩)
   clear hr hc h
   go_wp2_with fail
   go_ret2
   exact HPO.out
end
end Go.Proofs.YtbkfhndmeljlcaaGreatDoor
namespace Go.Proofs.YtbkfhndmeljlcaaGreatDoor
open Go.RowKit
def frT (B : Nat) (TS : List TypeId) (hard soft : List Nat) : Turns:=⟨Chg [],Fr B TS,hard,soft⟩
theorem zfs {B : Nat} {TS : List TypeId} {hard soft : List Nat} : (frT B TS hard soft).Ok:=⟨Chg.refl [],fun _ _ h => Fr.of_chg h,fun _ _ _ h k => h.trans k⟩
theorem zbV {B : Nat} {TS : List TypeId} {hard soft : List Nat} {k : Nat} (hk : hard.contains k = true) {W W' : World} (h : Fr B TS W W') : (frT B TS hard soft).by_ k W W':=by
 unfold Turns.by_
 rw [if_pos (show (frT B TS hard soft).hard.contains k = true from hk)]
 exact h
theorem zeF {a b : World} (h : Star (Chg []) a b) : Chg [] a b:=h.fold (Chg.refl []) fun _ _ _ h k => h.trans k
end Go.Proofs.YtbkfhndmeljlcaaGreatDoor
