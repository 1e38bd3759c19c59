import Derived.Test.YtbkfhndmeljlcaaGreatDoorZA9
set_option maxRecDepth 100000
set_option maxHeartbeats 16000000
namespace Go.Proofs.YtbkfhndmeljlcaaGreatDoor
open Go.RowKit
def y1_ (n : Nat) (r : Option (List Int × Nat)) (W : World) (e : Ending) (w' : World) : Prop :=
 Chg [] W w' ∧ ((∃ t d g,r = some (t,d) ∧ t.length = n ∧ e = .returned (.tuple #[.slice (some ⟨g,0,none⟩) n n,.int .i64 (d : Int),.int .i64 0]) ∧ zb_ w' g 3 (nms t)) ∨
   (r = none ∧ e = .returned (.tuple #[.slice none 0 0,.int .i64 (-1),.int .i64 13])))
section
variable {W : World} {A : Option Addr} {n c : Nat} {l : List TkV}
theorem zbr (h : Tks W A n c l) : Calls Tryz.prog 64 #[.slice A n c] W (y1_ n (yU_ (zp_ l)) W):=by
 obtain ⟨i0,hi0,hz0,hz1,hz2⟩:=info_parts vN_
 have hmax:=h.max
 have hmk:=fun W : World => jZ_ W n hmax
 have H:=hQ_ h
 have hsl : (zp_ l).length = n:=by unfold zp_; rw [List.length_map]; exact h.len
 have HSL:=hQ_ hsl
 clear h hsl
 go_enter Tryz.func64,Tryz.ntmps64
 go_upto_region 2 with fail
 have hT:=zb_.new W 3 (nms (List.replicate n 0))
 have hc1 : Chg [] W (W.alloc (.cells (nms (List.replicate n 0)).toArray 3)):=(Chg.refl [] W).alloc _
 obtain ⟨gt,hgt⟩ : ∃ g,g = W.heap.size:=⟨_,rfl⟩
 have hsz : (W.alloc (.cells (nms (List.replicate n 0)).toArray 3)).heap.size = gt + 1:=by rw [hgt]; simp
 rw [← hgt] at hT ⊢
 generalize W.alloc (.cells (nms (List.replicate n 0)).toArray 3) = w1 at hT hc1 hsz ⊢
 have HM0:=hQ_ (show Rt w1 gt (gt + 1) n ⟨List.replicate (zp_ l).length 0,0,[]⟩ (.slice none 0 0) from
   ⟨by rw [HSL.out]; exact hT,by rw [List.length_replicate]; exact HSL.out,World.ownsRow_nil _ _ _ _,by omega,by simp,by simp,fun x hx => (by cases hx),hmax,by omega⟩)
 have HC1:=hQ_ hc1
 have HGT:=hQ_ hgt
 clear hT hc1 hsz hgt hmk
 go_wp2_with fail
 go_loopw [6,7,8,15] (fun vo d _ s wr => ∃ k : Nat,k ≤ n ∧ s = .int .i64 (k : Int) ∧ (∃ m,d = .int .i64 (m.deep : Int) ∧ Hid (Rt wr gt (gt + 1) n m vo) ∧ Hid (uD_ (zp_ l) 0 (zp_ l) ⟨List.replicate (zp_ l).length 0,0,[]⟩ = uD_ (zp_ l) k ((zp_ l).drop k) m)) ∧ Hid (Chg [] W wr)) (fun _ _ _ s _ => n - (intOf s).toNat)
 case atStart => exact ⟨0,Nat.zero_le _,rfl,⟨_,rfl,HM0,hQ_ rfl⟩,HC1⟩
 case round =>
  obtain ⟨k,hk,rfl,⟨m,rfl,HM,HRUN⟩,HCr⟩:=hrel
  by_cases hlt : k < n
  · have hltI : (k : Int) < (n : Int):=by omega
    have hk0 : (0 : Int) ≤ (k : Int):=by omega
    have hkb : (k : Int) ≤ 100000:=by omega
    have hkt : k < m.tO.length:=by rw [HM.out.len]; exact hlt
    have t0 : wr.cell? ⟨gt,k,none⟩ = some (.int .i64 (m.tO[k]'hkt)):=(HM.out.to_.cell k).trans (y0_ _ _ hkt)
    have f0:=HM.out.to_.frozen k
    go_upto_region 8 with fail
    have HM4:=hQ_ (HM.out.poke k (-1))
    have HC4:=hQ_ (show Chg [] W (wr.setCell ⟨gt,k,none⟩ (.int .i64 (-1))) from HCr.out.setCell (fun h => absurd h (by have:=HGT.out; simp only; omega)) _)
    obtain ⟨mt,md,mo⟩:=m
    simp only at HM4 ⊢
    generalize wr.setCell ⟨gt,k,none⟩ (.int .i64 (-1)) = w4 at HM4 HC4 ⊢
    clear t0 f0 hkt
    have hkl : k < (zp_ l).length:=by rw [HSL.out]; exact hlt
    obtain ⟨b,o,rfl,hb,t0⟩:=(H.out.keep HC4.out).sign (List.getElem?_eq_getElem hkl)
    have HSK:=hQ_ (show (zp_ l)[k]? = some (zp_ l)[k] from List.getElem?_eq_getElem hkl)
    have HS:=hQ_ (show (zp_ l).drop k = (zp_ l)[k] :: (zp_ l).drop (k + 1) from List.drop_eq_getElem_cons hkl)
    generalize (zp_ l)[k]'hkl = s at t0 HS HSK
    have HNX:=hQ_ (show ∀ m',yQ_ (zp_ l) k s ⟨mt.set k (-1),md,mo⟩ = some m' → uD_ (zp_ l) 0 (zp_ l) ⟨List.replicate (zp_ l).length 0,0,[]⟩ = uD_ (zp_ l) (k + 1) ((zp_ l).drop (k + 1)) m' from fun m' hm => by rw [HRUN.out,HS.out,uD_,hm]; rfl)
    have HNO:=hQ_ (show yQ_ (zp_ l) k s ⟨mt.set k (-1),md,mo⟩ = none → yU_ (zp_ l) = none from fun hm => by unfold yU_; rw [HRUN.out,HS.out,uD_,hm]; rfl)
    have HSG:=hQ_ (show ∀ (W' : World),Chg [] w4 W' → ∀ (j : Nat) (s' : Int),(zp_ l)[j]? = some s' → W'.cell? ⟨b,o + j * 3,none⟩ = some (.int .i32 s') from fun W' hW j s' hj => by
     obtain ⟨b',o',e,_,h⟩:=((H.out.keep HC4.out).keep hW).sign hj
     injection e with e
     injection e with e1 e2
     subst e1 e2
     exact h)
    have hb1:=hb
    clear hkl
    have hfew:=HM4.out.few
    have hdeep:=HM4.out.deep
    simp only at hfew hdeep
    by_cases h63 : s = 63
    · subst h63
      obtain ⟨q,hq⟩ : ∃ q,q = mo.length:=⟨_,rfl⟩
      have HQ:=hQ_ hq
      rw [← hq] at hfew
      obtain ⟨Ao,co,e,_⟩:=zr_ HM4.out.own
      simp only at e
      rw [← hq] at e
      subst e
      have HAL:=hQ_ (show Chg [] w4 (w4.alloc (.cells #[.int .i64 (k : Int)] 3)) from (Chg.refl [] w4).alloc _)
      have HO1:=hQ_ (show (w4.alloc (.cells #[.int .i64 (k : Int)] 3)).ownsRow (gt + 1) 3 1 (.slice Ao q co) q (nts mo.reverse) from by
       have h:=zq_ HM4.out.own HAL.out
       simp only at h
       rw [← hq] at h
       exact h)
      have HRM:=hQ_ HM4.out.room
      clear hq
      have hmx : max (md : Int) ((q : Int) + 1) = ((max md (q + 1) : Nat) : Int):=by omega
      by_cases hq16 : q < 16
      · have hle : ¬ (16 : Int) < (q : Int) + 1:=by omega
        go_wp2_with (
         at_builtin
         refine wpList_append_own _ rfl (.tmp 29) (.tmp 31) _ rfl (gt + 1) 3 i0 _ 1 8 Tryz.underlying26 hi0 hz0 hz1 hz2 rfl (by decide) (.slice Ao q co) q (nts mo.reverse) rfl HO1.out ⟨w4.heap.size,0,none⟩ 1 1 [.int .i64 (k : Int)] rfl rfl (zo_ _ _ _) (by simp [Value.oneCell']) (by simp only [maxLen]; omega) (by omega) (by have:=HRM.out; simp; omega) ?_
         intro v' w6 ho6 hg6 _
         obtain ⟨A6,c6,rfl,_⟩:=zr_ ho6
         have HO6:=hQ_ ho6
         have HG6:=hQ_ hg6
         clear ho6 hg6)
        have HC6:=hQ_ (show Chg [] W w6 from (HC4.out.alloc _).own HO1.out (by have:=HGT.out; omega) HG6.out)
        have HR6:=hQ_ (HM4.out.push HAL.out hlt (by simp only; have:=HQ.out; omega) (max md (q + 1)) (by omega) (by simp only; rw [← HQ.out]; exact HO6.out) HG6.out)
        have HN6:=hQ_ (HNX.out ⟨mt.set k (-1),max md (q + 1),k :: mo⟩ (by unfold yQ_; rw [if_pos (by decide),if_pos (by simp only; have:=HQ.out; omega),← HQ.out]))
        go_roundw
        case rel => exact ⟨k + 1,by omega,by go_num,⟨_,by first | rfl | exact congrArg (Value.int .i64) hmx,HR6,HN6⟩,HC6⟩
        case measure => simp [intOf]; omega
      · have hle : (16 : Int) < (q : Int) + 1:=by omega
        go_wp2_with (
         at_builtin
         refine wpList_append_own _ rfl (.tmp 29) (.tmp 31) _ rfl (gt + 1) 3 i0 _ 1 8 Tryz.underlying26 hi0 hz0 hz1 hz2 rfl (by decide) (.slice Ao q co) q (nts mo.reverse) rfl HO1.out ⟨w4.heap.size,0,none⟩ 1 1 [.int .i64 (k : Int)] rfl rfl (zo_ _ _ _) (by simp [Value.oneCell']) (by simp only [maxLen]; omega) (by omega) (by have:=HRM.out; simp; omega) ?_
         intro v' w6 ho6 hg6 _
         obtain ⟨A6,c6,rfl,_⟩:=zr_ ho6
         have HO6:=hQ_ ho6
         have HG6:=hQ_ hg6
         clear ho6 hg6)
        have HC6:=hQ_ (show Chg [] W w6 from (HC4.out.alloc _).own HO1.out (by have:=HGT.out; omega) HG6.out)
        have HPO:=hQ_ (show y1_ n (yU_ (zp_ l)) W (.returned (.tuple #[.slice none 0 0,.int .i64 (-1),.int .i64 13])) w6 from ⟨HC6.out,.inr ⟨HNO.out (by unfold yQ_; rw [if_pos (by decide),if_neg (by simp only; have:=HQ.out; omega)]),rfl⟩⟩)
        go_ret3
        exact HPO.out
    by_cases h91 : s = 91
    · subst h91
      obtain ⟨q,hq⟩ : ∃ q,q = mo.length:=⟨_,rfl⟩
      have HQ:=hQ_ hq
      rw [← hq] at hfew
      obtain ⟨Ao,co,e,_⟩:=zr_ HM4.out.own
      simp only at e
      rw [← hq] at e
      subst e
      have HAL:=hQ_ (show Chg [] w4 (w4.alloc (.cells #[.int .i64 (k : Int)] 3)) from (Chg.refl [] w4).alloc _)
      have HO1:=hQ_ (show (w4.alloc (.cells #[.int .i64 (k : Int)] 3)).ownsRow (gt + 1) 3 1 (.slice Ao q co) q (nts mo.reverse) from by
       have h:=zq_ HM4.out.own HAL.out
       simp only at h
       rw [← hq] at h
       exact h)
      have HRM:=hQ_ HM4.out.room
      clear hq
      have hmx : max (md : Int) ((q : Int) + 1) = ((max md (q + 1) : Nat) : Int):=by omega
      by_cases hq16 : q < 16
      · have hle : ¬ (16 : Int) < (q : Int) + 1:=by omega
        go_wp2_with (
         at_builtin
         refine wpList_append_own _ rfl (.tmp 29) (.tmp 31) _ rfl (gt + 1) 3 i0 _ 1 8 Tryz.underlying26 hi0 hz0 hz1 hz2 rfl (by decide) (.slice Ao q co) q (nts mo.reverse) rfl HO1.out ⟨w4.heap.size,0,none⟩ 1 1 [.int .i64 (k : Int)] rfl rfl (zo_ _ _ _) (by simp [Value.oneCell']) (by simp only [maxLen]; omega) (by omega) (by have:=HRM.out; simp; omega) ?_
         intro v' w6 ho6 hg6 _
         obtain ⟨A6,c6,rfl,_⟩:=zr_ ho6
         have HO6:=hQ_ ho6
         have HG6:=hQ_ hg6
         clear ho6 hg6)
        have HC6:=hQ_ (show Chg [] W w6 from (HC4.out.alloc _).own HO1.out (by have:=HGT.out; omega) HG6.out)
        have HR6:=hQ_ (HM4.out.push HAL.out hlt (by simp only; have:=HQ.out; omega) (max md (q + 1)) (by omega) (by simp only; rw [← HQ.out]; exact HO6.out) HG6.out)
        have HN6:=hQ_ (HNX.out ⟨mt.set k (-1),max md (q + 1),k :: mo⟩ (by unfold yQ_; rw [if_pos (by decide),if_pos (by simp only; have:=HQ.out; omega),← HQ.out]))
        go_roundw
        case rel => exact ⟨k + 1,by omega,by go_num,⟨_,by first | rfl | exact congrArg (Value.int .i64) hmx,HR6,HN6⟩,HC6⟩
        case measure => simp [intOf]; omega
      · have hle : (16 : Int) < (q : Int) + 1:=by omega
        go_wp2_with (
         at_builtin
         refine wpList_append_own _ rfl (.tmp 29) (.tmp 31) _ rfl (gt + 1) 3 i0 _ 1 8 Tryz.underlying26 hi0 hz0 hz1 hz2 rfl (by decide) (.slice Ao q co) q (nts mo.reverse) rfl HO1.out ⟨w4.heap.size,0,none⟩ 1 1 [.int .i64 (k : Int)] rfl rfl (zo_ _ _ _) (by simp [Value.oneCell']) (by simp only [maxLen]; omega) (by omega) (by have:=HRM.out; simp; omega) ?_
         intro v' w6 ho6 hg6 _
         obtain ⟨A6,c6,rfl,_⟩:=zr_ ho6
         have HO6:=hQ_ ho6
         have HG6:=hQ_ hg6
         clear ho6 hg6)
        have HC6:=hQ_ (show Chg [] W w6 from (HC4.out.alloc _).own HO1.out (by have:=HGT.out; omega) HG6.out)
        have HPO:=hQ_ (show y1_ n (yU_ (zp_ l)) W (.returned (.tuple #[.slice none 0 0,.int .i64 (-1),.int .i64 13])) w6 from ⟨HC6.out,.inr ⟨HNO.out (by unfold yQ_; rw [if_pos (by decide),if_neg (by simp only; have:=HQ.out; omega)]),rfl⟩⟩)
        go_ret3
        exact HPO.out
    by_cases h58 : s = 58
    · subst h58
      rcases mo with _ | ⟨p,r⟩
      · obtain ⟨Ao,co,rfl,_⟩:=zr_ HM4.out.own
        simp only [List.length_nil]
        have HPO:=hQ_ (show y1_ n (yU_ (zp_ l)) W (.returned (.tuple #[.slice none 0 0,.int .i64 (-1),.int .i64 13])) w4 from ⟨HC4.out,.inr ⟨HNO.out (by unfold yQ_; rw [if_neg (by decide),if_pos rfl]),rfl⟩⟩)
        go_wp2_with fail
        go_ret3
        exact HPO.out
      · obtain ⟨g6,c6,rfl,hc6,k6,f6,hB6,hlt6,hpn,hr16⟩:=HM4.out.top (p:=p) (r:=r) rfl
        obtain ⟨sp,hsp⟩ : ∃ sp,(zp_ l)[p]? = some sp:=⟨_,List.getElem?_eq_getElem (by rw [HSL.out]; exact hpn)⟩
        have HSP:=hQ_ hsp
        have t1:=HSG.out w4 (Chg.refl _ _) p sp hsp
        clear hsp
        have hp0 : (0 : Int) ≤ (p : Int):=by omega
        have hp1 : (p : Int) < (n : Int):=by omega
        obtain ⟨q,hq⟩ : ∃ q,q = r.length:=⟨_,rfl⟩
        have HQ:=hQ_ hq
        rw [← hq] at hc6 k6 f6 hr16
        have hsub : IntKind.i64.wrap (((q + 1 : Nat) : Int) - 1) = (q : Int):=by rw [IntWalk.i64_in _ (by omega)]; omega
        have hq0 : (0 : Int) ≤ (q : Int):=by omega
        have hq1 : (q : Int) < ((q + 1 : Nat) : Int):=by omega
        have hq2 : (q : Int) ≤ (c6 : Int):=by omega
        have hqt : (q : Int).toNat = q:=Int.toNat_natCast _
        have hne : (((q + 1 : Nat) : Int) == 0) = false:=by simp; omega
        have hkw : IntKind.i64.wrap ((k : Int) + 1) = (k : Int) + 1:=IntWalk.i64_in _ (by omega)
        have hrq : r.length = q:=hq.symm
        rw [hrq]
        clear hq hrq
        by_cases hsp : sp = 63
        · subst hsp
          have hjt : p < (mt.set k (-1)).length:=by rw [HM4.out.len]; omega
          have t2 : w4.cell? ⟨gt,p,none⟩ = some (.int .i64 ((mt.set k (-1))[p]'hjt)):=(HM4.out.to_.cell p).trans (y0_ _ _ hjt)
          have f2:=HM4.out.to_.frozen p
          go_upto_region 19 with fail
          have HM5:=hQ_ (HM4.out.poke p ((k : Int) + 1))
          have HC5:=hQ_ (show Chg [] W (w4.setCell ⟨gt,p,none⟩ (.int .i64 ((k : Int) + 1))) from HC4.out.setCell (fun h => absurd h (by have:=HGT.out; simp only; omega)) _)
          simp only at HM5
          generalize w4.setCell ⟨gt,p,none⟩ (.int .i64 ((k : Int) + 1)) = w5 at HM5 HC5 ⊢
          clear t2 f2 hjt k6 f6
          obtain ⟨g7,c7,e,hc7,k7,f7,hB7,hlt7,_,_⟩:=HM5.out.top (p:=p) (r:=r) rfl
          injection e with e _ e3
          injection e with e
          injection e with e
          subst e e3
          rw [← HQ.out] at k7 f7
          have HM6:=hQ_ (HM5.out.waits (p:=p) (r:=r) rfl rfl k hlt)
          rw [← HQ.out] at HM6
          simp only at HM6
          have HC6:=hQ_ (show Chg [] W (w5.setCell ⟨g6,q,none⟩ (.int .i64 (k : Int))) from HC5.out.setCell (fun h => absurd h (by have:=HGT.out; simp only; omega)) _)
          have HN6:=hQ_ (HNX.out ⟨(mt.set k (-1)).set p ((k : Int) + 1),md,k :: r⟩ (by unfold yQ_; rw [if_neg (by decide),if_pos rfl]; simp only; rw [if_pos HSP.out]))
          go_wp2_with fail
          go_roundw
          case rel => exact ⟨k + 1,by omega,by go_num,⟨_,rfl,HM6,HN6⟩,HC6⟩
          case measure => simp [intOf]; omega
        · have hspd : (sp != 63) = true:=by simpa using hsp
          have HPO:=hQ_ (show y1_ n (yU_ (zp_ l)) W (.returned (.tuple #[.slice none 0 0,.int .i64 (-1),.int .i64 13])) w4 from ⟨HC4.out,.inr ⟨HNO.out (by unfold yQ_; rw [if_neg (by decide),if_pos rfl]; simp only; rw [if_neg (fun hc => hsp (by rw [HSP.out] at hc; injection hc))]),rfl⟩⟩)
          go_wp2_with fail
          go_ret3
          exact HPO.out
    by_cases h59 : s = 59
    · subst h59
      rcases mo with _ | ⟨p,r⟩
      · obtain ⟨Ao,co,rfl,_⟩:=zr_ HM4.out.own
        simp only [List.length_nil]
        have HPO:=hQ_ (show y1_ n (yU_ (zp_ l)) W (.returned (.tuple #[.slice none 0 0,.int .i64 (-1),.int .i64 13])) w4 from ⟨HC4.out,.inr ⟨HNO.out (by unfold yQ_; rw [if_neg (by decide),if_neg (by decide),if_pos rfl]),rfl⟩⟩)
        go_wp2_with fail
        go_ret3
        exact HPO.out
      · obtain ⟨g6,c6,rfl,hc6,k6,f6,hB6,hlt6,hpn,hr16⟩:=HM4.out.top (p:=p) (r:=r) rfl
        obtain ⟨sp,hsp⟩ : ∃ sp,(zp_ l)[p]? = some sp:=⟨_,List.getElem?_eq_getElem (by rw [HSL.out]; exact hpn)⟩
        have HSP:=hQ_ hsp
        have t1:=HSG.out w4 (Chg.refl _ _) p sp hsp
        clear hsp
        have hp0 : (0 : Int) ≤ (p : Int):=by omega
        have hp1 : (p : Int) < (n : Int):=by omega
        obtain ⟨q,hq⟩ : ∃ q,q = r.length:=⟨_,rfl⟩
        have HQ:=hQ_ hq
        rw [← hq] at hc6 k6 f6 hr16
        have hsub : IntKind.i64.wrap (((q + 1 : Nat) : Int) - 1) = (q : Int):=by rw [IntWalk.i64_in _ (by omega)]; omega
        have hq0 : (0 : Int) ≤ (q : Int):=by omega
        have hq1 : (q : Int) < ((q + 1 : Nat) : Int):=by omega
        have hq2 : (q : Int) ≤ (c6 : Int):=by omega
        have hqt : (q : Int).toNat = q:=Int.toNat_natCast _
        have hne : (((q + 1 : Nat) : Int) == 0) = false:=by simp; omega
        have hkw : IntKind.i64.wrap ((k : Int) + 1) = (k : Int) + 1:=IntWalk.i64_in _ (by omega)
        have hrq : r.length = q:=hq.symm
        rw [hrq]
        clear hq hrq
        by_cases hsp : sp = 91
        · subst hsp
          have HPO:=hQ_ (show y1_ n (yU_ (zp_ l)) W (.returned (.tuple #[.slice none 0 0,.int .i64 (-1),.int .i64 13])) w4 from ⟨HC4.out,.inr ⟨HNO.out (by unfold yQ_; rw [if_neg (by decide),if_neg (by decide),if_pos rfl]; simp only; rw [if_pos HSP.out]),rfl⟩⟩)
          go_wp2_with fail
          go_ret3
          exact HPO.out
        · have hspd : (sp == 91) = false:=by simpa using hsp
          have hjt : p < (mt.set k (-1)).length:=by rw [HM4.out.len]; omega
          have t2 : w4.cell? ⟨gt,p,none⟩ = some (.int .i64 ((mt.set k (-1))[p]'hjt)):=(HM4.out.to_.cell p).trans (y0_ _ _ hjt)
          have f2:=HM4.out.to_.frozen p
          go_upto_region 24 with fail
          have HM5:=hQ_ (HM4.out.poke p ((k : Int)))
          have HC5:=hQ_ (show Chg [] W (w4.setCell ⟨gt,p,none⟩ (.int .i64 ((k : Int)))) from HC4.out.setCell (fun h => absurd h (by have:=HGT.out; simp only; omega)) _)
          simp only at HM5
          generalize w4.setCell ⟨gt,p,none⟩ (.int .i64 ((k : Int))) = w5 at HM5 HC5 ⊢
          clear t2 f2 hjt k6 f6
          have HM6:=hQ_ (HM5.out.drop (p:=p) (r:=r) rfl (by rw [← HQ.out]))
          rw [← HQ.out] at HM6
          simp only at HM6
          have HN6:=hQ_ (HNX.out ⟨(mt.set k (-1)).set p (k : Int),md,r⟩ (by unfold yQ_; rw [if_neg (by decide),if_neg (by decide),if_pos rfl]; simp only; rw [if_neg (fun hc => hsp (by rw [HSP.out] at hc; injection hc))]))
          go_wp2_with fail
          go_roundw
          case rel => exact ⟨k + 1,by omega,by go_num,⟨_,rfl,HM6,HN6⟩,HC5⟩
          case measure => simp [intOf]; omega
    by_cases h93 : s = 93
    · subst h93
      rcases mo with _ | ⟨p,r⟩
      · obtain ⟨Ao,co,rfl,_⟩:=zr_ HM4.out.own
        simp only [List.length_nil]
        have HPO:=hQ_ (show y1_ n (yU_ (zp_ l)) W (.returned (.tuple #[.slice none 0 0,.int .i64 (-1),.int .i64 13])) w4 from ⟨HC4.out,.inr ⟨HNO.out (by unfold yQ_; rw [if_neg (by decide),if_neg (by decide),if_neg (by decide),if_pos rfl]),rfl⟩⟩)
        go_wp2_with fail
        go_ret3
        exact HPO.out
      · obtain ⟨g6,c6,rfl,hc6,k6,f6,hB6,hlt6,hpn,hr16⟩:=HM4.out.top (p:=p) (r:=r) rfl
        obtain ⟨sp,hsp⟩ : ∃ sp,(zp_ l)[p]? = some sp:=⟨_,List.getElem?_eq_getElem (by rw [HSL.out]; exact hpn)⟩
        have HSP:=hQ_ hsp
        have t1:=HSG.out w4 (Chg.refl _ _) p sp hsp
        clear hsp
        have hp0 : (0 : Int) ≤ (p : Int):=by omega
        have hp1 : (p : Int) < (n : Int):=by omega
        obtain ⟨q,hq⟩ : ∃ q,q = r.length:=⟨_,rfl⟩
        have HQ:=hQ_ hq
        rw [← hq] at hc6 k6 f6 hr16
        have hsub : IntKind.i64.wrap (((q + 1 : Nat) : Int) - 1) = (q : Int):=by rw [IntWalk.i64_in _ (by omega)]; omega
        have hq0 : (0 : Int) ≤ (q : Int):=by omega
        have hq1 : (q : Int) < ((q + 1 : Nat) : Int):=by omega
        have hq2 : (q : Int) ≤ (c6 : Int):=by omega
        have hqt : (q : Int).toNat = q:=Int.toNat_natCast _
        have hne : (((q + 1 : Nat) : Int) == 0) = false:=by simp; omega
        have hkw : IntKind.i64.wrap ((k : Int) + 1) = (k : Int) + 1:=IntWalk.i64_in _ (by omega)
        have hrq : r.length = q:=hq.symm
        rw [hrq]
        clear hq hrq
        by_cases hsp : sp = 91
        · subst hsp
          have hjt : k < (mt.set k (-1)).length:=by rw [HM4.out.len]; omega
          have t2 : w4.cell? ⟨gt,k,none⟩ = some (.int .i64 ((mt.set k (-1))[k]'hjt)):=(HM4.out.to_.cell k).trans (y0_ _ _ hjt)
          have f2:=HM4.out.to_.frozen k
          go_upto_region 29 with fail
          have HM5:=hQ_ (HM4.out.poke k ((p : Int)))
          have HC5:=hQ_ (show Chg [] W (w4.setCell ⟨gt,k,none⟩ (.int .i64 ((p : Int)))) from HC4.out.setCell (fun h => absurd h (by have:=HGT.out; simp only; omega)) _)
          simp only at HM5
          generalize w4.setCell ⟨gt,k,none⟩ (.int .i64 ((p : Int))) = w5 at HM5 HC5 ⊢
          clear t2 f2 hjt k6 f6
          have HM6:=hQ_ (HM5.out.drop (p:=p) (r:=r) rfl (by rw [← HQ.out]))
          rw [← HQ.out] at HM6
          simp only at HM6
          have HN6:=hQ_ (HNX.out ⟨(mt.set k (-1)).set k (p : Int),md,r⟩ (by unfold yQ_; rw [if_neg (by decide),if_neg (by decide),if_neg (by decide),if_pos rfl]; simp only; rw [if_pos HSP.out]))
          go_wp2_with fail
          go_roundw
          case rel => exact ⟨k + 1,by omega,by go_num,⟨_,rfl,HM6,HN6⟩,HC5⟩
          case measure => simp [intOf]; omega
        · have hspd : (sp != 91) = true:=by simpa using hsp
          have HPO:=hQ_ (show y1_ n (yU_ (zp_ l)) W (.returned (.tuple #[.slice none 0 0,.int .i64 (-1),.int .i64 13])) w4 from ⟨HC4.out,.inr ⟨HNO.out (by unfold yQ_; rw [if_neg (by decide),if_neg (by decide),if_neg (by decide),if_pos rfl]; simp only; rw [if_neg (fun hc => hsp (by rw [HSP.out] at hc; injection hc))]),rfl⟩⟩)
          go_wp2_with fail
          go_ret3
          exact HPO.out
    have k1 : (s == 63) = false:=by simpa using h63
    have k2 : (s == 91) = false:=by simpa using h91
    have k3 : (s == 58) = false:=by simpa using h58
    have k4 : (s == 59) = false:=by simpa using h59
    have k5 : (s == 93) = false:=by simpa using h93
    have HN6:=hQ_ (HNX.out ⟨mt.set k (-1),md,mo⟩ (by unfold yQ_; rw [if_neg (by simp [h63,h91]),if_neg h58,if_neg h59,if_neg h93]))
    clear h63 h91 h58 h59 h93
    go_wp2_with fail
    go_roundw
    case rel => exact ⟨k + 1,by omega,by go_num,⟨_,rfl,HM4,HN6⟩,HC4⟩
    case measure => simp [intOf]; omega
  · have hltI : ¬ (k : Int) < (n : Int):=by omega
    have HR5:=hQ_ (show uD_ (zp_ l) 0 (zp_ l) ⟨List.replicate (zp_ l).length 0,0,[]⟩ = some m from by rw [HRUN.out,List.drop_eq_nil_of_le (by rw [HSL.out]; omega)]; rfl)
    obtain ⟨Ao,co,rfl,_⟩:=zr_ HM.out.own
    obtain ⟨q,hq⟩ : ∃ q,q = m.op.length:=⟨_,rfl⟩
    have HQ:=hQ_ hq
    have hqe : m.op.length = q:=hq.symm
    rw [hqe]
    clear hq hqe
    by_cases h0 : 0 < q
    · have h0I : (0 : Int) < (q : Int):=by omega
      have HPO:=hQ_ (show y1_ n (yU_ (zp_ l)) W (.returned (.tuple #[.slice none 0 0,.int .i64 (-1),.int .i64 13])) wr from ⟨HCr.out,.inr ⟨by
        unfold yU_
        rw [HR5.out]
        show (if m.op = [] then _ else none) = none
        rw [if_neg (fun e => by have:=HQ.out; rw [e] at this; simp at this; omega)],rfl⟩⟩)
      go_wp2_with fail
      go_ret3
      exact HPO.out
    · have h0I : ¬ (0 : Int) < (q : Int):=by omega
      have HOP:=hQ_ (show m.op = [] from List.eq_nil_of_length_eq_zero (by have:=HQ.out; omega))
      have HRN:=hQ_ (show yU_ (zp_ l) = (xS_ (zp_ l) 0 (zp_ l) m.tO).map fun t => (t,m.deep) from by
       unfold yU_
       rw [HR5.out]
       show (if m.op = [] then _ else none) = _
       rw [if_pos HOP.out])
      have HTO:=hQ_ HM.out.to_
      have HLE:=hQ_ HM.out.len
      obtain ⟨mt,md,mo⟩:=m
      simp only at HTO HLE HRN ⊢
      go_wp2_with fail
      go_loopw [9,144] (fun _ s wx => ∃ k : Nat,k ≤ n ∧ s = .int .i64 (k : Int) ∧ (∃ t,t.length = n ∧ Hid (zb_ wx gt 3 (nms t)) ∧ Hid (xS_ (zp_ l) 0 (zp_ l) mt = xS_ (zp_ l) k ((zp_ l).drop k) t)) ∧ Hid (Chg [] W wx)) (fun _ s _ => n - (intOf s).toNat)
      case atStart => exact ⟨0,Nat.zero_le _,rfl,⟨_,HLE.out,HTO,hQ_ rfl⟩,HCr⟩
      case round =>
       obtain ⟨k,hk,rfl,⟨t,htl,HT,HF⟩,HCx⟩:=hrel
       have HTL:=hQ_ htl
       clear htl
       by_cases hlt2 : k < n
       · have hltI : (k : Int) < (n : Int):=by omega
         have hk0 : (0 : Int) ≤ (k : Int):=by omega
         have hkl : k < (zp_ l).length:=by rw [HSL.out]; exact hlt2
         obtain ⟨b,o,rfl,hb,t0⟩:=(H.out.keep HCx.out).sign (List.getElem?_eq_getElem hkl)
         have HS:=hQ_ (show (zp_ l).drop k = (zp_ l)[k] :: (zp_ l).drop (k + 1) from List.drop_eq_getElem_cons hkl)
         generalize (zp_ l)[k]'hkl = s at t0 HS
         clear hkl
         by_cases hs : s = 126
         · subst hs
           obtain ⟨v,hv⟩ : ∃ v,v = z0_ (zp_ l) t k (n - k) k:=⟨_,rfl⟩
           have HV:=hQ_ (show v = z0_ (zp_ l) t k ((zp_ l).length - k) k from by rw [HSL.out]; exact hv)
           have hkt : k < t.length:=by rw [HTL.out]; exact hlt2
           have t2 : wr.cell? ⟨gt,k,none⟩ = some (.int .i64 (t[k]'hkt)):=(HT.out.cell k).trans (y0_ _ _ hkt)
           have f2:=HT.out.frozen k
           have HLV:=hQ_ (zal (H.out.keep HCx.out) HT.out HTL.out k hlt2)
           have hv':=hv.symm
           have HVV:=hQ_ hv'
           clear hv hv'
           go_upto_region 38 with (go_at_call 96; refine HLV.out.mono ?_; rintro e w' ⟨rfl,rfl⟩; rw [HVV.out])
           have HT3:=hQ_ (HT.out.set_ k (.int .i64 v))
           rw [qz_] at HT3
           have HC3:=hQ_ (show Chg [] W (wr.setCell ⟨gt,k,none⟩ (.int .i64 v)) from HCx.out.setCell (fun h => absurd h (by have:=HGT.out; simp only; omega)) _)
           generalize wr.setCell ⟨gt,k,none⟩ (.int .i64 v) = w3 at HT3 HC3 ⊢
           have hl3 : (t.set k v).length = n:=by rw [List.length_set]; exact HTL.out
           have t3 : w3.cell? ⟨gt,k,none⟩ = some (.int .i64 v):=(HT3.out.cell k).trans (by rw [y0_ _ _ (by rw [hl3]; exact hlt2),List.getElem_set_self])
           have HL3:=hQ_ hl3
           clear t2 f2 hl3
           by_cases hneg : v < 0
           · have HPO:=hQ_ (show y1_ n (yU_ (zp_ l)) W (.returned (.tuple #[.slice none 0 0,.int .i64 (-1),.int .i64 13])) w3 from ⟨HC3.out,.inr ⟨by rw [HRN.out,HF.out,HS.out,xS_,if_pos rfl,← HV.out,if_pos hneg]; rfl,rfl⟩⟩)
             go_wp2_with fail
             go_ret3
             exact HPO.out
           · have HF3:=hQ_ (show xS_ (zp_ l) 0 (zp_ l) mt = xS_ (zp_ l) (k + 1) ((zp_ l).drop (k + 1)) (t.set k v) from by rw [HF.out,HS.out,xS_,if_pos rfl,← HV.out,if_neg hneg])
             go_wp2_with fail
             go_roundw
             case rel => exact ⟨k + 1,by omega,by go_num,⟨_,HL3.out,HT3,HF3⟩,HC3⟩
             case measure => simp [intOf]; omega
         · have hsd : (s == 126) = false:=by simpa using hs
           have HF3:=hQ_ (show xS_ (zp_ l) 0 (zp_ l) mt = xS_ (zp_ l) (k + 1) ((zp_ l).drop (k + 1)) t from by rw [HF.out,HS.out,xS_,if_neg hs])
           go_wp2_with fail
           go_roundw
           case rel => exact ⟨k + 1,by omega,by go_num,⟨_,HTL.out,HT,HF3⟩,HCx⟩
           case measure => simp [intOf]; omega
       · have hltI : ¬ (k : Int) < (n : Int):=by omega
         have HPO:=hQ_ (show y1_ n (yU_ (zp_ l)) W (.returned (.tuple #[.slice (some ⟨gt,0,none⟩) n n,.int .i64 (md : Int),.int .i64 0])) wr from ⟨HCx.out,.inl ⟨t,md,gt,by rw [HRN.out,HF.out,List.drop_eq_nil_of_le (by rw [HSL.out]; omega)]; rfl,HTL.out,rfl,HT.out⟩⟩)
         go_wp2_with fail
         go_ret3
         exact HPO.out
end
def zfw : List Int → Nat → Prop
  | [],n => n ≤ 16
  | s :: r,n => n ≤ 16 ∧ (yy_ s → 0 < n) ∧ zfw r (xT_ s n)
theorem zby {ss : List Int} {i : Nat} {s : Int} {m m' : RSt} (h : yQ_ ss i s m = some m') (hm : m.op.length ≤ 16) : (yy_ s → 0 < m.op.length) ∧ m'.op.length = xT_ s m.op.length ∧ m'.op.length ≤ 16:=by
 unfold yQ_ at h
 split at h
 · rename_i hs
   split at h
   · injection h with h; subst h
     refine ⟨fun he => by unfold yy_ at he; omega,by simp [xT_,hs],by simp; omega⟩
   · cases h
 rename_i hs
 split at h
 · rename_i h58
   split at h
   · rename_i p r hop
     split at h
     · injection h with h; subst h
       rw [hop] at hm ⊢
       refine ⟨fun _ => by simp,?_,by simpa using hm⟩
       subst h58; rfl
     · cases h
   · cases h
 rename_i h58
 split at h
 · rename_i h59
   split at h
   · rename_i p r hop
     split at h
     · cases h
     · injection h with h; subst h
       rw [hop] at hm ⊢
       refine ⟨fun _ => by simp,?_,by simp at hm ⊢; omega⟩
       subst h59; rfl
   · cases h
 rename_i h59
 split at h
 · rename_i h93
   split at h
   · rename_i p r hop
     split at h
     · injection h with h; subst h
       rw [hop] at hm ⊢
       refine ⟨fun _ => by simp,?_,by simp at hm ⊢; omega⟩
       subst h93; rfl
     · cases h
   · cases h
 rename_i h93
 injection h with h; subst h
 refine ⟨fun he => by unfold yy_ at he; omega,by unfold xT_; rw [if_neg hs,if_neg (by omega)],hm⟩
theorem zcG {ss : List Int} : ∀ (rest : List Int) (i : Nat) (m m' : RSt),m.op.length ≤ 16 → uD_ ss i rest m = some m' → zfw rest m.op.length
  | [],_,_,_,hm,_ => hm
  | s :: r,i,m,m',hm,h => by
    rw [uD_] at h
    cases ht : yQ_ ss i s ⟨m.tO.set i (-1),m.deep,m.op⟩ with
    | none => rw [ht] at h; cases h
    | some m1 =>
      rw [ht] at h
      obtain ⟨h1,h2,h3⟩:=zby ht hm
      have:=zcG r (i + 1) m1 m' h3 h
      rw [h2] at this
      exact ⟨hm,h1,this⟩
theorem zcH {ss : List Int} {R : List Int × Nat} (h : yU_ ss = some R) : zfw ss 0:=by
 unfold yU_ at h
 cases hr : uD_ ss 0 ss ⟨List.replicate ss.length 0,0,[]⟩ with
 | none => rw [hr] at h; cases h
 | some r => exact zcG ss 0 _ r (by simp) hr
def rFn (l : List FnV) (k : Int) : Int × List Int :=
 if k < 0 ∨ (l.length : Int) ≤ k then (23,[]) else match l[k.toNat]? with | none => (23,[]) | some f => vv_ l f.code
def yC_ (R : Int × List Int) (w : World) (e : Ending) (w' : World) : Prop :=
 ∃ v,e = .returned (.tuple #[v,.int .i64 R.1]) ∧ w'.ownsRow w.heap.size 3 1 v R.2.length (nms R.2) ∧ Chg [] w w'
theorem uv_ {w w' : World} {R : Int × List Int} (er : Int) (hR : R = (er,[])) (hc : Chg [] w w') : yC_ R w (.returned (.tuple #[.slice none 0 0,.int .i64 er])) w':=by
 subst hR
 exact ⟨_,rfl,World.ownsRow_nil _ _ _ _,hc⟩
theorem xz_ (l : List FnV) (t : TkV) (ts : List TkV) (h : Int) (bs : List BkV) (out : List Int) : vu_ l (t :: ts) h bs out = if (vc_ l h bs t.sign t.name).1 = 0 then vu_ l ts (vc_ l h bs t.sign t.name).2.1 (vc_ l h bs t.sign t.name).2.2 (out ++ [h]) else ((vc_ l h bs t.sign t.name).1,[]):=by
 rw [vu_]
theorem jK_ {w w' : World} {B n k : Nat} {e : TypeId} {v : Value} {xs : List Value} {T : List Nat} (h : w.ownsRow B e k v n xs) (hc : Chg T w w') (hT : ∀ g,v.ownBlock = some g → g ∉ T) : w'.ownsRow B e k v n xs:=by
 refine ⟨h.1,h.2.imp id ?_⟩
 rintro ⟨g,cap,cur,rfl,hb,hg,r⟩
 refine ⟨g,cap,cur,rfl,hb,?_,r⟩
 rw [hc.block g (zes hg) (hT g rfl)]
 exact hg
section
variable {W : World} {gs B : Nat} {h : Int} {vo : Value} {bs : List BkV} {A : Option Addr} {n c : Nat} {l : List FnV} {pages most : Int}
theorem zfB (s : St W gs B h vo bs) : ∀ i ∈ stT gs vo,gs ≤ i:=fun i hi => by
 unfold stT at hi
 rcases List.mem_cons.1 hi with rfl | hi
 · exact Nat.le_refl _
 · cases hb : vo.ownBlock with
   | none => rw [hb] at hi; simp at hi
   | some g =>
     rw [hb] at hi
     simp at hi
     subst hi
     have:=(s.own.lt _ hb).1
     have:=s.lo
     omega
theorem zaU (s : St W gs B h vo bs) (hF : Fnr W A n c l) (t : TkV) (hne : yy_ t.sign → 0 < bs.length) (hfew : bs.length < 1000) : Calls Tryz.prog 65 #[.pointer (some ⟨gs,0,none⟩),zX_ pages most A n c,.agg (tkC t).toArray] W (z7_ gs B vo (vc_ l h bs t.sign t.name) W):=by
 by_cases he : yy_ t.sign
 · rcases List.eq_nil_or_concat bs with rfl | ⟨ys,x,rfl⟩
   · exact absurd (hne he) (by simp)
   · rw [List.concat_eq_append] at s ⊢
     exact gY_ s hF t he
 · exact qs_ s hF t he hfew
theorem jN_ {w : World} (hF : Fnr w A n c l) (hcode : ∀ f ∈ l,f.code.size ≤ 9223372036854775807) (k : Int) : Calls Tryz.prog 38 #[zX_ pages most A n c,.int .i64 k] w (yC_ (rFn l k) w):=by
 unfold zX_
 obtain ⟨i0,hi0,hz0,hz1,hz2⟩:=info_parts vN_
 obtain ⟨R,hR⟩ : ∃ R,R = rFn l k:=⟨_,rfl⟩
 rw [← hR]
 unfold rFn at hR
 rw [hF.len] at hR
 have HR:=hQ_ hR
 have H:=hQ_ hF
 have hmax:=hF.max
 clear hF hR
 go_enter Tryz.func38,Tryz.ntmps38
 go_upto_region 1 with fail
 have hN:=zb_.new w 24 [.int .i64 pages,.int .i64 most,.slice A n c]
 have hal : Chg [] w (w.alloc (.cells #[.int .i64 pages,.int .i64 most,.slice A n c] 24)):=(Chg.refl [] w).alloc _
 have HF1:=hQ_ (H.out.keep hal)
 have HU1:=hQ_ hN
 have HC1:=hQ_ hal
 have HBW:=hQ_ (show w.heap.size ≤ w.heap.size from Nat.le_refl _)
 obtain ⟨gu,hgu⟩ : ∃ g,g = w.heap.size:=⟨_,rfl⟩
 rw [← hgu] at HU1 ⊢
 generalize w.alloc (.cells #[.int .i64 pages,.int .i64 most,.slice A n c] 24) = w1 at HF1 HU1 HC1 ⊢
 clear hN hal hgu
 have u2:=HU1.out.cell 2
 by_cases hk0 : k < 0
 · have qk : decide (k < 0) = true:=by simpa using hk0
   have HP:=hQ_ (show yC_ R w (.returned (.tuple #[.slice none 0 0,.int .i64 23])) w1 from uv_ 23 (by rw [HR.out,if_pos (.inl hk0)]) HC1.out)
   clear hk0
   go_wp2_with fail
   go_ret2
   exact HP.out
 have qk : decide (k < 0) = false:=by simpa using hk0
 by_cases hkn : (n : Int) ≤ k
 · have qn : decide ((n : Int) ≤ k) = true:=by simpa using hkn
   have HP:=hQ_ (show yC_ R w (.returned (.tuple #[.slice none 0 0,.int .i64 23])) w1 from uv_ 23 (by rw [HR.out,if_pos (.inr hkn)]) HC1.out)
   clear hkn hk0
   go_wp2_with fail
   go_ret2
   exact HP.out
 have qn : decide ((n : Int) ≤ k) = false:=by simpa using hkn
 obtain ⟨q,rfl⟩ : ∃ q : Nat,k = (q : Int):=⟨k.toNat,by omega⟩
 have hqn : q < n:=by omega
 obtain ⟨f,hfk⟩ : ∃ f,l[q]? = some f:=⟨l[q]'(by rw [HF1.out.len]; exact hqn),by simp⟩
 have HR1:=hQ_ (show R = vv_ l f.code from by rw [HR.out,if_neg (by omega),show ((q : Int)).toNat = q from rfl,hfk])
 have hcd:=hcode f (List.mem_of_getElem? hfk)
 obtain ⟨fb,fo,rfl,hfbl,e0,e1,e2⟩:=HF1.out.cell hfk
 have hqI : (q : Int) < (n : Int):=by omega
 clear hfk hk0 hkn hcode e0 e1 HR
 go_wp2_with fail
 refine (kz_ f.code (by omega)).mono ?_
 rintro e w2 ⟨hc2,hT⟩
 have HC2:=hQ_ (HC1.out.new hc2)
 have HF2:=hQ_ (HF1.out.keep hc2)
 have HU2:=hQ_ (HU1.out.keep hc2)
 clear u2 e2 hfbl
 rcases hT with ⟨ts,v2,hts,htl,rfl,ho2⟩ | ⟨hts,rfl⟩
 rotate_left
 · have hE : k1_ f.code = 3 ∨ k1_ f.code = 12:=by unfold k1_; split <;> simp
   have HP:=hQ_ (show yC_ R w (.returned (.tuple #[.slice none 0 0,.int .i64 (k1_ f.code)])) w2 from uv_ _ (by rw [HR1.out,vv_,hts]) HC2.out)
   clear hts hc2
   generalize k1_ f.code = te at hE HP ⊢
   have qe : (te != 0) = true:=by simp; omega
   clear hE
   go_wp2_with fail
   go_ret2
   exact HP.out
 obtain ⟨TA,tc,rfl,hTk⟩:=Tks.of_own ho2 (by omega)
 have HT2:=hQ_ hTk
 have HR2:=hQ_ (show R = match yU_ (zp_ ts) with | none => (13,[]) | some _ => vu_ l ts 0 [] [] from by rw [HR1.out,vv_,hts]; rfl)
 clear hts hc2 ho2 hTk HR1
 obtain ⟨tn,htn⟩ : ∃ tn,tn = ts.length:=⟨_,rfl⟩
 rw [← htn] at HT2 htl ⊢
 have HTN:=hQ_ htn
 clear htn
 go_wp2_with fail
 refine (zbr HT2.out).mono ?_
 rintro e w3 ⟨hc3,hT⟩
 have HC3:=hQ_ (HC2.out.new hc3)
 have HF3:=hQ_ (HF2.out.keep hc3)
 have HU3:=hQ_ (HU2.out.keep hc3)
 have HT3:=hQ_ (HT2.out.keep hc3)
 clear hc3
 rcases hT with ⟨t3,d3,g3,hn3,_,rfl,_⟩ | ⟨hn3,rfl⟩
 rotate_left
 · have HP:=hQ_ (show yC_ R w (.returned (.tuple #[.slice none 0 0,.int .i64 13])) w3 from uv_ 13 (by rw [HR2.out,hn3]) HC3.out)
   clear hn3
   go_wp2_with fail
   go_ret2
   exact HP.out
 have HR3:=hQ_ (show R = vu_ l ts 0 [] [] from by rw [HR2.out,hn3])
 have HD:=hQ_ (zcH hn3)
 clear hn3
 have hN4:=zb_.new w3 108 [.int .i64 0,.slice none 0 0]
 have hal4 : Chg [] w3 (w3.alloc (.cells #[.int .i64 0,.slice none 0 0] 108)):=(Chg.refl [] w3).alloc _
 have hsz4 : (w3.alloc (.cells #[.int .i64 0,.slice none 0 0] 108)).heap.size = w3.heap.size + 1:=Array.size_push _
 go_upto_region 12 with fail
 have HC4:=hQ_ (HC3.out.new hal4)
 have HF4:=hQ_ (HF3.out.keep hal4)
 have HU4:=hQ_ (HU3.out.keep hal4)
 have HT4:=hQ_ (HT3.out.keep hal4)
 have HGS:=hQ_ (show w.heap.size ≤ w3.heap.size from HC3.out.size)
 generalize w3.alloc (.cells #[.int .i64 0,.slice none 0 0] 108) = w4 at hN4 hal4 hsz4 HC4 HF4 HU4 HT4 ⊢
 have HC34:=hQ_ hal4
 obtain ⟨gs,hgs⟩ : ∃ g,g = w3.heap.size:=⟨_,rfl⟩
 rw [← hgs] at hN4 hsz4 HGS ⊢
 have HS4:=hQ_ (show St w4 gs (gs + 1) 0 (.slice none 0 0) [] from ⟨hN4,World.ownsRow_nil _ _ _ _,by omega,by simp,by omega,fun b hb => by simp at hb,by omega⟩)
 have HG3:=hQ_ hgs
 clear hN4 hal4 hsz4 hgs HC3 HC2 HF2 HU2 HT2 HC1 HF1 HU1 HF4 HU4 HT4
 have HTL:=hQ_ htl
 go_loopw [12,51] (fun v i wr => ∃ (j : Nat) (h : Int) (bs : List BkV) (vo : Value) (out : List Int),i = .int .i64 (j : Int) ∧ j ≤ tn ∧ Hid (St wr gs (gs + 1) h vo bs) ∧ Hid (wr.ownsRow (gs + 1) 3 1 v j (nms out)) ∧
   Hid (zfw (zp_ (ts.drop j)) bs.length) ∧ Hid (R = vu_ l (ts.drop j) h bs out) ∧ Hid (Chg [] w wr) ∧ Hid (Chg [] w3 wr)) (fun _ i _ => tn - (intOf i).toNat)
 case atStart => exact ⟨0,0,[],_,[],rfl,by omega,HS4,hQ_ (World.ownsRow_nil _ _ _ _),HD,HR3,HC4,HC34⟩
 case round =>
  obtain ⟨j,h,bs,vo,out,rfl,hj,HS,HO,HDR,HRW,HC,HCW⟩:=hrel
  obtain ⟨AO,co,rfl,_⟩:=zr_ HO.out
  by_cases hjn : j < tn
  · have hjI : (j : Int) < (tn : Int):=by omega
    obtain ⟨t,htj⟩ : ∃ t,ts[j]? = some t:=⟨ts[j]'(by rw [← HTN.out]; exact hjn),by simp⟩
    have HDJ:=hQ_ (show ts.drop j = t :: ts.drop (j + 1) from List.drop_eq_getElem?_toList_append.trans (by rw [htj]; rfl))
    have HTr:=hQ_ (HT3.out.keep HCW.out)
    obtain ⟨b,o,rfl,hbl,t0,t1,t2⟩:=HTr.out.cell htj
    clear htj
    go_upto_region 14 with fail
    have hal5 : Chg [] wr (wr.alloc (.cells #[.int .i32 t.sign,.int .i64 t.n,.int .i32 t.name] 110)):=(Chg.refl [] wr).alloc _
    have HT5:=hQ_ (zb_.new wr 110 [.int .i32 t.sign,.int .i64 t.n,.int .i32 t.name])
    have HS5:=hQ_ (HS.out.keep hal5)
    have HO5:=hQ_ (zg_ HO.out hal5)
    have HU5:=hQ_ (HU3.out.keep (HCW.out.new hal5))
    have HC5:=hQ_ (HC.out.new hal5)
    have HCW5:=hQ_ (HCW.out.new hal5)
    obtain ⟨gt,hgt⟩ : ∃ g,g = wr.heap.size:=⟨_,rfl⟩
    rw [← hgt] at HT5 ⊢
    generalize wr.alloc (.cells #[.int .i32 t.sign,.int .i64 t.n,.int .i32 t.name] 110) = w5 at hal5 HT5 HS5 HO5 HU5 HC5 HCW5 ⊢
    clear hal5 hgt t0 t1 t2 hbl HTr HC HCW HO HS
    have c0:=HS5.out.rec_.cell 0
    have HAL:=hQ_ (show Chg [] w5 (w5.alloc (.cells #[.int .i64 h] 3)) from (Chg.refl [] w5).alloc _)
    have HO6:=hQ_ (zg_ HO5.out HAL.out)
    have HRM:=hQ_ HS5.out.room
    have hjb:=HTL.out
    clear htl
    go_wp2_with (
     at_builtin
     refine wpList_append_own _ rfl (.tmp 55) (.tmp 60) _ rfl (gs + 1) 3 i0 _ 1 8 Tryz.underlying26 hi0 hz0 hz1 hz2 rfl (by decide) (.slice AO j co) j (nms out) rfl HO6.out ⟨w5.heap.size,0,none⟩ 1 1 [.int .i64 h] rfl rfl (zo_ _ _ _) (by simp [Value.oneCell']) (by simp only [maxLen]; omega) (by omega) (by have:=HRM.out; simp; omega) ?_
     intro v' w6 ho6 hg6 _
     obtain ⟨A6,c6,rfl,_⟩:=zr_ ho6
     have HO7:=hQ_ ho6
     have HG7:=hQ_ hg6
     have HU6:=hQ_ (zh_ (HU5.out.keep HAL.out) HO6.out (by decide) hg6)
     have HT6:=hQ_ (zh_ (HT5.out.keep HAL.out) HO6.out (by decide) hg6)
     have HC6:=hQ_ (show Chg [] w w6 from zM_ (HC5.out.new HAL.out) hg6 (fun g hg => by have:=(HO6.out.lt g hg).1; have:=HGS.out; omega))
     have HCW6:=hQ_ (show Chg [] w3 w6 from zM_ (HCW5.out.new HAL.out) hg6 (fun g hg => by have:=(HO6.out.lt g hg).1; have:=HG3.out; omega))
     have u0:=HU6.out.cell 0
     have u1:=HU6.out.cell 1
     have u2:=HU6.out.cell 2
     have t0:=HT6.out.cell 0
     have t1:=HT6.out.cell 1
     have t2:=HT6.out.cell 2
     clear ho6 hg6)
    have HS7:=hQ_ (show St w6 gs (gs + 1) h vo bs from ⟨zh_ (HS5.out.keep HAL.out).rec_ HO6.out (by decide) HG7.out,yP_ (HS5.out.keep HAL.out).own HO6.out (by decide) HG7.out,HS5.out.lo,HS5.out.few,HS5.out.hr,HS5.out.wf,Nat.le_trans (HS5.out.keep HAL.out).room HG7.out.size⟩)
    have HDD:=hQ_ (show zfw (t.sign :: zp_ (ts.drop (j + 1))) bs.length from by have:=HDR.out; rw [HDJ.out] at this; exact this)
    obtain ⟨RT,hRT⟩ : ∃ RT,RT = vc_ l h bs t.sign t.name:=⟨_,rfl⟩
    have HTK:=hQ_ (zaU (pages:=pages) (most:=most) HS7.out (HF3.out.keep HCW6.out) t HDD.out.2.1 (by have:=HDD.out.1; omega))
    have HRW2:=hQ_ (show R = if RT.1 = 0 then vu_ l (ts.drop (j + 1)) RT.2.1 RT.2.2 (out ++ [h]) else (RT.1,[]) from by rw [HRW.out,HDJ.out,xz_,hRT])
    have HLN:=hQ_ (show RT.1 = 0 → RT.2.2.length = xT_ t.sign bs.length from fun he => by rw [hRT] at he ⊢; exact zds he)
    rw [← hRT] at HTK
    have HGE:=hQ_ (zfB HS7.out)
    clear hRT
    refine HTK.out.mono ?_
    rintro e w7 ⟨rfl,hS8,hc7⟩
    have HC7:=hQ_ (show Chg [] w w7 from HC6.out.then_ hc7 (fun i hi hlt => by have:=HGE.out i hi; have:=HGS.out; have:=HG3.out; omega))
    have HCW7:=hQ_ (show Chg [] w3 w7 from HCW6.out.then_ hc7 (fun i hi hlt => by have:=HGE.out i hi; have:=HG3.out; omega))
    have HO8:=hQ_ (jK_ HO7.out hc7 (fun g hg hm => by
     unfold stT at hm
     rcases List.mem_cons.1 hm with rfl | hm
     · have:=(HO7.out.lt _ hg).1; omega
     · have:=q7_ HO7.out HS7.out.own (by decide) hg
       cases hb : vo.ownBlock with
       | none => rw [hb] at hm; simp at hm
       | some g2 => rw [hb] at hm this; simp at hm; subst hm; exact this rfl))
    clear hc7 u0 u1 u2 t0 t1 t2 c0
    by_cases her : RT.1 = 0
    · obtain ⟨vo8,hS9⟩:=hS8 her
      have HS9:=hQ_ hS9
      have HR9:=hQ_ (HRW2.out.trans (if_pos her))
      have HD9:=hQ_ (show zfw (zp_ (ts.drop (j + 1))) RT.2.2.length from by rw [HLN.out her]; exact HDD.out.2.2)
      rw [her]
      clear hS8 hS9 her
      go_wp2_with fail
      go_roundw
      case rel => exact ⟨j + 1,RT.2.1,RT.2.2,vo8,out ++ [h],by go_num,by omega,HS9,hQ_ (by have:=HO8.out; simpa [nms] using this),HD9,HR9,HC7,HCW7⟩
      case measure => simp [intOf]; omega
    · have qe : (RT.1 != 0) = true:=by simpa using her
      have HP:=hQ_ (show yC_ R w (.returned (.tuple #[.slice none 0 0,.int .i64 RT.1])) w7 from uv_ _ (HRW2.out.trans (if_neg her)) HC7.out)
      clear hS8 her
      go_wp2_with fail
      go_ret2
      exact HP.out
  · have hjI : (tn : Int) ≤ (j : Int):=by omega
    have HRZ:=hQ_ (show R = if h ≠ 1 ∧ 0 ≤ h then (14,[]) else (0,out) from by rw [HRW.out,List.drop_eq_nil_of_le (by rw [← HTN.out]; omega),vu_])
    have c0:=HS.out.rec_.cell 0
    have HOW:=hQ_ (z1_ HO.out (show w.heap.size ≤ gs + 1 from by have:=HGS.out; omega))
    have HJO:=hQ_ (show j = out.length from by have:=HO.out.1; simpa [nms] using this.symm)
    by_cases h1 : h = 1
    · have q1 : (h != 1) = false:=by simpa using h1
      have HP:=hQ_ (show yC_ R w (.returned (.tuple #[.slice AO j co,.int .i64 0])) wr from by
       rw [HRZ.out,if_neg (by omega)]
       exact ⟨_,rfl,by rw [← HJO.out]; exact HOW.out,HC.out⟩)
      clear h1
      go_wp2_with fail
      go_ret2
      exact HP.out
    · have q1 : (h != 1) = true:=by simpa using h1
      by_cases h0 : 0 ≤ h
      · have q0 : decide (0 ≤ h) = true:=by simpa using h0
        have HP:=hQ_ (show yC_ R w (.returned (.tuple #[.slice none 0 0,.int .i64 14])) wr from uv_ 14 (by rw [HRZ.out,if_pos ⟨h1,h0⟩]) HC.out)
        clear h1 h0
        go_wp2_with fail
        go_ret2
        exact HP.out
      · have q0 : decide (0 ≤ h) = false:=by simpa using h0
        have HP:=hQ_ (show yC_ R w (.returned (.tuple #[.slice AO j co,.int .i64 0])) wr from by
         rw [HRZ.out,if_neg (by omega)]
         exact ⟨_,rfl,by rw [← HJO.out]; exact HOW.out,HC.out⟩)
        clear h1 h0
        go_wp2_with fail
        go_ret2
        exact HP.out
theorem zbv {w : World} (hF : Fnr w A n c l) (hcode : ∀ f ∈ l,f.code.size ≤ 1000000) (k : Int) : Calls Tryz.prog 38 #[zX_ pages most A n c,.int .i64 k] w (yC_ (rFn l k) w):=jN_ hF (fun f hf => Nat.le_trans (hcode f hf) (by omega)) k
end
def xB_ (h : Int) (bs : List BkV) (k : Nat) : Int × Int × List BkV:=match z9_ h bs k with | (true,h',bs') => (0,h',bs') | (false,h',bs') => (14,h',bs')
theorem zcd {h : Int} {bs : List BkV} {k : Nat} {y : BkV} (hk : bs[k]? = some y) (hy : y.sign ≠ 91) : xB_ h bs (k + 1) = xB_ h bs k:=by
 unfold xB_
 rw [z9_,hk]
 simp only
 rw [if_neg hy]
theorem zce {h : Int} {bs : List BkV} {k : Nat} {y : BkV} (hk : bs[k]? = some y) (hy : y.sign = 91) : xB_ h bs (k + 1) = if h = y.base then (0,-1,bs.set k ⟨y.sign,y.base,y.other,true⟩) else (14,-1,bs.set k ⟨y.sign,y.base,y.other,true⟩):=by
 unfold xB_
 rw [z9_,hk]
 simp only
 rw [if_pos hy]
 by_cases e : h = y.base
 · rw [if_pos e,show (h == y.base) = true from by simpa using e]
 · rw [if_neg e,show (h == y.base) = false from by simpa using e]
section
variable {W : World} {g : Nat} {h : Int} {v : Value} {bs ys : List BkV} {x : BkV}
theorem Wk.part (s : Wk W g h v bs) {k : Nat} {y : BkV} (hk : bs[k]? = some y) : ∃ gr c,v = .slice (some ⟨gr,0,none⟩) bs.length c ∧ bs.length ≤ c ∧ g + 1 ≤ gr ∧ W.cell? ⟨gr,k * 5,none⟩ = some (.bool (y.sign == 91)) ∧ W.cell? ⟨gr,k * 5 + 1,none⟩ = some (.int .i64 y.base) ∧ W.cell? ⟨gr,k * 5 + 4,none⟩ = some (.bool y.left) ∧ W.frozen? ⟨gr,k * 5 + 4,none⟩ = false:=by
 obtain ⟨A,n,c,rfl,hn,hc⟩:=s.slice
 subst hn
 obtain ⟨gr,rfl,c0⟩:=zv_ s.own rfl ((vJ_ _ _ _ 0 hk (by omega)).trans rfl)
 obtain ⟨_,e,c1⟩:=zv_ s.own rfl ((vJ_ _ _ _ 1 hk (by omega)).trans rfl)
 injection e with e; injection e with e; subst e
 obtain ⟨_,e,c4⟩:=zv_ s.own rfl ((vJ_ _ _ _ 4 hk (by omega)).trans rfl)
 injection e with e; injection e with e; subst e
 exact ⟨gr,c,rfl,hc,(s.own.lt gr rfl).1,c0,c1,c4,zP_ s.own⟩
theorem gO_ (s : Wk W g h v bs) (hx : ∃ x ∈ bs,x.sign = 91) : Calls Tryz.prog 132 #[.pointer (some ⟨g,0,none⟩)] W (yo_ W g (xB_ h bs bs.length)):=by
 have h0 : 0 < bs.length:=by obtain ⟨x,hx,_⟩:=hx; exact List.length_pos_of_mem hx
 have HR:=hQ_ (show ∃ q : Nat,bs.length = q + 1 from ⟨bs.length - 1,by omega⟩)
 generalize hRR : xB_ h bs bs.length = R
 obtain ⟨q,hq⟩:=HR.out
 have HQ:=hQ_ hq
 have HRR:=hQ_ hRR
 have hfew:=s.few
 have hq99 : q ≤ 99:=by omega
 obtain ⟨y0,hy0⟩ : ∃ y,bs[q]? = some y:=⟨bs[q]'(by omega),by simp⟩
 obtain ⟨gr,c,rfl,hc,hgr,_⟩:=s.part hy0
 have HS:=hQ_ s
 have c0:=s.rec_.cell 0
 have c1:=s.rec_.cell 1
 have g0:=s.rec_.frozen 0
 have HX:=hQ_ (show ∃ j ≤ q,∃ x,bs[j]? = some x ∧ x.sign = 91 from by
  obtain ⟨x,hx,hs⟩:=hx
  obtain ⟨j,hj,rfl⟩:=List.getElem_of_mem hx
  exact ⟨j,by omega,_,List.getElem?_eq_getElem hj,hs⟩)
 rw [hq] at c1 hc HS
 clear s hx h0 HR hq hRR hfew hy0
 have hq0 : (0 : Int) ≤ (q : Int):=by omega
 go_enter Tryz.func132,Tryz.ntmps132
 go_wp2_with fail
 go_loopw [3] (fun i wr => ∃ k : Nat,i = .int .i64 (k : Int) ∧ k ≤ q ∧ Hid (R = xB_ h bs (k + 1)) ∧ Hid (∃ j ≤ k,∃ x,bs[j]? = some x ∧ x.sign = 91) ∧ wr = W) (fun i _ => (intOf i).toNat)
 case atStart => exact ⟨q,rfl,by omega,hQ_ (by rw [← HRR.out,HQ.out]),HX,rfl⟩
 case round =>
  obtain ⟨k,rfl,hk,HRk,HXk,hwr⟩:=hrel
  subst hwr
  obtain ⟨y,hy⟩ : ∃ y,bs[k]? = some y:=⟨bs[k]'(by have:=HQ.out; omega),by simp⟩
  obtain ⟨gr',c',e,_,_,y0',y1,y4,fy4⟩:=HS.out.part hy
  injection e with e1 e2 e3
  injection e1 with e1
  injection e1 with e1
  subst e1
  have hkI : (k : Int) < (q : Int) + 1:=by omega
  have hkI2 : (k : Int) < ((q + 1 : Nat) : Int):=by omega
  have hk0 : (0 : Int) ≤ (k : Int):=by omega
  by_cases h91 : y.sign = 91
  · have q91 : (y.sign == 91) = true:=by simpa using h91
    rw [q91] at y0'
    have HRE:=hQ_ (HRk.out.trans (zce hy h91))
    have HY:=hQ_ hy
    clear h91 q91 hy e2 e3
    by_cases hb : h = y.base
    · have qb : (h != y.base) = false:=by simpa using hb
      have qb2 : (h == y.base) = true:=by simpa using hb
      have HE:=hQ_ (HRE.out.trans (if_pos hb))
      clear hb
      go_upto_region 4 with fail
      go_quiet (fail)
      have hcd:=(Chg.refl [] wr).drewN nq
      have HS2:=hQ_ (HS.out.keep hcd)
      have z4:=zf_ y4 hcd
      have HC2:=hQ_ hcd
      have HM:=hQ_ (HS2.out.mark (k:=k) (y:=y) HQ.out.symm HY.out)
      have fz4 : (wr.drewN nq).frozen? ⟨gr,k * 5 + 4,none⟩ = false:=fy4
      generalize wr.drewN nq = w2 at HS2 z4 HC2 HM fz4 ⊢
      clear hcd c0 c1 g0 y0' y1 y4 fy4
      have c1:=HS2.out.rec_.cell 1
      go_upto_region 7 with fail
      generalize w2.setCell ⟨gr,k * 5 + 4,none⟩ (.bool true) = w3 at HM ⊢
      clear c1
      have c0:=HM.out.1.rec_.cell 0
      have g0:=HM.out.1.rec_.frozen 0
      obtain ⟨hP,hF⟩:=HM.out.1.high (-1) (by omega)
      have HP:=hQ_ (show yo_ wr g R (.returned (.int .i64 0)) _ from ⟨((Fr.of_chg HC2.out).trans HM.out.2).trans hF,by rw [HE.out],fun _ => by rw [HE.out]; exact ⟨_,hP⟩⟩)
      clear hP hF
      go_wp2_with fail
      go_ret
      exact HP.out
    · have qb : (h != y.base) = true:=by simpa using hb
      have qb2 : (h == y.base) = false:=by simpa using hb
      have HE:=hQ_ (HRE.out.trans (if_neg hb))
      clear hb
      go_upto_region 4 with fail
      go_quiet (fail)
      have HP:=hQ_ (show yo_ wr g R (.returned (.int .i64 14)) (wr.drewN nq) from ⟨Fr.of_chg ((Chg.refl [] wr).drewN nq),by rw [HE.out],fun hh => by rw [HE.out] at hh; exact absurd hh (by simp)⟩)
      go_wp2_with fail
      go_ret
      exact HP.out
  · have q91 : (y.sign == 91) = false:=by simpa using h91
    rw [q91] at y0'
    obtain ⟨j,hj,x,hxj,hxs⟩:=HXk.out
    have hjk : j < k:=by
     rcases Nat.lt_or_ge j k with h' | h'
     · exact h'
     · exfalso
       have : j = k:=by omega
       subst this
       rw [hy] at hxj
       injection hxj with e
       subst e
       exact h91 hxs
    have HR2:=hQ_ (show R = xB_ h bs (k - 1 + 1) from by rw [HRk.out,zcd hy h91,show k - 1 + 1 = k from by omega])
    have HX2:=hQ_ (show ∃ j ≤ k - 1,∃ x,bs[j]? = some x ∧ x.sign = 91 from ⟨j,by omega,x,hxj,hxs⟩)
    have hk1 : (1 : Int) ≤ (k : Int):=by omega
    clear h91 q91 hy e2 e3 hxj
    go_wp2_with fail
    go_roundw
    case rel => exact ⟨k - 1,by rw [show ((k - 1 : Nat) : Int) = (k : Int) - 1 from by omega],by omega,HR2,HX2,by first | rfl | trivial⟩
    case measure => simp [intOf]; omega
end
def Top (sg : Int) (bs : List BkV) : Prop:=(sg = 58 → ∃ ys x,bs = ys ++ [x] ∧ x.sign = 63) ∧ (sg = 59 → ∃ ys x,bs = ys ++ [x] ∧ x.sign ≠ 91) ∧ (sg = 93 → ∃ ys x,bs = ys ++ [x] ∧ x.sign = 91) ∧ (sg = 126 → ∃ x ∈ bs,x.sign = 91)
def yJ_ (h : Int) (bs : List BkV) (s : Int) : Int × Int × List BkV :=
 if yy_ s then (match bs.getLast? with
   | none => (14,h,bs)
   | some x => jp_ h bs.dropLast x s)
 else if s = 63 ∨ s = 91 then (0,h,bs ++ [⟨s,h,0,false⟩])
 else if s = 126 then xB_ h bs bs.length
 else if s = 161 then (0,-1,bs)
 else (0,h,bs)
theorem x7_ {h : Int} {ys : List BkV} {x : BkV} {s : Int} (hs : yy_ s) : yJ_ h (ys ++ [x]) s = jp_ h ys x s:=by
 unfold yJ_
 rw [if_pos hs]
 simp only [List.getLast?_append,List.getLast?_singleton,Option.some_or,List.dropLast_concat]
section
variable {W : World} {g : Nat} {h : Int} {v : Value} {bs ys : List BkV} {x : BkV}
theorem zcZ (s : Wk W g h v bs) (h0 : 0 ≤ h) (hf : bs.length ≤ 99) : Calls Tryz.prog 119 #[.pointer (some ⟨g,0,none⟩),.int .i32 63] W (yo_ W g (0,h,bs ++ [⟨63,h,0,false⟩])):=by
 obtain ⟨i0,hi0,hz0,hz1,hz2⟩:=info_parts ub_
 obtain ⟨A3,n3,c3,rfl,hn3,hc3⟩:=s.slice
 have HS:=hQ_ s
 have k1:=s.rec_.cell 1
 have k0:=s.rec_.cell 0
 have hal : Chg [] W (W.alloc (.cells #[.bool false,.int .i64 h,.bool false,.int .i64 0,.bool false] 171)):=(Chg.refl [] W).alloc _
 have q1 : (W.alloc (.cells #[.bool false,.int .i64 h,.bool false,.int .i64 0,.bool false] 171)).cell? ⟨g,1,none⟩ = some (.slice A3 n3 c3):=zf_ (by simpa using k1) hal
 have q0 : (W.alloc (.cells #[.bool false,.int .i64 h,.bool false,.int .i64 0,.bool false] 171)).cell? ⟨g,0,none⟩ = some (.int .i64 h):=zf_ (by simpa using k0) hal
 have HOW:=hQ_ (show W.ownsRow (g + 1) 171 5 (.slice A3 n3 c3) n3 (uu_ bs) from by have:=s.own; rw [← hn3] at this; exact this)
 have hBW : g + 1 ≤ W.heap.size:=s.rec_.lt
 have HN:=hQ_ hn3
 have hn99 : n3 ≤ 99:=by omega
 have HHR:=hQ_ s.hr
 clear hn3 hal s
 go_enter Tryz.func119,Tryz.ntmps119
 go_wp2_with fail
 go_region_law (
   (refine yG_ rfl (.tmp 13) (.tmp 21) 143 rfl (g + 1) 171 i0 _ 5 40 Tryz.underlying143 hi0 hz0 hz1 hz2 rfl (by decide) (.slice A3 n3 c3) n3 (uu_ bs) rfl (zg_ HOW.out (((Chg.refl [] W).alloc _).drew)) ⟨W.heap.size,0,none⟩ 1 1 [.bool false,.int .i64 h,.bool false,.int .i64 0,.bool false] rfl rfl (zo_ W _ _) (by simp [Value.oneCell']) (by unfold maxLen; omega) (by omega) (by simp; omega) ?_
    intro v' w' ho hg
    obtain ⟨A6,k6,rfl,_⟩:=zl_ ho
    have HO:=hQ_ ho
    have HG:=hQ_ hg
    have HR6:=hQ_ (zh_ (HS.out.rec_.keep (((Chg.refl [] W).alloc (.cells #[.bool false,.int .i64 h,.bool false,.int .i64 0,.bool false] 171)).drew)) (zg_ HS.out.own (((Chg.refl [] W).alloc (.cells #[.bool false,.int .i64 h,.bool false,.int .i64 0,.bool false] 171)).drew)) (by decide) hg)
    have f1:=HR6.out.frozen 1
    have k1:=HR6.out.cell 1
    clear ho hg))
 all_goals
   obtain ⟨hP,hF⟩:=HS.out.push (x:=⟨63,h,0,false⟩) (((Chg.refl [] W).alloc (.cells #[.bool false,.int .i64 h,.bool false,.int .i64 0,.bool false] 171)).drew) (by have:=HN.out; omega) HO.out HG.out hf (by have:=HHR.out; simp only; omega)
   have HP:=hQ_ (show yo_ W g (0,h,bs ++ [⟨63,h,0,false⟩]) (.returned (.int .i64 0)) _ from ⟨hF,rfl,fun _ => ⟨_,hP⟩⟩)
   clear hP hF
   go_wp2_with fail
   go_ret
   exact HP.out
theorem zcY (s : Wk W g h v bs) (h0 : 0 ≤ h) (hf : bs.length ≤ 99) : Calls Tryz.prog 119 #[.pointer (some ⟨g,0,none⟩),.int .i32 91] W (yo_ W g (0,h,bs ++ [⟨91,h,0,false⟩])):=by
 obtain ⟨i0,hi0,hz0,hz1,hz2⟩:=info_parts ub_
 obtain ⟨A3,n3,c3,rfl,hn3,hc3⟩:=s.slice
 have HS:=hQ_ s
 have k1:=s.rec_.cell 1
 have k0:=s.rec_.cell 0
 have hal : Chg [] W (W.alloc (.cells #[.bool true,.int .i64 h,.bool false,.int .i64 0,.bool false] 171)):=(Chg.refl [] W).alloc _
 have q1 : (W.alloc (.cells #[.bool true,.int .i64 h,.bool false,.int .i64 0,.bool false] 171)).cell? ⟨g,1,none⟩ = some (.slice A3 n3 c3):=zf_ (by simpa using k1) hal
 have q0 : (W.alloc (.cells #[.bool true,.int .i64 h,.bool false,.int .i64 0,.bool false] 171)).cell? ⟨g,0,none⟩ = some (.int .i64 h):=zf_ (by simpa using k0) hal
 have HOW:=hQ_ (show W.ownsRow (g + 1) 171 5 (.slice A3 n3 c3) n3 (uu_ bs) from by have:=s.own; rw [← hn3] at this; exact this)
 have hBW : g + 1 ≤ W.heap.size:=s.rec_.lt
 have HN:=hQ_ hn3
 have hn99 : n3 ≤ 99:=by omega
 have HHR:=hQ_ s.hr
 clear hn3 hal s
 go_enter Tryz.func119,Tryz.ntmps119
 go_wp2_with fail
 go_region_law (
   (refine yG_ rfl (.tmp 13) (.tmp 21) 143 rfl (g + 1) 171 i0 _ 5 40 Tryz.underlying143 hi0 hz0 hz1 hz2 rfl (by decide) (.slice A3 n3 c3) n3 (uu_ bs) rfl (zg_ HOW.out (((Chg.refl [] W).alloc _).drew)) ⟨W.heap.size,0,none⟩ 1 1 [.bool true,.int .i64 h,.bool false,.int .i64 0,.bool false] rfl rfl (zo_ W _ _) (by simp [Value.oneCell']) (by unfold maxLen; omega) (by omega) (by simp; omega) ?_
    intro v' w' ho hg
    obtain ⟨A6,k6,rfl,_⟩:=zl_ ho
    have HO:=hQ_ ho
    have HG:=hQ_ hg
    have HR6:=hQ_ (zh_ (HS.out.rec_.keep (((Chg.refl [] W).alloc (.cells #[.bool true,.int .i64 h,.bool false,.int .i64 0,.bool false] 171)).drew)) (zg_ HS.out.own (((Chg.refl [] W).alloc (.cells #[.bool true,.int .i64 h,.bool false,.int .i64 0,.bool false] 171)).drew)) (by decide) hg)
    have f1:=HR6.out.frozen 1
    have k1:=HR6.out.cell 1
    clear ho hg))
 all_goals
   obtain ⟨hP,hF⟩:=HS.out.push (x:=⟨91,h,0,false⟩) (((Chg.refl [] W).alloc (.cells #[.bool true,.int .i64 h,.bool false,.int .i64 0,.bool false] 171)).drew) (by have:=HN.out; omega) HO.out HG.out hf (by have:=HHR.out; simp only; omega)
   have HP:=hQ_ (show yo_ W g (0,h,bs ++ [⟨91,h,0,false⟩]) (.returned (.int .i64 0)) _ from ⟨hF,rfl,fun _ => ⟨_,hP⟩⟩)
   clear hP hF
   go_wp2_with fail
   go_ret
   exact HP.out
theorem vC_ (s : Wk W g h v bs) (sg : Int) (ht : Top sg bs) (h0 : (sg = 63 ∨ sg = 91) → 0 ≤ h ∧ bs.length ≤ 99) : Calls Tryz.prog 119 #[.pointer (some ⟨g,0,none⟩),.int .i32 sg] W (yo_ W g (yJ_ h bs sg)):=by
 by_cases h63 : sg = 63
 · subst h63
   exact zcZ s (h0 (.inl rfl)).1 (h0 (.inl rfl)).2
 by_cases h91 : sg = 91
 · subst h91
   exact zcY s (h0 (.inr rfl)).1 (h0 (.inr rfl)).2
 have q63 : (sg == 63) = false:=by simpa using h63
 have q91 : (sg == 91) = false:=by simpa using h91
 by_cases h58 : sg = 58
 · subst h58
   obtain ⟨ys,x,rfl,hx⟩:=ht.1 rfl
   have HH:=hQ_ (gQ_ s hx)
   have HR:=hQ_ (show yJ_ h (ys ++ [x]) 58 = (0,x.base,ys ++ [⟨58,x.base,h,x.left⟩]) from by rw [x7_ (.inl rfl)]; rfl)
   generalize yJ_ h (ys ++ [x]) 58 = R at HR ⊢
   clear s ht h0 hx h63 h91
   go_enter Tryz.func119,Tryz.ntmps119
   go_wp2_with fail
   refine HH.out.mono ?_
   rintro e w1 ⟨rfl,v1,hw1,hf1⟩
   have HP:=hQ_ (show yo_ W g R (.returned (.int .i64 0)) w1 from ⟨hf1,by rw [HR.out],fun _ => by rw [HR.out]; exact ⟨_,hw1⟩⟩)
   clear hw1 hf1
   go_wp2_with fail
   go_ret
   exact HP.out
 have q58 : (sg == 58) = false:=by simpa using h58
 by_cases h59 : sg = 59
 · subst h59
   obtain ⟨ys,x,rfl,hx⟩:=ht.2.1 rfl
   have HH:=hQ_ (gR_ s hx)
   have HR:=hQ_ (show yJ_ h (ys ++ [x]) 59 = jp_ h ys x 59 from x7_ (.inr (.inl rfl)))
   generalize hRR : yJ_ h (ys ++ [x]) 59 = R at HR ⊢
   clear s ht h0 h63 h91 h58 hx hRR
   go_enter Tryz.func119,Tryz.ntmps119
   go_wp2_with fail
   refine HH.out.mono ?_
   rw [← HR.out]
   obtain ⟨er,rh,rb⟩:=R
   rintro e w1 ⟨hf1,rfl,hw1⟩
   have HP:=hQ_ (show yo_ W g (er,rh,rb) (.returned (.int .i64 er)) w1 from ⟨hf1,rfl,hw1⟩)
   clear hw1 hf1
   go_wp2_with fail
   go_ret
   exact HP.out
 have q59 : (sg == 59) = false:=by simpa using h59
 by_cases h93 : sg = 93
 · subst h93
   obtain ⟨ys,x,rfl,hx⟩:=ht.2.2.1 rfl
   have HH:=hQ_ (jB_ s hx)
   have HR:=hQ_ (show yJ_ h (ys ++ [x]) 93 = jp_ h ys x 93 from x7_ (.inr (.inr rfl)))
   generalize hRR : yJ_ h (ys ++ [x]) 93 = R at HR ⊢
   clear s ht h0 h63 h91 h58 hx h59 hRR
   go_enter Tryz.func119,Tryz.ntmps119
   go_wp2_with fail
   refine HH.out.mono ?_
   rw [← HR.out]
   obtain ⟨er,rh,rb⟩:=R
   rintro e w1 ⟨hf1,rfl,hw1⟩
   have HP:=hQ_ (show yo_ W g (er,rh,rb) (.returned (.int .i64 er)) w1 from ⟨hf1,rfl,hw1⟩)
   clear hw1 hf1
   go_wp2_with fail
   go_ret
   exact HP.out
 have q93 : (sg == 93) = false:=by simpa using h93
 by_cases h126 : sg = 126
 · subst h126
   have HH:=hQ_ (gO_ s (ht.2.2.2 rfl))
   have HR:=hQ_ (show yJ_ h bs 126 = xB_ h bs bs.length from rfl)
   generalize hRR : yJ_ h bs 126 = R at HR ⊢
   clear s ht h0 h63 h91 h58 h59 h93 hRR
   go_enter Tryz.func119,Tryz.ntmps119
   go_wp2_with fail
   refine HH.out.mono ?_
   rw [← HR.out]
   obtain ⟨er,rh,rb⟩:=R
   rintro e w1 ⟨hf1,rfl,hw1⟩
   have HP:=hQ_ (show yo_ W g (er,rh,rb) (.returned (.int .i64 er)) w1 from ⟨hf1,rfl,hw1⟩)
   clear hw1 hf1
   go_wp2_with fail
   go_ret
   exact HP.out
 have q126 : (sg == 126) = false:=by simpa using h126
 by_cases h161 : sg = 161
 · subst h161
   have c0:=s.rec_.cell 0
   have g0:=s.rec_.frozen 0
   obtain ⟨hP,hF⟩:=s.high (-1) (by omega)
   have HP:=hQ_ (show yo_ W g (yJ_ h bs 161) (.returned (.int .i64 0)) _ from ⟨hF,rfl,fun _ => ⟨_,hP⟩⟩)
   clear s ht h0 hP hF h63 h91 h58 h59 h93 h126
   go_enter Tryz.func119,Tryz.ntmps119
   go_wp2_with fail
   go_ret
   exact HP.out
 · have q161 : (sg == 161) = false:=by simpa using h161
   have HR:=hQ_ (show yJ_ h bs sg = (0,h,bs) from by
    have hne : ¬ yy_ sg:=by unfold yy_; omega
    unfold yJ_
    rw [if_neg hne,if_neg (by omega),if_neg (by omega),if_neg (by omega)])
   have HP:=hQ_ (show yo_ W g (yJ_ h bs sg) (.returned (.int .i64 0)) W from ⟨Fr.refl _ _ _,by rw [HR.out],fun _ => by rw [HR.out]; exact ⟨_,s⟩⟩)
   clear s ht h0 h63 h91 h58 h59 h93 h126 h161
   go_enter Tryz.func119,Tryz.ntmps119
   go_wp2_with fail
   go_ret
   exact HP.out
end
structure Bas (h : Int) (bs : List BkV) : Prop where
  sorted : bs.Pairwise fun a b => a.base ≤ b.base
  oth : ∀ x ∈ bs,x.sign = 58 → x.other = -1 ∨ x.base ≤ x.other
  top : 0 ≤ h → ∀ x ∈ bs,x.base ≤ h
theorem Bas.base {h : Int} {bs : List BkV} (hb : Bas h bs) (h0 : 0 ≤ h) : yg_ bs ≤ h:=by
 unfold yg_
 cases hl : bs.getLast? with
 | none => exact h0
 | some x => exact hb.top h0 x (List.mem_of_getLast? hl)
theorem kB_ {l : List FnV} {s : Int} (hs : yy_ s) (name : Int) : zY_ l s name = (0,0,true):=by
 rcases hs with rfl | rfl | rfl <;> rfl
theorem jP_ {l : List FnV} {h : Int} {bs : List BkV} {s name : Int} (h0 : h < 0) : vc_ l h bs s name = if yy_ s then yJ_ h bs s else (15,h,bs):=by
 unfold vc_ yJ_
 by_cases he : yy_ s
 · rw [if_pos he,if_pos he,if_pos he]; rfl
 · rw [if_neg he,if_neg he,if_pos h0]
theorem jO_ {l : List FnV} {h : Int} {bs : List BkV} {s name p g : Int} (h0 : 0 ≤ h) (ht : zY_ l s name = (p,g,false)) : vc_ l h bs s name = (22,h,bs):=by
 have he : ¬ yy_ s:=fun he => by rw [kB_ he] at ht; simp at ht
 unfold vc_
 rw [if_neg he,if_neg (by omega),ht]
theorem kL_ {l : List FnV} {h : Int} {bs : List BkV} {s name p g : Int} (h0 : 0 ≤ h) (h64 : h ≤ 64) (hb : yg_ bs ≤ h) (ht : zY_ l s name = (p,g,true)) : vc_ l h bs s name = if h - yg_ bs < p ∨ 64 < h - p + g then (14,h,bs) else yJ_ (h - p + g) bs s:=by
 by_cases he : yy_ s
 · rw [kB_ he] at ht
   injection ht with h1 h2
   injection h2 with h2 _
   subst h1; subst h2
   rw [if_neg (by omega),show h - 0 + 0 = h from by omega]
   unfold vc_ yJ_
   rw [if_pos he,if_pos he]; rfl
 · unfold vc_ yJ_
   rw [if_neg he,if_neg (by omega),ht,if_neg he]
   rfl
section
variable {W : World} {g : Nat} {h : Int} {v : Value} {bs : List BkV} {A : Option Addr} {n c : Nat} {l : List FnV} {pages most : Int}
theorem zaM (s : Wk W g h v bs) (hF : Fnr W A n c l) (t : TkV) (hb : Bas h bs) (htop : Top t.sign bs) (hfew : bs.length ≤ 99) : Calls Tryz.prog 109 #[.pointer (some ⟨g,0,none⟩),zX_ pages most A n c,.agg (tkC t).toArray] W (yo_ W g (vc_ l h bs t.sign t.name)):=by
 unfold zX_
 obtain ⟨r,tn,nm⟩:=t
 simp only at htop
 simp only [tkC]
 obtain ⟨R,hR⟩ : ∃ R,R = vc_ l h bs r nm:=⟨_,rfl⟩
 rw [← hR]
 have HR:=hQ_ hR
 have HTOP:=hQ_ htop
 have HS:=hQ_ s
 have HF:=hQ_ hF
 have HB:=hQ_ hb
 obtain ⟨hr0,hr1⟩:=s.hr
 clear hR htop s hF hb
 go_enter Tryz.func109,Tryz.ntmps109
 go_upto_region 1 with fail
 have hN:=zb_.new W 24 [.int .i64 pages,.int .i64 most,.slice A n c]
 have hal : Chg [] W (W.alloc (.cells #[.int .i64 pages,.int .i64 most,.slice A n c] 24)):=(Chg.refl [] W).alloc _
 have hsz : (W.alloc (.cells #[.int .i64 pages,.int .i64 most,.slice A n c] 24)).heap.size = W.heap.size + 1:=Array.size_push _
 obtain ⟨w1,hw1⟩ : ∃ w1,w1 = W.alloc (.cells #[.int .i64 pages,.int .i64 most,.slice A n c] 24):=⟨_,rfl⟩
 rw [← hw1] at hN hal hsz ⊢
 have hN2:=zb_.new w1 110 [.int .i32 r,.int .i64 tn,.int .i32 nm]
 have hal2 : Chg [] w1 (w1.alloc (.cells #[.int .i32 r,.int .i64 tn,.int .i32 nm] 110)):=(Chg.refl [] w1).alloc _
 rw [hsz] at hN2
 have hU2:=hN.keep hal2
 have hc:=hal.trans hal2
 generalize w1.alloc (.cells #[.int .i32 r,.int .i64 tn,.int .i32 nm] 110) = w2 at hN2 hU2 hc ⊢
 have HF2:=hQ_ (HF.out.keep hc)
 have HS2:=hQ_ (HS.out.keep hc)
 have HGU:=hQ_ (show g < W.heap.size from HS.out.rec_.lt)
 generalize W.heap.size = gu at hU2 hN2 HGU ⊢
 have HU2:=hQ_ hU2
 have HT2:=hQ_ hN2
 have HC2:=hQ_ hc
 clear hN hal hsz hw1 hN2 hal2 hU2 hc
 have c0:=HS2.out.rec_.cell 0
 have t0:=HT2.out.cell 0
 have t1:=HT2.out.cell 1
 have t2:=HT2.out.cell 2
 have u0:=HU2.out.cell 0
 have u1:=HU2.out.cell 1
 have u2:=HU2.out.cell 2
 by_cases hdead : h = -1
 · have HRD:=hQ_ (HR.out.trans (jP_ (by omega)))
   subst hdead
   by_cases h58 : r = 58
   · subst h58
     have HRE:=hQ_ (HRD.out.trans (if_pos (.inl rfl)))
     have HTC:=hQ_ (vC_ HS2.out 58 HTOP.out (fun hh => by omega))
     rw [← HRE.out] at HTC
     go_wp2_with fail
     refine HTC.out.mono ?_
     obtain ⟨er,rh,rb⟩:=R
     rintro e w9 ⟨hf9,rfl,hw9⟩
     have HP:=hQ_ (show yo_ W g (er,rh,rb) (.returned (.int .i64 er)) w9 from ⟨(Fr.of_chg HC2.out).trans hf9,rfl,hw9⟩)
     clear hf9 hw9
     go_wp2_with fail
     go_ret
     exact HP.out
   have q58 : (r == 58) = false:=by simpa using h58
   have p58 : (r != 58) = true:=by simpa using h58
   by_cases h59 : r = 59
   · subst h59
     have HRE:=hQ_ (HRD.out.trans (if_pos (.inr (.inl rfl))))
     have HTC:=hQ_ (vC_ HS2.out 59 HTOP.out (fun hh => by omega))
     rw [← HRE.out] at HTC
     go_wp2_with fail
     refine HTC.out.mono ?_
     obtain ⟨er,rh,rb⟩:=R
     rintro e w9 ⟨hf9,rfl,hw9⟩
     have HP:=hQ_ (show yo_ W g (er,rh,rb) (.returned (.int .i64 er)) w9 from ⟨(Fr.of_chg HC2.out).trans hf9,rfl,hw9⟩)
     clear hf9 hw9
     go_wp2_with fail
     go_ret
     exact HP.out
   have q59 : (r == 59) = false:=by simpa using h59
   have p59 : (r != 59) = true:=by simpa using h59
   by_cases h93 : r = 93
   · subst h93
     have HRE:=hQ_ (HRD.out.trans (if_pos (.inr (.inr rfl))))
     have HTC:=hQ_ (vC_ HS2.out 93 HTOP.out (fun hh => by omega))
     rw [← HRE.out] at HTC
     go_wp2_with fail
     refine HTC.out.mono ?_
     obtain ⟨er,rh,rb⟩:=R
     rintro e w9 ⟨hf9,rfl,hw9⟩
     have HP:=hQ_ (show yo_ W g (er,rh,rb) (.returned (.int .i64 er)) w9 from ⟨(Fr.of_chg HC2.out).trans hf9,rfl,hw9⟩)
     clear hf9 hw9
     go_wp2_with fail
     go_ret
     exact HP.out
   have q93 : (r == 93) = false:=by simpa using h93
   have p93 : (r != 93) = true:=by simpa using h93
   have HRE:=hQ_ (HRD.out.trans (if_neg (show ¬ yy_ r from by unfold yy_; omega)))
   have HP:=hQ_ (show yo_ W g R (.returned (.int .i64 15)) w2 from ⟨Fr.of_chg HC2.out,by rw [HRE.out],fun hh => by rw [HRE.out] at hh; exact absurd hh (by simp)⟩)
   clear h58 h59 h93
   go_wp2_with fail
   go_ret
   exact HP.out
 have qdead : (h == -1) = false:=by simpa using hdead
 have h0 : 0 ≤ h:=by omega
 have HBB:=hQ_ (HB.out.base h0)
 clear hdead
 obtain ⟨T,hT⟩ : ∃ T,T = zY_ l r nm:=⟨_,rfl⟩
 have HT:=hQ_ hT
 have hin:=u4_ l r nm
 rw [← hT] at hin
 clear hT
 go_wp2_with fail
 refine (zaD HF2.out ⟨r,tn,nm⟩).mono ?_
 rw [← HT.out]
 obtain ⟨p,q,ok⟩:=T
 simp only at hin
 rintro e w3 ⟨rfl,hc3⟩
 have HS3:=hQ_ (HS2.out.keep hc3)
 have HT3:=hQ_ (HT2.out.keep hc3)
 have HC3:=hQ_ (HC2.out.new hc3)
 clear hc3 c0 t0 t1 t2 u0 u1 u2 HF2 HU2 HS2 HT2 HC2
 cases ok with
 | false =>
   have HRE:=hQ_ (HR.out.trans (jO_ h0 HT.out.symm))
   have HP:=hQ_ (show yo_ W g R (.returned (.int .i64 22)) w3 from ⟨Fr.of_chg HC3.out,by rw [HRE.out],fun hh => by rw [HRE.out] at hh; exact absurd hh (by simp)⟩)
   go_wp2_with fail
   go_ret
   exact HP.out
 | true =>
   have HR2:=hQ_ (HR.out.trans (kL_ h0 hr1 HBB.out HT.out.symm))
   obtain ⟨b0,hb0⟩ : ∃ b,b = yg_ bs:=⟨_,rfl⟩
   have hbr : 0 ≤ b0 ∧ b0 ≤ 64:=by
    rw [hb0]
    unfold yg_
    cases hl : bs.getLast? with
    | none => exact ⟨Int.le_refl 0,by decide⟩
    | some x => have:=HS3.out.rb x (List.mem_of_getLast? hl); exact ⟨this.1,this.2.1⟩
   rw [← hb0] at HR2
   have HBO:=hQ_ hb0
   clear hb0
   go_upto_region 8 with fail
   have c3:=HS3.out.rec_.cell 0
   have HDR:=hQ_ ((Chg.refl [] w3).drew)
   have HCB:=hQ_ (fun (V : World) (hV : Chg [] w3 V) => show Calls Tryz.prog 121 #[.pointer (some ⟨g,0,none⟩)] V (xs_ b0 V) from by rw [HBO.out]; exact zaO (HS3.out.keep hV))
   by_cases hlow : h - b0 < p
   · have qlow : decide (h - b0 < p) = true:=by simpa using hlow
     have HRE:=hQ_ (HR2.out.trans (if_pos (.inl hlow)))
     clear hlow
     refine wp_flow (by kernel_rfl) yt_ za_ (by kernel_rfl) ?_
     refine flow_move_out za_ rfl rfl rfl ?_
     refine flow1 (r:=.pointer (some ⟨g,0,none⟩)) za_ rfl (.inn rfl) rfl (fun ev W he e1 => by go_simp) ?_
     refine flow1 (r:=.pointer (some ⟨g,0,none⟩)) za_ rfl (.inn rfl) rfl (fun ev W he e1 => by go_simp) ?_
     refine flow1h (r:=.int .i64 h) za_ rfl (.inn rfl) rfl (fun ev W he hW e1 => by have c0:=zf_ (by simpa using c3 : w3.cell? ⟨g,0,none⟩ = some (.int .i64 h)) (HDR.out.trans (show Chg [] w3.drew _ from hW)); go_simp) ?_
     refine flow_move_out za_ rfl rfl rfl ?_
     refine zF_ (.int .i64 b0) (by kernel_rfl) rfl (.cons (.inn rfl) .nil) (fun V hV => (HCB.out V (HDR.out.trans (show Chg [] w3.drew _ from hV))).mono fun e w' hb => ⟨hb.1,by rw [zE_]; exact hb.2⟩) ?_
     refine flow2 (r:=.int .i64 (h - b0)) za_ rfl (.inn rfl) (.inn rfl) rfl (fun ev W he e1 e2 => by have hw : IntKind.i64.wrap (h - b0) = h - b0:=IntWalk.i64_in _ (by omega); go_simp) ?_
     refine flow_move_out za_ rfl rfl rfl ?_
     refine flow2 (r:=.bool true) za_ rfl (.inn rfl) (.inn rfl) rfl (fun ev W he e1 e2 => by go_simp) ?_
     refine zL_ za_ rfl (zd_ _) (.inr (zd_ _)) rfl ?_
     refine zi_ rfl ?_
     refine zi_ rfl ?_
     refine zi_ rfl ?_
     refine zi_ rfl ?_
     refine zi_ rfl ?_
     refine zi_ rfl ?_
     refine zi_ rfl ?_
     refine zi_ rfl ?_
     refine zi_ rfl ?_
     refine yA_ za_ rfl rfl rfl ?_
     intro vs V hV hG
     obtain e60 : vs 60 = .bool true:=hG 60 _ rfl (by kernel_rfl)
     have hV' : Chg [] w3 V:=HDR.out.trans (show Chg [] w3.drew _ from hV)
     have HS4:=hQ_ (HS3.out.keep hV')
     have HT4:=hQ_ (HT3.out.keep hV')
     have HC4:=hQ_ (HC3.out.new hV')
     simp only [z2_,Act.put,List.setIfInBounds_toArray,List.set_cons_zero,List.set_cons_succ,e60]
     clear hG hV hV' e60 c3 HCB
     have HP:=hQ_ (show yo_ W g R (.returned (.int .i64 14)) V from ⟨Fr.of_chg HC4.out,by rw [HRE.out],fun hh => by rw [HRE.out] at hh; exact absurd hh (by simp)⟩)
     go_wp2_with fail
     go_ret
     exact HP.out
   · have qlow : decide (h - b0 < p) = false:=by simpa using hlow
     by_cases hbig : 64 < h - p + q
     · have qbig : decide (64 < h - p + q) = true:=by simpa using hbig
       have HRE:=hQ_ (HR2.out.trans (if_pos (.inr hbig)))
       refine wp_flow (by kernel_rfl) yt_ za_ (by kernel_rfl) ?_
       refine flow_move_out za_ rfl rfl rfl ?_
       refine flow1 (r:=.pointer (some ⟨g,0,none⟩)) za_ rfl (.inn rfl) rfl (fun ev W he e1 => by go_simp) ?_
       refine flow1 (r:=.pointer (some ⟨g,0,none⟩)) za_ rfl (.inn rfl) rfl (fun ev W he e1 => by go_simp) ?_
       refine flow1h (r:=.int .i64 h) za_ rfl (.inn rfl) rfl (fun ev W he hW e1 => by have c0:=zf_ (by simpa using c3 : w3.cell? ⟨g,0,none⟩ = some (.int .i64 h)) (HDR.out.trans (show Chg [] w3.drew _ from hW)); go_simp) ?_
       refine flow_move_out za_ rfl rfl rfl ?_
       refine zF_ (.int .i64 b0) (by kernel_rfl) rfl (.cons (.inn rfl) .nil) (fun V hV => (HCB.out V (HDR.out.trans (show Chg [] w3.drew _ from hV))).mono fun e w' hb => ⟨hb.1,by rw [zE_]; exact hb.2⟩) ?_
       refine flow2 (r:=.int .i64 (h - b0)) za_ rfl (.inn rfl) (.inn rfl) rfl (fun ev W he e1 e2 => by have hw : IntKind.i64.wrap (h - b0) = h - b0:=IntWalk.i64_in _ (by omega); go_simp) ?_
       refine flow_move_out za_ rfl rfl rfl ?_
       refine flow2 (r:=.bool false) za_ rfl (.inn rfl) (.inn rfl) rfl (fun ev W he e1 e2 => by go_simp) ?_
       refine zL_ za_ rfl (zd_ _) (.inr (zd_ _)) rfl ?_
       refine flow_move_out za_ rfl rfl rfl ?_
       refine flow1 (r:=.pointer (some ⟨g,0,none⟩)) za_ rfl (.inn rfl) rfl (fun ev W he e1 => by go_simp) ?_
       refine flow1 (r:=.pointer (some ⟨g,0,none⟩)) za_ rfl (.inn rfl) rfl (fun ev W he e1 => by go_simp) ?_
       refine flow1h (r:=.int .i64 h) za_ rfl (.inn rfl) rfl (fun ev W he hW e1 => by have c0:=zf_ (by simpa using c3 : w3.cell? ⟨g,0,none⟩ = some (.int .i64 h)) (HDR.out.trans (show Chg [] w3.drew _ from hW)); go_simp) ?_
       refine flow_move_out za_ rfl rfl rfl ?_
       refine flow2 (r:=.int .i64 (h - p)) za_ rfl (.inn rfl) (.inn rfl) rfl (fun ev W he e1 e2 => by have hw : IntKind.i64.wrap (h - p) = h - p:=IntWalk.i64_in _ (by omega); go_simp) ?_
       refine flow_move_out za_ rfl rfl rfl ?_
       refine flow2 (r:=.int .i64 (h - p + q)) za_ rfl (.inn rfl) (.inn rfl) rfl (fun ev W he e1 e2 => by have hw : IntKind.i64.wrap (h - p + q) = h - p + q:=IntWalk.i64_in _ (by omega); go_simp) ?_
       refine flow2 (r:=.bool true) za_ rfl (.inn rfl) (.const _) rfl (fun ev W he e1 e2 => by go_simp) ?_
       refine zQ_ za_ rfl rfl rfl ?_
       intro vs V hV hG
       obtain e60 : vs 60 = .bool true:=hG 60 _ rfl (by kernel_rfl)
       have hV' : Chg [] w3 V:=HDR.out.trans (show Chg [] w3.drew _ from hV)
       have HS4:=hQ_ (HS3.out.keep hV')
       have HT4:=hQ_ (HT3.out.keep hV')
       have HC4:=hQ_ (HC3.out.new hV')
       simp only [z2_,Act.put,List.setIfInBounds_toArray,List.set_cons_zero,List.set_cons_succ,e60]
       clear hG hV hV' e60 c3 HCB
       have HP:=hQ_ (show yo_ W g R (.returned (.int .i64 14)) V from ⟨Fr.of_chg HC4.out,by rw [HRE.out],fun hh => by rw [HRE.out] at hh; exact absurd hh (by simp)⟩)
       go_wp2_with fail
       go_ret
       exact HP.out
     · have qbig : decide (64 < h - p + q) = false:=by simpa using hbig
       have HRE:=hQ_ (HR2.out.trans (if_neg (by omega)))
       have hlo : 0 ≤ h - p + q:=by omega
       have hhi : h - p + q ≤ 64:=by omega
       refine wp_flow (by kernel_rfl) yt_ za_ (by kernel_rfl) ?_
       refine flow_move_out za_ rfl rfl rfl ?_
       refine flow1 (r:=.pointer (some ⟨g,0,none⟩)) za_ rfl (.inn rfl) rfl (fun ev W he e1 => by go_simp) ?_
       refine flow1 (r:=.pointer (some ⟨g,0,none⟩)) za_ rfl (.inn rfl) rfl (fun ev W he e1 => by go_simp) ?_
       refine flow1h (r:=.int .i64 h) za_ rfl (.inn rfl) rfl (fun ev W he hW e1 => by have c0:=zf_ (by simpa using c3 : w3.cell? ⟨g,0,none⟩ = some (.int .i64 h)) (HDR.out.trans (show Chg [] w3.drew _ from hW)); go_simp) ?_
       refine flow_move_out za_ rfl rfl rfl ?_
       refine zF_ (.int .i64 b0) (by kernel_rfl) rfl (.cons (.inn rfl) .nil) (fun V hV => (HCB.out V (HDR.out.trans (show Chg [] w3.drew _ from hV))).mono fun e w' hb => ⟨hb.1,by rw [zE_]; exact hb.2⟩) ?_
       refine flow2 (r:=.int .i64 (h - b0)) za_ rfl (.inn rfl) (.inn rfl) rfl (fun ev W he e1 e2 => by have hw : IntKind.i64.wrap (h - b0) = h - b0:=IntWalk.i64_in _ (by omega); go_simp) ?_
       refine flow_move_out za_ rfl rfl rfl ?_
       refine flow2 (r:=.bool false) za_ rfl (.inn rfl) (.inn rfl) rfl (fun ev W he e1 e2 => by go_simp) ?_
       refine zL_ za_ rfl (zd_ _) (.inr (zd_ _)) rfl ?_
       refine flow_move_out za_ rfl rfl rfl ?_
       refine flow1 (r:=.pointer (some ⟨g,0,none⟩)) za_ rfl (.inn rfl) rfl (fun ev W he e1 => by go_simp) ?_
       refine flow1 (r:=.pointer (some ⟨g,0,none⟩)) za_ rfl (.inn rfl) rfl (fun ev W he e1 => by go_simp) ?_
       refine flow1h (r:=.int .i64 h) za_ rfl (.inn rfl) rfl (fun ev W he hW e1 => by have c0:=zf_ (by simpa using c3 : w3.cell? ⟨g,0,none⟩ = some (.int .i64 h)) (HDR.out.trans (show Chg [] w3.drew _ from hW)); go_simp) ?_
       refine flow_move_out za_ rfl rfl rfl ?_
       refine flow2 (r:=.int .i64 (h - p)) za_ rfl (.inn rfl) (.inn rfl) rfl (fun ev W he e1 e2 => by have hw : IntKind.i64.wrap (h - p) = h - p:=IntWalk.i64_in _ (by omega); go_simp) ?_
       refine flow_move_out za_ rfl rfl rfl ?_
       refine flow2 (r:=.int .i64 (h - p + q)) za_ rfl (.inn rfl) (.inn rfl) rfl (fun ev W he e1 e2 => by have hw : IntKind.i64.wrap (h - p + q) = h - p + q:=IntWalk.i64_in _ (by omega); go_simp) ?_
       refine flow2 (r:=.bool false) za_ rfl (.inn rfl) (.const _) rfl (fun ev W he e1 e2 => by go_simp) ?_
       refine zQ_ za_ rfl rfl rfl ?_
       intro vs V hV hG
       obtain e60 : vs 60 = .bool false:=hG 60 _ rfl (by kernel_rfl)
       have hV' : Chg [] w3 V:=HDR.out.trans (show Chg [] w3.drew _ from hV)
       have HS4:=hQ_ (HS3.out.keep hV')
       have HT4:=hQ_ (HT3.out.keep hV')
       have HC4:=hQ_ (HC3.out.new hV')
       simp only [z2_,Act.put,List.setIfInBounds_toArray,List.set_cons_zero,List.set_cons_succ,e60]
       clear hG hV hV' e60 c3 HCB
       have c0:=HS4.out.rec_.cell 0
       have f0:=HS4.out.rec_.frozen 0
       have he5 : h + (q - p) = h - p + q:=by omega
       have HE5:=hQ_ he5
       clear he5
       go_upto_region 11 with fail
       rw [HE5.out]
       generalize h - p + q = h5 at *
       have HS5:=hQ_ (HS4.out.high h5 (by omega))
       have HT5:=hQ_ (HT4.out.far (p:=⟨g,0,none⟩) (by have:=HGU.out; simp only; omega) (.int .i64 h5))
       generalize V.setCell ⟨g,0,none⟩ (.int .i64 h5) = w5 at HS5 HT5 ⊢
       clear c0 f0 hlow hbig qlow qbig HR2
       have t0:=HT5.out.cell 0
       have HTC:=hQ_ (vC_ HS5.out.1 r HTOP.out (fun _ => ⟨hlo,hfew⟩))
       rw [← HRE.out] at HTC
       go_wp2_with fail
       refine HTC.out.mono ?_
       obtain ⟨er,rh,rb⟩:=R
       rintro e w9 ⟨hf9,rfl,hw9⟩
       have HP:=hQ_ (show yo_ W g (er,rh,rb) (.returned (.int .i64 er)) w9 from ⟨((Fr.of_chg HC4.out).trans HS5.out.2).trans hf9,rfl,hw9⟩)
       clear hf9 hw9
       go_wp2_with fail
       go_ret
       exact HP.out
end
def vs_ (s : Int) (st : List Int) : List Int:=if s = 63 ∨ s = 91 then st ++ [s] else if s = 58 then st.dropLast ++ [58] else if s = 59 ∨ s = 93 then st.dropLast else st
def zgc (s : Int) (st : List Int) : Prop:=(s = 58 → ∃ y,st = y ++ [63]) ∧ (s = 59 → ∃ y t,st = y ++ [t] ∧ t ≠ 91) ∧ (s = 93 → ∃ y,st = y ++ [91]) ∧ (s = 126 → 91 ∈ st) ∧ ((s = 63 ∨ s = 91) → st.length + 1 ≤ 16)
def SOk : List Int → List Int → Prop
  | [],_ => True
  | s :: r,st => zgc s st ∧ SOk r (vs_ s st)
def sgn (p : NPart) : Int:=if p.loop = true then 91 else if p.waits = p.at_ then 63 else 58
def stk (m : NSt) : List Int:=(m.op.map sgn).reverse
theorem xo_ (p : NPart) (r : List NPart) (t : List Int) (d : Nat) : stk ⟨t,d,p :: r⟩ = stk ⟨t,d,r⟩ ++ [sgn p]:=by simp [stk]
theorem kT_ {i : Nat} : ∀ {l o : List NPart},yz_ i l = some o → o.map sgn = l.map sgn ∧ (91 ∈ l.map sgn) ∧ ∀ q ∈ o,∃ p ∈ l,q.at_ = p.at_ ∧ q.waits = p.waits
  | [],o,h => by cases h
  | p :: r,o,h => by
    unfold yz_ at h
    by_cases hl : p.loop = true
    · rw [if_pos hl] at h
      injection h with h
      subst h
      refine ⟨by simp [sgn],by simp [sgn,hl],fun q hq => ?_⟩
      rcases List.mem_cons.1 hq with rfl | hq
      · exact ⟨p,by simp,rfl,rfl⟩
      · exact ⟨q,by simp [hq],rfl,rfl⟩
    · rw [if_neg hl] at h
      cases hr : yz_ i r with
      | none => rw [hr] at h; cases h
      | some o' =>
        rw [hr] at h
        injection h with h
        subst h
        obtain ⟨h1,h2,h3⟩:=kT_ hr
        refine ⟨by simp [h1],by simp at h2 ⊢; exact .inr h2,fun q hq => ?_⟩
        rcases List.mem_cons.1 hq with rfl | hq
        · exact ⟨_,by simp,rfl,rfl⟩
        · obtain ⟨p',hp,e⟩:=h3 q hq
          exact ⟨p',by simp [hp],e⟩
theorem zbP {i : Nat} {s : Int} {m m' : NSt} (h : yM_ i s m = some m') (hm : ∀ p ∈ m.op,p.at_ < i) : zgc s (stk m) ∧ stk m' = vs_ s (stk m) ∧ ∀ p ∈ m'.op,p.at_ < i + 1:=by
 obtain ⟨t,d,op⟩:=m
 simp only at hm
 have hm1 : ∀ p ∈ op,p.at_ < i + 1:=fun p hp => by have:=hm p hp; omega
 unfold yM_ at h
 simp only at h
 split at h
 · rename_i hs
   split at h
   · rename_i h16
     injection h with h; subst h
     refine ⟨⟨fun e => by omega,fun e => by omega,fun e => by omega,fun e => by omega,fun _ => by simp [stk]; omega⟩,?_,fun p hp => ?_⟩
     · rw [xo_,vs_,if_pos hs]
       congr 1
       rcases hs with rfl | rfl <;> simp [sgn]
     · rcases List.mem_cons.1 hp with rfl | hp
       · simp
       · exact hm1 p hp
   · cases h
 rename_i hs
 split at h
 · rename_i h58
   subst h58
   split at h
   · rename_i p r
     split at h
     · rename_i hc
       injection h with h; subst h
       have hpa:=hm p (by simp)
       have e1 : sgn p = 63:=by unfold sgn; rw [if_neg (by rw [hc.1]; decide),if_pos hc.2]
       refine ⟨⟨fun _ => ⟨_,by rw [xo_,e1]⟩,fun e => by omega,fun e => by omega,fun e => by omega,fun e => by omega⟩,?_,fun q hq => ?_⟩
       · rw [xo_,xo_,vs_,if_neg (by omega),if_pos rfl,List.dropLast_concat]
         have e2 : sgn ⟨p.loop,p.at_,i,p.left⟩ = 58:=by unfold sgn; simp only; rw [if_neg (by rw [hc.1]; decide),if_neg (by omega)]
         rw [e2]
         rfl
       · rcases List.mem_cons.1 hq with rfl | hq
         · simp only; omega
         · exact hm1 q (by simp [hq])
     · cases h
   · cases h
 rename_i h58
 split at h
 · rename_i h59
   subst h59
   split at h
   · rename_i p r
     split at h
     · rename_i hc
       injection h with h; subst h
       refine ⟨⟨fun e => by omega,fun _ => ⟨_,_,xo_ _ _ _ _,by unfold sgn; rw [if_neg (by rw [hc]; decide)]; split <;> decide⟩,fun e => by omega,fun e => by omega,fun e => by omega⟩,?_,fun q hq => hm1 q (by simp [hq])⟩
       rw [xo_,vs_,if_neg (by omega),if_neg (by omega),if_pos (.inl rfl),List.dropLast_concat]
       rfl
     · cases h
   · cases h
 rename_i h59
 split at h
 · rename_i h93
   subst h93
   split at h
   · rename_i p r
     split at h
     · rename_i hc
       injection h with h; subst h
       have e1 : sgn p = 91:=by unfold sgn; rw [if_pos hc]
       refine ⟨⟨fun e => by omega,fun e => by omega,fun _ => ⟨_,by rw [xo_,e1]⟩,fun e => by omega,fun e => by omega⟩,?_,fun q hq => hm1 q (by simp [hq])⟩
       rw [xo_,vs_,if_neg (by omega),if_neg (by omega),if_pos (.inr rfl),List.dropLast_concat]
       rfl
     · cases h
   · cases h
 rename_i h93
 split at h
 · rename_i h126
   subst h126
   cases hl : yz_ i op with
   | none => rw [hl] at h; cases h
   | some o =>
     rw [hl] at h
     injection h with h; subst h
     obtain ⟨h1,h2,h3⟩:=kT_ hl
     refine ⟨⟨fun e => by omega,fun e => by omega,fun e => by omega,fun _ => by unfold stk; simpa using h2,fun e => by omega⟩,?_,fun q hq => ?_⟩
     · rw [vs_,if_neg (by omega),if_neg (by omega),if_neg (by omega)]
       unfold stk
       simp only
       rw [h1]
     · obtain ⟨p,hp,e,_⟩:=h3 q hq
       have:=hm p hp
       omega
 · rename_i h126
   injection h with h; subst h
   exact ⟨⟨fun e => absurd e h58,fun e => absurd e h59,fun e => absurd e h93,fun e => absurd e h126,fun e => absurd e hs⟩,by rw [vs_,if_neg hs,if_neg h58,if_neg (by omega)],hm1⟩
theorem zbl : ∀ (rest : List Int) (i : Nat) (m m' : NSt),(∀ p ∈ m.op,p.at_ < i) → jf_ i rest m = some m' → SOk rest (stk m)
  | [],_,_,_,_,_ => trivial
  | s :: rest,i,m,m',hm,h => by
    unfold jf_ at h
    cases ht : yM_ i s ⟨m.tO.set i (-1),m.deep,m.op⟩ with
    | none => rw [ht] at h; cases h
    | some m2 =>
      rw [ht] at h
      obtain ⟨h1,h2,h3⟩:=zbP ht hm
      refine ⟨h1,?_⟩
      have:=zbl rest (i + 1) m2 m' h3 h
      rw [h2] at this
      exact this
theorem zdl {ss : List Int} {R : List Int × Nat} (h : yU_ ss = some R) : SOk ss []:=by
 rw [← jV_] at h
 unfold v5_ at h
 cases hr : jf_ 0 ss ⟨List.replicate ss.length 0,0,[]⟩ with
 | none => rw [hr] at h; cases h
 | some m => exact zbl ss 0 _ m (fun p hp => by simp at hp) hr
theorem vZ_ {α β : Type} {f : α → β} {l : List α} {y : List β} {b : β} (h : l.map f = y ++ [b]) : ∃ ys x,l = ys ++ [x] ∧ f x = b:=by
 rcases List.eq_nil_or_concat l with rfl | ⟨ys,x,rfl⟩
 · simp at h
 · rw [List.concat_eq_append] at h ⊢
   rw [List.map_append] at h
   have:=List.append_inj' h (by simp)
   exact ⟨ys,x,rfl,by simpa using this.2⟩
theorem zdc {s : Int} {bs : List BkV} (h : zgc s (bs.map (·.sign))) : Top s bs:=by
 refine ⟨fun e => ?_,fun e => ?_,fun e => ?_,fun e => ?_⟩
 · obtain ⟨y,hy⟩:=h.1 e
   obtain ⟨ys,x,h1,h2⟩:=vZ_ hy
   exact ⟨ys,x,h1,h2⟩
 · obtain ⟨y,t,hy,ht⟩:=h.2.1 e
   obtain ⟨ys,x,h1,h2⟩:=vZ_ hy
   exact ⟨ys,x,h1,by rw [h2]; exact ht⟩
 · obtain ⟨y,hy⟩:=h.2.2.1 e
   obtain ⟨ys,x,h1,h2⟩:=vZ_ hy
   exact ⟨ys,x,h1,h2⟩
 · have:=h.2.2.2.1 e
   obtain ⟨x,hx,hs⟩:=List.mem_map.1 this
   exact ⟨x,hx,hs⟩
theorem v2_ {β : Type} (f : BkV → β) (hf : ∀ x : BkV,f ⟨x.sign,x.base,x.other,true⟩ = f x) (h : Int) (bs : List BkV) : ∀ k,(z9_ h bs k).2.2.map f = bs.map f
  | 0 => rfl
  | k + 1 => by
    rw [z9_]
    split
    · rfl
    · rename_i x hx
      split
      · simp only [List.map_set]
        apply List.ext_getElem?
        intro j
        rw [List.getElem?_set]
        split
        · rename_i e
          subst e
          have hl:=(List.getElem?_eq_some_iff.1 hx).1
          rw [if_pos (by simpa using hl)]
          simp [hx,hf]
        · rfl
      · exact v2_ f hf h bs k
theorem jQ_ (h : Int) (bs : List BkV) (k : Nat) : (z9_ h bs k).2.2.map (·.sign) = bs.map (·.sign):=v2_ _ (fun _ => rfl) h bs k
theorem qZ_ (h : Int) (bs : List BkV) : ∀ k,(z9_ h bs k).1 = true → (z9_ h bs k).2.1 = -1
  | 0,e => by cases e
  | k + 1,e => by
    rw [z9_] at e ⊢
    split
    · rename_i hx
      rw [hx] at e
      cases e
    · rename_i x hx
      rw [hx] at e
      simp only at e
      split
      · rfl
      · rename_i hn
        rw [if_neg hn] at e
        exact qZ_ h bs k e
theorem zcC {h : Int} {ys : List BkV} {x : BkV} {s : Int} (he : (jp_ h ys x s).1 = 0) : (yD_ h ys x s).1 = true ∧ (jp_ h ys x s).2 = (yD_ h ys x s).2:=by
 unfold jp_ at he ⊢
 rcases hr : yD_ h ys x s with ⟨b,h',bs'⟩
 rw [hr] at he
 cases b with
 | true => exact ⟨rfl,rfl⟩
 | false => simp at he
theorem ja_ {h : Int} {ys : List BkV} {x : BkV} {s : Int} (hs : s ≠ 58) : (yD_ h ys x s).2.2 = ys:=by
 unfold yD_
 rw [if_neg hs]
 split
 · split <;> rfl
 · split <;> rfl
theorem kX_ {h : Int} {bs : List BkV} {s : Int} (he : (yJ_ h bs s).1 = 0) : (yJ_ h bs s).2.2.map (·.sign) = vs_ s (bs.map (·.sign)):=by
 by_cases hs : yy_ s
 · rcases List.eq_nil_or_concat bs with rfl | ⟨ys,x,rfl⟩
   · unfold yJ_ at he
     rw [if_pos hs] at he
     simp at he
   · rw [List.concat_eq_append] at he ⊢
     rw [x7_ hs] at he ⊢
     obtain ⟨h1,h2⟩:=zcC he
     rw [h2]
     unfold vs_
     rcases hs with rfl | rfl | rfl
     · unfold yD_
       rw [if_pos rfl,if_neg (by omega),if_pos rfl]
       simp
     · rw [ja_ (by decide),if_neg (by omega),if_neg (by omega),if_pos (.inl rfl)]
       simp
     · rw [ja_ (by decide),if_neg (by omega),if_neg (by omega),if_pos (.inr rfl)]
       simp
 · unfold yJ_ at he ⊢
   rw [if_neg hs] at he ⊢
   unfold yy_ at hs
   unfold vs_
   by_cases h1 : s = 63 ∨ s = 91
   · rw [if_pos h1,if_pos h1]; simp
   · rw [if_neg h1,if_neg h1,if_neg (show ¬ s = 58 by omega),if_neg (show ¬ (s = 59 ∨ s = 93) by omega)]
     rw [if_neg h1] at he
     by_cases h2 : s = 126
     · rw [if_pos h2] at he ⊢
       unfold xB_ at he ⊢
       have hk:=jQ_ h bs bs.length
       rcases hr : z9_ h bs bs.length with ⟨b,h',bs'⟩
       rw [hr] at hk he
       cases b with
       | true => exact hk
       | false => simp at he
     · rw [if_neg h2]
       by_cases h3 : s = 161
       · rw [if_pos h3]
       · rw [if_neg h3]
def zcN (x : BkV) : Int × Int × Int:=(x.sign,x.base,x.other)
theorem Bas.of_key {h h' : Int} {bs bs' : List BkV} (hb : Bas h bs) (hk : bs'.map zcN = bs.map zcN) (ht : 0 ≤ h' → ∀ x ∈ bs,x.base ≤ h') : Bas h' bs':=by
 refine ⟨?_,fun x hx hs => ?_,fun h0 x hx => ?_⟩
 · have h1 : (bs.map zcN).Pairwise fun a b => a.2.1 ≤ b.2.1:=List.pairwise_map.2 hb.sorted
   rw [← hk] at h1
   exact (List.pairwise_map (f:=zcN) (R:=fun a b => a.2.1 ≤ b.2.1)).1 h1
 · have : zcN x ∈ bs.map zcN:=by rw [← hk]; exact List.mem_map_of_mem hx
   obtain ⟨y,hy,e⟩:=List.mem_map.1 this
   simp only [zcN,Prod.mk.injEq] at e
   have:=hb.oth y hy (by omega)
   omega
 · have : zcN x ∈ bs.map zcN:=by rw [← hk]; exact List.mem_map_of_mem hx
   obtain ⟨y,hy,e⟩:=List.mem_map.1 this
   simp only [zcN,Prod.mk.injEq] at e
   have:=ht h0 y hy
   omega
theorem Bas.turn {h : Int} {bs : List BkV} {s : Int} (hb : Bas h bs) (hh : -1 ≤ h) (hpos : (s = 63 ∨ s = 91) → 0 ≤ h) (he : (yJ_ h bs s).1 = 0) : Bas (yJ_ h bs s).2.1 (yJ_ h bs s).2.2:=by
 by_cases hs : yy_ s
 · rcases List.eq_nil_or_concat bs with rfl | ⟨ys,x,rfl⟩
   · unfold yJ_ at he
     rw [if_pos hs] at he
     simp at he
   · rw [List.concat_eq_append] at *
     rw [x7_ hs] at he ⊢
     obtain ⟨h1,h2⟩:=zcC he
     rw [h2]
     obtain ⟨hsy,_,hyx⟩:=List.pairwise_append.1 hb.sorted
     have hyx' : ∀ y ∈ ys,y.base ≤ x.base:=fun y hy => hyx y hy x (by simp)
     have htx : 0 ≤ h → x.base ≤ h:=fun h0 => hb.top h0 x (by simp)
     have hox:=hb.oth x (by simp)
     by_cases h58 : s = 58
     · subst h58
       unfold yD_
       rw [if_pos rfl]
       refine ⟨List.pairwise_append.2 ⟨hsy,by simp,fun y hy z hz => by simp at hz; subst hz; exact hyx' y hy⟩,fun z hz hz58 => ?_,fun _ z hz => ?_⟩
       · rcases List.mem_append.1 hz with hz | hz
         · exact hb.oth z (by simp [hz]) hz58
         · simp at hz; subst hz
           simp only
           rcases Int.lt_or_le h 0 with h3 | h3
           · left; omega
           · exact .inr (htx h3)
       · rcases List.mem_append.1 hz with hz | hz
         · exact hyx' z hz
         · simp at hz; subst hz; simp
     · have hq : (yD_ h ys x s).2.1 < 0 ∨ x.base ≤ (yD_ h ys x s).2.1:=by
        unfold yD_ at h1 ⊢
        rw [if_neg h58] at h1 ⊢
        split
        · rename_i hx58
          rw [if_pos hx58] at h1
          split
          · rename_i hc
            rw [if_pos hc] at h1
            cases h1
          · simp only
            have:=hox hx58
            rcases Int.lt_or_le h 0 with h3 | h3
            · omega
            · have:=htx h3; omega
        · rename_i hx58
          rw [if_neg hx58] at h1
          split
          · rename_i hc
            rw [if_pos hc] at h1
            cases h1
          · simp only
            split <;> omega
       rw [ja_ h58]
       refine ⟨hsy,fun z hz => hb.oth z (by simp [hz]),fun h0 z hz => ?_⟩
       have:=hyx' z hz
       omega
 · unfold yJ_ at he ⊢
   rw [if_neg hs] at he ⊢
   by_cases h1 : s = 63 ∨ s = 91
   · rw [if_pos h1]
     have h0:=hpos h1
     refine ⟨List.pairwise_append.2 ⟨hb.sorted,by simp,fun y hy z hz => by simp at hz; subst hz; exact hb.top h0 y hy⟩,fun z hz hz58 => ?_,fun _ z hz => ?_⟩
     · rcases List.mem_append.1 hz with hz | hz
       · exact hb.oth z hz hz58
       · simp at hz; subst hz; simp only at hz58; omega
     · rcases List.mem_append.1 hz with hz | hz
       · exact hb.top h0 z hz
       · simp at hz; subst hz; simp
   · rw [if_neg h1] at he ⊢
     by_cases h2 : s = 126
     · rw [if_pos h2] at he ⊢
       unfold xB_ at he ⊢
       have hk:=v2_ zcN (fun _ => rfl) h bs bs.length
       have hl:=qZ_ h bs bs.length
       rcases hr : z9_ h bs bs.length with ⟨b,h',bs'⟩
       rw [hr] at hk he hl
       cases b with
       | true =>
         have e : h' = -1:=hl rfl
         exact hb.of_key hk (fun h0 => by simp only at h0; omega)
       | false => simp at he
     · rw [if_neg h2]
       by_cases h3 : s = 161
       · rw [if_pos h3]
         exact ⟨hb.sorted,hb.oth,fun h0 => by simp only at h0; omega⟩
       · rw [if_neg h3]
         exact hb
theorem zeC {l : List FnV} {h : Int} {bs : List BkV} {s name : Int} (hb : Bas h bs) (hb0 : ∀ x ∈ bs,0 ≤ x.base) (hr : -1 ≤ h ∧ h ≤ 64) (he : (vc_ l h bs s name).1 = 0) :
    Bas (vc_ l h bs s name).2.1 (vc_ l h bs s name).2.2 ∧ (vc_ l h bs s name).2.2.map (·.sign) = vs_ s (bs.map (·.sign)):=by
 by_cases h0 : h < 0
 · rw [jP_ h0] at he ⊢
   by_cases hs : yy_ s
   · rw [if_pos hs] at he ⊢
     exact ⟨hb.turn hr.1 (fun h => by unfold yy_ at hs; omega) he,kX_ he⟩
   · rw [if_neg hs] at he; simp at he
 · obtain ⟨T,hT⟩ : ∃ T,T = zY_ l s name:=⟨_,rfl⟩
   obtain ⟨p,q,ok⟩:=T
   cases ok with
   | false => rw [jO_ (by omega) hT.symm] at he; simp at he
   | true =>
     rw [kL_ (by omega) hr.2 (hb.base (by omega)) hT.symm] at he ⊢
     have hin:=u4_ l s name
     rw [← hT] at hin
     simp only at hin
     by_cases hc : h - yg_ bs < p ∨ 64 < h - p + q
     · rw [if_pos hc] at he; simp at he
     · rw [if_neg hc] at he ⊢
       have hb2 : Bas (h - p + q) bs:=by
        refine ⟨hb.sorted,hb.oth,fun _ x hx => ?_⟩
        have h1 : x.base ≤ yg_ bs:=by
         rcases List.eq_nil_or_concat bs with rfl | ⟨ys,y,rfl⟩
         · simp at hx
         · rw [List.concat_eq_append] at *
           have e : yg_ (ys ++ [y]) = y.base:=by simp [yg_]
           rw [e]
           rcases List.mem_append.1 hx with hx | hx
           · exact (List.pairwise_append.1 hb.sorted).2.2 x hx y (by simp)
           · simp at hx; subst hx; exact Int.le_refl _
        omega
       have hb5 : 0 ≤ h - p + q:=by
        have h1 : 0 ≤ yg_ bs:=by
         unfold yg_
         cases hl : bs.getLast? with
         | none => exact Int.le_refl 0
         | some x => exact hb0 x (List.mem_of_getLast? hl)
        omega
       exact ⟨hb2.turn (by omega) (fun _ => hb5) he,kX_ he⟩
end Go.Proofs.YtbkfhndmeljlcaaGreatDoor
