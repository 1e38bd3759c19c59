import Derived.Test.YtbkfhndmeljlcaaGreatDoorZB17
import Derived.Shelf.Bytes.SlJoin
set_option maxRecDepth 100000
set_option maxHeartbeats 16000000
namespace Go.Proofs.YtbkfhndmeljlcaaGreatDoor
open Go.RowKit
def zap (W : World) (pg ms : Int) (A : Option Addr) (n c : Nat) (T : List UInt8) (E : Int) : Prop :=
 ∀ w,Chg [] W w → Calls Tryz.prog 26 #[.agg #[.int .i64 pg,.int .i64 ms,.slice A n c]] w (zF_ T E w)
theorem zap.keep {W W' : World} {pg ms : Int} {A : Option Addr} {n c : Nat} {T : List UInt8} {E : Int} (h : zap W pg ms A n c T E) (hc : Chg [] W W') : zap W' pg ms A n c T E:=fun w k => h w (hc.trans k)
theorem zap.of_fnr {W : World} {pg ms : Int} {A : Option Addr} {n c : Nat} {l : List FnV} (h : Fnr W A n c l) (hsm : ∀ f ∈ l,f.code.size ≤ 9223372036854775807) : zap W pg ms A n c (zM_ pg ms l).1 (zM_ pg ms l).2:=fun _ hc => vV_ (h.keep hc) hsm
section
variable {w : World}
theorem ky_ (T : List UInt8) (hn : T.length ≤ 1000000) (w : World) : Calls Tryz.prog 39 #[.string (zc_ T)] w fun e w' => e = .returned (.int .i64 ((zr_ T.length : Nat) : Int)) ∧ w' = w:=by
 have HH:=hQ_ (show ((zr_ T.length : Nat) : Int) = ((T.length : Int) + 64 - 1) / 64 from by unfold zr_; omega)
 have hsz:=zw_ T
 generalize zr_ T.length = h at HH
 generalize zc_ T = S at hsz
 generalize T.length = n at HH hsz hn
 go_enter Tryz.func39,Tryz.ntmps39
 go_wp2_with fail
 go_ret
 exact ⟨congrArg (fun z : Int => Ending.returned (Value.int .i64 z)) HH.out.symm,rfl⟩
variable {pg ms : Int} {A : Option Addr} {n c : Nat} {E : Int} {T : List UInt8}
theorem vE_ (hT : zap w pg ms A n c T E) (hTl : T.length ≤ 2048) (hms : E = 0 → 0 ≤ ms ∧ ms ≤ 64) : Calls Tryz.prog 12 #[.agg #[.int .i64 pg,.int .i64 ms,.slice A n c]] w fun e w' => e = .returned (.int .i64 (yj_ T E ms)) ∧ Chg [] w w':=by
 have HT:=hQ_ hT
 obtain ⟨N,hN⟩ : ∃ N,N = yj_ T E ms:=⟨_,rfl⟩
 rw [← hN]
 have HN:=hQ_ hN
 clear hT hN
 unfold zap zF_ at HT
 go_enter Tryz.func12,Tryz.ntmps12
 go_upto_region 1 with fail
 have hN:=zb_.new w 24 [.int .i64 pg,.int .i64 ms,.slice A n c]
 have hal:=(Chg.refl [] w).alloc (.cells #[.int .i64 pg,.int .i64 ms,.slice A n c] 24)
 have HU1:=hQ_ hN
 have HC1:=hQ_ hal
 clear hN hal
 generalize w.heap.size = gu at HU1 ⊢
 generalize w.alloc (.cells #[.int .i64 pg,.int .i64 ms,.slice A n c] 24) = w1 at HU1 HC1 ⊢
 have u0:=HU1.out.cell 0
 have u1:=HU1.out.cell 1
 have u2:=HU1.out.cell 2
 by_cases hE : E = 0
 · subst hE
   have hN1 : N = 1 + (zr_ T.length : Int) + ms:=by rw [HN.out]; unfold yj_; rw [if_pos rfl]
   have HPG:=hQ_ (fun (W : World) => ky_ T (by omega) W)
   have hh : zr_ T.length ≤ 33:=by unfold zr_; omega
   obtain ⟨h,hh2⟩ : ∃ h,h = zr_ T.length:=⟨_,rfl⟩
   rw [← hh2] at HPG hN1 hh
   obtain ⟨hm0,hm1⟩:=hms rfl
   generalize zc_ T = S at HT HPG
   clear hh2 HN hTl hms
   have HN1:=hQ_ hN1
   clear hN1
   go_upto_region 4 with (
    go_at_call 26
    refine (HT.out _ HC1.out).mono ?_
    rintro e w2 ⟨rfl,hc2⟩
    have HC2:=hQ_ (HC1.out.trans hc2)
    have HU2:=hQ_ (HU1.out.keep hc2)
    clear hc2)
   clear u0 u1 u2
   have HHW:=hQ_ (fun (W : World) (h : Chg [] w2.drew W) => (show Chg [] w2 W from (Chg.refl [] w2).drew.trans h))
   have HW1:=hQ_ (show IntKind.i64.wrap (1 + (h : Int)) = 1 + (h : Int) from IntWalk.i64_in _ (by omega))
   have HW2:=hQ_ (show IntKind.i64.wrap (1 + (h : Int) + ms) = N from by rw [HN1.out]; exact IntWalk.i64_in _ (by omega))
   refine wp_flow (by kernel_rfl) yp_ za_ (by kernel_rfl) ?_
   refine flow_move_out za_ rfl rfl rfl ?_
   refine zE_ (.int .i64 (h : Int)) (by kernel_rfl) rfl (.cons (.inn rfl) .nil) (fun W hW => (HPG.out W).mono ?_) ?_
   · rintro e w' ⟨rfl,rfl⟩
     rw [zD_]
     exact ⟨rfl,Chg.refl _ _⟩
   refine flow2 (r:=.int .i64 (1 + (h : Int))) za_ rfl (.const _) (.inn rfl) rfl (fun ev W he e1 e2 => by have q:=HW1.out; go_simp) ?_
   refine flow1 (r:=.pointer (some ⟨gu,1,none⟩)) za_ rfl (.out rfl rfl) rfl (fun ev W he e1 => by go_simp) ?_
   refine flow1h (r:=.int .i64 ms) za_ rfl (.inn rfl) rfl (fun ev W he hW e1 => by
    have hk:=HU2.out.keep (HHW.out W hW)
    have q1:=hk.cell 1
    clear hW hk
    go_simp) ?_
   refine flow2 (r:=.int .i64 N) za_ rfl (.inn rfl) (.inn rfl) rfl (fun ev W he e1 e2 => by have q:=HW2.out; go_simp) ?_
   refine flow_assign za_ rfl (zd_ _) (.inr (zd_ _)) rfl ?_
   intro vs W hW hF
   have e2 : vs 2 = .int .i64 N:=hF 2 _ rfl rfl
   have HCW:=hQ_ (HC2.out.trans (HHW.out W hW))
   simp only [zY_,Act.put,List.setIfInBounds_toArray,List.set_cons_zero,List.set_cons_succ]
   rw [e2]
   clear hF hW e2
   obtain ⟨wz,hwz⟩ : ∃ wz : World,wz = W:=⟨_,rfl⟩
   rw [← hwz] at HCW ⊢
   clear hwz
   go_wp2_with fail
   go_ret
   exact ⟨rfl,HCW.out⟩
 · obtain rfl : N = 0:=by rw [HN.out]; unfold yj_; rw [if_neg hE]
   have hd : (E == 0) = false:=by simpa using hE
   clear hE HN hms
   go_wp2_with (
    go_at_call 26
    refine (HT.out _ HC1.out).mono ?_
    rintro e w2 ⟨rfl,hc2⟩
    have HC2:=hQ_ (HC1.out.trans hc2)
    clear hc2)
   go_ret
   exact ⟨rfl,HC2.out⟩
theorem jx_ (t p : Nat) (ht : t ≤ 2147483647) (hp : p ≤ 2147483647) :
    Calls Tryz.prog 66 #[.int .i64 (t : Int),.int .i64 (p : Int)] w (yI_ w (zR_ t p)):=by
 obtain ⟨i0,hi,hz,hs1,hb1⟩:=info_parts xc_
 have et : (t : Int) % 4294967296 = (t : Int):=by omega
 have ep : (p : Int) % 4294967296 = (p : Int):=by omega
 have hbs:=gk_ w 5 xK_ (4,5) (by simp [xK_])
 rw [gj_] at hbs
 have HB1:=hQ_ (show Bs (w.alloc (.cells #[.int .u8 85,.int .u8 78,.int .u8 73,.int .u8 84] 5 (4,5))) (some ⟨w.heap.size,0,none⟩) 4 4 xK_ from hbs)
 have HA1:=hQ_ ((Chg.refl [] w).alloc (.cells #[.int .u8 85,.int .u8 78,.int .u8 73,.int .u8 84] 5 (4,5)))
 have kc:=zfl w rfl
 have HPA:=hQ_ (zdC HB1.out t (by omega) (by decide))
 unfold yI_ at HPA
 clear hbs
 go_enter Tryz.func66,Tryz.ntmps66
 go_upto_region 2 with (first
  | (go_at_call 101
     with_reducible refine HPA.out.mono ?_
     rintro e w2 ⟨v2,rfl,ho2,hc2⟩
     have hl2 : (xK_ ++ be4 t).length = 8:=rfl
     rw [hl2] at ho2
     obtain ⟨A2,c2,rfl,hB2,_⟩:=Bs.of_own ho2
     have HPB:=hQ_ (zdC hB2 p (by omega) (by omega))
     unfold yI_ at HPB
     have HC2:=hQ_ (HA1.out.new hc2)
     clear hl2 ho2 hB2 hc2)
  | (go_at_call 101
     with_reducible refine HPB.out.mono ?_
     rintro e w5 ⟨v5,rfl,ho5,hc5⟩
     have HO5:=hQ_ ho5
     have HC5:=hQ_ hc5
     clear ho5 hc5))
 have ho5:=HO5.out
 have hc5:=HC5.out
 have hl5 : (xK_ ++ be4 t ++ be4 p).length = 12:=rfl
 rw [hl5] at ho5
 have hsz:=HC2.out.size
 have HRL:=hQ_ (show zR_ t p = (xK_ ++ be4 t ++ be4 p) ++ zt_ 52 from rfl)
 generalize xK_ ++ be4 t ++ be4 p = Z at ho5 HRL
 obtain ⟨g,r,rfl,hbg,_,_⟩:=xb_ ho5 (by omega)
 obtain ⟨g',cap',w6,hr,ho6,hg6,hor⟩:=xS_ (P:=Tryz.prog) w5 w2.heap.size 33 3 33 5 i0 _ 1 .i64 Tryz.underlying33 Tryz.underlying3 hi hz hs1 hb1 rfl rfl g 12 (12 + r.length) (bts Z) ho5 52 (by unfold maxLen; omega) (by omega) hc5.size
 have hc6 : Chg [] w2 w6:=hc5.own ho5 (Nat.le_refl _) hg6
 have HR:=hQ_ hr
 have HO:=hQ_ ho6
 have HC6:=hQ_ (HC2.out.new hc6)
 clear hr ho6 hg6 hor hc6 ho5 hc5 hl5 HO5 HC5 HPA HPB
 go_wp2_with (at_builtin; refine Lib.wpList_append_run w5 rfl (.tmp 14) (.tmp 17) 33 3 rfl _ _ rfl rfl _ _ HR.out ?_)
 go_ret
 refine ⟨_,rfl,?_,HC6.out⟩
 have e1 : (zR_ t p).length = 12 + 52:=yT_ t p
 have e2 : bts (zR_ t p) = bts Z ++ List.replicate 52 (.int .u8 0):=by rw [HRL.out,ub_,xf_]
 rw [e1,e2]
 exact vH_ HO.out hsz
end
end Go.Proofs.YtbkfhndmeljlcaaGreatDoor
namespace Go.Proofs.YtbkfhndmeljlcaaGreatDoor
open Go.RowKit
theorem gS_ (w : World) {B n : Nat} {v : Value} {out : List UInt8} (h : OwnM w B v n out) (hB : B ≤ w.heap.size) (k : Nat) (hm : n + k ≤ 1000000) :
    ∃ v' w',(Builtin.append_ #[33,3] 33 #[v,.int .i64 (k : Int)]).run Tryz.prog w = .ok v' w' ∧ OwnM w' B v' (n + k) (out ++ zt_ k) ∧ w.grownBy w' v.ownBlock:=by
 obtain ⟨i,hi,hz,h1,h2⟩:=info_parts v4_
 have ht:=Tryz.underlying33
 have htn:=Tryz.underlying3
 have hw : IntKind.i64.wrap (k : Int) = k:=by rw [IntKind.wrap_i64]; omega
 have hneg : ¬ ((k : Int) < 0):=by omega
 have h48i : ¬ (281474976710656 < (k : Int) * (i.bytes : Int)):=by rw [h2]; omega
 obtain ⟨hl,g,cap,cur,fz,rfl,hBg,hg,hf,hnc,hcm,hcs,htk⟩:=h
 have hcm' : cap ≤ 9223372036854775807:=by simpa only [maxLen] using hcm
 by_cases hk0 : k = 0
 · subst hk0
   refine ⟨_,w,?_,⟨by rw [List.length_append,hl]; rfl,g,cap,cur,fz,rfl,hBg,hg,hf,by omega,hcm,hcs,by rw [show zt_ 0 = [] from rfl,List.append_nil,Nat.add_zero]; exact htk⟩,World.grownBy.refl w _⟩
   have hw0 : IntKind.i64.wrap 0 = 0:=by decide
   simp [Builtin.append_,run_underlying ht,run_underlying htn,sizeOf,typeInfo,hi,asInt,asIntOf,storeCells,hnc,hw0]
 · have hns : ¬ (k * i.size = 0):=by rw [h1]; omega
   by_cases hroom : n + k ≤ cap
   · have hlr : (List.replicate k (Value.int .u8 0)).length = k:=List.length_replicate ..
     have hst:=run_storeCells_cells (P:=Tryz.prog) g n (List.replicate k (Value.int .u8 0)) 0 w (fun j hj => by rw [cell_of_row w g _ cur _ fz hg]; simp at hj ⊢; omega) (fun j hj => by rw [hlr] at hj; exact jF_ hg hf _ (by omega)) (fun u hu => by rw [(List.mem_replicate.1 hu).2]; rfl)
     simp only [Nat.add_zero] at hst
     obtain ⟨c',a,b,c⟩:=xY_ g 5 fz (List.replicate k (Value.int .u8 0)) n cur w hg (by rw [hlr]; omega)
     have hr : (Builtin.append_ #[33,3] 33 #[.slice (some ⟨g,0,none⟩) n cap,.int .i64 (k : Int)]).run Tryz.prog w = .ok (.slice (some ⟨g,0,none⟩) (n + k) cap) (w.setCells g n (List.replicate k (Value.int .u8 0))):=by
      simp [Builtin.append_,run_underlying ht,run_underlying htn,sizeOf,typeInfo,zeroValue,hi,hz,asInt,asIntOf,hw,hneg,h48i,hk0,hroom,h1,Value.cells,yC_,Addr.add_lit,hst]
     refine ⟨_,_,hr,⟨by rw [List.length_append,hl,zI_],g,cap,c',fz,rfl,hBg,a,by rw [b]; exact hf,hroom,hcm,by rw [b]; exact hcs,?_⟩,xq_ g _ _ w⟩
     rw [hlr] at c
     rw [c,htk,ub_,xf_]
   · have hold : (Builtin.firstCells i.size n (.slice (some ⟨g,0,none⟩) n cap)).run Tryz.prog w.drew = .ok (bts out).toArray w.drew:=by
      refine run_firstCells_some w.drew i.size n ⟨g,0,none⟩ n cap (bts out) (by rw [h1]; simp [bts,hl]) (fun j u hu => ?_)
      have hadd : (⟨g,0,none⟩ : Addr).add j = ⟨g,j,none⟩:=by unfold Addr.add; split <;> simp_all
      rw [hadd]
      show w.cell? _ = _
      rw [cell_of_row w g j cur _ fz hg]
      rw [← htk,List.getElem?_take] at hu
      split at hu
      · simpa using hu
      · cases hu
     have hr:=Lib.run_append_grow_zeros (P:=Tryz.prog) w 33 3 33 5 i _ .i64 _ ht htn hi hz (some ⟨g,0,none⟩) n cap (bts out) hold k (by omega) (by omega) (by omega) (by omega) (by rw [h2]; omega) (by rw [h2]; exact growslice_fits (by omega) (by omega))
     have hge:=grownCap_ge w (n + k) cap 5
     have hcm2:=grownCap_le_maxLen w (n + k) cap 5 (by unfold maxLen; omega)
     refine ⟨_,_,hr,⟨by rw [List.length_append,hl,zI_],w.heap.size,_,_,(0,0),rfl,hB,heap_alloc_new w.drew _,.inl rfl,hge,hcm2,?_,?_⟩,⟨rfl,rfl,rfl,by simp,fun j hj _ => Below.heap_alloc w.drew _ j hj⟩⟩
     · simp only [Array.size_append,List.size_toArray,size_zeroCells,Value.cells]
       simp [bts,hl]
       omega
     · have : n + k = (bts out ++ bts (zt_ k)).length:=by simp [bts,hl,zI_]
       simp only [Array.toList_append,Value.cells,yC_]
       rw [this,xf_,List.append_assoc,← List.append_assoc,List.take_left,ub_,xf_]
def zff (B : Nat) (l : List UInt8) : yB_:=fun v W => OwnM W B v l.length l
theorem u4_ (B : Nat) (l : List UInt8) : zS_ (Chg []) (zff B l):=fun _ _ _ h hc => h.keep hc
theorem zfi {B n : Nat} {v : Value} {out : List UInt8} {w w' : World} (ho : OwnM w B v n out) (hg : w.grownBy w' v.ownBlock) : Low B w w':=by
 refine ⟨hg.os,hg.tape,hg.output,hg.size,fun k hk hl => hg.block k hl fun hc => ?_⟩
 obtain ⟨_,g,cap,cur,fz,rfl,hb,_⟩:=ho
 injection hc with hc
 simp only at hc
 omega
end Go.Proofs.YtbkfhndmeljlcaaGreatDoor
namespace Go.Proofs.YtbkfhndmeljlcaaGreatDoor
open Go.RowKit
def v9_ (L : List UInt8) : Nat → List (Nat × List UInt8)
  | 0 => []
  | k + 1 => v9_ L k ++ [(1 + k,pg L k)]
theorem x2_ (L : List UInt8) : ∀ k,(v9_ L k).length = k
  | 0 => rfl
  | k + 1 => by rw [v9_,List.length_append,x2_ L k]; rfl
theorem gg_ (L : List UInt8) : ∀ k i,i < k → (v9_ L k)[i]? = some (1 + i,pg L i)
  | 0,i,h => by omega
  | k + 1,i,h => by
    rw [v9_]
    rcases Nat.lt_or_ge i k with hk | hk
    · rw [List.getElem?_append_left (by rw [x2_]; exact hk)]; exact gg_ L k i hk
    · obtain rfl : i = k:=by omega
      rw [List.getElem?_append_right (by rw [x2_]; exact Nat.le_refl _),x2_,Nat.sub_self]; rfl
theorem zek (T : List UInt8) (m i : Nat) (h1 : i * 64 ≤ T.length) (h2 : (i + 1) * 64 ≤ T.length + m) : pg (T ++ zt_ m) i = pgT T i:=by
 unfold pg pgT
 rw [List.drop_append_of_le_length h1,List.take_append,List.length_take,List.length_drop]
 congr 1
 unfold zt_
 rw [List.take_replicate]
 congr 1
 omega
theorem zej (T : List UInt8) (m i : Nat) (h1 : T.length ≤ i * 64) (h2 : (i + 1) * 64 ≤ T.length + m) : pg (T ++ zt_ m) i = zt_ 64:=by
 unfold pg
 rw [List.drop_append,List.drop_of_length_le h1,List.nil_append]
 unfold zt_
 rw [List.drop_replicate,List.take_replicate]
 congr 1
 omega
theorem zdq (T : List UInt8) (p : Nat) : v9_ (T ++ zt_ (zr_ T.length * 64 - T.length + p * 64)) (zr_ T.length + p) = plT T (zr_ T.length) ++ plM (1 + zr_ T.length) p:=by
 have hle : T.length ≤ zr_ T.length * 64:=by unfold zr_; omega
 apply List.ext_getElem?
 intro i
 rcases Nat.lt_or_ge i (zr_ T.length + p) with hi | hi
 · rw [gg_ _ _ _ hi]
   rcases Nat.lt_or_ge i (zr_ T.length) with hk | hk
   · rw [List.getElem?_append_left (by rw [yO_]; exact hk),zbg _ _ _ hk,zek T _ i (by unfold zr_ at hk; omega) (by omega)]
   · rw [List.getElem?_append_right (by rw [yO_]; exact hk),yO_,zbh _ _ _ (by omega),zej T _ i (by omega) (by omega)]
     congr 2
     omega
 · rw [List.getElem?_eq_none (by rw [x2_]; exact hi),List.getElem?_eq_none (by rw [List.length_append,yO_,vu_]; exact hi)]
theorem OwnM.grown {w w' : World} {B B2 n m : Nat} {v v2 : Value} {out : List UInt8} {ys : List Value} (h : OwnM w B v n out) (h2 : w.ownsRow B2 44 2 v2 m ys) (hg : w.grownBy w' v2.ownBlock) : OwnM w' B v n out:=by
 obtain ⟨hl,g,cap,cur,fz,e,hB,hgg,rest⟩:=h
 refine ⟨hl,g,cap,cur,fz,e,hB,?_,rest⟩
 rw [hg.block g (Array.getElem?_eq_some_iff.1 hgg).1 (fun hc => ?_),hgg]
 rcases h2.2 with ⟨rfl,_⟩ | ⟨g',cap',cur',rfl,_,hg',_⟩
 · cases hc
 · injection hc with hc
   simp only at hc
   subst hc
   rw [hgg] at hg'
   injection hg' with hg'
   injection hg' with _ h5
   revert h5
   decide
theorem OwnM.bs_at {w : World} {B n g c : Nat} {out : List UInt8} (h : OwnM w B (.slice (some ⟨g,0,none⟩) n c) n out) : Bs w (some ⟨g,0,none⟩) n c out:=by
 obtain ⟨g',c',e,hb⟩:=h.bs
 injection e with e1 _ e2
 injection e1 with e1
 injection e1 with e1
 subst e1; subst e2
 exact hb
section
variable {w : World} {pg ms : Int} {A : Option Addr} {n c : Nat} {E : Int} {T : List UInt8}
theorem kB_ (hT : zap w pg ms A n c T E) (hTl : T.length ≤ 2048) (hms : E = 0 → 0 ≤ pg ∧ pg ≤ ms ∧ ms ≤ 64) (pages : Int) : Calls Tryz.prog 40 #[.agg #[.int .i64 pg,.int .i64 ms,.slice A n c],.int .i64 pages] w (xi_ w (un_ T E pg ms pages).1 (un_ T E pg ms pages).2):=by
 obtain ⟨i0,hi,hz0,hz1,hz2⟩:=info_parts u6_
 have HT:=hQ_ hT
 have HND:=hQ_ (fun (W : World) (hc : Chg [] w W) => vE_ (hT.keep hc) hTl (fun h => ⟨by have:=hms h; omega,(hms h).2.2⟩))
 have HNO:=hQ_ (show ∀ (r : Int) (wr : World),un_ T E pg ms pages = ([],r) → Chg [] w wr → xi_ w (un_ T E pg ms pages).1 (un_ T E pg ms pages).2 (.returned (.tuple #[.slice none 0 0,.int .i64 r])) wr from fun r wr h hc => by rw [h]; exact xi_.no hc)
 have HYES:=hQ_ (show ∀ (v : Value) (ls : List ChV) (wr : World) (B : Nat),un_ T E pg ms pages = (vY_ T pg.toNat,0) → w.heap.size ≤ B → wr.ownsRow B 44 2 v ls.length (vO_ ls) → (∀ a ∈ ls,RMade wr B a) → kl_ ls (vY_ T pg.toNat) → Chg [] w wr → xi_ w (un_ T E pg ms pages).1 (un_ T E pg ms pages).2 (.returned (.tuple #[v,.int .i64 0])) wr from fun v ls wr B h hB h1 h2 h3 h4 => by rw [h]; exact ⟨v,ls,rfl,jv_ h1 hB,fun a ha => (h2 a ha).more hB,h3,h4⟩)
 have HDEF:=hQ_ (show un_ T E pg ms pages = if E ≠ 0 then ([],E) else if pages < yj_ T E ms ∨ 64 < pages then ([],25) else (vY_ T pg.toNat,0) from rfl)
 clear hT
 generalize un_ T E pg ms pages = RP at HNO HYES HDEF ⊢
 generalize xi_ w RP.1 RP.2 = PO at HNO HYES ⊢
 unfold zap zF_ at HT
 go_enter Tryz.func40,Tryz.ntmps40
 go_upto_region 1 with fail
 have hN:=zb_.new w 24 [.int .i64 pg,.int .i64 ms,.slice A n c]
 have hal:=(Chg.refl [] w).alloc (.cells #[.int .i64 pg,.int .i64 ms,.slice A n c] 24)
 have HU1:=hQ_ hN
 have HC1:=hQ_ hal
 clear hN hal
 have HGW:=hQ_ (Nat.le_refl w.heap.size)
 obtain ⟨gu,hgu⟩ : ∃ gu,gu = w.heap.size:=⟨_,rfl⟩
 rw [← hgu] at HU1 ⊢
 clear hgu
 generalize w.alloc (.cells #[.int .i64 pg,.int .i64 ms,.slice A n c] 24) = w1 at HU1 HC1 ⊢
 have u0:=HU1.out.cell 0
 have u1:=HU1.out.cell 1
 have u2:=HU1.out.cell 2
 by_cases hE : E = 0
 · subst hE
   obtain ⟨hp0,hpm,hm1⟩:=hms rfl
   obtain ⟨p,rfl⟩ : ∃ p : Nat,pg = (p : Int):=⟨pg.toNat,by omega⟩
   have hp64 : p ≤ 64:=by omega
   have hnz : yj_ T 0 ms = 1 + (zr_ T.length : Int) + ms:=by unfold yj_; rw [if_pos rfl]
   by_cases hbad : pages < yj_ T 0 ms ∨ 64 < pages
   · have HR:=hQ_ (show RP = ([],25) from by rw [HDEF.out,if_neg (by simp),if_pos hbad])
     generalize yj_ T 0 ms = N at HND hbad
     clear hnz HDEF hTl hms
     generalize zc_ T = S at HT
     by_cases hb1 : pages < N
     · clear hbad
       go_wp2_with (first
        | (go_at_call 26
           refine (HT.out _ HC1.out).mono ?_
           rintro e w2 ⟨rfl,hc2⟩
           have HC2:=hQ_ (HC1.out.trans hc2)
           have HU2:=hQ_ (HU1.out.keep hc2)
           have v0:=HU2.out.cell 0
           have v1:=HU2.out.cell 1
           have v2:=HU2.out.cell 2
           clear hc2)
        | (go_at_call 12
           refine (HND.out _ HC2.out).mono ?_
           rintro e w3 ⟨rfl,hc3⟩
           have HC3:=hQ_ (HC2.out.trans hc3)
           clear hc3))
       exact HNO.out 25 _ HR.out HC3.out
     · have hb2 : 64 < pages:=by omega
       clear hbad
       go_wp2_with (first
        | (go_at_call 26
           refine (HT.out _ HC1.out).mono ?_
           rintro e w2 ⟨rfl,hc2⟩
           have HC2:=hQ_ (HC1.out.trans hc2)
           have HU2:=hQ_ (HU1.out.keep hc2)
           have v0:=HU2.out.cell 0
           have v1:=HU2.out.cell 1
           have v2:=HU2.out.cell 2
           clear hc2)
        | (go_at_call 12
           refine (HND.out _ HC2.out).mono ?_
           rintro e w3 ⟨rfl,hc3⟩
           have HC3:=hQ_ (HC2.out.trans hc3)
           clear hc3))
       exact HNO.out 25 _ HR.out HC3.out
   · have HR:=hQ_ (show RP = (vY_ T p,0) from by rw [HDEF.out,if_neg (by simp),if_neg hbad]; rfl)
     obtain ⟨hb1,hb2⟩ : ¬ pages < yj_ T 0 ms ∧ ¬ 64 < pages:=by omega
     obtain ⟨h,hh⟩ : ∃ h,h = zr_ T.length:=⟨_,rfl⟩
     have hh33 : h ≤ 33:=by rw [hh]; unfold zr_; omega
     have HPG:=hQ_ (fun (W : World) => ky_ T (by omega) W)
     have HCS:=hQ_ (show vY_ T p = [(0,zR_ T.length p)] ++ v9_ (T ++ zt_ (h * 64 - T.length + p * 64)) (h + p) from by rw [hh,zdq,← List.append_assoc]; rfl)
     have HHT:=hQ_ (show T.length ≤ h * 64 ∧ (0 < h → (h - 1) * 64 ≤ T.length) from by rw [hh]; unfold zr_; omega)
     rw [← hh] at HPG
     clear hh hbad HDEF hnz hms
     generalize yj_ T 0 ms = N at HND hb1
     have HMT:=hQ_ (fun (W : World) => jx_ (w:=W) T.length p (by omega) (by omega))
     have hsz : (zc_ T).size = T.length:=zw_ T
     obtain ⟨S,hS⟩ : ∃ S,S = zc_ T:=⟨_,rfl⟩
     rw [← hS] at HT hsz HPG
     have HS:=hQ_ hS
     clear hS
     obtain ⟨nT,hnT⟩ : ∃ nT,nT = T.length:=⟨_,rfl⟩
     have HNT:=hQ_ hnT
     rw [← hnT] at hsz hTl HMT HCS HHT
     clear hnT
     -- the Meta
     go_upto_region 7 with (first
      | (go_at_call 26
         refine (HT.out _ HC1.out).mono ?_
         rintro e w2 ⟨rfl,hc2⟩
         have HC2:=hQ_ (HC1.out.trans hc2)
         have HU2:=hQ_ (HU1.out.keep hc2)
         have v0:=HU2.out.cell 0
         have v1:=HU2.out.cell 1
         have v2:=HU2.out.cell 2
         clear hc2)
      | (go_at_call 12
         refine (HND.out _ HC2.out).mono ?_
         rintro e w3 ⟨rfl,hc3⟩
         have HC3:=hQ_ (HC2.out.trans hc3)
         have HU3:=hQ_ (HU2.out.keep hc3)
         have x0:=HU3.out.cell 0
         clear hc3)
      | (go_at_call 66
         refine (HMT.out _).mono ?_
         rintro e w4 ⟨v4,rfl,ho4,hc4⟩
         rw [yT_] at ho4
         obtain ⟨g4,r4,rfl,hg4,hW4,hm4⟩:=xb_ ho4 (by omega)
         have HW4:=hQ_ hW4
         have HM4:=hQ_ hm4
         have HG4:=hQ_ (Nat.le_trans HC3.out.size hg4)
         have HC4:=hQ_ (HC3.out.trans hc4)
         have HU4:=hQ_ (HU3.out.keep hc4)
         clear hc4 ho4 hW4 hm4 hg4))
     clear u0 u1 u2 v0 v1 v2 x0
     obtain ⟨c4,hc4⟩ : ∃ c4,c4 = 64 + r4.length:=⟨_,rfl⟩
     have HC4C:=hQ_ hc4
     rw [← hc4] at HM4 ⊢
     clear hc4
     have hal:=(Chg.refl [] w4).alloc (.cells #[.int .i64 0,.slice (some ⟨g4,0,none⟩) 64 c4] 44)
     have HOA:=hQ_ (kE_ w4 w.heap.size HC4.out.size ⟨0,some ⟨g4,0,none⟩,64,c4,zR_ nT p⟩)
     have HRA:=hQ_ (show ∀ a ∈ [(⟨0,some ⟨g4,0,none⟩,64,c4,zR_ nT p⟩ : ChV)],RMade (w4.alloc (.cells #[.int .i64 0,.slice (some ⟨g4,0,none⟩) 64 c4] 44)) w.heap.size a from fun a ha => by
      rw [List.mem_singleton] at ha; subst ha
      have hm:=HM4.out
      unfold maxLen at hm
      exact ⟨⟨g4,r4,rfl,HG4.out,HW4.out.keep hal,HC4C.out,by rw [← HC4C.out]; exact hm⟩,yT_ _ _,rfl,by simp only; omega⟩)
     have HU5:=hQ_ (HU4.out.keep hal)
     have HC5:=hQ_ (HC4.out.trans hal)
     clear hal
     generalize w4.heap.size = g5 at HOA ⊢
     generalize w4.alloc (.cells #[.int .i64 0,.slice (some ⟨g4,0,none⟩) 64 c4] 44) = w5 at HOA HRA HU5 HC5 ⊢
     have HS0:=hQ_ (show kl_ [(⟨0,some ⟨g4,0,none⟩,64,c4,zR_ nT p⟩ : ChV)] ([(0,zR_ nT p)] ++ v9_ [] 0) from rfl)
     generalize [(⟨0,some ⟨g4,0,none⟩,64,c4,zR_ nT p⟩ : ChV)] = ls0 at HOA HRA HS0
     have hl0 : ls0.length = 1:=by have:=HS0.out.len; simpa [v9_] using this
     have HL0:=hQ_ hl0
     clear hl0 HW4 HM4 HG4 HC4C HC4 HU4 HC3 HC2 HU2 HU3
     obtain ⟨h64,hh64⟩ : ∃ h64,h64 = h * 64:=⟨_,rfl⟩
     obtain ⟨p64,hp64⟩ : ∃ p64,p64 = p * 64:=⟨_,rfl⟩
     obtain ⟨m1,hm1⟩ : ∃ m1,m1 = h64 - nT:=⟨_,rfl⟩
     obtain ⟨m2,hm2⟩ : ∃ m2,m2 = m1 + p64:=⟨_,rfl⟩
     have hTle : nT ≤ h64:=by have:=HHT.out.1; omega
     have HA1:=hQ_ (show IntKind.i64.wrap ((h : Int) * 64) = (h64 : Int) from by rw [IntWalk.i64_in _ (by omega)]; omega)
     have HA2:=hQ_ (show IntKind.i64.wrap ((h64 : Int) - (S.size : Int)) = (m1 : Int) from by rw [IntWalk.i64_in _ (by omega)]; omega)
     have HA3:=hQ_ (show IntKind.i64.wrap ((p : Int) * 64) = (p64 : Int) from by rw [IntWalk.i64_in _ (by omega)]; omega)
     have HA4:=hQ_ (show IntKind.i64.wrap ((m1 : Int) + (p64 : Int)) = (m2 : Int) from by rw [IntWalk.i64_in _ (by omega)]; omega)
     have HTL:=hQ_ (show T.length + m2 ≤ 1000000 from by rw [← HNT.out]; omega)
     have HLL:=hQ_ (show (T ++ zt_ m2).length = (h + p) * 64 from by rw [List.length_append,zI_,← HNT.out]; omega)
     have HCS2:=hQ_ (show vY_ T p = [(0,zR_ nT p)] ++ v9_ (T ++ zt_ m2) (h + p) from by rw [HCS.out,hm2,hm1,hh64,hp64])
     have TOK:=zex w5.heap.size [12] [1,12,13]
     have HU5W:=hQ_ (fun (W : World) (hW : Low w5.heap.size w5.drew W) => (show zb_ W gu 24 [.int .i64 (p : Int),.int .i64 ms,.slice A n c] from (hW.block gu HU5.out.lt HU5.out.lt).trans (show zb_ w5.drew gu 24 _ from HU5.out)))
     clear hh64 hp64 hm1 hm2
     refine wp_flow (by kernel_rfl) (zfj w5.heap.size [12] [1,12,13]) TOK (by kernel_rfl) ?_
     refine flow_move_out TOK rfl rfl rfl ?_
     refine flow_op (zff w5.heap.size T) (u4_ _ _) (.inl rfl) rfl (fun ev W he hW hf => ?_) ?_
     · have e1 : ev (.tmp 34) = .string S:=hf.1
       have hWs : w5.heap.size ≤ W.heap.size:=hW.size
       obtain ⟨v',w',hrun,ho,hc⟩:=gi_ W T (by have:=HTL.out; omega)
       rw [← HS.out] at hrun
       clear hf hW
       go_simp
       exact ⟨zdG _ hc,ho.less hWs⟩
     refine flow_move_out TOK rfl rfl rfl ?_
     refine zE_ (.int .i64 (h : Int)) (by kernel_rfl) rfl (.cons (.inn rfl) .nil) (fun W hW => (HPG.out W).mono ?_) ?_
     · rintro e w' ⟨rfl,rfl⟩
       exact ⟨rfl,zdG _ (Chg.refl _ _)⟩
     refine flow2 (r:=.int .i64 (h64 : Int)) TOK rfl (.inn rfl) (.const _) rfl (fun ev W he e1 e2 => by have q:=HA1.out; go_simp) ?_
     refine flow_move_out TOK rfl rfl rfl ?_
     refine jX_ (s:=S) TOK (.inn rfl) Tryz.underlying9 rfl ?_
     refine flow2 (r:=.int .i64 (m1 : Int)) TOK rfl (.inn rfl) (.inn rfl) rfl (fun ev W he e1 e2 => by
      have q:=HA2.out
      clear hsz
      go_simp) ?_
     refine flow1 (r:=.pointer (some ⟨gu,0,none⟩)) TOK rfl (.out rfl rfl) rfl (fun ev W he e1 => by go_simp) ?_
     refine flow1h (r:=.int .i64 (p : Int)) TOK rfl (.inn rfl) rfl (fun ev W he hW e1 => by
      have q0:=(HU5W.out W hW).cell 0
      clear hW
      go_simp) ?_
     refine flow2 (r:=.int .i64 (p64 : Int)) TOK rfl (.inn rfl) (.const _) rfl (fun ev W he e1 e2 => by have q:=HA3.out; go_simp) ?_
     refine flow2 (r:=.int .i64 (m2 : Int)) TOK rfl (.inn rfl) (.inn rfl) rfl (fun ev W he e1 e2 => by have q:=HA4.out; go_simp) ?_
     refine flow_op (zff w5.heap.size (T ++ zt_ m2)) (u4_ _ _) (.inl rfl) rfl (fun ev W he hW hf => ?_) ?_
     · have ho : zff w5.heap.size T (ev (.tmp 35)) W:=hf.1
       have e2 : ev (.tmp 45) = .int .i64 (m2 : Int):=hf.2.1
       have hWs : w5.heap.size ≤ W.heap.size:=hW.size
       obtain ⟨v',w',hrun,ho2,hg⟩:=gS_ W ho hWs m2 HTL.out
       have hr : ∀ pos af g,(execOp ev ⟨some 46,.call { callee:=.builtin .append,args:=#[.tmp 35,.tmp 45],argTypes:=#[33,3] },33,pos,af,g⟩).run Tryz.prog W = .ok (.value v') w':=fun pos af g => by
        unfold execOp
        simp only [resolve,invoke,builtin,Sem.run_bind,Sem.run_pure,Result.andThen_ok,List.map_toArray,List.map_cons,List.map_nil,e2,hrun]
       rw [hr]
       refine ⟨zda rfl (zfi ho hg),?_⟩
       show OwnM w' _ v' (T ++ zt_ m2).length _
       rw [List.length_append,zI_]
       exact ho2
     refine flow_assign TOK rfl (u4_ _ _) (.inl rfl) rfl ?_
     intro vs W hW hF
     have h9 : zff w5.heap.size (T ++ zt_ m2) (vs 9) W:=hF 9 _ rfl rfl
     obtain ⟨g9,c9,e9,_⟩:=OwnM.bs h9
     have hb9 : OwnM W w5.heap.size (vs 9) _ (T ++ zt_ m2):=h9
     rw [e9] at hb9
     have hcw : Chg [] w5 W:=(Chg.refl [] w5).drew.trans (Low.chg hW (Nat.le_refl _))
     have HB9:=hQ_ hb9
     have HOW:=hQ_ (z0_ HOA.out hcw (by simp))
     have HRW:=hQ_ (show ∀ a ∈ ls0,RMade W w.heap.size a from fun a ha => (HRA.out a ha).chg hcw (by simp))
     have HCW:=hQ_ (HC5.out.trans hcw)
     simp only [zY_,Act.put,List.setIfInBounds_toArray,List.set_cons_zero,List.set_cons_succ]
     rw [e9,HLL.out]
     rw [HLL.out] at HB9
     clear hF hW h9 hb9 hcw e9 TOK HU5W
     obtain ⟨w6,hw6⟩ : ∃ wz : World,wz = W:=⟨_,rfl⟩
     rw [← hw6] at HB9 HOW HRW HCW ⊢
     clear hw6
     obtain ⟨L,hL⟩ : ∃ L,L = T ++ zt_ m2:=⟨_,rfl⟩
     rw [← hL] at HB9 HLL HCS2
     clear hL HOA HRA HC5 HU5 HA1 HA2 HA3 HA4 HTL HPG HMT HND HT hsz
     obtain ⟨q,hq⟩ : ∃ q,q = h + p:=⟨_,rfl⟩
     rw [← hq] at HB9 HLL HCS2 ⊢
     have hq97 : q ≤ 97:=by omega
     clear hq
     obtain ⟨n9,hn9⟩ : ∃ n9,n9 = q * 64:=⟨_,rfl⟩
     rw [← hn9] at HB9 HLL ⊢
     have HN9:=hQ_ hn9
     have hc9:=HB9.out.bs_at.cap
     have hHS1:=HS0.out
     have HS1:=hQ_ (show kl_ ls0 ([(0,zR_ nT p)] ++ v9_ L 0) from hHS1)
     clear hHS1 hn9
     obtain ⟨i8,hi8,hz8,h81,h82⟩:=info_parts v4_
     go_wp2_with fail
     go_loopw [8,10] (fun v i wr => ∃ (k : Nat) (ls : List ChV) (A' : Option Addr) (c' : Nat),k ≤ q ∧ i = .int .i64 (k : Int) ∧ v = .slice A' (1 + k) c' ∧ Hid (ls.length = 1 + k) ∧ Hid (wr.ownsRow w.heap.size 44 2 (.slice A' (1 + k) c') (1 + k) (vO_ ls)) ∧ Hid (∀ a ∈ ls,RMade wr w.heap.size a) ∧ Hid (kl_ ls ([(0,zR_ nT p)] ++ v9_ L k)) ∧ Hid (OwnM wr w5.heap.size (.slice (some ⟨g9,0,none⟩) n9 c9) n9 L) ∧ Hid (Chg [] w wr)) (fun _ i _ => q - (intOf i).toNat)
     case atStart => exact ⟨0,ls0,some ⟨g5,0,none⟩,1,by omega,rfl,rfl,HL0,HOW,HRW,HS1,HB9,HCW⟩
     case round =>
      clear HL0 HOW HRW HS1 HB9 HCW HS0
      obtain ⟨k,ls,A',c',hk,rfl,rfl,HLS,HOR,HRR,HSR,HBr,HCr⟩:=hrel
      by_cases hkq : k < q
      · have hkk : k * 64 < n9 ∧ (k + 1) * 64 ≤ n9:=by have:=HN9.out; omega
        have hkI : (k : Int) * 64 < (n9 : Int):=by omega
        have hk1I : ((k : Int) + 1) * 64 ≤ (c9 : Int):=by omega
        have hk2I : (k : Int) * 64 ≤ (c9 : Int):=by omega
        have hne : ¬ c9 = k * 64:=by omega
        have hcut:=HBr.out.bs_at.cut (lo:=k * 64) (hi:=(k + 1) * 64) (by omega) hkk.2
        have e64 : (k + 1) * 64 - k * 64 = 64:=by omega
        rw [e64,if_neg hne,Option.map_some,zl_,Nat.zero_add] at hcut
        have HCU:=hQ_ (show Bs wr (some ⟨g9,k * 64,none⟩) 64 (c9 - k * 64) (pg L k) from hcut)
        have H64:=hQ_ e64
        clear hcut e64
        have hN:=zb_.new wr 5 []
        have hal:=(Chg.refl [] wr).alloc (.cells #[] 5)
        have hws : w.heap.size ≤ wr.heap.size:=HCr.out.size
        obtain ⟨v',w7,hrun,ho7,hc7⟩:=ys_ (P:=Tryz.prog) (wr.alloc (.cells #[] 5)) w.heap.size 33 33 5 i8 _ 1 Tryz.underlying33 hi8 hz8 h81 h82 rfl wr.heap.size hN hws (by simp; omega) (some ⟨g9,k * 64,none⟩) 64 (c9 - k * 64) (bts (pg L k)) (by rw [zx_,HCU.out.len]) (HCU.out.src.keep hal) (by omega) (by unfold maxLen; omega)
        obtain ⟨g7,r7,rfl,hg7,hW7,hm7⟩:=xb_ ho7 (by omega)
        have HRN:=hQ_ hrun
        have HK7:=hQ_ (hal.trans hc7)
        have HW7:=hQ_ hW7
        have HG7:=hQ_ hg7
        have HM7:=hQ_ hm7
        obtain ⟨d7,hd7⟩ : ∃ d7,d7 = 64 + r7.length:=⟨_,rfl⟩
        rw [← hd7] at HRN HM7
        have HD7:=hQ_ hd7
        have HRN2:=hQ_ (show (Builtin.append_ #[33,33] 33 #[.slice (some ⟨wr.heap.size,0,none⟩) 0 0,.slice (some ⟨g9,k * 64,none⟩) ((k + 1) * 64 - k * 64) (c9 - k * 64)]).run Tryz.prog (wr.alloc (.cells #[] 5)) = .ok (.slice (some ⟨g7,0,none⟩) 64 d7) w7 from by rw [H64.out]; exact HRN.out)
        clear hN hal hrun ho7 hc7 hg7 hW7 hm7 hd7
        have HC7:=hQ_ (HCr.out.trans HK7.out)
        have HO7:=hQ_ (z0_ HOR.out HK7.out (by simp))
        have HR7:=hQ_ (show ∀ a ∈ ls,RMade w7 w.heap.size a from fun a ha => (HRR.out a ha).chg HK7.out (by simp))
        have HB7:=hQ_ (HBr.out.keep HK7.out)
        have hws7 : w.heap.size ≤ w7.heap.size:=HC7.out.size
        have HALX:=hQ_ ((Chg.refl [] w7).alloc (.cells #[.int .i64 (1 + (k : Int)),.slice (some ⟨g7,0,none⟩) 64 d7] 44))
        have HOX:=hQ_ (z0_ HO7.out HALX.out (by simp))
        go_wp2_with (first
         | (at_builtin
            refine Lib.wpList_append_run (wr.alloc (.cells #[] 5)) rfl (.tmp 57) (.tmp 64) 33 33 rfl _ _ rfl rfl _ _ HRN2.out ?_)
         | (at_builtin
            refine wpList_append_own _ rfl (.tmp 54) (.tmp 67) _ rfl w.heap.size 44 i0 _ 2 32 Tryz.underlying39 hi hz0 hz1 hz2 rfl (by decide) (.slice A' (1 + k) c') (1 + k) (vO_ ls) rfl HOX.out ⟨w7.heap.size,0,none⟩ 1 1 [.int .i64 (1 + (k : Int)),.slice (some ⟨g7,0,none⟩) 64 d7] rfl rfl ?c1 ?c2 ?c3 ?c4 ?c5 ?_
            case c1 => exact zq_ _ _ _
            case c2 => simp [Value.oneCell']
            case c3 => simp only [maxLen]; omega
            case c4 => omega
            case c5 => simp; omega
            intro v' w8 hown' hg' _))
        obtain ⟨A8,c8,rfl,_⟩:=zm_ hown'
        have HO8:=hQ_ hown'
        have HB8:=hQ_ ((HB7.out.keep HALX.out).grown HOX.out hg')
        have HC8:=hQ_ (kc_ (HC7.out.trans HALX.out) hg' (fun g hg => (HOX.out.lt g hg).1))
        have HR8:=hQ_ (show ∀ a ∈ ls ++ [(⟨((1 + k : Nat) : Int),some ⟨g7,0,none⟩,64,d7,pg L k⟩ : ChV)],RMade w8 w.heap.size a from fun a ha => by
         rcases List.mem_append.1 ha with h | h
         · exact ((HR7.out a h).chg HALX.out (by simp)).grown HOX.out hg'
         · simp only [List.mem_cons,List.not_mem_nil,or_false] at h
           subst h
           have hm:=HM7.out
           unfold maxLen at hm
           have hn : RMade w7 w.heap.size (⟨((1 + k : Nat) : Int),some ⟨g7,0,none⟩,64,d7,pg L k⟩ : ChV):=⟨⟨g7,r7,rfl,HG7.out,HW7.out,HD7.out,by rw [← HD7.out]; exact hm⟩,HCU.out.len,rfl,by simp only; omega⟩
           exact (hn.chg HALX.out (by simp)).grown HOX.out hg')
        clear hown' hg'
        go_roundw
        case rel =>
         refine ⟨k + 1,ls ++ [(⟨((1 + k : Nat) : Int),some ⟨g7,0,none⟩,64,d7,pg L k⟩ : ChV)],A8,c8,by omega,by go_num,rfl,hQ_ (by rw [List.length_append,HLS.out]; rfl),hQ_ ?_,HR8,hQ_ ?_,HB8,HC8⟩
         · rw [uG_,je_]
           have:=HO8.out
           rw [show (1 : Int) + (k : Int) = ((1 + k : Nat) : Int) by omega] at this
           exact this
         · rw [v9_,← List.append_assoc]
           exact HSR.out.snoc (a:=⟨((1 + k : Nat) : Int),some ⟨g7,0,none⟩,64,d7,pg L k⟩) rfl
        case measure => simp [intOf]; omega
      · have hkI : ¬ (k : Int) * 64 < (n9 : Int):=by have:=HN9.out; omega
        obtain rfl : q = k:=by omega
        have HF:=hQ_ (HYES.out (.slice A' (1 + q) c') ls wr w.heap.size (by rw [HR.out]; rfl) (Nat.le_refl _) (by rw [HLS.out]; exact HOR.out) HRR.out (by
         show kl_ ls (vY_ T p)
         rw [HCS2.out]; exact HSR.out) HCr.out)
        go_wp2_with fail
        exact HF.out
 · have hd : (E == 0) = false:=by simpa using hE
   have HR:=hQ_ (show RP = ([],E) from by rw [HDEF.out,if_pos hE])
   generalize zc_ T = S at HT
   clear hE HDEF hms hTl
   go_wp2_with (
    go_at_call 26
    refine (HT.out _ HC1.out).mono ?_
    rintro e w2 ⟨rfl,hc2⟩
    have HC2:=hQ_ (HC1.out.trans hc2)
    clear hc2)
   exact HNO.out E _ HR.out HC2.out
end
end Go.Proofs.YtbkfhndmeljlcaaGreatDoor
namespace Go.Proofs.YtbkfhndmeljlcaaGreatDoor
open Go.RowKit
def jl_ (a : ChV) : Int × List UInt8:=(a.page,a.B)
def uU_ (l m : List ChV) : Bool:=decide (l.map jl_ = m.map jl_)
theorem zaQ {l m : List ChV} (h : l.length ≠ m.length) : uU_ l m = false:=by
 unfold uU_
 rw [decide_eq_false_iff_not]
 intro e
 have:=congrArg List.length e
 simp at this
 exact h this
theorem zcK {l m : List ChV} {k : Nat} {a b : ChV} (ha : l[k]? = some a) (hb : m[k]? = some b) (h : jl_ a ≠ jl_ b) : uU_ l m = false:=by
 unfold uU_
 rw [decide_eq_false_iff_not]
 intro e
 have:=congrArg (fun (x : List (Int × List UInt8)) => x[k]?) e
 simp [ha,hb] at this
 exact h this
theorem zaR {l m : List ChV} (hl : l.length = m.length) (h : ∀ (i : Nat) (a b : ChV),l[i]? = some a → m[i]? = some b → jl_ a = jl_ b) : uU_ l m = true:=by
 unfold uU_
 rw [decide_eq_true_iff]
 apply List.ext_getElem?
 intro i
 simp only [List.getElem?_map]
 rcases Nat.lt_or_ge i l.length with hi | hi
 · have hj : i < m.length:=by omega
   rw [List.getElem?_eq_getElem hi,List.getElem?_eq_getElem hj]
   simp only [Option.map_some]
   rw [h i _ _ (List.getElem?_eq_getElem hi) (List.getElem?_eq_getElem hj)]
 · rw [List.getElem?_eq_none hi,List.getElem?_eq_none (by omega)]
section
variable {w : World} {A A2 : Option Addr} {n c n2 c2 : Nat}
theorem zba {l m : List ChV} (h : Chs w A l) (hl : l.length = n) (h2 : Chs w A2 m) (hl2 : m.length = n2) (hn : n ≤ 9223372036854775807) (hn2 : n2 ≤ 9223372036854775807) :
    Calls Tryz.prog 41 #[.slice A n c,.slice A2 n2 c2] w (zy_ (uU_ l m) w):=by
 have H:=hQ_ h
 have H2:=hQ_ h2
 have HL:=hQ_ hl
 have HL2:=hQ_ hl2
 clear h h2 hl hl2
 by_cases hnn : n = n2
 · subst hnn
   go_enter Tryz.func41,Tryz.ntmps41
   go_wp2_with fail
   go_loopw [13] (fun i wr => ∃ k : Nat,k ≤ n ∧ i = .int .i64 (k : Int) ∧ Hid (∀ (j : Nat) (a b : ChV),j < k → l[j]? = some a → m[j]? = some b → jl_ a = jl_ b) ∧ Chg [] w wr) (fun i _ => n - (intOf i).toNat)
   case atStart => exact ⟨0,Nat.zero_le _,rfl,hQ_ (fun j a b h => absurd h (by omega)),Chg.refl _ _⟩
   case round =>
    obtain ⟨k,hk,rfl,HK,hcr⟩:=hrel
    by_cases hlt : k < n
    · obtain ⟨a,ha⟩ : ∃ a,l[k]? = some a:=⟨_,List.getElem?_eq_getElem (by have:=HL.out; omega)⟩
      obtain ⟨b,hb⟩ : ∃ b,m[k]? = some b:=⟨_,List.getElem?_eq_getElem (by have:=HL2.out; omega)⟩
      have hba:=((H.out.keep hcr).ok a (List.mem_of_getElem? ha)).bs
      have hbb:=((H2.out.keep hcr).ok b (List.mem_of_getElem? hb)).bs
      obtain ⟨g,o,rfl,hg,hce⟩:=(H.out.keep hcr).cells (by have:=HL.out; omega)
      obtain ⟨g2,o2,rfl,hg2,hce2⟩:=(H2.out.keep hcr).cells (by have:=HL2.out; omega)
      obtain ⟨c0,c1⟩:=hce k a ha
      obtain ⟨d0,d1⟩:=hce2 k b hb
      have HKN:=hQ_ (fun (e : jl_ a = jl_ b) => (show ∀ (j : Nat) (x y : ChV),j < k + 1 → l[j]? = some x → m[j]? = some y → jl_ x = jl_ y from fun j x y hj hx hy => by
       rcases Nat.lt_or_ge j k with hjk | hjk
       · exact HK.out j x y hjk hx hy
       · obtain rfl : j = k:=by omega
         rw [ha] at hx
         rw [hb] at hy
         injection hx with hx
         injection hy with hy
         subst hx
         subst hy
         exact e))
      have HNE:=hQ_ (fun (e : jl_ a ≠ jl_ b) => zcK ha hb e)
      have HC:=hQ_ hcr
      clear hce hce2 ha hb hcr
      obtain ⟨page,bA,bn,bc,Bb⟩:=a
      obtain ⟨page2,bA2,bn2,bc2,Bb2⟩:=b
      simp only at c0 c1 d0 d1 hba hbb
      have hkI : (k : Int) < (n : Int):=by omega
      by_cases hp : page = page2
      · subst hp
        have HPP:=hQ_ (show Bb = Bb2 → jl_ ⟨page,bA,bn,bc,Bb⟩ = jl_ ⟨page,bA2,bn2,bc2,Bb2⟩ from fun e => by subst e; rfl)
        have HPN:=hQ_ (show Bb ≠ Bb2 → jl_ ⟨page,bA,bn,bc,Bb⟩ ≠ jl_ ⟨page,bA2,bn2,bc2,Bb2⟩ from fun e h => by injection h with _ h; exact e h)
        have v1 : ∀ k,(convert 33 9 (.slice bA bn bc)).run Tryz.prog (wr.drewN k) = .ok (.string (zc_ Bb)) (wr.drewN k):=fun k => (hba.keep ((Chg.refl [] wr).drewN k)).str (P:=Tryz.prog) 33 5 9 Tryz.underlying33 Tryz.underlying5 Tryz.underlying9
        have v2 : ∀ k,(convert 33 9 (.slice bA2 bn2 bc2)).run Tryz.prog (wr.drewN k) = .ok (.string (zc_ Bb2)) (wr.drewN k):=fun k => (hbb.keep ((Chg.refl [] wr).drewN k)).str (P:=Tryz.prog) 33 5 9 Tryz.underlying33 Tryz.underlying5 Tryz.underlying9
        clear hba hbb
        by_cases hB : Bb = Bb2
        · have HR:=hQ_ (HKN.out (HPP.out hB))
          subst hB
          go_wp2_with fail
          go_quiet (fail)
          go_wp2_with fail
          go_roundw
          case rel => exact ⟨k + 1,by omega,by go_num,HR,HC.out.drewN _⟩
          case measure => simp [intOf]; omega
        · have HF:=hQ_ (HNE.out (HPN.out hB))
          have hs1 : ((zc_ Bb).toList == (zc_ Bb2).toList) = false:=by rw [zdz]; simpa using hB
          have hs2 : (!((zc_ Bb).toList == (zc_ Bb2).toList)) = true:=by rw [hs1]; rfl
          clear hB
          go_wp2_with fail
          go_quiet (fail)
          go_wp2_with fail
          go_ret
          exact ⟨by rw [HF.out]; rfl,HC.out.drewN _⟩
      · have hpb : (page == page2) = false:=by simpa using hp
        have hpb2 : (!(page == page2)) = true:=by simpa using hp
        have HF:=hQ_ (HNE.out (fun e => by injection e with e; exact hp e))
        clear hba hbb
        go_wp2_with fail
        go_quiet (fail)
        go_wp2_with fail
        go_ret
        exact ⟨by rw [HF.out]; rfl,HC.out.drewN _⟩
    · have HF:=hQ_ (show uU_ l m = true from zaR (by rw [HL.out,HL2.out]) fun i a b ha hb => HK.out i a b (by have:=(List.getElem?_eq_some_iff.1 ha).1; have:=HL.out; omega) ha hb)
      have hkI : (n : Int) ≤ (k : Int):=by omega
      go_wp2_with fail
      go_ret
      exact ⟨by rw [HF.out]; rfl,hcr⟩
 · have HF:=hQ_ (show uU_ l m = false from zaQ (by rw [HL.out,HL2.out]; exact hnn))
   have hb1 : ((n : Int) == (n2 : Int)) = false:=by simp; omega
   have hb2 : (!((n : Int) == (n2 : Int))) = true:=by simp; omega
   have hb3 : (n == n2) = false:=by simpa using hnn
   go_enter Tryz.func41,Tryz.ntmps41
   go_wp2_with fail
   go_ret
   exact ⟨by rw [HF.out]; rfl,Chg.refl _ _⟩
end
end Go.Proofs.YtbkfhndmeljlcaaGreatDoor
namespace Go.Proofs.YtbkfhndmeljlcaaGreatDoor
open Go.RowKit
theorem zaP {ls ls2 : List ChV} {cs : List (Nat × List UInt8)} (h : kl_ ls cs) (h2 : kl_ ls2 cs) : uU_ ls ls2 = true:=by
 unfold uU_
 rw [decide_eq_true_iff]
 exact h.trans h2.symm
section
variable {w : World} {pg ms : Int} {A : Option Addr} {n c : Nat} {E : Int} {T : List UInt8}
theorem zcS (hT : zaq w pg ms A n c T E) (hR : zap w pg ms A n c T E) (hTl : T.length ≤ 2048) (hms : E = 0 → 0 ≤ pg ∧ pg ≤ ms ∧ ms ≤ 64) (pages : Int) (hP : xu_ w.heap.size w) : Calls Tryz.prog 13 #[.agg #[.int .i64 pg,.int .i64 ms,.slice A n c],.int .i64 pages] w (zy_ true w):=by
 have HP:=hQ_ hP
 have HU:=hQ_ (fun (W : World) (hc : Chg [] w W) (hp : xu_ W.heap.size W) => jD_ (hT.keep hc) hTl hms pages hp)
 have HR:=hQ_ (fun (W : World) (hc : Chg [] w W) => kB_ (hR.keep hc) hTl hms pages)
 have HN:=hQ_ (fun (W : World) (hc : Chg [] w W) (hp : xu_ W.heap.size W) => va_ (hT.keep hc) hTl (fun h => ⟨by have:=hms h; omega,(hms h).2.2⟩) hp)
 have HM:=hQ_ (fun (W : World) (hc : Chg [] w W) => vE_ (hR.keep hc) hTl (fun h => ⟨by have:=hms h; omega,(hms h).2.2⟩))
 clear hT hR hTl hms hP
 generalize yj_ T E ms = N at HN HM
 unfold xi_ at HU HR
 generalize un_ T E pg ms pages = X at HU HR
 obtain ⟨cs,r⟩:=X
 simp only at HU HR
 unfold zy_
 go_enter Tryz.func13,Tryz.ntmps13
 go_upto_region 1 with fail
 have hN:=zb_.new w 24 [.int .i64 pg,.int .i64 ms,.slice A n c]
 have hal:=(Chg.refl [] w).alloc (.cells #[.int .i64 pg,.int .i64 ms,.slice A n c] 24)
 have HU1:=hQ_ hN
 have HC1:=hQ_ hal
 clear hN hal
 generalize w.heap.size = gu at HU1 ⊢
 generalize w.alloc (.cells #[.int .i64 pg,.int .i64 ms,.slice A n c] 24) = w1 at HU1 HC1 ⊢
 have u0:=HU1.out.cell 0
 have u1:=HU1.out.cell 1
 have u2:=HU1.out.cell 2
 go_upto_region 3 with (first
  | (go_at_call 20
     refine (HU.out _ HC1.out (HP.out.here HC1.out)).mono ?_
     rintro e w2 ⟨v2,ls2,rfl,ho2,hr2,hs2,hc2⟩
     obtain ⟨A2,c2,rfl,_,hch2,hm2,_,_⟩:=uF_ ho2 (fun a ha => (hr2 a ha).ok)
     have HCH2:=hQ_ hch2
     have HS2:=hQ_ hs2
     have HC2:=hQ_ (HC1.out.trans hc2)
     have HU2:=hQ_ (HU1.out.keep hc2)
     have v0:=HU2.out.cell 0
     have v1:=HU2.out.cell 1
     have v2:=HU2.out.cell 2
     clear hc2 ho2 hr2 hs2 hch2)
  | (go_at_call 40
     refine (HR.out _ HC2.out).mono ?_
     rintro e w3 ⟨v3,ls3,rfl,ho3,hr3,hs3,hc3⟩
     obtain ⟨A3,c3,rfl,_,hch3,hm3,_,_⟩:=uF_ ho3 (fun a ha => (hr3 a ha).ok)
     have HCH3:=hQ_ hch3
     have HS3:=hQ_ hs3
     have HK3:=hQ_ hc3
     have HC3:=hQ_ (HC2.out.trans hc3)
     have HU3:=hQ_ (HU2.out.keep hc3)
     clear hc3 ho3 hr3 hs3 hch3))
 clear u0 u1 u2 v0 v1 v2
 have HHW:=hQ_ (fun (W : World) (h : Chg [] w3.drew W) => (show Chg [] w3 W from (Chg.refl [] w3).drew.trans h))
 have HSM:=hQ_ (fun (W : World) (h : Chg [] w3 W) => zba (c:=c2) (c2:=c3) (HCH2.out.keep (HK3.out.trans h)) rfl (HCH3.out.keep h) rfl hm2 hm3)
 rw [zaP HS2.out HS3.out] at HSM
 unfold zy_ at HSM
 generalize ls2.length = n2 at HSM ⊢
 generalize ls3.length = n3 at HSM ⊢
 clear hm2 hm3 HU HR HS2 HS3 HCH2 HCH3 HU1 HU2 HC1 HC2 HK3
 refine wp_flow (by kernel_rfl) yp_ za_ (by kernel_rfl) ?_
 refine flow_move_out za_ rfl rfl rfl ?_
 refine flow_move_out za_ rfl rfl rfl ?_
 refine vM_ za_ (.inn rfl) (.inn rfl) (fun ev W he e1 e2 => by go_simp) rfl ?_
 refine zL_ za_ rfl (zd_ _) (.inr (zd_ _)) rfl ?_
 refine flow_move_out za_ rfl rfl rfl ?_
 refine flow_move_out za_ rfl rfl rfl ?_
 refine zE_ (.bool true) (by kernel_rfl) rfl (.cons (.inn rfl) (.cons (.inn rfl) .nil)) (fun W hW => (HSM.out W (HHW.out W hW)).mono ?_) ?_
 · rintro e w' ⟨rfl,hc⟩
   rw [zD_]
   exact ⟨rfl,hc⟩
 refine k9_ za_ rfl rfl rfl ?_
 refine zL_ za_ rfl (zd_ _) (.inr (zd_ _)) rfl ?_
 refine flow1h (r:=.agg #[.int .i64 pg,.int .i64 ms,.slice A n c]) za_ rfl (.out rfl rfl) rfl (fun ev W he hW e1 => by
  have hk:=HU3.out.keep (HHW.out W hW)
  have q0:=hk.cell 0
  have q1:=hk.cell 1
  have q2:=hk.cell 2
  clear hW hk
  go_simp) ?_
 refine zE_ (.int .i64 N) (by kernel_rfl) rfl (.cons (.inn rfl) .nil) (fun W hW => (HN.out W (HC3.out.trans (HHW.out W hW)) (HP.out.here (HC3.out.trans (HHW.out W hW)))).mono ?_) ?_
 · rintro e w' ⟨rfl,hc⟩
   rw [zD_]
   exact ⟨rfl,hc⟩
 refine flow1h (r:=.agg #[.int .i64 pg,.int .i64 ms,.slice A n c]) za_ rfl (.out rfl rfl) rfl (fun ev W he hW e1 => by
  have hk:=HU3.out.keep (HHW.out W hW)
  have q0:=hk.cell 0
  have q1:=hk.cell 1
  have q2:=hk.cell 2
  clear hW hk
  go_simp) ?_
 refine zE_ (.int .i64 N) (by kernel_rfl) rfl (.cons (.inn rfl) .nil) (fun W hW => (HM.out W (HC3.out.trans (HHW.out W hW))).mono ?_) ?_
 · rintro e w' ⟨rfl,hc⟩
   rw [zD_]
   exact ⟨rfl,hc⟩
 refine vM_ za_ (.inn rfl) (.inn rfl) (fun ev W he e1 e2 => by go_simp) rfl ?_
 refine k9_ za_ rfl rfl rfl ?_
 refine flow_assign za_ rfl (zd_ _) (.inr (zd_ _)) rfl ?_
 intro vs W hW hF
 have e4 : vs 4 = .bool true:=hF 4 _ rfl rfl
 have HCW:=hQ_ (HC3.out.trans (HHW.out W hW))
 simp only [zY_,Act.put,List.setIfInBounds_toArray,List.set_cons_zero,List.set_cons_succ]
 rw [e4]
 clear hF hW e4
 obtain ⟨wz,hwz⟩ : ∃ wz : World,wz = W:=⟨_,rfl⟩
 rw [← hwz] at HCW ⊢
 clear hwz
 go_wp2_with fail
 go_ret
 exact ⟨rfl,HCW.out⟩
end
end Go.Proofs.YtbkfhndmeljlcaaGreatDoor
namespace Go.Proofs
open Go.Shelf
def Tryz.laysSlJ14_ren : Go.Shelf.Ren:=⟨fun | 14 => 49 | 15 => 75 | n => n,fun | 26 => 30 | 22 => 33 | 3 => 3 | 4 => 4 | 0 => 0 | 9 => 9 | 20 => 20 | 5 => 5 | n => n,fun | n => n⟩
theorem Tryz.laysSlJ14 : Go.Proofs.SlLaysJ.n14 Tryz.prog Tryz.laysSlJ14_ren:={
  mixed:=by kernel_rfl
  f14:=Tryz.func49.trans (congrArg some (by kernel_rfl))
  f15:=Tryz.func75.trans (congrArg some (by kernel_rfl))
  t0:=Tryz.underlying0
  a0:=Tryz.isAgg0
  z0:=Tryz.sizeOf0
  v0:=Tryz.zeroValue0
  t3:=Tryz.underlying3
  a3:=Tryz.isAgg3
  z3:=Tryz.sizeOf3
  v3:=Tryz.zeroValue3
  t4:=Tryz.underlying4
  a4:=Tryz.isAgg4
  z4:=Tryz.sizeOf4
  v4:=Tryz.zeroValue4
  t9:=Tryz.underlying9
  a9:=Tryz.isAgg9
  z9:=Tryz.sizeOf9
  v9:=Tryz.zeroValue9
  t20:=Tryz.underlying20
  a20:=Tryz.isAgg20
  z20:=Tryz.sizeOf20
  v20:=Tryz.zeroValue20
  t22:=Tryz.underlying33
  a22:=Tryz.isAgg33
  z22:=Tryz.sizeOf33
  v22:=Tryz.zeroValue33
  t26:=Tryz.underlying30
  a26:=Tryz.isAgg30
  z26:=Tryz.sizeOf30
  v26:=Tryz.zeroValue30
  t5:=Tryz.underlying5
  z5:=Tryz.sizeOf5
  i5:=by kernel_rfl }
open Go.RowKit Go.Lib in
theorem Tryz.bytes_Join_many (b o n c : Nat) (vs : List Value) (ls : List (List UInt8)) (sv : Value) (sep : List UInt8) (w : World) (hn : ls.length = n) (h2 : 2 ≤ n) (hP : Lib.PartsAt w ⟨b,o,none⟩ vs ls) (hcap : n ≤ c) (hS : Lib.HoldsBytes w sv sep) (hn47 : n ≤ 140737488355328) (hlen : Lib.lens ls + sep.length * (n - 1) ≤ 140737488355328) :
    Calls Tryz.prog 49 #[.slice (some ⟨b,o,none⟩) n c,sv] w fun e w' => ∃ v',e = .returned v' ∧ Lib.FreshBytes w.heap.size w' v' (Lib.join ls sep) ∧ Below w.heap.size w w':=Any.bytes_Join_many Tryz.laysSlJ14 b o n c vs ls sv sep w hn h2 hP hcap hS hn47 hlen
open Go.RowKit Go.Lib in
theorem Tryz.bytes_Join_none (p : Option Addr) (c : Nat) (sv : Value) (w : World) :
    Calls Tryz.prog 49 #[.slice p 0 c,sv] w fun e w' => e = .returned (.slice (some ⟨w.heap.size,0,none⟩) 0 0) ∧ w' = w.alloc (.cells #[] 5):=Any.bytes_Join_none Tryz.laysSlJ14 p c sv w
open Go.RowKit Go.Lib in
theorem Tryz.bytes_Join_one (b o c : Nat) (ad0 : Addr) (c0 : Nat) (l0 : List UInt8) (sv : Value) (w : World) (hcell : w.cell? ⟨b,o,none⟩ = some (.slice (some ad0) l0.length c0)) (hc : ∀ (i : Nat) x,l0[i]? = some x → w.cell? (ad0.add i) = some (.int .u8 (x.toNat : Int))) (h0 : 0 < l0.length) (hs : l0.length ≤ 140737488355328) :
    Calls Tryz.prog 49 #[.slice (some ⟨b,o,none⟩) 1 c,sv] w fun e w' => ∃ v',e = .returned v' ∧ Lib.FreshBytes w.heap.size w' v' l0 ∧ Below w.heap.size w w':=Any.bytes_Join_one Tryz.laysSlJ14 b o c ad0 c0 l0 sv w hcell hc h0 hs
end Go.Proofs
namespace Go.Proofs.YtbkfhndmeljlcaaGreatDoor
open Go.RowKit
theorem zas : ¬ xm_ (zt_ 64):=by
 intro h
 have h2:=h.2.2
 have h3:=congrArg (fun l : List UInt8 => l.getD 0 0) h2
 simp [zR_,xK_,zt_] at h3
def zdL (w : World) (e : Ending) (w' : World) : Prop:=e = .returned (.tuple #[.string ⟨#[]⟩,.int .i64 0,.bool false]) ∧ Chg [] w w'
def zfB (r : Int) (w : World) (e : Ending) (w' : World) : Prop:=e = .returned (.tuple #[.agg #[.int .i64 0,.int .i64 0,.slice none 0 0],.pointer none,.int .i64 0,.int .i64 r]) ∧ Chg [] w w'
theorem zu_ {fn : Func} {p a b c : Tmp} {ty : TypeId} (h : fn.results = #[.cell p ty,.tmp a,.tmp b,.tmp c]) (tmps : Array Value) (w : World) (g : Nat) (t : TypeId) (cs : List Value) (fs : Array Field)
    (hp : tmps.getD p undef = .pointer (some ⟨g,0,none⟩)) (hg : zb_ w g t cs) (hu : Tryz.prog.underlying ty = some (.struct fs)) (hi : (Tryz.prog.info? ty).map (·.size) = some cs.toArray.size) :
    (results fn tmps).run Tryz.prog w = .ok (.tuple #[.agg cs.toArray,tmps.getD a undef,tmps.getD b undef,tmps.getD c undef]) w:=by
      have hp' : tmps[p]?.getD undef = .pointer (some ⟨g,0,none⟩):=by simpa using hp
      unfold results
      simp [h,hp',asAddr,run_loadVar_row w g t ty cs.toArray (0,0) (.struct fs) hg hu rfl hi]
section
variable {w : World}
theorem gX_ : Calls Tryz.prog 47 #[.slice none 0 0] w (zdL w):=by
 have HPO:=hQ_ (show ∀ w',Chg [] w w' → zdL w (.returned (.tuple #[.string ⟨#[]⟩,.int .i64 0,.bool false])) w' from fun w' hc => ⟨rfl,hc⟩)
 generalize zdL w = PO at HPO ⊢
 go_enter Tryz.func47,Tryz.ntmps47
 go_wp2_with fail
 go_loopw [15] (fun i wr => i = .int .i64 0 ∧ wr = w) (fun _ _ => 0)
 case atStart => exact ⟨rfl,rfl⟩
 case round =>
  obtain ⟨rfl,rfl⟩:=hrel
  go_wp2_with fail
  go_ret3
  exact HPO.out _ (Chg.refl [] _)
theorem qj_ {gr gb : Nat} (hr : zb_ w gr 33 [.slice (some ⟨gb,0,none⟩) 64 64]) (hb : zb_ w gb 5 (bts (zt_ 64))) : Calls Tryz.prog 47 #[.slice (some ⟨gr,0,none⟩) 1 1] w (zdL w):=by
 have HPO:=hQ_ (show ∀ w',Chg [] w w' → zdL w (.returned (.tuple #[.string ⟨#[]⟩,.int .i64 0,.bool false])) w' from fun w' hc => ⟨rfl,hc⟩)
 generalize zdL w = PO at HPO ⊢
 have r0:=hr.cell 0
 have hbs : Bs w (some ⟨gb,0,none⟩) 64 64 (zt_ 64):=by
  have:=Bs.of_all hb (by rw [zI_]; omega)
  rwa [zI_] at this
 have HSR:=hQ_ (kt_ hbs)
 clear hb hbs hr
 go_enter Tryz.func47,Tryz.ntmps47
 go_wp2_with fail
 go_loopw [15] (fun i wr => ∃ k : Nat,i = .int .i64 (k : Int) ∧ k ≤ 1 ∧ wr = w) (fun i _ => 1 - (intOf i).toNat)
 case atStart => exact ⟨0,rfl,by omega,rfl⟩
 case round =>
  obtain ⟨k,rfl,hk,hwr⟩:=hrel
  subst hwr
  by_cases hk1 : k < 1
  · obtain rfl : k = 0:=by omega
    go_wp2_with fail
    go_roundw
    case rel => exact ⟨1,by go_num,by omega,by first | rfl | trivial⟩
    case measure => simp [intOf]
  · obtain rfl : k = 1:=by omega
    go_wp2_with (
     go_at_call 73
     refine HSR.out.mono ?_
     rintro e w2 (⟨hm,_⟩ | ⟨_,rfl,hc2⟩)
     · exact absurd hm zas
     have HC2:=hQ_ hc2
     clear hc2)
    go_ret3
    exact HPO.out _ HC2.out
theorem qP_ {V : Value} (HR0 : ∀ W,Chg [] w W → Calls Tryz.prog 47 #[V] W (zdL W)) : Calls Tryz.prog 21 #[V] w (zfB 12 w):=by
 have HR:=hQ_ HR0
 clear HR0
 unfold zdL at HR
 have HPO:=hQ_ (show ∀ w',Chg [] w w' → zfB 12 w (.returned (.tuple #[.agg #[.int .i64 0,.int .i64 0,.slice none 0 0],.pointer none,.int .i64 0,.int .i64 12])) w' from fun w' hc => ⟨rfl,hc⟩)
 generalize zfB 12 w = PO at HPO ⊢
 go_enter Tryz.func21,Tryz.ntmps21
 go_upto_region 1 with fail
 have hN:=zb_.new w 24 [.int .i64 0,.int .i64 0,.slice none 0 0]
 have hal:=(Chg.refl [] w).alloc (.cells #[.int .i64 0,.int .i64 0,.slice none 0 0] 24)
 obtain ⟨g,hg⟩ : ∃ g,g = w.heap.size:=⟨_,rfl⟩
 have hnl : ¬ g < w.heap.size:=by omega
 rw [← hg] at hN ⊢
 have HG:=hQ_ hN
 have HW1:=hQ_ hal
 generalize w.alloc (.cells #[.int .i64 0,.int .i64 0,.slice none 0 0] 24) = w1 at HG HW1 ⊢
 clear hN hal hg
 go_wp2_with (
  go_at_call 47
  refine (HR.out _ HW1.out).mono ?_
  rintro e w2 ⟨rfl,hc2⟩
  have HG2:=hQ_ (HG.out.keep hc2)
  have HW2:=hQ_ (HW1.out.trans hc2)
  have z0:=HG2.out.cell 0
  have z1:=HG2.out.cell 1
  have z2:=HG2.out.cell 2
  have f0:=HG2.out.frozen 0
  have f1:=HG2.out.frozen 1
  have f2:=HG2.out.frozen 2
  clear hc2)
 have HCF:=((HW2.out.setCell (p:=⟨g,0,none⟩) (fun h => absurd h hnl) (.int .i64 0)).setCell (p:=⟨g,1,none⟩) (fun h => absurd h hnl) (.int .i64 0)).setCell (p:=⟨g,2,none⟩) (fun h => absurd h hnl) (.slice none 0 0)
 have HSS:=((HG2.out.set_ 0 (.int .i64 0)).set_ 1 (.int .i64 0)).set_ 2 (.slice none 0 0)
 exact bodyPost_ret_by (zu_ (p:=2) (a:=3) (b:=4) (c:=5) (ty:=24) rfl _ _ g 24 [.int .i64 0,.int .i64 0,.slice none 0 0] _ rfl HSS Tryz.underlying24 (by kernel_rfl)) rfl (HPO.out _ HCF)
end
end Go.Proofs.YtbkfhndmeljlcaaGreatDoor
namespace Go.Proofs.YtbkfhndmeljlcaaGreatDoor
open Go.RowKit
structure Pgs (W : World) (A : Option Addr) (n c : Nat) (ys : List Value) (zs : List (List UInt8)) : Prop where
  len : ys.length = n
  src : Src W A ys
  ls : qa_ W ys zs
  cap : n ≤ c
  max : c ≤ 9223372036854775807
  spot : 0 < n → ∀ ad,A = some ad → ad.spot = none
theorem Pgs.keep {W W' : World} {A : Option Addr} {n c : Nat} {ys : List Value} {zs : List (List UInt8)} (h : Pgs W A n c ys zs) (hc : Chg [] W W') : Pgs W' A n c ys zs:=⟨h.len,h.src.keep hc,h.ls.keep hc,h.cap,h.max,h.spot⟩
theorem Pgs.zlen {W : World} {A : Option Addr} {n c : Nat} {ys : List Value} {zs : List (List UInt8)} (h : Pgs W A n c ys zs) : zs.length = n:=by rw [← h.ls.1,h.len]
theorem Pgs.form {W : World} {A : Option Addr} {n c : Nat} {ys : List Value} {zs : List (List UInt8)} (h : Pgs W A n c ys zs) (hn : 0 < n) : ∃ b o,A = some ⟨b,o,none⟩ ∧ b < W.heap.size ∧ ∀ i y,ys[i]? = some y → W.cell? ⟨b,o + i,none⟩ = some y:=by
 obtain ⟨⟨b,o,s⟩,e,hb,hx⟩:=h.src (by rw [h.len]; exact hn)
 obtain rfl : s = none:=h.spot hn _ e
 refine ⟨b,o,e,hb,fun i y hy => ?_⟩
 have:=hx i y hy
 rwa [zl_] at this
theorem Pgs.at_ {W : World} {A : Option Addr} {n c i : Nat} {ys : List Value} {zs : List (List UInt8)} {z : List UInt8} (h : Pgs W A n c ys zs) (hz : zs[i]? = some z) : ∃ y B m d,ys[i]? = some y ∧ y = .slice B m d ∧ Bs W B m d z:=by
 have hi : i < ys.length:=by rw [h.ls.1]; exact (List.getElem?_eq_some_iff.1 hz).1
 obtain ⟨B,m,d,e,hB⟩:=h.ls.2 i ys[i] z (List.getElem?_eq_getElem hi) hz
 exact ⟨_,B,m,d,List.getElem?_eq_getElem hi,e,hB⟩
theorem Pgs.part {W : World} {b o n c : Nat} {ys : List Value} {zs : List (List UInt8)} (h : Pgs W (some ⟨b,o,none⟩) n c ys zs) {lo k : Nat} (hk : lo + k ≤ n) (hn : 0 < n) : Pgs W (some ⟨b,o + lo,none⟩) k (c - lo) ((ys.drop lo).take k) ((zs.drop lo).take k):=by
 have hl:=h.len
 have hc:=h.cap
 have hm:=h.max
 obtain ⟨b',o',e,hb,hx⟩:=h.form hn
 injection e with e
 injection e with e1 e2
 subst e1; subst e2
 refine ⟨by rw [List.length_take,List.length_drop]; omega,fun _ => ⟨_,rfl,hb,fun i y hy => ?_⟩,⟨by rw [List.length_take,List.length_take,List.length_drop,List.length_drop,h.ls.1],fun i v X hv hX => ?_⟩,by omega,by omega,fun _ ad e => by injection e with e; subst e; rfl⟩
 · rw [zl_]
   rw [List.getElem?_take] at hy
   split at hy
   · rw [List.getElem?_drop] at hy
     have:=hx (lo + i) y hy
     rw [show o + lo + i = o + (lo + i) from by omega]
     exact this
   · cases hy
 · rw [List.getElem?_take] at hv hX
   split at hv
   · rename_i hik
     rw [if_pos hik] at hX
     rw [List.getElem?_drop] at hv hX
     exact h.ls.2 (lo + i) v X hv hX
   · cases hv
theorem Pgs.cut {W : World} {A : Option Addr} {n c : Nat} {ys : List Value} {zs : List (List UInt8)} (h : Pgs W A n c ys zs) {lo k : Nat} (hk : lo + k ≤ n) : Pgs W (if c = lo then A else A.map (·.add lo)) k (c - lo) ((ys.drop lo).take k) ((zs.drop lo).take k):=by
 have hc:=h.cap
 have hm:=h.max
 rcases Nat.eq_zero_or_pos k with h0 | h0
 · subst h0
   exact ⟨by simp,fun hp => absurd hp (by simp),⟨by simp,fun i v X hv => by simp at hv⟩,by omega,by omega,fun hp => absurd hp (by omega)⟩
 · obtain ⟨b,o,rfl,_,_⟩:=h.form (by omega)
   rw [if_neg (by omega),Option.map_some,zl_]
   exact h.part hk (by omega)
theorem g5_ (ls : List (List UInt8)) : Lib.join ls [] = ls.flatten:=by
 cases ls with
 | nil => rfl
 | cons x r =>
   rw [Lib.join_cons]
   unfold Lib.joinTail
   simp
theorem v1_ (zs : List (List UInt8)) (h : ∀ z ∈ zs,z.length = 64) : Lib.lens zs = 64 * zs.length ∧ zs.flatten.length = 64 * zs.length:=by
 induction zs with
 | nil => exact ⟨rfl,rfl⟩
 | cons z zs ih =>
   have hz:=h z (by simp)
   obtain ⟨h1,h2⟩:=ih (fun x hx => h x (by simp [hx]))
   refine ⟨?_,?_⟩
   · have : Lib.lens (z :: zs) = z.length + Lib.lens zs:=Lib.lens_cons z zs
     rw [this,hz,h1,List.length_cons]; omega
   · rw [List.flatten_cons,List.length_append,hz,h2,List.length_cons]; omega
theorem zdu {W : World} {A : Option Addr} {n c : Nat} {l : List UInt8} (h : Bs W A n c l) : Lib.HoldsBytes W (.slice A n c) l:=by
 refine ⟨A,c,by rw [h.len],fun e => ?_,fun a e i x hx => ?_⟩
 · cases l with
   | nil => rfl
   | cons b l =>
     obtain ⟨ad,e2,_⟩:=h.src (by simp [bts])
     rw [e] at e2; cases e2
 · have hil:=(List.getElem?_eq_some_iff.1 hx).1
   obtain ⟨ad,e2,_,hc⟩:=h.src (by rw [zx_]; omega)
   rw [e] at e2
   injection e2 with e2
   subst e2
   exact hc i _ (by unfold bts; rw [List.getElem?_map,hx]; rfl)
theorem zdh {B : Nat} {W : World} {v : Value} {l : List UInt8} (h : Lib.FreshBytes B W v l) (hW : ∀ g cap,v = .slice (some ⟨g,0,none⟩) l.length cap → 0 < cap → g < W.heap.size) : ∃ g c,v = .slice (some ⟨g,0,none⟩) l.length c ∧ B ≤ g ∧ Bs W (some ⟨g,0,none⟩) l.length c l:=by
 obtain ⟨g,cap,zs,rfl,hB,hlc,hcm,hzl,hr,hb,hcell,_⟩:=h
 refine ⟨g,cap,rfl,hB,rfl,fun hp => ?_,hlc,by unfold maxLen at hcm; omega,fun _ ad e => by injection e with e; subst e; rfl⟩
 rw [zx_] at hp
 refine ⟨_,rfl,hW g cap rfl (by omega),fun j u hj => ?_⟩
 rw [zl_,Nat.zero_add]
 have hjl : j < l.length:=by have:=(List.getElem?_eq_some_iff.1 hj).1; rwa [zx_] at this
 rw [hcell j (by omega)]
 have h2 : (Lib.bytesOf (zs.take l.length))[j]? = some (UInt8.ofNat (zs.getD j 0).toNat):=by
  unfold Lib.bytesOf
  rw [List.getElem?_map,List.getElem?_take,if_pos hjl,List.getElem?_eq_getElem (by omega),Option.map_some,List.getD_eq_getElem?_getD,List.getElem?_eq_getElem (by omega),Option.getD_some]
 rw [hb] at h2
 unfold bts at hj
 rw [List.getElem?_map,h2,Option.map_some] at hj
 rw [← hj]
 have hm:=hr (zs.getD j 0) (by rw [List.getD_eq_getElem?_getD,List.getElem?_eq_getElem (by omega),Option.getD_some]; exact List.getElem_mem _)
 unfold B8
 have e3 : ((UInt8.ofNat (zs.getD j 0).toNat).toNat : Int) = zs.getD j 0:=by
  rw [UInt8.toNat_ofNat']
  omega
 rw [e3]
def zdN (l : List UInt8) (w : World) (e : Ending) (w' : World) : Prop:=∃ A c,e = .returned (.slice A l.length c) ∧ Bs w' A l.length c l ∧ Chg [] w w' ∧ (∀ ad,A = some ad → w.heap.size ≤ ad.block)
theorem zdg {W : World} {g : Nat} {x : Value} (h : W.cell? ⟨g,0,none⟩ = some x) : g < W.heap.size:=by
 unfold World.cell? at h
 rcases Nat.lt_or_ge g W.heap.size with hlt | hge
 · exact hlt
 · simp only [Array.getElem?_eq_none hge] at h
   cases h
theorem kC_ {w : World} {A : Option Addr} {n c : Nat} {ys : List Value} {zs : List (List UInt8)} (h : Pgs w A n c ys zs) (h64 : ∀ z ∈ zs,z.length = 64) (hn : n ≤ 100000) : Calls Tryz.prog 49 #[.slice A n c,.slice none 0 0] w (zdN zs.flatten w):=by
 have hzl:=h.zlen
 obtain ⟨hl1,hl2⟩:=v1_ zs h64
 have hfr : ∀ {B : Nat} {w' : World} {v : Value} {l : List UInt8},Lib.FreshBytes B w' v l → ∃ g c,v = .slice (some ⟨g,0,none⟩) l.length c ∧ B ≤ g ∧ Bs w' (some ⟨g,0,none⟩) l.length c l:=fun hf => zdh hf (fun g cap e hc0 => by
  obtain ⟨g',cap',zs',e',_,_,_,_,_,_,hcell,_⟩:=hf
  rw [e] at e'
  injection e' with e1 _ e2
  injection e1 with e1
  injection e1 with e1
  subst e1; subst e2
  exact zdg (hcell 0 hc0))
 rcases Nat.lt_or_ge n 2 with h2 | h2
 · rcases Nat.lt_or_ge n 1 with h1 | h1
   · obtain rfl : n = 0:=by omega
     obtain rfl : zs = []:=List.length_eq_zero_iff.1 hzl
     refine (Tryz.bytes_Join_none A c (.slice none 0 0) w).mono ?_
     rintro e w' ⟨rfl,rfl⟩
     exact ⟨_,_,rfl,⟨rfl,fun hp => absurd hp (by simp [bts]),Nat.le_refl _,by omega,fun h0 => absurd h0 (by omega)⟩,(Chg.refl [] w).alloc _,fun ad e => by injection e with e; subst e; exact Nat.le_refl _⟩
   · obtain rfl : n = 1:=by omega
     obtain ⟨z,rfl⟩:=List.length_eq_one_iff.1 hzl
     obtain ⟨b,o,rfl,_,hx⟩:=h.form (by omega)
     obtain ⟨y,B,m,d,hy,rfl,hB⟩:=h.at_ (i:=0) (z:=z) rfl
     have hz64:=h64 z (by simp)
     have hm : m = z.length:=hB.len.symm
     subst hm
     obtain ⟨ad,rfl,_,hc⟩:=hB.src (by rw [zx_]; omega)
     have hc0:=hx 0 _ hy
     rw [Nat.add_zero] at hc0
     refine (Tryz.bytes_Join_one b o c ad d z (.slice none 0 0) w hc0 (fun i x hxi => hc i _ (by unfold bts; rw [List.getElem?_map,hxi]; rfl)) (by omega) (by omega)).mono ?_
     rintro e w' ⟨v',rfl,hf,hbel⟩
     obtain ⟨g,c',rfl,hgB,hbs⟩:=hfr hf
     rw [show [z].flatten = z from by simp]
     exact ⟨_,_,rfl,hbs,Chg.of_below hbel,fun ad e => by injection e with e; subst e; exact hgB⟩
 · obtain ⟨b,o,rfl,_,hx⟩:=h.form (by omega)
   have hP : Lib.PartsAt w ⟨b,o,none⟩ ys zs:=⟨h.ls.1,fun i v hv => by rw [zl_]; exact hx i v hv,fun i v l hv hl => by
    obtain ⟨B,m,d,e,hB⟩:=h.ls.2 i v l hv hl
    rw [e]; exact zdu hB⟩
   have hS : Lib.HoldsBytes w (.slice none 0 0) []:=⟨none,0,rfl,fun _ => rfl,fun a e => by cases e⟩
   refine (Tryz.bytes_Join_many b o n c ys zs (.slice none 0 0) [] w hzl h2 hP h.cap hS (by omega) (by rw [hl1,hzl]; simp; omega)).mono ?_
   rintro e w' ⟨v',rfl,hf,hbel⟩
   rw [g5_] at hf
   obtain ⟨g,c',rfl,hgB,hbs⟩:=hfr hf
   exact ⟨_,_,rfl,hbs,Chg.of_below hbel,fun ad e => by injection e with e; subst e; exact hgB⟩
end Go.Proofs.YtbkfhndmeljlcaaGreatDoor
namespace Go.Proofs.YtbkfhndmeljlcaaGreatDoor
open Go.RowKit
def yZ_ (zs : List (List UInt8)) (T : List UInt8) (p : Nat) : Prop :=
 (∀ z ∈ zs,z.length = 64) ∧ ∃ z r,zs = z :: r ∧ xm_ z ∧ xJ_ z 8 = p ∧ 1 + zr_ (xJ_ z 4) ≤ zs.length ∧ T = ((r.take (zr_ (xJ_ z 4))).flatten).take (xJ_ z 4) ∧ (∀ b ∈ ((r.take (zr_ (xJ_ z 4))).flatten).drop (xJ_ z 4),b = 0)
def j7_ (zs : List (List UInt8)) (w : World) (e : Ending) (w' : World) : Prop :=
 (∃ T p,yZ_ zs T p ∧ e = .returned (.tuple #[.string (zc_ T),.int .i64 ((p : Nat) : Int),.bool true]) ∧ Chg [] w w') ∨
 ((¬ ∃ T p,yZ_ zs T p) ∧ e = .returned (.tuple #[.string ⟨#[]⟩,.int .i64 0,.bool false]) ∧ Chg [] w w')
theorem vP_ {x : UInt8} : ((x.toNat : Int) = 0) ↔ x = 0:=by
 constructor
 · intro h
   apply UInt8.toNat_inj.1
   have : x.toNat = 0:=by omega
   rw [this]; rfl
 · intro h; subst h; rfl
section
variable {w : World} {A : Option Addr} {n c : Nat} {ys : List Value} {zs : List (List UInt8)}
theorem gY_ (h : Pgs w A n c ys zs) (hn : n ≤ 100000) : Calls Tryz.prog 47 #[.slice A n c] w (j7_ zs w):=by
 have HPG:=hQ_ h
 have HZL:=hQ_ h.zlen
 have hcap:=h.cap
 have HNO:=hQ_ (show ∀ w',(¬ ∃ T p,yZ_ zs T p) → Chg [] w w' → j7_ zs w (.returned (.tuple #[.string ⟨#[]⟩,.int .i64 0,.bool false])) w' from fun w' h1 hc => .inr ⟨h1,rfl,hc⟩)
 have HYES:=hQ_ (show ∀ w' (T : List UInt8) (p : Nat),yZ_ zs T p → Chg [] w w' → j7_ zs w (.returned (.tuple #[.string (zc_ T),.int .i64 ((p : Nat) : Int),.bool true])) w' from fun w' T p h1 hc => .inl ⟨T,p,h1,rfl,hc⟩)
 generalize j7_ zs w = PO at HNO HYES ⊢
 clear h
 go_enter Tryz.func47,Tryz.ntmps47
 go_wp2_with fail
 go_loopw [15] (fun i wr => ∃ k : Nat,i = .int .i64 (k : Int) ∧ k ≤ n ∧ Hid (∀ z ∈ zs.take k,z.length = 64) ∧ wr = w) (fun i _ => n - (intOf i).toNat)
 case atStart => exact ⟨0,rfl,by omega,hQ_ (by simp),rfl⟩
 case round =>
  obtain ⟨k,rfl,hk,HZ,hwr⟩:=hrel
  subst hwr
  by_cases hkn : k < n
  · have hkI : (k : Int) < (n : Int):=by omega
    obtain ⟨z,hz⟩ : ∃ z,zs[k]? = some z:=⟨zs[k]'(by rw [HZL.out]; exact hkn),by simp⟩
    obtain ⟨y,B,m,d,hy,rfl,hB⟩:=HPG.out.at_ hz
    obtain ⟨b,o,rfl,_,hx⟩:=HPG.out.form (by omega)
    have y0:=hx k _ hy
    have HM:=hQ_ hB.len
    clear hx hy hB
    by_cases hm : m = 64
    · subst hm
      go_wp2_with fail
      go_roundw
      case rel => exact ⟨k + 1,by go_num,by omega,hQ_ (fun x hx => by
       rw [List.take_add_one,hz] at hx
       rcases List.mem_append.1 hx with hx | hx
       · exact HZ.out x hx
       · simp at hx; subst hx; exact HM.out),by first | rfl | trivial⟩
      case measure => simp [intOf]; omega
    · have hmI : ¬ (m : Int) = 64:=by omega
      have hmd : ((m : Int) == 64) = false:=by simpa using hmI
      have HN:=hQ_ (show ¬ ∃ T p,yZ_ zs T p from fun ⟨T,p,h1,_⟩ => hm (by rw [← HM.out]; exact h1 z (List.mem_of_getElem? hz)))
      go_wp2_with fail
      go_ret3
      exact HNO.out _ HN.out (Chg.refl [] _)
  · have hkI : ¬ (k : Int) < (n : Int):=by omega
    obtain rfl : n = k:=by omega
    have H64:=hQ_ (show ∀ z ∈ zs,z.length = 64 from fun z hz => HZ.out z (by rw [List.take_of_length_le (by rw [HZL.out]; exact Nat.le_refl _)]; exact hz))
    clear HZ hkI hkn hk
    by_cases hn0 : n = 0
    · subst hn0
      have HN:=hQ_ (show ¬ ∃ T p,yZ_ zs T p from fun ⟨T,p,_,z,r,hz,_⟩ => by have:=HZL.out; rw [hz] at this; simp at this)
      go_wp2_with fail
      go_ret3
      exact HNO.out _ HN.out (Chg.refl [] _)
    · have hnI : ¬ (n : Int) = 0:=by omega
      have hnd : ((n : Int) == 0) = false:=by simpa using hnI
      have hnp : (0 : Int) < (n : Int):=by omega
      obtain ⟨z,r,hzr⟩ : ∃ z r,zs = z :: r:=by
       cases hc : zs with
       | nil => have:=HZL.out; rw [hc] at this; simp at this; omega
       | cons z r => exact ⟨z,r,rfl⟩
      obtain ⟨y,B,m,d,hy,rfl,hB⟩:=HPG.out.at_ (i:=0) (z:=z) (by rw [hzr]; rfl)
      obtain ⟨b,o,rfl,_,hx⟩:=HPG.out.form (by omega)
      have y0:=hx 0 _ hy
      rw [Nat.add_zero] at y0
      have HSR:=hQ_ (kt_ hB)
      have HZR:=hQ_ hzr
      clear hx hy hB hzr
      go_upto_region 10 with (
       go_at_call 73
       refine HSR.out.mono ?_
       intro e w2 hq
       have HQ:=hQ_ hq
       rcases hq with ⟨hm,rfl,hc2⟩ | ⟨hm,rfl,hc2⟩)
      · have HMT:=hQ_ hm
        have HC2:=hQ_ hc2
        have hp64:=hm.2.1
        have ht:=hm.1
        clear hm hc2 HQ HSR y0
        obtain ⟨t,htt⟩ : ∃ t,t = xJ_ z 4:=⟨_,rfl⟩
        obtain ⟨p,hpp⟩ : ∃ p,p = xJ_ z 8:=⟨_,rfl⟩
        rw [← htt] at ht ⊢
        rw [← hpp] at hp64 ⊢
        have HTT:=hQ_ htt
        have HPP:=hQ_ hpp
        clear htt hpp
        have HHD:=hQ_ (fun (W : World) => kD_ t (by omega) W)
        obtain ⟨q,hq⟩ : ∃ q,q = zr_ t:=⟨_,rfl⟩
        rw [← hq] at HHD
        have hq33 : q ≤ 32:=by rw [hq]; unfold zr_; omega
        have HTQ:=hQ_ (show t ≤ q * 64 ∧ (q = 0 → t = 0) from by rw [hq]; unfold zr_; omega)
        have HQQ:=hQ_ hq
        clear hq
        have HDEC:=hQ_ (show ∀ T p',yZ_ zs T p' ↔ (p = p' ∧ 1 + q ≤ n ∧ T = ((r.take q).flatten).take t ∧ (∀ b ∈ ((r.take q).flatten).drop t,b = 0)) from fun T p' => by
         constructor
         · rintro ⟨_,z',r',e1,h2,h3,h4,h5,h6⟩
           rw [HZR.out] at e1
           injection e1 with e1 e2
           subst e1; subst e2
           rw [← HTT.out,← HQQ.out] at h4 h5 h6
           exact ⟨by rw [HPP.out]; exact h3,by rw [← HZL.out]; exact h4,h5,h6⟩
         · rintro ⟨h3,h4,h5,h6⟩
           refine ⟨H64.out,z,r,HZR.out,HMT.out,by rw [← HPP.out]; exact h3,?_,?_,?_⟩
           · rw [← HTT.out,← HQQ.out,HZL.out]; exact h4
           · rw [← HTT.out,← HQQ.out]; exact h5
           · rw [← HTT.out,← HQQ.out]; exact h6)
        by_cases hqn : 1 + q ≤ n
        · have hqnI : ¬ (n : Int) < 1 + (q : Int):=by omega
          have hFL : ((r.take q).flatten).length = 64 * q:=by
           have h1:=(v1_ (r.take q) (fun x hx => H64.out x (by rw [HZR.out]; exact List.mem_cons_of_mem _ (List.mem_of_mem_take hx)))).2
           rw [h1,List.length_take]
           have h2 : zs.length = r.length + 1:=by rw [HZR.out]; rfl
           have:=HZL.out
           omega
          have HPT:=hQ_ ((HPG.out.keep HC2.out).part (lo:=1) (k:=q) (by omega) (by omega))
          have hJ:=fun (W : World) (hc : Chg [] w2 W) => kC_ (HPT.out.keep hc) (fun x hx => H64.out x (by rw [HZR.out]; exact List.mem_cons_of_mem _ (List.mem_of_mem_take (List.mem_of_mem_drop (i:=0) (by simpa [HZR.out] using hx))))) (by omega)
          have HJ:=hQ_ hJ
          clear hJ
          rw [show (zs.drop 1).take q = r.take q from by rw [HZR.out]; rfl] at HJ
          unfold zdN at HJ
          obtain ⟨FL,hFLe⟩ : ∃ FL,FL = (r.take q).flatten:=⟨_,rfl⟩
          rw [← hFLe] at HJ hFL
          have HFQ:=hQ_ (show (r.take q).flatten = FL from hFLe.symm)
          clear hFLe HPT
          rw [hFL] at HJ
          have hq0c : 1 + q ≤ c:=by omega
          by_cases hq0 : q = 0
          · subst hq0
            obtain rfl : t = 0:=HTQ.out.2 rfl
            have HJ0:=hQ_ (fun (W : World) (A : Option Addr) (c : Nat) => (Tryz.bytes_Join_none A c (.slice none 0 0) W).mono (R':=fun e w' => ∃ A' c',e = .returned (.slice A' 0 c') ∧ Chg [] W w') (by
             rintro e w' ⟨rfl,rfl⟩
             exact ⟨_,_,rfl,(Chg.refl [] W).alloc _⟩))
            obtain rfl : FL = []:=List.length_eq_zero_iff.1 hFL
            have HY:=hQ_ (show yZ_ zs [] p from (HDEC.out _ _).2 ⟨rfl,hqn,by rw [HFQ.out]; rfl,fun x hx => by rw [HFQ.out] at hx; simp at hx⟩)
            clear HJ hFL hqnI
            have hst:=fun (A : Option Addr) (c : Nat) (W : World) => qK_ (P:=Tryz.prog) 33 5 9 Tryz.underlying33 Tryz.underlying5 Tryz.underlying9 A c W
            by_cases hc1 : c = 1
            · subst hc1
              go_wp2_with (first
               | (go_at_call 70
                  refine (HHD.out _).mono ?_
                  rintro e wh ⟨rfl,rfl⟩)
               | (go_at_call 49
                  refine (HJ0.out _ _ _).mono ?_
                  rintro e w3 ⟨A3,c3,rfl,hc3⟩
                  have HCQ:=hQ_ (HC2.out.trans hc3)
                  clear hc3))
              all_goals
                go_loopw [54] (fun i wr => i = .int .i64 0 ∧ wr = w3) (fun _ _ => 0)
                case atStart => exact ⟨rfl,rfl⟩
                case round =>
                 obtain ⟨rfl,rfl⟩:=hrel
                 go_wp2_with fail
                 go_ret3
                 exact HYES.out _ _ _ HY.out HCQ.out
            · have hc1I : ¬ (c : Int) = 1:=by omega
              go_wp2_with (first
               | (go_at_call 70
                  refine (HHD.out _).mono ?_
                  rintro e wh ⟨rfl,rfl⟩)
               | (go_at_call 49
                  refine (HJ0.out _ _ _).mono ?_
                  rintro e w3 ⟨A3,c3,rfl,hc3⟩
                  have HCQ:=hQ_ (HC2.out.trans hc3)
                  clear hc3))
              all_goals
                go_loopw [54] (fun i wr => i = .int .i64 0 ∧ wr = w3) (fun _ _ => 0)
                case atStart => exact ⟨rfl,rfl⟩
                case round =>
                 obtain ⟨rfl,rfl⟩:=hrel
                 go_wp2_with fail
                 go_ret3
                 exact HYES.out _ _ _ HY.out HCQ.out
          · have hc1 : ¬ c = 1:=by omega
            have hqc : q ≤ c - 1:=by omega
            go_upto_region 13 with (first
             | (go_at_call 70
                refine (HHD.out _).mono ?_
                rintro e wh ⟨rfl,rfl⟩)
             | (go_at_call 49
                refine (HJ.out _ (Chg.refl [] _)).mono ?_
                rintro e w3 ⟨A3,c3,rfl,hB3,hc3,_⟩
                have HB3:=hQ_ hB3
                have HCQ:=hQ_ (HC2.out.trans hc3)
                clear hc3 hB3))
            obtain ⟨g3,o3,rfl⟩ : ∃ g o,A3 = some ⟨g,o,none⟩:=by
             obtain ⟨⟨g,o,s⟩,e,_,_⟩:=HB3.out.src (by rw [zx_,hFL]; omega)
             obtain rfl : s = none:=HB3.out.spot (by omega) _ e
             exact ⟨g,o,e⟩
            have hc3:=HB3.out.cap
            have htq:=HTQ.out.1
            have hcut:=HB3.out.cut (lo:=t) (hi:=64 * q) (by omega) (Nat.le_refl _)
            have HBT:=hQ_ (HB3.out.take (m:=t) (by omega))
            rw [List.take_of_length_le (by rw [List.length_drop,hFL]; exact Nat.le_refl _)] at hcut
            obtain ⟨m2,hm2⟩ : ∃ m2,m2 = 64 * q - t:=⟨_,rfl⟩
            rw [← hm2] at hcut
            have HM2:=hQ_ hm2
            obtain ⟨q64,hq64⟩ : ∃ q64,q64 = 64 * q:=⟨_,rfl⟩
            have HQ64:=hQ_ hq64
            rw [← hq64] at HB3 hc3 hm2 ⊢
            have htq2 : t ≤ q64:=by omega
            have hm2b : m2 ≤ 2048:=by omega
            have hmI : (q64 : Int) - (t : Int) = (m2 : Int):=by omega
            have htqI : (t : Int) ≤ (q64 : Int):=by omega
            have htcI : (t : Int) ≤ (c3 : Int):=by omega
            clear hq64
            by_cases hct : c3 = t
            · have hct' : t = c3:=hct.symm
              have hm0 : m2 = 0:=by omega
              have hqe : q64 = c3:=by omega
              clear hmI htqI htcI hm2 hct
              subst hct'
              subst hqe
              rw [if_pos rfl] at hcut
              have HBC:=hQ_ hcut
              clear hcut
              subst hm0
              have HY:=hQ_ (show yZ_ zs (FL.take q64) p from (HDEC.out _ _).2 ⟨rfl,hqn,by rw [HFQ.out],fun x hx => by rw [HFQ.out,List.length_eq_zero_iff.1 HBC.out.len] at hx; simp at hx⟩)
              have hst:=(HBT.out).str (P:=Tryz.prog) 33 5 9 Tryz.underlying33 Tryz.underlying5 Tryz.underlying9
              go_wp2_with fail
              go_loopw [54] (fun i wr => i = .int .i64 0 ∧ wr = w3) (fun _ _ => 0)
              case atStart => exact ⟨rfl,rfl⟩
              case round =>
               obtain ⟨rfl,rfl⟩:=hrel
               go_wp2_with fail
               go_ret3
               exact HYES.out _ _ _ HY.out HCQ.out
            · rw [if_neg hct,Option.map_some,zl_] at hcut
              have HBC:=hQ_ hcut
              have hctI : ¬ (c3 : Int) = (t : Int):=by omega
              clear hcut
              go_wp2_with fail
              go_loopw [54] (fun i wr => ∃ k : Nat,i = .int .i64 (k : Int) ∧ k ≤ m2 ∧ Hid (∀ x ∈ (FL.drop t).take k,x = 0) ∧ wr = w3) (fun i _ => m2 - (intOf i).toNat)
              case atStart => exact ⟨0,rfl,by omega,hQ_ (by simp),rfl⟩
              case round =>
               obtain ⟨k,rfl,hk,HZZ,hwr⟩:=hrel
               subst hwr
               by_cases hkm : k < m2
               · have hkI : (k : Int) < (m2 : Int):=by omega
                 obtain ⟨x,hx⟩ : ∃ x,(FL.drop t)[k]? = some x:=⟨(FL.drop t)[k]'(by rw [HBC.out.len]; exact hkm),by simp⟩
                 have y1:=(show wr.cell? ⟨g3,o3 + t + k,none⟩ = some (.int .u8 (x.toNat : Int)) from by
                  obtain ⟨ad,e,_,hcc⟩:=HBC.out.src (by rw [zx_,HBC.out.len]; omega)
                  injection e with e
                  subst e
                  have:=hcc k (B8 x) (by unfold bts; rw [List.getElem?_map,hx]; rfl)
                  rwa [zl_] at this)
                 by_cases hx0 : x = 0
                 · have hxI : (x.toNat : Int) = 0:=vP_.2 hx0
                   rw [hxI] at y1
                   have HX:=hQ_ hx
                   have HX0:=hQ_ hx0
                   clear hxI hx hx0
                   go_wp2_with fail
                   go_roundw
                   case rel => exact ⟨k + 1,by go_num,by omega,hQ_ (fun u hu => by
                    rw [List.take_add_one,HX.out] at hu
                    rcases List.mem_append.1 hu with hu | hu
                    · exact HZZ.out u hu
                    · simp at hu; rw [hu]; exact HX0.out),by first | rfl | trivial⟩
                   case measure => simp [intOf]; omega
                 · have hxI : ¬ (x.toNat : Int) = 0:=fun h => hx0 (vP_.1 h)
                   have hxd : ((x.toNat : Int) == 0) = false:=by simpa using hxI
                   have HN:=hQ_ (show ¬ ∃ T p,yZ_ zs T p from fun ⟨T,p',h⟩ => hx0 (((HDEC.out T p').1 h).2.2.2 x (List.mem_of_getElem? (by rw [HFQ.out]; exact hx))))
                   obtain ⟨xi,hxi⟩ : ∃ xi,xi = (x.toNat : Int):=⟨_,rfl⟩
                   rw [← hxi] at y1 hxI hxd
                   clear hx hx0 hxi
                   go_wp2_with fail
                   go_ret3
                   exact HNO.out _ HN.out HCQ.out
               · have hkI : ¬ (k : Int) < (m2 : Int):=by omega
                 have HY:=hQ_ (show yZ_ zs (FL.take t) p from (HDEC.out _ _).2 ⟨rfl,hqn,by rw [HFQ.out],fun x hx => HZZ.out x (by rw [List.take_of_length_le (by rw [HBC.out.len]; omega)]; rw [HFQ.out] at hx; exact hx)⟩)
                 have hst:=(HBT.out).str (P:=Tryz.prog) 33 5 9 Tryz.underlying33 Tryz.underlying5 Tryz.underlying9
                 clear hkm hk
                 go_wp2_with fail
                 go_ret3
                 exact HYES.out _ _ _ HY.out HCQ.out
        · have hqnI : (n : Int) < 1 + (q : Int):=by omega
          have HN:=hQ_ (show ¬ ∃ T p,yZ_ zs T p from fun ⟨T,p',h⟩ => hqn ((HDEC.out T p').1 h).2.1)
          go_wp2_with (
           go_at_call 70
           refine (HHD.out _).mono ?_
           rintro e w3 ⟨rfl,rfl⟩)
          go_ret3
          exact HNO.out _ HN.out HC2.out
      · have HN:=hQ_ (show ¬ ∃ T p,yZ_ zs T p from fun ⟨T,p,_,z',r',hz,h1,_⟩ => by
         rw [HZR.out] at hz
         injection hz with e1 e2
         subst e1
         exact hm h1)
        have HC2:=hQ_ hc2
        clear hm hc2 HQ HSR
        go_wp2_with fail
        go_ret3
        exact HNO.out _ HN.out HC2.out
end
end Go.Proofs.YtbkfhndmeljlcaaGreatDoor
namespace Go.Proofs.YtbkfhndmeljlcaaGreatDoor
open Go.RowKit
open Go.Lib (decDigits encodeRune)
def kpT : List UInt8:=[117,110,105,116,32,49,32,50,10,102,48,32,49,10]
theorem zey : zM_ 1 2 [kuG] = (kpT,0):=by
 have ht : txC ⟨#[49]⟩ = [49]:=by
  have h : xU_ ⟨#[49]⟩ = some [⟨48,1,0⟩]:=by rfl
  unfold txC jp_
  rw [h]
  show txB false [⟨48,1,0⟩] = _
  rw [xW_ _ _ _ rfl,show (1 : Int).toNat = 1 from rfl,dg1]
  rfl
 have hf : utF kuG = [102,48,32,49,10]:=by
  unfold utF
  show encodeRune 102 ++ (decDigits ((0 : Int).toNat) ++ (32 :: (txC ⟨#[49]⟩ ++ [10]))) = _
  rw [ht,show (0 : Int).toNat = 0 from rfl,dg0]
  rfl
 have hu : utx 1 2 [kuG] = kpT:=by
  unfold utx qF_
  rw [hf,show (1 : Int).toNat = 1 from rfl,show (2 : Int).toNat = 2 from rfl,dg1,dg2]
  rfl
 have hr : zJ_ 1 2 [kuG] = 0:=by decide +kernel
 unfold zM_
 rw [if_pos hr,hu]
 rfl
theorem zdi {W : World} {g : Nat} {f : FnV} (h0 : -9223372036854775808 ≤ f.args ∧ f.args ≤ 9223372036854775807) (h : zb_ W g 58 (fnC f)) : Fnr W (some ⟨g,0,none⟩) 1 1 [f]:=by
 refine ⟨rfl,fun _ => ⟨_,rfl,h.lt,fun j v hj => ?_⟩,Nat.le_refl _,by omega,fun _ ad e => by injection e with e; subst e; rfl,fun x hx => ?_⟩
 · rw [zl_,Nat.zero_add,h.cell j]
   have : y3_ [f] = fnC f:=List.append_nil _
   rw [this] at hj
   exact hj
 · rw [List.mem_singleton] at hx; subst hx; exact h0
theorem zeB : yj_ kpT 0 2 = 4:=by rfl
theorem zez : un_ kpT 0 1 2 4 = (vY_ kpT 1,0):=by rfl
theorem zeA : un_ kpT 0 1 2 3 = ([],25):=by rfl
theorem zfk : (vY_ kpT 1).length = 3:=by rw [xM_]; rfl
theorem zaH (W : World) : (convert 33 9 (.slice (some ⟨W.heap.size,0,none⟩) 64 64)).run Tryz.prog (W.alloc (.cells (bts (zt_ 64)).toArray 5)) = .ok (.string (zc_ (zt_ 64))) (W.alloc (.cells (bts (zt_ 64)).toArray 5)):=by
 have hN:=zb_.new W 5 (bts (zt_ 64))
 have hbs:=Bs.of_all hN (by rw [zI_]; omega)
 rw [zI_] at hbs
 exact hbs.str (P:=Tryz.prog) 33 5 9 Tryz.underlying33 Tryz.underlying5 Tryz.underlying9
section
variable {w : World}
theorem zcV (hP : xu_ w.heap.size w) : Calls Tryz.prog 16 #[] w (zy_ true w):=by
 have HP:=hQ_ hP
 unfold zy_
 clear hP
 go_enter Tryz.func16,Tryz.ntmps16
 go_upto_region 2 with fail
 have hW:=zb_.new w 58 [.int .i32 102,.int .i64 0,.string ⟨#[49]⟩]
 have hal:=(Chg.refl [] w).alloc (.cells #[.int .i32 102,.int .i64 0,.string ⟨#[49]⟩] 58)
 have hal2:=hal.alloc (.cells #[.int .i64 1,.int .i64 2,.slice (some ⟨w.heap.size,0,none⟩) 1 1] 24)
 have hU:=zb_.new (w.alloc (.cells #[.int .i32 102,.int .i64 0,.string ⟨#[49]⟩] 58)) 24 [.int .i64 1,.int .i64 2,.slice (some ⟨w.heap.size,0,none⟩) 1 1]
 rw [show (w.alloc (.cells #[.int .i32 102,.int .i64 0,.string ⟨#[49]⟩] 58)).heap.size = w.heap.size + 1 by simp] at hU
 have hW2:=hW.keep ((Chg.refl [] (w.alloc (.cells #[.int .i32 102,.int .i64 0,.string ⟨#[49]⟩] 58))).alloc (.cells #[.int .i64 1,.int .i64 2,.slice (some ⟨w.heap.size,0,none⟩) 1 1] 24))
 have HU2:=hQ_ hU
 have HW2:=hQ_ hW2
 have HC2:=hQ_ hal2
 clear hW hal hal2 hU hW2
 generalize w.heap.size = gf at HU2 HW2 HC2 ⊢
 generalize (w.alloc (.cells #[.int .i32 102,.int .i64 0,.string ⟨#[49]⟩] 58)).alloc (.cells #[.int .i64 1,.int .i64 2,.slice (some ⟨gf,0,none⟩) 1 1] 24) = w2 at HU2 HW2 HC2 ⊢
 have HF2:=hQ_ (show Fnr w2 (some ⟨gf,0,none⟩) 1 1 [kuG] from zdi (f:=kuG) (by decide) HW2.out)
 have HTX:=hQ_ (zaq.of_fnr (pg:=1) (ms:=2) HF2.out (fun f hf => by rw [List.mem_singleton] at hf; subst hf; decide))
 rw [zey] at HTX
 simp only at HTX
 have HPU:=hQ_ (fun (W : World) (hc : Chg [] w2 W) (hp : xu_ W.heap.size W) (pages : Int) => jD_ (HTX.out.keep hc) (by decide) (fun _ => by decide) pages hp)
 have HPND:=hQ_ (fun (W : World) (hc : Chg [] w2 W) (hp : xu_ W.heap.size W) => va_ (HTX.out.keep hc) (by decide) (fun _ => by decide) hp)
 rw [zeB] at HPND
 have HP4:=hQ_ (fun (W : World) (hc : Chg [] w2 W) (hp : xu_ W.heap.size W) => HPU.out W hc hp 4)
 have HP3:=hQ_ (fun (W : World) (hc : Chg [] w2 W) (hp : xu_ W.heap.size W) => HPU.out W hc hp 3)
 rw [zez] at HP4
 rw [zeA] at HP3
 unfold xi_ at HP4 HP3
 simp only at HP4 HP3
 have u0:=HU2.out.cell 0
 have u1:=HU2.out.cell 1
 have u2:=HU2.out.cell 2
 have HGN:=hQ_ (fun (W : World) => qP_ (w:=W) (V:=.slice none 0 0) (fun _ _ => gX_))
 unfold zfB at HGN
 have HBP:=hQ_ (fun (W : World) (h : Chg [] w2 W) => (HP.out.here (HC2.out.trans h)))
 clear HW2 HF2 HTX HPU
 go_upto_region 5 with (first
  | (go_at_call 20
     with_reducible refine (HP4.out _ (Chg.refl [] _) (HBP.out _ (Chg.refl [] _))).mono ?_
     rintro e w3 ⟨v3,ls3,rfl,ho3,_,hs3,hc3⟩
     obtain ⟨A3,c3,rfl,_⟩:=zm_ ho3
     have HL3:=hQ_ (show ls3.length = 3 from by rw [hs3.len,zfk])
     have HK3:=hQ_ hc3
     have v0:=(HU2.out.keep hc3).cell 0
     have v1:=(HU2.out.keep hc3).cell 1
     have v2:=(HU2.out.keep hc3).cell 2
     clear ho3 hs3 hc3)
  | (go_at_call 20
     with_reducible refine (HP3.out _ HK3.out (HBP.out _ HK3.out)).mono ?_
     rintro e w4 ⟨v4,ls4,rfl,ho4,_,hs4,hc4⟩
     obtain ⟨A4,c4,rfl,_⟩:=zm_ ho4
     have HK4:=hQ_ (HK3.out.trans hc4)
     clear ho4 hs4 hc4)
  | (go_at_call 21
     refine (HGN.out _).mono ?_
     rintro e w5 ⟨rfl,hc5⟩
     have HK5:=hQ_ (HK4.out.trans hc5)
     clear hc5))
 clear u0 u1 u2 v0 v1 v2
 have hl3:=HL3.out
 rw [hl3]
 generalize ls4.length = n4
 have HK6:=hQ_ (HK5.out.alloc (.cells #[.int .i64 0,.int .i64 0,.slice none 0 0] 24))
 generalize w5.heap.size = ga
 generalize w5.alloc (.cells #[.int .i64 0,.int .i64 0,.slice none 0 0] 24) = w6 at HK6 ⊢
 -- a page of zt_
 have hN:=zb_.new w6 5 (bts (zt_ 64))
 have hal:=(Chg.refl [] w6).alloc (.cells (bts (zt_ 64)).toArray 5)
 have hmk0:=u2_ w6
 obtain ⟨gz,hgz⟩ : ∃ gz,gz = w6.heap.size:=⟨_,rfl⟩
 rw [← hgz] at hN hmk0
 clear hgz
 obtain ⟨w7,hw7⟩ : ∃ w7,w7 = w6.alloc (.cells (bts (zt_ 64)).toArray 5):=⟨_,rfl⟩
 rw [← hw7] at hN hal hmk0
 clear hw7
 have HZ7:=hQ_ hN
 have HK7:=hQ_ (HK6.out.trans hal)
 clear hN hal
 have hN:=zb_.new w7 33 [.slice (some ⟨gz,0,none⟩) 64 64]
 have hal:=(Chg.refl [] w7).alloc (.cells #[.slice (some ⟨gz,0,none⟩) 64 64] 33)
 have HGZ:=hQ_ (qP_ (w:=w7.alloc (.cells #[.slice (some ⟨gz,0,none⟩) 64 64] 33)) (V:=.slice (some ⟨w7.heap.size,0,none⟩) 1 1) (fun W hc => qj_ (hN.keep hc) ((HZ7.out.keep hal).keep hc)))
 unfold zfB at HGZ
 have HKA:=hQ_ (HK7.out.trans hal)
 clear hN hal
 go_upto_region 6 with (
  go_at_call 21
  with_reducible refine HGZ.out.mono ?_
  rintro e w8 ⟨rfl,hc8⟩
  have HK8:=hQ_ (HKA.out.trans hc8)
  clear hc8)
 clear hmk0
 have HK9:=hQ_ (HK8.out.alloc (.cells #[.int .i64 0,.int .i64 0,.slice none 0 0] 24))
 generalize w8.heap.size = gb
 generalize w8.alloc (.cells #[.int .i64 0,.int .i64 0,.slice none 0 0] 24) = w9 at HK9 ⊢
 have HU9:=hQ_ (HU2.out.keep HK9.out)
 have u0:=HU9.out.cell 0
 have u1:=HU9.out.cell 1
 have u2:=HU9.out.cell 2
 have hmkA:=u2_
 have hstA:=zaH
 have HPZ:=hQ_ (fun (W : World) => xa_ (zt_ 64) (by rw [zI_]; omega) W)
 rw [zI_,show zr_ 64 = 1 from rfl] at HPZ
 have HPN:=hQ_ (fun (W : World) => xa_ [] (by decide) W)
 rw [show zc_ [] = ⟨#[]⟩ from rfl,show (([] : List UInt8).length) = 0 from rfl,show zr_ 0 = 0 from rfl] at HPN
 generalize zc_ (zt_ 64) = SZ at hstA HPZ
 generalize (bts (zt_ 64)).toArray = BZ at hmkA hstA
 have HMK:=hQ_ hmkA
 have HST:=hQ_ hstA
 clear hmkA hstA
 go_wp2_with (first
  | (go_at_call 19
     refine (HPND.out _ HK9.out (HBP.out _ HK9.out)).mono ?_
     rintro e wa ⟨rfl,hca⟩
     have hmk:=HMK.out wa
     have hst:=HST.out wa
     have HCA:=hQ_ ((HK9.out.trans hca).alloc (.cells BZ 5))
     clear hca)
  | (go_at_call 44
     with_reducible refine (HPZ.out _).mono ?_
     rintro e wb ⟨rfl,rfl⟩)
  | (go_at_call 44
     with_reducible refine (HPN.out _).mono ?_
     rintro e wb ⟨rfl,rfl⟩))
 go_ret
 exact ⟨rfl,HC2.out.trans HCA.out⟩
end
end Go.Proofs.YtbkfhndmeljlcaaGreatDoor
