import Derived.Test.YtbkfhndmeljlcaaGreatDoorZB19
set_option maxRecDepth 100000
set_option maxHeartbeats 16000000
namespace Go.Proofs.YtbkfhndmeljlcaaGreatDoor
open Go.RowKit
def jm_ (T : List UInt8) (p P k : Nat) : List (List UInt8):=((vY_ T p).map Prod.snd).take k ++ List.replicate (P - k) (zt_ 64)
theorem ur_ (T : List UInt8) (p P k : Nat) (h : k ≤ 1 + zr_ T.length + p) (hP : k ≤ P) : (jm_ T p P k).length = P:=by
 unfold jm_
 rw [List.length_append,List.length_take,List.length_map,xM_,List.length_replicate]
 omega
theorem zcx (T : List UInt8) (p P k : Nat) (h : k < 1 + zr_ T.length + p) (hP : k < P) {b : List UInt8} (hb : (vY_ T p)[k]? = some (k,b)) (j : Nat) {z : List UInt8} (hz : (jm_ T p P (k + 1))[j]? = some z) : (j = k ∧ z = b) ∨ (j ≠ k ∧ (jm_ T p P k)[j]? = some z):=by
 have hl : ∀ q,q ≤ 1 + zr_ T.length + p → (((vY_ T p).map Prod.snd).take q).length = q:=fun q hq => by
  rw [List.length_take,List.length_map,xM_]; omega
 unfold jm_ at hz ⊢
 rcases Nat.lt_trichotomy j k with hj | hj | hj
 · right
   refine ⟨by omega,?_⟩
   rw [List.getElem?_append_left (by rw [hl _ (by omega)]; omega),List.getElem?_take,if_pos (by omega)] at hz
   rw [List.getElem?_append_left (by rw [hl _ (by omega)]; omega),List.getElem?_take,if_pos hj]
   exact hz
 · left
   subst hj
   rw [List.getElem?_append_left (by rw [hl _ (by omega)]; omega),List.getElem?_take,if_pos (by omega),List.getElem?_map,hb] at hz
   simp only [Option.map_some] at hz
   injection hz with hz
   exact ⟨rfl,hz.symm⟩
 · right
   refine ⟨by omega,?_⟩
   rw [List.getElem?_append_right (by rw [hl _ (by omega)]; omega),hl _ (by omega),List.getElem?_replicate] at hz
   rw [List.getElem?_append_right (by rw [hl _ (by omega)]; omega),hl _ (by omega),List.getElem?_replicate]
   split at hz
   · rw [if_pos (by omega)]; exact hz
   · cases hz
theorem qQ_ (T : List UInt8) : ∀ k,(∀ i,i < k → i * 64 ≤ T.length) → ((plT T k).map Prod.snd).flatten = T.take (k * 64) ++ zt_ (k * 64 - (T.take (k * 64)).length)
  | 0,_ => by simp [plT,zt_]
  | k + 1,h => by
    have ih:=qQ_ T k (fun i hi => h i (by omega))
    have hk:=h k (by omega)
    have e0 : (T.take (k * 64)).length = k * 64:=by rw [List.length_take]; omega
    rw [e0,Nat.sub_self,show zt_ 0 = [] from rfl,List.append_nil] at ih
    rw [plT,List.map_append,List.flatten_append,ih]
    show T.take (k * 64) ++ [pgT T k].flatten = _
    rw [show [pgT T k].flatten = pgT T k from by simp]
    unfold pgT
    have e1 : T.take ((k + 1) * 64) = T.take (k * 64) ++ (T.drop (k * 64)).take 64:=by
     rw [show (k + 1) * 64 = k * 64 + 64 from by omega,List.take_add]
    rw [e1,← List.append_assoc,List.length_append,e0]
    congr 2
    omega
theorem qR_ (f : Nat) : ∀ k,((plM f k).map Prod.snd).flatten = zt_ (k * 64)
  | 0 => by simp [plM,zt_]
  | k + 1 => by
    rw [plM,List.map_append,List.flatten_append,qR_ f k]
    show zt_ (k * 64) ++ [zt_ 64].flatten = _
    rw [show [zt_ 64].flatten = zt_ 64 from by simp]
    unfold zt_
    rw [List.replicate_append_replicate]
    congr 1
    omega
theorem qE_ (T : List UInt8) (p P : Nat) : jm_ T p P (1 + zr_ T.length + p) = zR_ T.length p :: ((plT T (zr_ T.length)).map Prod.snd ++ ((plM (1 + zr_ T.length) p).map Prod.snd ++ List.replicate (P - (1 + zr_ T.length + p)) (zt_ 64))):=by
 unfold jm_
 rw [List.take_of_length_le (by rw [List.length_map,xM_]; exact Nat.le_refl _)]
 unfold vY_
 simp
theorem zar (T : List UInt8) (p P : Nat) (hT : T.length ≤ 2048) (hp : p ≤ 64) (hP : 1 + zr_ T.length + p ≤ P) : yZ_ (jm_ T p P (1 + zr_ T.length + p)) T p ∧ (((jm_ T p P (1 + zr_ T.length + p)).drop (1 + zr_ T.length)).take p).flatten = zt_ (p * 64):=by
 obtain ⟨m1,m2,m3⟩:=zew T.length p hT hp
 have hlt : ((plT T (zr_ T.length)).map Prod.snd).length = zr_ T.length:=by rw [List.length_map,yO_]
 have hlm : ((plM (1 + zr_ T.length) p).map Prod.snd).length = p:=by rw [List.length_map,vu_]
 have hfl:=qQ_ T (zr_ T.length) (fun i hi => by unfold zr_ at hi; omega)
 have hle : T.length ≤ zr_ T.length * 64:=by unfold zr_; omega
 rw [List.take_of_length_le hle] at hfl
 refine ⟨⟨fun z hz => ?_,zR_ T.length p,_,qE_ T p P,m3,m2,?_,?_,?_⟩,?_⟩
 · obtain ⟨i,hi,rfl⟩:=List.getElem_of_mem hz
   rw [ur_ T p P _ (Nat.le_refl _) hP] at hi
   unfold jm_ at hz ⊢
   have hl : (((vY_ T p).map Prod.snd).take (1 + zr_ T.length + p)).length = 1 + zr_ T.length + p:=by rw [List.length_take,List.length_map,xM_]; omega
   rcases List.mem_append.1 hz with h | h
   · have h2:=List.mem_of_mem_take h
     rw [List.mem_map] at h2
     obtain ⟨x,hx,e⟩:=h2
     obtain ⟨k,hk,rfl⟩:=List.getElem_of_mem hx
     obtain ⟨b,hb,hb64⟩:=zbi T p k (by rw [xM_] at hk; exact hk)
     rw [List.getElem?_eq_getElem hk] at hb
     injection hb with hb
     rw [← e,hb]; exact hb64
   · rw [List.mem_replicate] at h
     rw [h.2,zI_]
 · rw [m1,ur_ T p P _ (Nat.le_refl _) hP]; omega
 · rw [m1,List.take_left' hlt,hfl,List.take_left]
 · rw [m1,List.take_left' hlt,hfl,List.drop_left]
   intro b hb
   unfold zt_ at hb
   exact (List.mem_replicate.1 hb).2
 · rw [qE_,show 1 + zr_ T.length = zr_ T.length + 1 from by omega,List.drop_succ_cons,List.drop_left' hlt,List.take_left' (by rw [show zr_ T.length + 1 = 1 + zr_ T.length from by omega]; exact hlm)]
   exact qR_ _ p
theorem zec {T : List UInt8} {p m : Nat} {pages : Int} (h : 1 + (zr_ T.length : Int) + (m : Int) ≤ pages) (h2 : pages ≤ 64) : un_ T 0 (p : Int) (m : Int) pages = (vY_ T p,0):=by
 unfold un_ yj_
 rw [if_neg (by simp),if_pos rfl,if_neg (by omega)]
 rfl
def bsF (l : List UInt8) : yB_:=fun v W => ∃ A c,v = .slice A l.length c ∧ Bs W A l.length c l
theorem vc_ (l : List UInt8) : zS_ (Chg []) (bsF l):=fun _ _ _ ⟨A,c,e,h⟩ hc => ⟨A,c,e,h.keep hc⟩
section
variable {T : Turns} {w0 : World} {a0 : Act} {ops : List Oper} {Q : Exit → Act → World → Prop} {F : Said} {k : Nat} {rest : List Oper} {d : Option Tmp} {ty : TypeId} {pos : String} {af : Array Go.Edge} {g : Option (Nat × Bool)}
theorem u9_ {t : Tmp} {l : List UInt8} (hT : T.Ok) (hs : vb_ F t = some (bsF l))
    (hg : zB_ ops F true ⟨d,.convert 33 9 (.tmp t),ty,pos,af,g⟩) (h : Flow Tryz.prog T w0 a0 ops Q ((d,isV (.string (zc_ l))) :: F) (k + 1) rest) :
    Flow Tryz.prog T w0 a0 ops Q F k (⟨d,.convert 33 9 (.tmp t),ty,pos,af,g⟩ :: rest):=by
 refine flow_op _ (zd_ _) (.inr (zd_ _)) hg (fun ev W he hW hf => ?_) h
 have hf1 : yn_ a0 F (.tmp t) (ev (.tmp t)) W:=hf.1
 simp only [yn_,hs] at hf1
 obtain ⟨A,c,e1,hb⟩:=hf1
 have q:=hb.str (P:=Tryz.prog) 33 5 9 Tryz.underlying33 Tryz.underlying5 Tryz.underlying9
 have : (execOp ev ⟨d,.convert 33 9 (.tmp t),ty,pos,af,g⟩).run Tryz.prog W = .ok (.value (.string (zc_ l))) W:=by
  generalize zc_ l = S at q
  generalize l.length = n at q e1
  go_simp
 rw [this]
 exact ⟨hT.by_refl k W,rfl⟩
end
def zcr (W : World) (gp : Nat) (y : Value) (z : List UInt8) : Prop:=∃ B d,y = .slice B 64 d ∧ Bs W B 64 d z ∧ (∀ ad,B = some ad → ad.block ≠ gp)
theorem zcr.keep {W W' : World} {gp : Nat} {y : Value} {z : List UInt8} (h : zcr W gp y z) (hc : Chg [] W W') : zcr W' gp y z:=by
 obtain ⟨B,d,e,h1,h2⟩:=h; exact ⟨B,d,e,h1.keep hc,h2⟩
theorem zcr.cell_ {W : World} {gp i : Nat} {u y : Value} {z : List UInt8} (h : zcr W gp y z) : zcr (W.setCell ⟨gp,i,none⟩ u) gp y z:=by
 obtain ⟨B,d,e,h1,h2⟩:=h
 have hc : Chg [gp] W (W.setCell ⟨gp,i,none⟩ u):=⟨rfl,rfl,rfl,by rw [zG_]; exact Nat.le_refl _,fun k _ hk => Below.heap_setCell W ⟨gp,i,none⟩ u k (by simpa using hk)⟩
 exact ⟨B,d,e,⟨h1.len,qI_ h1.src hc h2,h1.cap,h1.max,h1.spot⟩,h2⟩
theorem zbA (P : Nat) (hP : P ≤ 1000) (W : World) : ∃ ys : List Value,ys.length = P ∧ (Instr.makeSlice 30 (.int .i64 (P : Int)) (.int .i64 (P : Int))).run Tryz.prog W = .ok (.slice (some ⟨W.heap.size,0,none⟩) P P) (W.alloc (.cells ys.toArray 33)):=by
 have hinf : (Tryz.prog.info? 33).map (fun i => (i.zero,i.size,i.bytes)) = some (some (.slice none 0 0),1,24):=by kernel_rfl
 obtain ⟨i,hi,hz,hs,hb⟩:=info_parts hinf
 have h:=run_make (P:=Tryz.prog) W 30 33 i _ Tryz.underlying30 hi hz .i64 .i64 (P : Int) (P : Int) (by omega) (by omega) (by rw [hb]; omega) (by omega)
 rw [hs] at h
 refine ⟨(madeCells (Value.slice none 0 0).cells (P * 1)).toList,by rw [Array.length_toList,size_madeCells]; omega,?_⟩
 rw [Array.toArray_toList]
 simpa only [Int.toNat_natCast] using h
section
variable {w : World} {A : Option Addr} {n c : Nat} {l : List UInt8}
theorem qg_ (h : Bs w A n c l) : Calls Tryz.prog 67 #[.slice A n c] w (j8_ l w):=by
 have H:=hQ_ h
 have h4:=k6_ l 4
 have h8:=k6_ l 8
 have HLN:=hQ_ h.len
 clear h
 have HM:=hQ_ (show xm_ l ↔ (xJ_ l 4 ≤ 2048 ∧ xJ_ l 8 ≤ 64 ∧ l = zR_ (xJ_ l 4) (xJ_ l 8)) from Iff.rfl)
 by_cases hn : n = 64
 rotate_left
 · have HNO:=hQ_ (show ¬ xm_ l from fun h => hn (by rw [← HLN.out,(HM.out.1 h).2.2]; exact yT_ _ _))
   have hb1 : ((n : Int) == 64) = false:=by simp; omega
   have hb2 : ((n : Int) != 64) = true:=by simp; omega
   have hb3 : (!((n : Int) == 64)) = true:=by simp; omega
   clear hn
   go_enter Tryz.func67,Tryz.ntmps67
   go_wp2_with fail
   go_ret3
   exact .inr ⟨HNO.out,rfl,Chg.refl _ _⟩
 subst hn
 have hb1 : (((64 : Nat) : Int) != 64) = false:=by simp
 go_enter Tryz.func67,Tryz.ntmps67
 go_wp2_with fail
 refine (zdD H.out 4 (by omega)).mono ?_
 rintro e w1 ⟨rfl,hc1⟩
 have HC1:=hQ_ hc1
 clear hc1
 go_wp2_with fail
 refine (zdD (H.out.keep HC1.out) 8 (by omega)).mono ?_
 rintro e w2 ⟨rfl,hc2⟩
 have HC2:=hQ_ (HC1.out.trans hc2)
 clear hc2
 obtain ⟨t,ht⟩ : ∃ t,t = xJ_ l 4:=⟨_,rfl⟩
 obtain ⟨p,hp⟩ : ∃ p,p = xJ_ l 8:=⟨_,rfl⟩
 rw [← ht,← hp] at HM ⊢
 rw [← ht] at h4
 rw [← hp] at h8
 have HT:=hQ_ ht
 have HP:=hQ_ hp
 clear ht hp
 have m4 : IntKind.i64.wrap (t : Int) = (t : Int):=IntWalk.i64_in _ (by omega)
 have m8 : IntKind.i64.wrap (p : Int) = (p : Int):=IntWalk.i64_in _ (by omega)
 go_upto_region 4 with fail
 have HHW:=hQ_ (fun (W : World) (h : Chg [] w2.drew W) => (show Chg [] w W from HC2.out.trans ((Chg.refl [] w2).drew.trans h)))
 by_cases ha : 2048 < t
 · have HNO:=hQ_ (show ¬ xm_ l from fun h => by have:=(HM.out.1 h).1; omega)
   have haI : (2048 : Int) < (t : Int):=by omega
   have hd : decide ((2048 : Int) < (t : Int)) = true:=by simp; omega
   refine wp_flow (by kernel_rfl) yp_ za_ (by kernel_rfl) ?_
   refine flow_move_out za_ rfl rfl rfl ?_
   refine flow2 (r:=.bool true) za_ rfl (.inn rfl) (.const _) rfl (fun ev W he e1 e2 => by go_simp) ?_
   refine zL_ za_ rfl (zd_ _) (.inr (zd_ _)) rfl ?_
   refine zh_ rfl ?_
   refine zh_ rfl ?_
   refine yx_ za_ rfl rfl rfl ?_
   refine zL_ za_ rfl (zd_ _) (.inr (zd_ _)) rfl ?_
   refine zh_ rfl ?_
   refine zh_ rfl ?_
   refine zh_ rfl ?_
   refine zh_ rfl ?_
   refine zh_ rfl ?_
   refine zh_ rfl ?_
   refine zh_ rfl ?_
   refine zh_ rfl ?_
   refine zh_ rfl ?_
   refine yx_ za_ rfl rfl rfl ?_
   intro vs W hW hF
   have e30 : vs 30 = .bool true:=hF 30 _ rfl rfl
   have HCW:=hQ_ (HHW.out W hW)
   simp only [zY_,Act.put,List.setIfInBounds_toArray,List.set_cons_zero,List.set_cons_succ,e30]
   clear hW hF e30
   obtain ⟨wz,hwz⟩ : ∃ wz : World,wz = W:=⟨_,rfl⟩
   rw [← hwz] at HCW ⊢
   clear hwz
   go_wp2_with fail
   go_ret3
   exact .inr ⟨HNO.out,rfl,HCW.out⟩
 have haI : ¬ (2048 : Int) < (t : Int):=by omega
 have hd : decide ((2048 : Int) < (t : Int)) = false:=by simp; omega
 by_cases hb : 64 < p
 · have HNO:=hQ_ (show ¬ xm_ l from fun h => by have:=(HM.out.1 h).2.1; omega)
   have hbI : (64 : Int) < (p : Int):=by omega
   have hd2 : decide ((64 : Int) < (p : Int)) = true:=by simp; omega
   refine wp_flow (by kernel_rfl) yp_ za_ (by kernel_rfl) ?_
   refine flow_move_out za_ rfl rfl rfl ?_
   refine flow2 (r:=.bool false) za_ rfl (.inn rfl) (.const _) rfl (fun ev W he e1 e2 => by go_simp) ?_
   refine zL_ za_ rfl (zd_ _) (.inr (zd_ _)) rfl ?_
   refine flow_move_out za_ rfl rfl rfl ?_
   refine flow2 (r:=.bool true) za_ rfl (.inn rfl) (.const _) rfl (fun ev W he e1 e2 => by go_simp) ?_
   refine zO_ za_ rfl rfl rfl ?_
   refine zL_ za_ rfl (zd_ _) (.inr (zd_ _)) rfl ?_
   refine zh_ rfl ?_
   refine zh_ rfl ?_
   refine zh_ rfl ?_
   refine zh_ rfl ?_
   refine zh_ rfl ?_
   refine zh_ rfl ?_
   refine zh_ rfl ?_
   refine zh_ rfl ?_
   refine zh_ rfl ?_
   refine yx_ za_ rfl rfl rfl ?_
   intro vs W hW hF
   have e30 : vs 30 = .bool true:=hF 30 _ rfl rfl
   have HCW:=hQ_ (HHW.out W hW)
   simp only [zY_,Act.put,List.setIfInBounds_toArray,List.set_cons_zero,List.set_cons_succ,e30]
   clear hW hF e30
   obtain ⟨wz,hwz⟩ : ∃ wz : World,wz = W:=⟨_,rfl⟩
   rw [← hwz] at HCW ⊢
   clear hwz
   go_wp2_with fail
   go_ret3
   exact .inr ⟨HNO.out,rfl,HCW.out⟩
 have hbI : ¬ (64 : Int) < (p : Int):=by omega
 have hd2 : decide ((64 : Int) < (p : Int)) = false:=by simp; omega
 have HMT:=hQ_ (fun (W : World) => jx_ (w:=W) t p (by omega) (by omega))
 have HQS:=hQ_ (fun (W : World) (hW : Chg [] w2.drew W) => (H.out.keep (HHW.out W hW)).str (P:=Tryz.prog) 33 5 9 Tryz.underlying33 Tryz.underlying5 Tryz.underlying9)
 by_cases heq : l = zR_ t p
 · have HY:=hQ_ (HM.out.2 ⟨by omega,by omega,heq⟩)
   obtain ⟨M,hM⟩ : ∃ M,M = zR_ t p:=⟨_,rfl⟩
   rw [← hM] at HMT heq
   obtain ⟨S,hS⟩ : ∃ S,S = zc_ l:=⟨_,rfl⟩
   rw [← hS] at HQS
   have HNQ:=hQ_ (show ((zc_ M).toList == S.toList) = true from by rw [hS,heq]; simp)
   have HNR:=hQ_ (show (!((zc_ M).toList == S.toList)) = false from by rw [HNQ.out]; rfl)
   clear heq hM hS
   refine wp_flow (by kernel_rfl) yp_ za_ (by kernel_rfl) ?_
   refine flow_move_out za_ rfl rfl rfl ?_
   refine flow2 (r:=.bool false) za_ rfl (.inn rfl) (.const _) rfl (fun ev W he e1 e2 => by go_simp) ?_
   refine zL_ za_ rfl (zd_ _) (.inr (zd_ _)) rfl ?_
   refine flow_move_out za_ rfl rfl rfl ?_
   refine flow2 (r:=.bool false) za_ rfl (.inn rfl) (.const _) rfl (fun ev W he e1 e2 => by go_simp) ?_
   refine zO_ za_ rfl rfl rfl ?_
   refine zL_ za_ rfl (zd_ _) (.inr (zd_ _)) rfl ?_
   refine flow_move_out za_ rfl rfl rfl ?_
   refine flow1 (r:=.int .i64 (t : Int)) za_ rfl (.inn rfl) rfl (fun ev W he e1 => by go_simp) ?_
   refine flow_move_out za_ rfl rfl rfl ?_
   refine flow1 (r:=.int .i64 (p : Int)) za_ rfl (.inn rfl) rfl (fun ev W he e1 => by go_simp) ?_
   refine flow_calld (bsF M) (vc_ _) (.inr (vc_ _)) (by kernel_rfl) rfl (.cons (.inn rfl) (.cons (.inn rfl) .nil)) (fun W hW => (HMT.out W).mono ?_) ?_
   · rintro e w9 ⟨v9,rfl,ho9,hc9⟩
     rw [zD_]
     obtain ⟨A9,c9,rfl,hb9,_⟩:=Bs.of_own ho9
     exact ⟨_,rfl,hc9,A9,c9,rfl,hb9⟩
   refine u9_ za_ rfl rfl ?_
   refine flow_move_out za_ rfl rfl rfl ?_
   refine flow1h (r:=.string S) za_ rfl (.inn rfl) rfl (fun ev W he hW e1 => by
    have q:=HQS.out W hW
    clear hW
    go_simp) ?_
   refine flow2 (r:=.bool false) za_ rfl (.inn rfl) (.inn rfl) rfl (fun ev W he e1 e2 => by
    have q:=HNQ.out
    have q2:=HNR.out
    generalize zc_ M = SM at e1 q q2
    go_simp) ?_
   refine zO_ za_ rfl rfl rfl ?_
   intro vs W hW hF
   have e30 : vs 30 = .bool false:=hF 30 _ rfl rfl
   have HCW:=hQ_ (HHW.out W hW)
   simp only [zY_,Act.put,List.setIfInBounds_toArray,List.set_cons_zero,List.set_cons_succ,e30]
   clear hW hF e30
   obtain ⟨wz,hwz⟩ : ∃ wz : World,wz = W:=⟨_,rfl⟩
   rw [← hwz] at HCW ⊢
   clear hwz
   go_wp2_with fail
   go_ret3
   exact .inl ⟨HY.out,by rw [← HT.out,← HP.out]; rfl,HCW.out⟩
 · have HNO:=hQ_ (show ¬ xm_ l from fun h => heq (HM.out.1 h).2.2)
   obtain ⟨M,hM⟩ : ∃ M,M = zR_ t p:=⟨_,rfl⟩
   rw [← hM] at HMT heq
   have HNQ:=hQ_ (zaz (fun h => heq h.symm : M ≠ l))
   obtain ⟨S,hS⟩ : ∃ S,S = zc_ l:=⟨_,rfl⟩
   rw [← hS] at HQS HNQ
   have HNR:=hQ_ (show (!((zc_ M).toList == S.toList)) = true from by rw [HNQ.out]; rfl)
   clear heq hM hS
   refine wp_flow (by kernel_rfl) yp_ za_ (by kernel_rfl) ?_
   refine flow_move_out za_ rfl rfl rfl ?_
   refine flow2 (r:=.bool false) za_ rfl (.inn rfl) (.const _) rfl (fun ev W he e1 e2 => by go_simp) ?_
   refine zL_ za_ rfl (zd_ _) (.inr (zd_ _)) rfl ?_
   refine flow_move_out za_ rfl rfl rfl ?_
   refine flow2 (r:=.bool false) za_ rfl (.inn rfl) (.const _) rfl (fun ev W he e1 e2 => by go_simp) ?_
   refine zO_ za_ rfl rfl rfl ?_
   refine zL_ za_ rfl (zd_ _) (.inr (zd_ _)) rfl ?_
   refine flow_move_out za_ rfl rfl rfl ?_
   refine flow1 (r:=.int .i64 (t : Int)) za_ rfl (.inn rfl) rfl (fun ev W he e1 => by go_simp) ?_
   refine flow_move_out za_ rfl rfl rfl ?_
   refine flow1 (r:=.int .i64 (p : Int)) za_ rfl (.inn rfl) rfl (fun ev W he e1 => by go_simp) ?_
   refine flow_calld (bsF M) (vc_ _) (.inr (vc_ _)) (by kernel_rfl) rfl (.cons (.inn rfl) (.cons (.inn rfl) .nil)) (fun W hW => (HMT.out W).mono ?_) ?_
   · rintro e w9 ⟨v9,rfl,ho9,hc9⟩
     rw [zD_]
     obtain ⟨A9,c9,rfl,hb9,_⟩:=Bs.of_own ho9
     exact ⟨_,rfl,hc9,A9,c9,rfl,hb9⟩
   refine u9_ za_ rfl rfl ?_
   refine flow_move_out za_ rfl rfl rfl ?_
   refine flow1h (r:=.string S) za_ rfl (.inn rfl) rfl (fun ev W he hW e1 => by
    have q:=HQS.out W hW
    clear hW
    go_simp) ?_
   refine flow2 (r:=.bool true) za_ rfl (.inn rfl) (.inn rfl) rfl (fun ev W he e1 e2 => by
    have q:=HNQ.out
    have q2:=HNR.out
    generalize zc_ M = SM at e1 q q2
    go_simp) ?_
   refine zO_ za_ rfl rfl rfl ?_
   intro vs W hW hF
   have e30 : vs 30 = .bool true:=hF 30 _ rfl rfl
   have HCW:=hQ_ (HHW.out W hW)
   simp only [zY_,Act.put,List.setIfInBounds_toArray,List.set_cons_zero,List.set_cons_succ,e30]
   clear hW hF e30
   obtain ⟨wz,hwz⟩ : ∃ wz : World,wz = W:=⟨_,rfl⟩
   rw [← hwz] at HCW ⊢
   clear hwz
   go_wp2_with fail
   go_ret3
   exact .inr ⟨HNO.out,rfl,HCW.out⟩
end
theorem zbX {zs : List (List UInt8)} {k : Nat} {z : List UInt8} (hz : zs[k]? = some z) : (zs.take (k + 1)).flatten = (zs.take k).flatten ++ z:=by
 rw [List.take_add_one,hz]; simp
section
variable {w : World} {A : Option Addr} {n c : Nat} {ys : List Value} {zs : List (List UInt8)}
theorem jy_ (h : Pgs w A n c ys zs) (hn : n ≤ 100000) (h64 : ∀ z ∈ zs,z.length = 64) : Calls Tryz.prog 68 #[.slice A n c] w (yI_ w zs.flatten):=by
 obtain ⟨iu,hui,huz,hus,hub⟩:=info_parts xc_
 have HPG:=hQ_ h
 have HZL:=hQ_ h.zlen
 have H64:=hQ_ h64
 have hcap:=h.cap
 clear h h64
 go_enter Tryz.func68,Tryz.ntmps68
 go_wp2_with fail
 go_loopw [3,8] (fun v i wr => ∃ k : Nat,k ≤ n ∧ i = .int .i64 (k : Int) ∧ (∃ m,Hid (m = k * 64) ∧ wr.ownsRow w.heap.size 5 1 v m (bts (zs.take k).flatten)) ∧ Hid (Chg [] w wr)) (fun _ i _ => n - (intOf i).toNat)
 case atStart => exact ⟨0,by omega,rfl,⟨0,hQ_ rfl,by simpa [bts] using zbl _ _ _⟩,hQ_ (Chg.refl _ _)⟩
 case round =>
  obtain ⟨k,hk,rfl,⟨m,Hm,hown⟩,HCr⟩:=hrel
  obtain ⟨Av,cv,rfl,hvl,hvc,_⟩:=zp_ hown
  by_cases hlt : k < n
  · have hkI : (k : Int) < (n : Int):=by omega
    obtain ⟨z,hz⟩ : ∃ z,zs[k]? = some z:=⟨zs[k]'(by rw [HZL.out]; exact hlt),by simp⟩
    have HNX:=hQ_ (zbX hz)
    have HPK:=HPG.out.keep HCr.out
    obtain ⟨y,B,m2,d,hy,rfl,hB⟩:=HPK.at_ hz
    obtain ⟨b,o,rfl,_,hx⟩:=HPK.form (by omega)
    have y0:=hx k _ hy
    have hz64:=H64.out z (List.mem_of_getElem? hz)
    obtain rfl : m2 = 64:=by rw [← hB.len,hz64]
    have HS5:=hQ_ hB.src
    have hx1:=hQ_ (show (bts z).length = 64 by rw [zx_,hz64])
    have hm4 : m ≤ 6400000:=by rw [Hm.out]; omega
    have hx2:=hQ_ (show m + 64 ≤ maxLen by unfold maxLen; omega)
    have hx3:=hQ_ (show (m + 64) * 1 ≤ 140737488355328 by omega)
    have hx4:=hQ_ HCr.out.size
    have h1:=x4_ z
    clear hx hy hB HPK hz hz64
    go_wp2_with (
     at_builtin
     refine zT_ rfl (.tmp 12) (.tmp 13) 33 rfl w.heap.size 5 iu _ 1 Tryz.underlying33 hui huz hus hub vi_ (.slice Av m cv) m (bts (zs.take k).flatten) rfl hown B 64 d (bts z) rfl hx1.out HS5.out h1 hx2.out hx3.out hx4.out ?_
     intro v6 w6 ho6 hg6 _)
    have hc6:=HCr.out.own hown (Nat.le_refl _) hg6
    go_roundw
    case rel => exact ⟨k + 1,by omega,by go_num,⟨m + 64,hQ_ (by rw [Hm.out]; omega),by rw [HNX.out,ub_]; exact ho6⟩,hQ_ hc6⟩
    case measure => simp [intOf]; omega
  · have hkI : ¬ (k : Int) < (n : Int):=by omega
    obtain rfl : k = n:=by omega
    have HT:=hQ_ (show zs.take k = zs from List.take_of_length_le (by rw [HZL.out]; exact Nat.le_refl _))
    have HLen:=hQ_ (show zs.flatten.length = m by rw [(v1_ zs H64.out).2,HZL.out,Hm.out]; omega)
    clear hlt hk
    go_wp2_with fail
    go_ret
    refine ⟨_,rfl,?_,HCr.out⟩
    rw [HLen.out]
    rw [HT.out] at hown
    exact hown
end
def xh_ (B : Nat) (W : World) (q : Nat) (l : List UInt8) (k m : Nat) : Prop:=∃ v9 g,zb_ W q 80 [v9,.int .i64 (m : Int),.slice (some ⟨g,0,none⟩) k k] ∧ W.ownsRow B 5 1 v9 l.length (bts l) ∧ zb_ W g 4 (bls (yg_ k)) ∧ B ≤ q ∧ B ≤ g
theorem xh_.keep {B : Nat} {W W' : World} {q : Nat} {l : List UInt8} {k m : Nat} (h : xh_ B W q l k m) (hc : Chg [] W W') : xh_ B W' q l k m:=by
 obtain ⟨v9,g,h1,h2,h3,h4⟩:=h
 exact ⟨v9,g,h1.keep hc,zn_ h2 hc,h3.keep hc,h4⟩
def zbb (B k : Nat) : yB_:=fun v W => ∃ g,v = .slice (some ⟨g,0,none⟩) k k ∧ zb_ W g 4 (bls (yg_ k)) ∧ B ≤ g
theorem u3_ (B k : Nat) : zS_ (Chg []) (zbb B k):=fun _ _ _ ⟨g,e,h,hB⟩ hc => ⟨g,e,h.keep hc,hB⟩
def rmbF (B : Nat) (l : List UInt8) (k m : Nat) : yB_:=fun v W => ∃ v9 g,v = .agg #[v9,.int .i64 (m : Int),.slice (some ⟨g,0,none⟩) k k] ∧ W.ownsRow B 5 1 v9 l.length (bts l) ∧ zb_ W g 4 (bls (yg_ k)) ∧ B ≤ g
theorem jP_ (B : Nat) (l : List UInt8) (k m : Nat) : zS_ (Chg []) (rmbF B l k m):=fun _ _ _ ⟨v9,g,e,h1,h2,h3⟩ hc => ⟨v9,g,e,zn_ h1 hc,h2.keep hc,h3⟩
def rmxF (B : Nat) (l : List UInt8) (k m : Nat) : yB_:=fun v W => ∃ q,v = .pointer (some ⟨q,0,none⟩) ∧ xh_ B W q l k m
theorem vJ_ (B : Nat) (l : List UInt8) (k m : Nat) : zS_ (Chg []) (rmxF B l k m):=fun _ _ _ ⟨q,e,h⟩ hc => ⟨q,e,h.keep hc⟩
def zeR (w : World) (l : List UInt8) (k m : Nat) (e : Ending) (w' : World) : Prop:=∃ q,e = .returned (.pointer (some ⟨q,0,none⟩)) ∧ xh_ w.heap.size w' q l k m ∧ Chg [] w w'
section
variable {w : World} {A : Option Addr} {n c : Nat} {l : List UInt8}
theorem zdX (h : Bs w A n c l) (k m : Nat) (hn : n = k * 64) (hk : k ≤ m) (hm : m ≤ 64) : Calls Tryz.prog 69 #[.slice A n c,.int .i64 (m : Int)] w (zeR w l k m):=by
 obtain ⟨i0,hi,hz0,hz1,hz2⟩:=info_parts xc_
 have H:=hQ_ h
 have HLN:=hQ_ h.len
 have hd : ((n : Int) % 64 != 0) = false:=by simp; omega
 have hd1 : ((n : Int) % 64 == 0) = true:=by simp; omega
 have hq : ((n : Int) / 64) = (k : Int):=by omega
 have HN:=hQ_ hn
 clear h hn
 go_enter Tryz.func69,Tryz.ntmps69
 go_upto_region 4 with fail
 have HHW:=hQ_ (fun (W : World) (h : Chg [] w.drew W) => (show Chg [] w W from (Chg.refl [] w).drew.trans h))
 refine wp_flow (by kernel_rfl) yp_ za_ (by kernel_rfl) ?_
 refine flow_op (zcc w.heap.size 5) (u5_ _ _) (.inr (u5_ _ _)) rfl (fun ev W he hW hfs => ?_) ?_
 · have hr : ∀ pos af g,(execOp ev ⟨some 22,.buildSlice 33 0 #[],33,pos,af,g⟩).run Tryz.prog W = .ok (.value (.slice (some ⟨W.heap.size,0,none⟩) 0 0)) (W.alloc (.cells #[] 5)):=fun pos af g => by go_simp
   rw [hr]
   rw [zD_]
   exact ⟨(Chg.refl _ _).alloc _,_,rfl,(HHW.out W hW).size,zb_.new W 5 []⟩
 refine flow_move_out za_ rfl rfl rfl ?_
 refine flow_op (gZ_ w.heap.size 5 (bts l)) (x1_ _ _ _) (.inr (x1_ _ _ _)) rfl (fun ev W he hW hfs => ?_) ?_
 · obtain ⟨f1,f2,_⟩:=hfs
   have f1' : zcc w.heap.size 5 (ev (.tmp 22)) W:=f1
   have e2 : ev (.tmp 23) = .slice A n c:=f2
   obtain ⟨b,e1,hbb,hw⟩:=f1'
   have hsz : w.heap.size ≤ W.heap.size:=(HHW.out W hW).size
   have hbs:=H.out.keep (HHW.out W hW)
   have hn4 : n ≤ 4096:=by have:=HN.out; omega
   obtain ⟨v',w',hrun,ho,hc⟩:=ys_ (P:=Tryz.prog) W w.heap.size 33 33 5 i0 _ 1 Tryz.underlying33 hi hz0 hz1 hz2 rfl b hw hbb hsz A n c (bts l) (by rw [zx_]; exact hbs.len) hbs.src (by omega) (by unfold maxLen; omega)
   have hr : ∀ pos af g,(execOp ev ⟨some 24,.call { callee:=.builtin .append,args:=#[.tmp 22,.tmp 23],argTypes:=#[33,33] },33,pos,af,g⟩).run Tryz.prog W = .ok (.value v') w':=fun pos af g => by
    unfold execOp
    simp only [resolve,invoke,builtin,Sem.run_bind,Sem.run_pure,Result.andThen_ok,List.map_toArray,List.map_cons,List.map_nil,e1,e2,hrun]
   rw [hr]
   rw [zD_]
   exact ⟨hc,by rw [gZ_,zx_,HLN.out]; exact ho⟩
 refine flow_move_out za_ rfl rfl rfl ?_
 refine flow_move_out za_ rfl rfl rfl ?_
 refine flow_op (zbb w.heap.size k) (u3_ _ _) (.inr (u3_ _ _)) rfl (fun ev W he hW hfs => ?_) ?_
 · obtain ⟨f1,f2,_⟩:=hfs
   have e1 : ev (.tmp 26) = .int .i64 (k : Int):=f1
   have hmk:=jM_ k (by omega) W
   have hr : ∀ pos af g,(execOp ev ⟨some 27,.makeSlice 78 (.tmp 26) (.tmp 26),78,pos,af,g⟩).run Tryz.prog W = .ok (.value (.slice (some ⟨W.heap.size,0,none⟩) k k)) (W.alloc (.cells (bls (yg_ k)).toArray 4)):=fun pos af g => by
    simp only [execOp,e1,Sem.run_bind,hmk]; rfl
   rw [hr]
   rw [zD_]
   exact ⟨(Chg.refl [] W).alloc _,W.heap.size,rfl,zb_.new W _ _,(HHW.out W hW).size⟩
 refine flow_op (rmbF w.heap.size l k m) (jP_ _ _ _ _) (.inr (jP_ _ _ _ _)) rfl (fun ev W he hW hfs => ?_) ?_
 · obtain ⟨f1,f2,f3,_⟩:=hfs
   have f1' : gZ_ w.heap.size 5 (bts l) (ev (.tmp 24)) W:=f1
   have e2 : ev (.tmp 25) = .int .i64 (m : Int):=f2
   have f3' : zbb w.heap.size k (ev (.tmp 27)) W:=f3
   obtain ⟨gM,e3,hN,hB⟩:=f3'
   rw [gZ_,zx_] at f1'
   have hr : ∀ pos af g,(execOp ev ⟨some 28,.build 80 #[(0,.tmp 24),(1,.tmp 25),(2,.tmp 27)],80,pos,af,g⟩).run Tryz.prog W = .ok (.value (.agg #[ev (.tmp 24),.int .i64 (m : Int),.slice (some ⟨gM,0,none⟩) k k])) W:=fun pos af g => by
    obtain ⟨A27,c27,e27,_⟩:=zp_ f1'
    go_simp
   rw [hr]
   rw [zD_]
   exact ⟨Chg.refl [] W,ev (.tmp 24),gM,rfl,f1',hN,hB⟩
 refine flow_op (rmxF w.heap.size l k m) (vJ_ _ _ _ _) (.inr (vJ_ _ _ _ _)) rfl (fun ev W he hW hfs => ?_) ?_
 · obtain ⟨f1,_⟩:=hfs
   have f1' : rmbF w.heap.size l k m (ev (.tmp 28)) W:=f1
   obtain ⟨v9,gM,e1,ho,hN,hB⟩:=f1'
   have hr : ∀ pos af g,(execOp ev ⟨some 29,.box 80 (.tmp 28),75,pos,af,g⟩).run Tryz.prog W = .ok (.value (.pointer (some ⟨W.heap.size,0,none⟩))) (W.alloc (.cells #[v9,.int .i64 (m : Int),.slice (some ⟨gM,0,none⟩) k k] 80)):=fun pos af g => by
    obtain ⟨A27,c27,e27,_⟩:=zp_ ho
    subst e27
    simp only [execOp,e1,Sem.run_bind,Instr.box,newVar,newRow,run_newObj_alloc,Sem.run_pure,Result.andThen_ok]
    rfl
   rw [hr]
   rw [zD_]
   have hal:=(Chg.refl [] W).alloc (.cells #[v9,.int .i64 (m : Int),.slice (some ⟨gM,0,none⟩) k k] 80)
   exact ⟨hal,W.heap.size,rfl,v9,gM,zb_.new W _ _,zn_ ho hal,hN.keep hal,(HHW.out W hW).size,hB⟩
 refine flow_assign za_ rfl (vJ_ _ _ _ _) (.inr (vJ_ _ _ _ _)) rfl ?_
 intro vs W hW hF
 have h4 : rmxF w.heap.size l k m (vs 4) W:=hF 4 _ rfl rfl
 obtain ⟨q,e4,hM⟩:=h4
 have HCW:=hQ_ (HHW.out W hW)
 have HM:=hQ_ hM
 simp only [zY_,Act.put,List.setIfInBounds_toArray,List.set_cons_zero,List.set_cons_succ]
 rw [e4]
 clear hF hW e4 hM
 obtain ⟨wz,hwz⟩ : ∃ wz : World,wz = W:=⟨_,rfl⟩
 rw [← hwz] at HCW HM ⊢
 clear hwz
 go_wp2_with fail
 go_ret
 exact ⟨q,rfl,HM.out,HCW.out⟩
end
theorem xh_.chg {B g : Nat} {W W' : World} {q : Nat} {l : List UInt8} {k m : Nat} (h : xh_ B W q l k m) (hc : Chg [g] W W') (hg : g < B) : xh_ B W' q l k m:=by
 obtain ⟨v9,x,h1,h2,h3,h4,h5⟩:=h
 exact ⟨v9,x,h1.chg hc (by simp; omega),z0_ h2 hc (fun i hi => by rw [List.mem_singleton] at hi; subst hi; exact .inl hg),h3.chg hc (by simp; omega),h4,h5⟩
theorem xh_.less {B B' : Nat} {W : World} {q : Nat} {l : List UInt8} {k m : Nat} (h : xh_ B W q l k m) (hB : B' ≤ B) : xh_ B' W q l k m:=by
 obtain ⟨v9,x,h1,h2,h3,h4,h5⟩:=h
 exact ⟨v9,x,h1,vH_ h2 hB,h3,by omega,by omega⟩
def rmF (B : Nat) (l : List UInt8) (k m : Nat) : yB_:=fun v W => ∃ q,v = .pointer (some ⟨q,0,none⟩) ∧ xh_ B W q l k m
theorem q2_ (B : Nat) (l : List UInt8) (k m : Nat) : zS_ (Chg []) (rmF B l k m):=fun _ _ _ ⟨q,e,h⟩ hc => ⟨q,e,h.keep hc⟩
theorem jQ_ (B g : Nat) (cs : List Value) (l : List UInt8) (k m : Nat) (hg : g < B) : zS_ (GtH g cs) (rmF B l k m):=fun _ _ _ ⟨q,e,h⟩ hc => ⟨q,e,h.chg hc.chg hg⟩
def gtL (g : Nat) (cs : List Value) (hs : List Nat) : Turns:=⟨Chg [],GtH g cs,hs,[]⟩
theorem zfp {g : Nat} {cs : List Value} {hs : List Nat} : (gtL g cs hs).Ok:=⟨Chg.refl [],fun _ _ h => GtH.of_chg h,fun _ _ _ h k => ⟨k.os.trans h.os,k.tape.trans h.tape,k.output.trans h.output,Nat.le_trans h.size k.size,fun i hi hne => (k.old i (Nat.lt_of_lt_of_le hi h.size) hne).trans (h.old i hi hne),fun e => k.st (h.st e),fun e => k.fin (h.fin e)⟩⟩
def gu_ (zs : List (List UInt8)) (w : World) (e : Ending) (w' : World) : Prop :=
 (∃ r,xj_ zs r ∧ e = .returned (.tuple #[.agg #[.int .i64 0,.int .i64 0,.slice none 0 0],.pointer none,.int .i64 0,.int .i64 r]) ∧ Chg [] w w') ∨
 (∃ (T : List UInt8) (p : Nat) (pg ms : Int) (fs : List FnV) (v : Value) (q : Nat),xG_ zs T p pg ms fs ∧ e = .returned (.tuple #[.agg #[.int .i64 pg,.int .i64 ms,v],.pointer (some ⟨q,0,none⟩),.int .i64 ((1 + zr_ T.length : Nat) : Int),.int .i64 0]) ∧
   w'.ownsRow w.heap.size 58 3 v fs.length (y3_ fs) ∧ fs.length ≤ 1000 ∧ (∀ f ∈ fs,okF f) ∧ xh_ w.heap.size w' q ((zs.drop (1 + zr_ T.length)).take p).flatten p ms.toNat ∧ Chg [] w w')
section
variable {w : World} {A : Option Addr} {n c : Nat} {ys : List Value} {zs : List (List UInt8)}
theorem zcP (h : Pgs w A n c ys zs) (hn : n ≤ 1000) : Calls Tryz.prog 42 #[.slice A n c] w (gu_ zs w):=by
 have HPG:=hQ_ h
 have HZL:=hQ_ h.zlen
 have hcap:=h.cap
 have hmx:=h.max
 have HNO:=hQ_ (show ∀ (r : Int) w',xj_ zs r → Chg [] w w' → gu_ zs w (.returned (.tuple #[.agg #[.int .i64 0,.int .i64 0,.slice none 0 0],.pointer none,.int .i64 0,.int .i64 r])) w' from fun r w' h1 hc => .inl ⟨r,h1,rfl,hc⟩)
 have HYES:=hQ_ (show ∀ (w' : World) (T : List UInt8) (p : Nat) (pg ms : Int) (fs : List FnV) (v : Value) (q : Nat),xG_ zs T p pg ms fs → w'.ownsRow w.heap.size 58 3 v fs.length (y3_ fs) → fs.length ≤ 1000 → (∀ f ∈ fs,okF f) → xh_ w.heap.size w' q ((zs.drop (1 + zr_ T.length)).take p).flatten p ms.toNat → Chg [] w w' → gu_ zs w (.returned (.tuple #[.agg #[.int .i64 pg,.int .i64 ms,v],.pointer (some ⟨q,0,none⟩),.int .i64 ((1 + zr_ T.length : Nat) : Int),.int .i64 0])) w' from fun w' T p pg ms fs v q h1 h2 h3 h4 h5 h9 => .inr ⟨T,p,pg,ms,fs,v,q,h1,rfl,h2,h3,h4,h5,h9⟩)
 generalize gu_ zs w = PO at HNO HYES ⊢
 clear h
 go_enter Tryz.func42,Tryz.ntmps42
 go_upto_region 1 with fail
 have hN:=zb_.new w 24 [.int .i64 0,.int .i64 0,.slice none 0 0]
 have hal:=(Chg.refl [] w).alloc (.cells #[.int .i64 0,.int .i64 0,.slice none 0 0] 24)
 obtain ⟨g,hg⟩ : ∃ g,g = w.heap.size:=⟨_,rfl⟩
 have hnl : ¬ g < w.heap.size:=by omega
 have hw1s : (w.alloc (.cells #[.int .i64 0,.int .i64 0,.slice none 0 0] 24)).heap.size = g + 1:=by rw [hg]; simp
 rw [← hg] at hN ⊢
 have HG:=hQ_ hN
 have HW1:=hQ_ hal
 have HGZ:=hQ_ hw1s
 have HGS:=hQ_ hg
 generalize w.alloc (.cells #[.int .i64 0,.int .i64 0,.slice none 0 0] 24) = w1 at HG HW1 HGZ ⊢
 clear hN hal hg hw1s
 by_cases hn0 : n = 0
 · subst hn0
   have HN:=hQ_ (show xj_ zs 12 from .inl ⟨rfl,.inl fun ⟨T,p,_,z,r,hz,_⟩ => by have:=HZL.out; rw [hz] at this; simp at this⟩)
   have z0:=HG.out.cell 0
   have z1:=HG.out.cell 1
   have z2:=HG.out.cell 2
   have f0:=HG.out.frozen 0
   have f1:=HG.out.frozen 1
   have f2:=HG.out.frozen 2
   go_wp2_with fail
   have HCF:=((HW1.out.setCell (p:=⟨g,0,none⟩) (fun h => absurd h hnl) (.int .i64 0)).setCell (p:=⟨g,1,none⟩) (fun h => absurd h hnl) (.int .i64 0)).setCell (p:=⟨g,2,none⟩) (fun h => absurd h hnl) (.slice none 0 0)
   have HSS:=((HG.out.set_ 0 (.int .i64 0)).set_ 1 (.int .i64 0)).set_ 2 (.slice none 0 0)
   exact bodyPost_ret_by (zu_ (p:=2) (a:=3) (b:=4) (c:=5) (ty:=24) rfl _ _ g 24 [.int .i64 0,.int .i64 0,.slice none 0 0] _ rfl HSS Tryz.underlying24 (by kernel_rfl)) rfl (HNO.out 12 _ HN.out HCF)
 have hnI : ¬ (n : Int) = 0:=by omega
 have hnd : ((n : Int) == 0) = false:=by simpa using hnI
 have hnp : (0 : Int) < (n : Int):=by omega
 obtain ⟨z,r,hzr⟩ : ∃ z r,zs = z :: r:=by
  cases hc : zs with
  | nil => have:=HZL.out; rw [hc] at this; simp at this; omega
  | cons z r => exact ⟨z,r,rfl⟩
 obtain ⟨y,B,m,d,hy,rfl,hB⟩:=(HPG.out.keep HW1.out).at_ (i:=0) (z:=z) (by rw [hzr]; rfl)
 obtain ⟨b,o,rfl,_,hx⟩:=(HPG.out.keep HW1.out).form (by omega)
 have y0:=hx 0 _ hy
 rw [Nat.add_zero] at y0
 have HSR:=hQ_ (qg_ hB)
 have HZR:=hQ_ hzr
 clear hx hy hB hzr
 go_upto_region 4 with (
  go_at_call 67
  refine HSR.out.mono ?_
  intro e w2 hq
  have HQ:=hQ_ hq
  rcases hq with ⟨hm,rfl,hc2⟩ | ⟨hm,rfl,hc2⟩)
 · have HMT:=hQ_ hm
   have HC2:=hQ_ (HW1.out.trans hc2)
   have HG2:=hQ_ (HG.out.keep hc2)
   have hp64:=hm.2.1
   have ht:=hm.1
   clear hm hc2 HQ HSR y0
   obtain ⟨t,htt⟩ : ∃ t,t = xJ_ z 4:=⟨_,rfl⟩
   obtain ⟨p,hpp⟩ : ∃ p,p = xJ_ z 8:=⟨_,rfl⟩
   rw [← htt] at ht ⊢
   rw [← hpp] at hp64 ⊢
   have HTT:=hQ_ htt
   have HPP:=hQ_ hpp
   clear htt hpp
   obtain ⟨q,hq⟩ : ∃ q,q = zr_ t:=⟨_,rfl⟩
   have hq33 : q ≤ 32:=by rw [hq]; unfold zr_; omega
   have HTQ:=hQ_ (show t ≤ q * 64 ∧ (q = 0 → t = 0) from by rw [hq]; unfold zr_; omega)
   have HQI:=hQ_ (show ((t : Int) + 64 - 1) / 64 = (q : Int) from by rw [hq]; unfold zr_; omega)
   have HQQ:=hQ_ hq
   clear hq
   go_upto_region 5 with fail
   rw [HQI.out]
   by_cases hqn : 1 + q ≤ n
   · have hqnI : ¬ (n : Int) < 1 + (q : Int):=by omega
     go_wp2_with fail
     go_loopw [44] (fun i wr => ∃ k : Nat,i = .int .i64 (k : Int) ∧ k ≤ n ∧ Hid (∀ z ∈ zs.take k,z.length = 64) ∧ wr = w2) (fun i _ => n - (intOf i).toNat)
     case atStart => exact ⟨0,rfl,by omega,hQ_ (by simp),rfl⟩
     case round =>
      obtain ⟨k,rfl,hk,HZ,hwr⟩:=hrel
      subst hwr
      by_cases hkn : k < n
      · have hkI : (k : Int) < (n : Int):=by omega
        obtain ⟨x,hxz⟩ : ∃ x,zs[k]? = some x:=⟨zs[k]'(by rw [HZL.out]; exact hkn),by simp⟩
        obtain ⟨y,B',m',d',hy,rfl,hB⟩:=(HPG.out.keep HC2.out).at_ hxz
        obtain ⟨b',o',e',_,hx⟩:=(HPG.out.keep HC2.out).form (by omega)
        injection e' with e'
        injection e' with e1' e2'
        subst e1'; subst e2'
        have y0:=hx k _ hy
        have HM:=hQ_ hB.len
        clear hx hy hB
        by_cases hm : m' = 64
        · subst hm
          go_wp2_with fail
          go_roundw
          case rel => exact ⟨k + 1,by go_num,by omega,hQ_ (fun u hu => by
           rw [List.take_add_one,hxz] at hu
           rcases List.mem_append.1 hu with hu | hu
           · exact HZ.out u hu
           · simp at hu; subst hu; exact HM.out),by first | rfl | trivial⟩
          case measure => simp [intOf]; omega
        · have hmI : ¬ (m' : Int) = 64:=by omega
          have hmd : ((m' : Int) == 64) = false:=by simpa using hmI
          have HN:=hQ_ (show xj_ zs 12 from .inl ⟨rfl,.inl fun ⟨T,p,h1,_⟩ => hm (by rw [← HM.out]; exact h1 x (List.mem_of_getElem? hxz))⟩)
          clear hm hxz
          have z0:=HG2.out.cell 0
          have z1:=HG2.out.cell 1
          have z2:=HG2.out.cell 2
          have f0:=HG2.out.frozen 0
          have f1:=HG2.out.frozen 1
          have f2:=HG2.out.frozen 2
          go_wp2_with fail
          have HCF:=((HC2.out.setCell (p:=⟨g,0,none⟩) (fun h => absurd h hnl) (.int .i64 0)).setCell (p:=⟨g,1,none⟩) (fun h => absurd h hnl) (.int .i64 0)).setCell (p:=⟨g,2,none⟩) (fun h => absurd h hnl) (.slice none 0 0)
          have HSS:=((HG2.out.set_ 0 (.int .i64 0)).set_ 1 (.int .i64 0)).set_ 2 (.slice none 0 0)
          exact bodyPost_ret_by (zu_ (p:=2) (a:=3) (b:=4) (c:=5) (ty:=24) rfl _ _ g 24 [.int .i64 0,.int .i64 0,.slice none 0 0] _ rfl HSS Tryz.underlying24 (by kernel_rfl)) rfl (HNO.out 12 _ HN.out HCF)
      · have hkI : ¬ (k : Int) < (n : Int):=by omega
        obtain rfl : n = k:=by omega
        have H64:=hQ_ (show ∀ z ∈ zs,z.length = 64 from fun z hz => HZ.out z (by rw [List.take_of_length_le (by rw [HZL.out]; exact Nat.le_refl _)]; exact hz))
        clear HZ hkn hk
        have HDEC:=hQ_ (show ∀ T p',yZ_ zs T p' ↔ (p = p' ∧ T = ((r.take q).flatten).take t ∧ (∀ b ∈ ((r.take q).flatten).drop t,b = 0)) from fun T p' => by
         constructor
         · rintro ⟨_,z',r',e1,h2,h3,h4,h5,h6⟩
           rw [HZR.out] at e1
           injection e1 with e1 e2
           subst e1; subst e2
           rw [← HTT.out,← HQQ.out] at h4 h5 h6
           exact ⟨by rw [HPP.out]; exact h3,h5,h6⟩
         · rintro ⟨h3,h5,h6⟩
           refine ⟨H64.out,z,r,HZR.out,HMT.out,by rw [← HPP.out]; exact h3,?_,?_,?_⟩
           · rw [← HTT.out,← HQQ.out,HZL.out]; exact hqn
           · rw [← HTT.out,← HQQ.out]; exact h5
           · rw [← HTT.out,← HQQ.out]; exact h6)
        have HRT:=hQ_ (show (zs.drop 1).take q = r.take q from by rw [HZR.out]; rfl)
        have H64R:=hQ_ (show ∀ x ∈ r.take q,x.length = 64 from fun x hx => H64.out x (by rw [HZR.out]; exact List.mem_cons_of_mem _ (List.mem_of_mem_take hx)))
        have hFL : ((r.take q).flatten).length = q * 64:=by
         have h1:=(v1_ (r.take q) H64R.out).2
         rw [h1,List.length_take]
         have h2 : zs.length = r.length + 1:=by rw [HZR.out]; rfl
         have:=HZL.out
         omega
        obtain ⟨FL,hFLe⟩ : ∃ FL,FL = (r.take q).flatten:=⟨_,rfl⟩
        rw [← hFLe] at hFL
        have HFQ:=hQ_ (show (r.take q).flatten = FL from hFLe.symm)
        clear hFLe
        have HPC:=hQ_ (fun (W : World) (hW : Chg [] w W) => (HPG.out.keep hW).cut (lo:=1) (k:=q) hqn)
        simp only [Option.map_some,zl_] at HPC
        rw [HRT.out] at HPC
        have hI1 : 1 ≤ c:=by omega
        have hI2 : 1 + q ≤ c:=by omega
        go_upto_region 14 with (
         go_at_call 68
         generalize (if c = 1 then some (⟨b,o,none⟩ : Addr) else some (⟨b,o + 1,none⟩ : Addr)) = Ad at HPC ⊢
         refine (jy_ (HPC.out _ HC2.out) (by omega) H64R.out).mono ?_
         rintro e w3 ⟨v3,rfl,ho3,hc3⟩
         rw [HFQ.out,hFL] at ho3
         obtain ⟨A3,c3,rfl,hB3,_⟩:=Bs.of_own ho3
         have HB3:=hQ_ hB3
         have HC3:=hQ_ (HC2.out.trans hc3)
         have HG3:=hQ_ (HG2.out.keep hc3)
         clear hc3 ho3 hB3)
        clear HPC hI1 hI2
        have hc3:=HB3.out.cap
        have htq:=HTQ.out.1
        obtain ⟨q64,hq64⟩ : ∃ q64,q64 = q * 64:=⟨_,rfl⟩
        rw [← hq64] at HB3 hc3 htq hFL ⊢
        have hq64b : q64 ≤ 2048:=by omega
        have HFLL:=hQ_ hFL
        clear hq64 hFL
        have htc : t ≤ c3:=by omega
        have htcI : (t : Int) ≤ (c3 : Int):=by omega
        go_wp2_with fail
        go_loopw [13] (fun i wx => ∃ k : Nat,i = .int .i64 (k : Int) ∧ t ≤ k ∧ k ≤ q64 ∧ Hid (∀ j,t ≤ j → j < k → ∀ x,FL[j]? = some x → x = 0) ∧ wx = w3) (fun i _ => q64 - (intOf i).toNat)
        case atStart => exact ⟨t,rfl,Nat.le_refl _,htq,hQ_ (fun j h1 h2 => absurd h2 (by omega)),rfl⟩
        case round =>
         obtain ⟨k,rfl,htk,hk,HZZ,hwx⟩:=hrel
         subst hwx
         by_cases hkm : k < q64
         · have hkI : (k : Int) < (q64 : Int):=by omega
           obtain ⟨x,hx⟩ : ∃ x,FL[k]? = some x:=⟨FL[k]'(by rw [HFLL.out]; exact hkm),by simp⟩
           obtain ⟨g3,o3,rfl⟩ : ∃ g o,A3 = some ⟨g,o,none⟩:=by
            obtain ⟨⟨g,o,s⟩,e,_,_⟩:=HB3.out.src (by rw [zx_,HFLL.out]; omega)
            obtain rfl : s = none:=HB3.out.spot (by omega) _ e
            exact ⟨g,o,e⟩
           have y1:=(show wr.cell? ⟨g3,o3 + k,none⟩ = some (.int .u8 (x.toNat : Int)) from by
            obtain ⟨ad,e,_,hcc⟩:=HB3.out.src (by rw [zx_,HFLL.out]; omega)
            injection e with e
            subst e
            have:=hcc k (B8 x) (by unfold bts; rw [List.getElem?_map,hx]; rfl)
            rwa [zl_] at this)
           by_cases hx0 : x = 0
           · have hxI : (x.toNat : Int) = 0:=vP_.2 hx0
             rw [hxI] at y1
             have HX:=hQ_ hx
             have HX0:=hQ_ hx0
             clear hxI hx hx0
             go_wp2_with fail
             go_roundw
             case rel => exact ⟨k + 1,by go_num,by omega,by omega,hQ_ (fun j h1 h2 u hu => by
              rcases Nat.lt_or_ge j k with hj | hj
              · exact HZZ.out j h1 hj u hu
              · obtain rfl : j = k:=by omega
                rw [HX.out] at hu
                injection hu with hu
                rw [← hu]; exact HX0.out),by first | rfl | trivial⟩
             case measure => simp [intOf]; omega
           · have hxI : ¬ (x.toNat : Int) = 0:=fun h => hx0 (vP_.1 h)
             have hxd : ((x.toNat : Int) == 0) = false:=by simpa using hxI
             have HN:=hQ_ (show xj_ zs 12 from .inl ⟨rfl,.inl fun ⟨T,p',h⟩ => hx0 (((HDEC.out T p').1 h).2.2 x (by
              rw [HFQ.out]
              exact List.mem_of_getElem? (i:=k - t) (by rw [List.getElem?_drop,show t + (k - t) = k from by omega]; exact hx)))⟩)
             obtain ⟨xi,hxi⟩ : ∃ xi,xi = (x.toNat : Int):=⟨_,rfl⟩
             rw [← hxi] at y1 hxI hxd
             clear hx hx0 hxi
             have z0:=HG3.out.cell 0
             have z1:=HG3.out.cell 1
             have z2:=HG3.out.cell 2
             have f0:=HG3.out.frozen 0
             have f1:=HG3.out.frozen 1
             have f2:=HG3.out.frozen 2
             go_wp2_with fail
             have HCF:=((HC3.out.setCell (p:=⟨g,0,none⟩) (fun h => absurd h hnl) (.int .i64 0)).setCell (p:=⟨g,1,none⟩) (fun h => absurd h hnl) (.int .i64 0)).setCell (p:=⟨g,2,none⟩) (fun h => absurd h hnl) (.slice none 0 0)
             have HSS:=((HG3.out.set_ 0 (.int .i64 0)).set_ 1 (.int .i64 0)).set_ 2 (.slice none 0 0)
             exact bodyPost_ret_by (zu_ (p:=2) (a:=3) (b:=4) (c:=5) (ty:=24) rfl _ _ g 24 [.int .i64 0,.int .i64 0,.slice none 0 0] _ rfl HSS Tryz.underlying24 (by kernel_rfl)) rfl (HNO.out 12 _ HN.out HCF)
         · have hkI : ¬ (k : Int) < (q64 : Int):=by omega
           obtain ⟨T,hT⟩ : ∃ T,T = FL.take t:=⟨_,rfl⟩
           have hTl0 : T.length = t:=by rw [hT,List.length_take,HFLL.out]; omega
           have hTl : T.length ≤ 2048:=by omega
           have HY:=hQ_ (show yZ_ zs T p from (HDEC.out _ _).2 ⟨rfl,by rw [hT,HFQ.out],fun x hx => by
            rw [HFQ.out] at hx
            obtain ⟨j,hj⟩:=List.mem_iff_getElem?.1 hx
            rw [List.getElem?_drop] at hj
            have:=(List.getElem?_eq_some_iff.1 hj).1
            rw [HFLL.out] at this
            exact HZZ.out (t + j) (by omega) (by omega) x hj⟩)
           have hst:=(HB3.out.take (m:=t) htq).str (P:=Tryz.prog) 33 5 9 Tryz.underlying33 Tryz.underlying5 Tryz.underlying9
           rw [← hT] at hst
           have HQT:=hQ_ (show zr_ T.length = q from by rw [hTl0]; exact HQQ.out.symm)
           have HPA:=hQ_ (fun (W : World) => gT_ (w:=W) T (by omega))
           unfold yW_ at HPA
           obtain ⟨E,pg,ms,fs,hpe⟩ : ∃ E pg ms fs,zK_ T = (E,pg,ms,fs):=⟨_,_,_,_,rfl⟩
           have HPR:=hQ_ hpe
           rw [hpe] at HPA
           simp only at HPA
           clear hpe hT hkm htk hk HZZ HDEC
           obtain ⟨S,hS⟩ : ∃ S,S = zc_ T:=⟨_,rfl⟩
           rw [← hS] at HPA hst
           clear hS
           go_upto_region 20 with (
            go_at_call 55
            refine (HPA.out _).mono ?_
            rintro e w4 ⟨v4,rfl,ho4,hlen4,hok4,hc4⟩
            obtain ⟨A4,c4,rfl,hF4⟩:=Fnr.of_own (l:=fs) ho4 hlen4 (fun f hf => by have:=hok4 f hf; unfold okF at this; omega)
            have HF4:=hQ_ hF4
            have HO4:=hQ_ ho4
            have HOBL:=hQ_ HC3.out.size
            have HL4:=hQ_ hlen4
            have HK4:=hQ_ hok4
            have HG4:=hQ_ (HG3.out.keep hc4)
            have HC4:=hQ_ (HC3.out.trans hc4)
            clear hc4 ho4 hlen4 hok4 hF4)
           clear hst
           obtain ⟨fq,hfq⟩ : ∃ fq,fq = fs.length:=⟨_,rfl⟩
           rw [← hfq] at HF4 HL4 HO4 ⊢
           have HFQN:=hQ_ hfq
           clear hfq
           have hN:=zb_.new w4 24 [.int .i64 pg,.int .i64 ms,.slice A4 fq c4]
           have hal:=(Chg.refl [] w4).alloc (.cells #[.int .i64 pg,.int .i64 ms,.slice A4 fq c4] 24)
           have HU5:=hQ_ hN
           have HG5:=hQ_ (HG4.out.keep hal)
           have HF5:=hQ_ (HF4.out.keep hal)
           have HO5:=hQ_ (zg_ HO4.out hal)
           have HC5:=hQ_ (HC4.out.trans hal)
           have hgu : g < w4.heap.size:=HG4.out.lt
           clear hN hal
           generalize w4.heap.size = gu at HU5 hgu ⊢
           generalize w4.alloc (.cells #[.int .i64 pg,.int .i64 ms,.slice A4 fq c4] 24) = w5 at HU5 HG5 HF5 HO5 HC5 ⊢
           by_cases hE : E = 0
           · subst hE
             obtain ⟨htx,hR,_⟩:=qT_ HPR.out
             obtain ⟨a,rfl⟩ : ∃ a : Nat,pg = (a : Int):=⟨pg.toNat,by have:=hR.p0; omega⟩
             obtain ⟨mm,rfl⟩ : ∃ mm : Nat,ms = (mm : Int):=⟨ms.toNat,by have:=hR.p0; have:=hR.pm; omega⟩
             have ham : a ≤ mm:=by have:=hR.pm; omega
             have hm64 : mm ≤ 64:=by have:=hR.m64; omega
             have HTX:=hQ_ (zap.of_fnr (pg:=(a : Int)) (ms:=(mm : Int)) HF5.out (fun f hf => by have:=HK4.out f hf; unfold okF at this; omega))
             rw [htx] at HTX
             simp only at HTX
             have HND:=hQ_ (vE_ HTX.out hTl (fun _ => by omega))
             rw [show yj_ T 0 (mm : Int) = 1 + (q : Int) + (mm : Int) from by unfold yj_; rw [if_pos rfl,HQT.out]] at HND
             clear htx hR HTX
             have u0:=HU5.out.cell 0
             have u1:=HU5.out.cell 1
             have u2:=HU5.out.cell 2
             by_cases hbad : (n : Int) < 1 + (q : Int) + (mm : Int) ∨ (p : Int) < (a : Int) ∨ (mm : Int) < (p : Int)
             · have HN:=hQ_ (show xj_ zs 25 from .inr ⟨rfl,T,p,_,_,fs,HY.out,HPR.out,by rw [HQT.out,HZL.out]; exact hbad⟩)
               have hb3 : (n : Int) < 1 + (q : Int) + (mm : Int) ∨ (¬ (n : Int) < 1 + (q : Int) + (mm : Int) ∧ (p : Int) < (a : Int)) ∨ (¬ (n : Int) < 1 + (q : Int) + (mm : Int) ∧ ¬ (p : Int) < (a : Int) ∧ (mm : Int) < (p : Int)):=by omega
               clear hbad
               rcases hb3 with hb | ⟨hb1,hb⟩ | ⟨hb1,hb2,hb⟩
               all_goals
                 go_upto_region 23 with (
                  go_at_call 12
                  refine HND.out.mono ?_
                  rintro e w6 ⟨rfl,hc6⟩
                  have HG6:=hQ_ (HG5.out.keep hc6)
                  have HC6:=hQ_ (HC5.out.trans hc6)
                  have v0:=(HU5.out.keep hc6).cell 0
                  have v1:=(HU5.out.keep hc6).cell 1
                  have v2:=(HU5.out.keep hc6).cell 2
                  clear hc6)
                 have z0:=HG6.out.cell 0
                 have z1:=HG6.out.cell 1
                 have z2:=HG6.out.cell 2
                 have f0:=HG6.out.frozen 0
                 have f1:=HG6.out.frozen 1
                 have f2:=HG6.out.frozen 2
                 go_wp2_with fail
                 have HCF:=((HC6.out.setCell (p:=⟨g,0,none⟩) (fun h => absurd h hnl) (.int .i64 0)).setCell (p:=⟨g,1,none⟩) (fun h => absurd h hnl) (.int .i64 0)).setCell (p:=⟨g,2,none⟩) (fun h => absurd h hnl) (.slice none 0 0)
                 have HSS:=((HG6.out.set_ 0 (.int .i64 0)).set_ 1 (.int .i64 0)).set_ 2 (.slice none 0 0)
                 exact bodyPost_ret_by (zu_ (p:=2) (a:=3) (b:=4) (c:=5) (ty:=24) rfl _ _ g 24 [.int .i64 0,.int .i64 0,.slice none 0 0] _ rfl HSS Tryz.underlying24 (by kernel_rfl)) rfl (HNO.out 25 _ HN.out HCF)
             · obtain ⟨hg1,hg2,hg3⟩ : ¬ (n : Int) < 1 + (q : Int) + (mm : Int) ∧ ¬ (p : Int) < (a : Int) ∧ ¬ (mm : Int) < (p : Int):=by omega
               have HGY:=hQ_ (show xG_ zs T p (a : Int) (mm : Int) fs from ⟨HY.out,HPR.out,by rw [HQT.out,HZL.out]; omega,by omega,by omega⟩)
               clear hbad
               go_upto_region 24 with (
                go_at_call 12
                refine HND.out.mono ?_
                rintro e w6 ⟨rfl,hc6⟩
                have HK6:=hQ_ hc6
                have v0:=(HU5.out.keep hc6).cell 0
                have v1:=(HU5.out.keep hc6).cell 1
                have v2:=(HU5.out.keep hc6).cell 2
                clear hc6)
               clear u0 u1 u2 v0 v1 v2
               have HG6:=hQ_ (HG5.out.keep HK6.out)
               have HU6:=hQ_ (HU5.out.keep HK6.out)
               have HO6:=hQ_ (zg_ HO5.out HK6.out)
               have HC6:=hQ_ (HC5.out.trans HK6.out)
               have hgw : g < w6.heap.size:=HG6.out.lt
               obtain ⟨q1,hq1⟩ : ∃ q1,q1 = 1 + q:=⟨_,rfl⟩
               have HQ1:=hQ_ hq1
               have HQ1W:=hQ_ (show IntKind.i64.wrap (1 + (q : Int)) = (q1 : Int) from by rw [IntWalk.i64_in _ (by omega)]; omega)
               obtain ⟨cs,hcs⟩ : ∃ cs : List Value,cs = [.int .i64 (a : Int),.int .i64 (mm : Int),.slice A4 fq c4]:=⟨_,rfl⟩
               have HCSE:=hQ_ hcs
               clear hcs
               have TOK:=zfp (g:=g) (cs:=cs) (hs:=[15])
               have HIN:=hQ_ (fun (W : World) (hW : GtH g cs w6.drew W) => (show Chg [] w W from (HC6.out.trans ((Chg.refl [] w6).drew)).then_ hW.chg (fun i hi hlt => by rw [List.mem_singleton] at hi; subst hi; exact absurd hlt hnl)))
               have HUIN:=hQ_ (fun (W : World) (hW : GtH g cs w6.drew W) => (show zb_ W gu 24 [.int .i64 (a : Int),.int .i64 (mm : Int),.slice A4 fq c4] from (show zb_ w6.drew gu 24 _ from HU6.out).chg hW.chg (by simp; omega)))
               have HPC:=hQ_ (fun (W : World) (hW : GtH g cs w6.drew W) => (HPG.out.keep (HIN.out W hW)).cut (lo:=q1) (k:=p) (by omega))
               obtain ⟨Ae,hAe⟩ : ∃ Ae : Option Addr,(if c = q1 then some ⟨b,o,none⟩ else Option.map (fun x : Addr => x.add q1) (some ⟨b,o,none⟩)) = Ae:=⟨_,rfl⟩
               rw [hAe] at HPC
               obtain ⟨FM,hFM⟩ : ∃ FM,FM = ((zs.drop q1).take p).flatten:=⟨_,rfl⟩
               have H64M:=hQ_ (show ∀ z ∈ (zs.drop q1).take p,z.length = 64 from fun z hz => H64.out z (List.mem_of_mem_drop (List.mem_of_mem_take hz)))
               have hFMl : FM.length = p * 64:=by
                have h1:=(v1_ _ H64M.out).2
                rw [hFM,h1,List.length_take,List.length_drop,HZL.out]
                omega
               have HFM:=hQ_ hFM
               have HFML:=hQ_ hFMl
               obtain ⟨q2,hq2⟩ : ∃ q2,q2 = q1 + p:=⟨_,rfl⟩
               have HWA:=hQ_ (show IntKind.i64.wrap ((q1 : Int) + (p : Int)) = (q2 : Int) from by rw [IntWalk.i64_in _ (by omega)]; omega)
               have hI1 : q1 ≤ c:=by omega
               have hpw : p ≤ mm:=by omega
               have hI1I : (q1 : Int) ≤ (c : Int):=by omega
               have hI2I : (q2 : Int) ≤ (c : Int):=by omega
               have hI3 : q1 ≤ q2:=by omega
               have hI4 : q2 ≤ c:=by omega
               have HPL:=hQ_ (show q2 - q1 = p from by omega)
               clear hq2 hFM hFMl hg1 hg2 hg3 hq1
               refine F2.wp_flow (by kernel_rfl) (gtL g cs [15]) TOK (by kernel_rfl) (by kernel_rfl) ?_
               refine F2.flow1h (r:=.agg #[.int .i64 (a : Int),.int .i64 (mm : Int),.slice A4 fq c4]) TOK rfl (.out rfl rfl) rfl (fun ev W he hW e1 => by
                have hk:=HUIN.out W hW
                have q0:=hk.cell 0
                have q1:=hk.cell 1
                have q2:=hk.cell 2
                clear hW hk
                go_simp) ?_
               refine F2.flow_move_out TOK rfl rfl rfl ?_
               refine F2.flow_move_out TOK rfl rfl rfl ?_
               refine F2.flow2 (r:=.int .i64 (q1 : Int)) TOK rfl (.const _) (.inn rfl) rfl (fun ev W he e1 e2 => by have q:=HQ1W.out; go_simp) ?_
               refine F2.flow_move_out TOK rfl rfl rfl ?_
               refine F2.flow2 (r:=.int .i64 (q1 : Int)) TOK rfl (.const _) (.inn rfl) rfl (fun ev W he e1 e2 => by have q:=HQ1W.out; go_simp) ?_
               refine F2.flow_move_out TOK rfl rfl rfl ?_
               refine F2.flow2 (r:=.int .i64 (q2 : Int)) TOK rfl (.inn rfl) (.inn rfl) rfl (fun ev W he e1 e2 => by have q:=HWA.out; go_simp) ?_
               refine F2.flow_slice_both (r:=.slice Ae p (c - q1)) TOK (.inn rfl) (.inn rfl) (.inn rfl) (fun ev W he e1 e2 e3 => by
                have hpl:=HPL.out
                rw [← hAe]
                split
                · rename_i hcq
                  have hlt : ¬ q1 < q2:=by omega
                  go_simp
                · go_simp) rfl ?_
               refine F2.flow_calld (jnF g FM) (q4_ g FM) (.inr (jS_ g cs FM)) (by kernel_rfl) rfl (.cons (.inn rfl) .nil) (fun W hW => (jy_ (HPC.out W hW) (by omega) H64M.out).mono ?_) ?_
               · rintro e w' ⟨v',rfl,ho',hc⟩
                 rw [← HFM.out] at ho'
                 obtain ⟨A',c',rfl,hb,hfr⟩:=Bs.of_own ho'
                 exact ⟨_,rfl,hc,A',c',rfl,hb,fun ad e => by have h1:=(hfr ad e).2.1; have h2 : w6.heap.size ≤ W.heap.size:=hW.size; omega⟩
               refine F2.flow1 (r:=.pointer (some ⟨gu,1,none⟩)) TOK rfl (.out rfl rfl) rfl (fun ev W he e1 => by go_simp) ?_
               refine F2.flow1h (r:=.int .i64 (mm : Int)) TOK rfl (.inn rfl) rfl (fun ev W he hW e1 => by
                have hk:=HUIN.out W hW
                have q1:=hk.cell 1
                clear hW hk
                go_simp) ?_
               refine F2.flow_call (rmF w6.heap.size FM p mm) (q2_ _ _ _ _) (.inr (jQ_ _ _ _ _ _ _ hgw)) (by kernel_rfl) rfl (fun ev W he hW hf => ?_) ?_
               · obtain ⟨A',c',e1,hb,_⟩ : jnF g FM (ev (.tmp 109)) W:=hf.1
                 have e2 : ev (.tmp 111) = .int .i64 (mm : Int):=hf.2.1
                 rw [show (#[Operand.tmp 109,Operand.tmp 111].toList.map ev).toArray = #[ev (.tmp 109),ev (.tmp 111)] from rfl,e1,e2]
                 refine (zdX hb p mm HFML.out hpw hm64).mono ?_
                 rintro e w' ⟨qm,rfl,hM,hc⟩
                 exact ⟨_,rfl,hc,qm,rfl,hM.less (show w6.heap.size ≤ W.heap.size from hW.size)⟩
               refine F2.flow_move_out TOK rfl rfl rfl ?_
               refine F2.flow2 (r:=.int .i64 (q1 : Int)) TOK rfl (.const _) (.inn rfl) rfl (fun ev W he e1 e2 => by have q:=HQ1W.out; go_simp) ?_
               refine F2.flow_store (fun _ W => zb_ W g 24 cs) (t:=2) rfl rfl (fun _ _ _ h hc => h.keep hc) (.inr (fun _ _ _ h hc => hc.fin h)) rfl (fun ev W he hW hf => ?_) ?_
               · have e1 : ev (.tmp 2) = .pointer (some ⟨g,0,none⟩):=Det.at (.out rfl rfl) hf.1
                 have e2 : ev (.tmp 100) = .agg #[.int .i64 (a : Int),.int .i64 (mm : Int),.slice A4 fq c4]:=hf.2.1
                 obtain ⟨xs,hx3,hWg⟩:=hW.st ⟨_,rfl,HG6.out⟩
                 obtain ⟨x0,x1,x2,rfl⟩:=ko_ hx3
                 have c0:=hWg.cell 0
                 have c1:=hWg.cell 1
                 have c2:=hWg.cell 2
                 have q0:=hWg.frozen 0
                 have q1:=hWg.frozen 1
                 have q2:=hWg.frozen 2
                 have hph : zb_ (((W.setCell ⟨g,0,none⟩ (.int .i64 (a : Int))).setCell ⟨g,1,none⟩ (.int .i64 (mm : Int))).setCell ⟨g,2,none⟩ (.slice A4 fq c4)) g 24 cs:=by
                  have:=((hWg.set_ 0 (.int .i64 (a : Int))).set_ 1 (.int .i64 (mm : Int))).set_ 2 (.slice A4 fq c4)
                  rw [HCSE.out]
                  simpa using this
                 have hH : GtH g cs W (((W.setCell ⟨g,0,none⟩ (.int .i64 (a : Int))).setCell ⟨g,1,none⟩ (.int .i64 (mm : Int))).setCell ⟨g,2,none⟩ (.slice A4 fq c4)):=⟨rfl,rfl,rfl,by rw [zG_,zG_,zG_]; exact Nat.le_refl _,fun k _ hne => (Below.heap_setCell _ ⟨g,2,none⟩ _ k hne).trans ((Below.heap_setCell _ ⟨g,1,none⟩ _ k hne).trans (Below.heap_setCell W ⟨g,0,none⟩ _ k hne)),fun _ => ⟨cs,by rw [HCSE.out]; rfl,hph⟩,fun _ => hph⟩
                 clear hf hW hWg
                 go_simp
                 exact ⟨hH,hph⟩
               refine F2.flow_assign TOK rfl (q2_ _ _ _ _) (.inr (jQ_ _ _ _ _ _ _ hgw)) rfl ?_
               refine F2.flow_assign TOK rfl (zd_ _) (.inr (zd_ _)) rfl ?_
               refine F2.flow1 (r:=.int .i64 0) TOK rfl (.const _) rfl (fun ev W he e1 => by go_simp) ?_
               intro vs W hW hF hN
               have hst:=hN 15 _ _ 2 rfl rfl rfl rfl
               obtain ⟨qm,e3,hM⟩ : rmF w6.heap.size FM p mm (vs 3) W:=hF 3 _ rfl rfl
               have e4 : vs 4 = .int .i64 (q1 : Int):=hF 4 _ rfl rfl
               have e5 : vs 5 = .int .i64 0:=hF 5 _ rfl rfl
               have HCW:=hQ_ (HIN.out W hW)
               have HST:=hQ_ hst
               have HOW:=hQ_ (z0_ (show w6.drew.ownsRow _ _ _ _ _ _ from HO6.out) hW.chg (fun i hi => by rw [List.mem_singleton] at hi; subst hi; exact .inl (by have:=HG3.out.lt; omega)))
               simp only [zY_,Act.put,List.setIfInBounds_toArray,List.set_cons_zero,List.set_cons_succ]
               rw [e3,e4,e5]
               have HM:=hQ_ (hM.less HC6.out.size)
               clear hF hW e3 e4 e5 hst hM hN TOK
               obtain ⟨wz,hwz⟩ : ∃ wz : World,wz = W:=⟨_,rfl⟩
               rw [← hwz] at HCW HST HOW HM ⊢
               clear hwz
               have hfin:=HYES.out wz T p (a : Int) (mm : Int) fs (.slice A4 fq c4) qm HGY.out (by rw [← HFQN.out]; exact z8_ HOW.out HOBL.out) (by rw [← HFQN.out]; exact HL4.out) HK4.out (by rw [HQT.out,← HQ1.out,← HFM.out]; exact HM.out) HCW.out
               rw [HQT.out,← HQ1.out] at hfin
               have HFIN:=hQ_ hfin
               clear hfin
               have hcs:=HCSE.out
               subst hcs
               go_wp2_with fail
               exact bodyPost_ret_by (zu_ (p:=2) (a:=3) (b:=4) (c:=5) (ty:=24) rfl _ _ g 24 [.int .i64 (a : Int),.int .i64 (mm : Int),.slice A4 fq c4] _ rfl HST.out Tryz.underlying24 (by kernel_rfl)) rfl HFIN.out
           · have hd : (E == 0) = false:=by simpa using hE
             have HN:=hQ_ (show xj_ zs 12 from .inl ⟨rfl,.inr ⟨T,p,HY.out,by rw [HPR.out]; exact hE⟩⟩)
             clear hE
             have z0:=HG5.out.cell 0
             have z1:=HG5.out.cell 1
             have z2:=HG5.out.cell 2
             have f0:=HG5.out.frozen 0
             have f1:=HG5.out.frozen 1
             have f2:=HG5.out.frozen 2
             go_wp2_with fail
             have HCF:=((HC5.out.setCell (p:=⟨g,0,none⟩) (fun h => absurd h hnl) (.int .i64 0)).setCell (p:=⟨g,1,none⟩) (fun h => absurd h hnl) (.int .i64 0)).setCell (p:=⟨g,2,none⟩) (fun h => absurd h hnl) (.slice none 0 0)
             have HSS:=((HG5.out.set_ 0 (.int .i64 0)).set_ 1 (.int .i64 0)).set_ 2 (.slice none 0 0)
             exact bodyPost_ret_by (zu_ (p:=2) (a:=3) (b:=4) (c:=5) (ty:=24) rfl _ _ g 24 [.int .i64 0,.int .i64 0,.slice none 0 0] _ rfl HSS Tryz.underlying24 (by kernel_rfl)) rfl (HNO.out 12 _ HN.out HCF)
   · have hqnI : (n : Int) < 1 + (q : Int):=by omega
     have HN:=hQ_ (show xj_ zs 12 from .inl ⟨rfl,.inl fun ⟨T,p',_,z',r',hz,h1,h2,h3,_⟩ => by
      rw [HZR.out] at hz
      injection hz with e1 e2
      subst e1
      rw [← HTT.out,← HQQ.out,HZL.out] at h3
      exact hqn h3⟩)
     have z0:=HG2.out.cell 0
     have z1:=HG2.out.cell 1
     have z2:=HG2.out.cell 2
     have f0:=HG2.out.frozen 0
     have f1:=HG2.out.frozen 1
     have f2:=HG2.out.frozen 2
     go_wp2_with fail
     have HCF:=((HC2.out.setCell (p:=⟨g,0,none⟩) (fun h => absurd h hnl) (.int .i64 0)).setCell (p:=⟨g,1,none⟩) (fun h => absurd h hnl) (.int .i64 0)).setCell (p:=⟨g,2,none⟩) (fun h => absurd h hnl) (.slice none 0 0)
     have HSS:=((HG2.out.set_ 0 (.int .i64 0)).set_ 1 (.int .i64 0)).set_ 2 (.slice none 0 0)
     exact bodyPost_ret_by (zu_ (p:=2) (a:=3) (b:=4) (c:=5) (ty:=24) rfl _ _ g 24 [.int .i64 0,.int .i64 0,.slice none 0 0] _ rfl HSS Tryz.underlying24 (by kernel_rfl)) rfl (HNO.out 12 _ HN.out HCF)
 · have HN:=hQ_ (show xj_ zs 12 from .inl ⟨rfl,.inl fun ⟨T,p',_,z',r',hz,h1,_⟩ => by
    rw [HZR.out] at hz
    injection hz with e1 e2
    subst e1
    exact hm h1⟩)
   have HC2:=hQ_ (HW1.out.trans hc2)
   have HG2:=hQ_ (HG.out.keep hc2)
   clear hm hc2 HQ HSR y0
   have z0:=HG2.out.cell 0
   have z1:=HG2.out.cell 1
   have z2:=HG2.out.cell 2
   have f0:=HG2.out.frozen 0
   have f1:=HG2.out.frozen 1
   have f2:=HG2.out.frozen 2
   go_wp2_with fail
   have HCF:=((HC2.out.setCell (p:=⟨g,0,none⟩) (fun h => absurd h hnl) (.int .i64 0)).setCell (p:=⟨g,1,none⟩) (fun h => absurd h hnl) (.int .i64 0)).setCell (p:=⟨g,2,none⟩) (fun h => absurd h hnl) (.slice none 0 0)
   have HSS:=((HG2.out.set_ 0 (.int .i64 0)).set_ 1 (.int .i64 0)).set_ 2 (.slice none 0 0)
   exact bodyPost_ret_by (zu_ (p:=2) (a:=3) (b:=4) (c:=5) (ty:=24) rfl _ _ g 24 [.int .i64 0,.int .i64 0,.slice none 0 0] _ rfl HSS Tryz.underlying24 (by kernel_rfl)) rfl (HNO.out 12 _ HN.out HCF)
end
end Go.Proofs.YtbkfhndmeljlcaaGreatDoor
