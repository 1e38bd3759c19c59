import Derived.Test.YtbkfhndmeljlcaaGreatDoorZB14
set_option maxRecDepth 100000
set_option maxHeartbeats 16000000
namespace Go.Proofs.YtbkfhndmeljlcaaGreatDoor
open Go.RowKit
def OwnB (w : World) (l : List UInt8) (e : Ending) (w' : World) : Prop:=∃ v,e = .returned v ∧ w'.ownsRow w.heap.size 5 1 v l.length (bts l) ∧ Chg [] w w'
section
variable {w : World} {p gC gD : Nat} {L : List UInt8} {X : List Value} {V : List Bool} {Y : List Value} {most : Nat}
theorem g1_ (h : Mm w p gC gD L X V Y most) : Calls Tryz.prog 24 #[.pointer (some ⟨p,0,none⟩)] w (OwnB w L):=by
 obtain ⟨i,hi,hz,hs1,hb⟩:=info_parts v4_
 have c0:=h.rec_.cell 0
 have hsr:=h.src
 have hl:=hQ_ (zx_ L)
 have h1:=x4_ L
 have b1:=h.small
 have x1:=hQ_ (show 0 + L.length ≤ maxLen by unfold maxLen; omega)
 have x2:=hQ_ (show (0 + L.length) * 1 ≤ 140737488355328 by omega)
 go_enter Tryz.func24,Tryz.ntmps24
 go_wp2_with (
  at_builtin
  refine zT_ rfl (.const (.slice none 0 0)) (.tmp 6) 33 rfl w.heap.size 5 i _ 1 Tryz.underlying33 hi hz hs1 hb vi_ (.slice none 0 0) 0 [] rfl (zbl _ _ _) (some ⟨gC,0,none⟩) L.length (L.length + X.length) (bts L) rfl hl.out hsr h1 x1.out x2.out (Nat.le_refl _) ?_
  intro v4 w4 ho4 hg4 _)
 go_ret
 rw [Nat.zero_add,List.nil_append] at ho4
 exact ⟨v4,rfl,ho4,Chg.of_grown hg4 (fun g hg => by simp [Value.ownBlock] at hg)⟩
end
end Go.Proofs.YtbkfhndmeljlcaaGreatDoor
namespace Go.Proofs.YtbkfhndmeljlcaaGreatDoor
open Go.RowKit
theorem zdz {l m : List UInt8} : ((zc_ l).toList == (zc_ m).toList) = decide (l = m):=by
 rw [ByteArray.toList_eq,ByteArray.toList_eq]
 show (l == m) = decide (l = m)
 by_cases h : l = m
 · subst h; simp
 · rw [decide_eq_false h,beq_eq_false_iff_ne]; exact h
section
variable {w : World} {A A2 : Option Addr} {n c n2 c2 : Nat}
theorem zan {l m : List UInt8} (h : Bs w A n c l) (h2 : Bs w A2 n2 c2 m) :
    Calls Tryz.prog 104 #[.slice A n c,.slice A2 n2 c2] w fun e w' => e = .returned (.bool (decide (l = m))) ∧ w = w':=by
 have v1:=h.str (P:=Tryz.prog) 33 5 9 Tryz.underlying33 Tryz.underlying5 Tryz.underlying9
 have v2:=h2.str (P:=Tryz.prog) 33 5 9 Tryz.underlying33 Tryz.underlying5 Tryz.underlying9
 have HE:=hQ_ (zdz (l:=l) (m:=m))
 go_enter Tryz.func104,Tryz.ntmps104
 go_wp2_with fail
 go_ret
 exact ⟨by rw [← HE.out]; rfl,rfl⟩
end
end Go.Proofs.YtbkfhndmeljlcaaGreatDoor
namespace Go.Proofs.YtbkfhndmeljlcaaGreatDoor
open Go.RowKit
def pg (L : List UInt8) (i : Nat) : List UInt8:=(L.drop (i * 64)).take 64
def kl_ (ls : List ChV) (cs : List (Nat × List UInt8)) : Prop:=ls.map (fun a => (a.page,a.B)) = cs.map (fun c => ((c.1 : Int),c.2))
theorem kl_.len {ls : List ChV} {cs : List (Nat × List UInt8)} (h : kl_ ls cs) : ls.length = cs.length:=by
 have:=congrArg List.length h; simpa using this
theorem kl_.snoc {ls : List ChV} {cs : List (Nat × List UInt8)} (h : kl_ ls cs) {a : ChV} {p : Nat} (hp : a.page = (p : Int)) : kl_ (ls ++ [a]) (cs ++ [(p,a.B)]):=by
 unfold kl_ at *
 rw [List.map_append,List.map_append,h]; simp [hp]
theorem kl_.at {ls : List ChV} {cs : List (Nat × List UInt8)} (h : kl_ ls cs) {k : Nat} {a : ChV} {c : Nat × List UInt8} (ha : ls[k]? = some a) (hc : cs[k]? = some c) : a.page = (c.1 : Int) ∧ a.B = c.2:=by
 have:=congrArg (fun l : List (Int × List UInt8) => l[k]?) h
 simp only [List.getElem?_map,ha,hc,Option.map_some] at this
 injection this with this
 injection this with h1 h2
 exact ⟨h1,h2⟩
theorem MadeCh.more {w : World} {B0 B1 : Nat} {a : ChV} (h : MadeCh w B0 a) (hB : B1 ≤ B0) : MadeCh w B1 a:=by
 obtain ⟨g,hg,hb,hW⟩:=h.b
 exact { h with b:=⟨g,hg,Nat.le_trans hB hb,hW⟩ }
theorem jv_ {w : World} {B B' n k : Nat} {e : TypeId} {v : Value} {xs : List Value} (h : w.ownsRow B e k v n xs) (hB : B' ≤ B) : w.ownsRow B' e k v n xs:=by
 refine ⟨h.1,h.2.imp id ?_⟩
 rintro ⟨g,cap,cur,rfl,hb,r⟩
 exact ⟨g,cap,cur,rfl,Nat.le_trans hB hb,r⟩
end Go.Proofs.YtbkfhndmeljlcaaGreatDoor
namespace Go.Proofs.YtbkfhndmeljlcaaGreatDoor
open Go.RowKit
def xK_ : List UInt8:=[85,78,73,84]
def zR_ (t p : Nat) : List UInt8:=xK_ ++ be4 t ++ be4 p ++ zt_ 52
theorem yT_ (t p : Nat) : (zR_ t p).length = 64:=rfl
def xm_ (l : List UInt8) : Prop:=xJ_ l 4 ≤ 2048 ∧ xJ_ l 8 ≤ 64 ∧ l = zR_ (xJ_ l 4) (xJ_ l 8)
theorem zew (t p : Nat) (ht : t ≤ 2048) (hp : p ≤ 64) : xJ_ (zR_ t p) 4 = t ∧ xJ_ (zR_ t p) 8 = p ∧ xm_ (zR_ t p):=by
 have e1 : xJ_ (zR_ t p) 4 = t:=by
  have : zR_ t p = xK_ ++ (be4 t ++ (be4 p ++ zt_ 52)):=by simp only [zR_,List.append_assoc]
  rw [this]; exact q8_ _ _ t (by omega) _ rfl
 have e2 : xJ_ (zR_ t p) 8 = p:=by
  have : zR_ t p = (xK_ ++ be4 t) ++ (be4 p ++ zt_ 52):=by simp only [zR_,List.append_assoc]
  rw [this]; exact q8_ _ _ p (by omega) _ rfl
 exact ⟨e1,e2,by rw [e1]; exact ht,by rw [e2]; exact hp,by rw [e1,e2]⟩
theorem gj_ : bts xK_ = [.int .u8 85,.int .u8 78,.int .u8 73,.int .u8 84]:=rfl
section
variable {w : World}
theorem qY_ (t p : Nat) (ht : t ≤ 2147483647) (hp : p ≤ 2147483647) :
    Calls Tryz.prog 46 #[.int .i64 (t : Int),.int .i64 (p : Int)] w (yI_ w (zR_ t p)):=by
 obtain ⟨i0,hi,hz,hs1,hb1⟩:=info_parts xc_
 have et : (t : Int) % 4294967296 = (t : Int):=by omega
 have ep : (p : Int) % 4294967296 = (p : Int):=by omega
 have kc:=zfl w rfl
 go_enter Tryz.func46,Tryz.ntmps46
 go_wp2_with fail
 clear kc
 have hM:=gk_ w 5 xK_ (4,5) (by simp [xK_])
 rw [gj_] at hM
 have hc1 : Chg [] w (w.alloc (.cells #[.int .u8 85,.int .u8 78,.int .u8 73,.int .u8 84] 5 (4,5))):=(Chg.refl [] w).alloc _
 generalize w.alloc (.cells #[.int .u8 85,.int .u8 78,.int .u8 73,.int .u8 84] 5 (4,5)) = w1 at hc1 hM ⊢
 generalize w.heap.size = g0 at hM ⊢
 have HC1:=hQ_ hc1
 have HM:=hQ_ hM
 clear hc1 hM
 have hM4 : Bs w1 (some ⟨g0,0,none⟩) 4 4 xK_:=HM.out
 refine (zfd hM4 t (by omega) (by omega)).mono ?_
 rintro e w2 ⟨v2,rfl,ho2,hc2⟩
 have hl2 : (xK_ ++ be4 t).length = 8:=rfl
 rw [hl2] at ho2
 obtain ⟨A2,c2,rfl,hB2,_⟩:=Bs.of_own ho2
 have HB2:=hQ_ hB2
 have HC2:=hQ_ (HC1.out.new hc2)
 clear hM4 HM hl2 ho2 hB2 hc2
 go_wp2_with fail
 refine (zfd HB2.out p (by omega) (by omega)).mono ?_
 rintro e w5 ⟨v5,rfl,ho5,hc5⟩
 have hl5 : (xK_ ++ be4 t ++ be4 p).length = 12:=rfl
 rw [hl5] at ho5
 have hsz:=HC2.out.size
 have HRL:=hQ_ (show zR_ t p = (xK_ ++ be4 t ++ be4 p) ++ zt_ 52 from rfl)
 generalize xK_ ++ be4 t ++ be4 p = Z at ho5 HRL
 obtain ⟨g,r,rfl,hbg,_,_⟩:=xb_ ho5 (by omega)
 obtain ⟨g',cap',w6,hr,ho6,hg6,hor⟩:=xS_ (P:=Tryz.prog) w5 w2.heap.size 33 3 33 5 i0 _ 1 .i64 Tryz.underlying33 Tryz.underlying3 hi hz hs1 hb1 rfl rfl g 12 (12 + r.length) (bts Z) ho5 52 (by unfold maxLen; omega) (by omega) hc5.size
 have hc6 : Chg [] w2 w6:=hc5.own ho5 (Nat.le_refl _) hg6
 have HR:=hQ_ hr
 have HO:=hQ_ ho6
 have HC6:=hQ_ (HC2.out.new hc6)
 clear hr ho6 hg6 hor hc6 ho5 hc5 hl5
 go_wp2_with (at_builtin; refine Lib.wpList_append_run w5 rfl (.tmp 15) (.tmp 18) 33 3 rfl _ _ rfl rfl _ _ HR.out ?_)
 go_ret
 refine ⟨_,rfl,?_,HC6.out⟩
 have e1 : (zR_ t p).length = 12 + 52:=yT_ t p
 have e2 : bts (zR_ t p) = bts Z ++ List.replicate 52 (.int .u8 0):=by rw [HRL.out,ub_,xf_]
 rw [e1,e2]
 exact vH_ HO.out hsz
def j8_ (l : List UInt8) (w : World) (e : Ending) (w' : World) : Prop :=
 (xm_ l ∧ e = .returned (.tuple #[.int .i64 ((xJ_ l 4 : Nat) : Int),.int .i64 ((xJ_ l 8 : Nat) : Int),.bool true]) ∧ Chg [] w w') ∨
 (¬ xm_ l ∧ e = .returned (.tuple #[.int .i64 0,.int .i64 0,.bool false]) ∧ Chg [] w w')
theorem kt_ {A : Option Addr} {n c : Nat} {l : List UInt8} (h : Bs w A n c l) : Calls Tryz.prog 73 #[.slice A n c] w (j8_ l w):=by
 have H:=hQ_ h
 have h4:=k6_ l 4
 have h8:=k6_ l 8
 clear h
 go_enter Tryz.func73,Tryz.ntmps73
 go_wp2_with fail
 refine (zfr H.out 4 (by omega)).mono ?_
 rintro e w' ⟨rfl,rfl⟩
 go_wp2_with fail
 refine (zfr H.out 8 (by omega)).mono ?_
 rintro e w' ⟨rfl,rfl⟩
 have HM:=hQ_ (show xm_ l ↔ (xJ_ l 4 ≤ 2048 ∧ xJ_ l 8 ≤ 64 ∧ l = zR_ (xJ_ l 4) (xJ_ l 8)) from Iff.rfl)
 obtain ⟨t,ht⟩ : ∃ t,t = xJ_ l 4:=⟨_,rfl⟩
 obtain ⟨p,hp⟩ : ∃ p,p = xJ_ l 8:=⟨_,rfl⟩
 rw [← ht,← hp] at HM ⊢
 rw [← ht] at h4
 rw [← hp] at h8
 have HT:=hQ_ ht
 have HP:=hQ_ hp
 clear ht hp
 by_cases ha : 2048 < t
 · have HNO:=hQ_ (show ¬ xm_ l from fun h => by have:=(HM.out.1 h).1; omega)
   have haI : (2048 : Int) < (t : Int):=by omega
   go_wp2_with fail
   go_ret3
   exact .inr ⟨HNO.out,rfl,Chg.refl _ _⟩
 · have haI : ¬ (2048 : Int) < (t : Int):=by omega
   by_cases hb : 64 < p
   · have HNO:=hQ_ (show ¬ xm_ l from fun h => by have:=(HM.out.1 h).2.1; omega)
     have hbI : (64 : Int) < (p : Int):=by omega
     go_wp2_with fail
     go_ret3
     exact .inr ⟨HNO.out,rfl,Chg.refl _ _⟩
   · have hbI : ¬ (64 : Int) < (p : Int):=by omega
     go_wp2_with fail
     refine (qY_ t p (by omega) (by omega)).mono ?_
     rintro e w2 ⟨v2,rfl,ho2,hc2⟩
     obtain ⟨A2,c2,rfl,hB2,_⟩:=Bs.of_own ho2
     have HB2:=hQ_ hB2
     have HC2:=hQ_ hc2
     clear ho2 hB2 hc2
     go_wp2_with fail
     refine (zan (H.out.keep HC2.out) HB2.out).mono ?_
     rintro e w' ⟨rfl,rfl⟩
     by_cases heq : l = zR_ t p
     · have hde : decide (l = zR_ t p) = true:=decide_eq_true heq
       rw [hde]
       have HY:=hQ_ (HM.out.2 ⟨by omega,by omega,heq⟩)
       clear hde heq
       go_wp2_with fail
       go_ret3
       exact .inl ⟨HY.out,by rw [← HT.out,← HP.out]; rfl,HC2.out⟩
     · have hde : decide (l = zR_ t p) = false:=decide_eq_false heq
       rw [hde]
       have HY:=hQ_ (show ¬ xm_ l from fun h => heq (HM.out.1 h).2.2)
       clear hde heq
       go_wp2_with fail
       go_ret3
       exact .inr ⟨HY.out,rfl,HC2.out⟩
end
end Go.Proofs.YtbkfhndmeljlcaaGreatDoor
namespace Go.Proofs.YtbkfhndmeljlcaaGreatDoor
open Go.RowKit
open Go.Lib (decDigits encodeRune)
def zr_ (n : Nat) : Nat:=(n + 63) / 64
def pgT (T : List UInt8) (i : Nat) : List UInt8:=(T.drop (i * 64)).take 64 ++ zt_ (64 - ((T.drop (i * 64)).take 64).length)
def plT (T : List UInt8) : Nat → List (Nat × List UInt8)
  | 0 => []
  | k + 1 => plT T k ++ [(1 + k,pgT T k)]
def plM (f : Nat) : Nat → List (Nat × List UInt8)
  | 0 => []
  | k + 1 => plM f k ++ [(f + k,zt_ 64)]
def vY_ (T : List UInt8) (p : Nat) : List (Nat × List UInt8):=[(0,zR_ T.length p)] ++ plT T (zr_ T.length) ++ plM (1 + zr_ T.length) p
theorem yO_ (T : List UInt8) : ∀ k,(plT T k).length = k
  | 0 => rfl
  | k + 1 => by rw [plT,List.length_append,yO_ T k]; rfl
theorem vu_ (f : Nat) : ∀ k,(plM f k).length = k
  | 0 => rfl
  | k + 1 => by rw [plM,List.length_append,vu_ f k]; rfl
theorem xM_ (T : List UInt8) (p : Nat) : (vY_ T p).length = 1 + zr_ T.length + p:=by
 unfold vY_
 rw [List.length_append,List.length_append,yO_,vu_]; rfl
theorem zbk (T : List UInt8) (i : Nat) : (pgT T i).length = 64:=by
 unfold pgT
 rw [List.length_append,zI_,List.length_take]
 omega
theorem zbg (T : List UInt8) : ∀ k i,i < k → (plT T k)[i]? = some (1 + i,pgT T i)
  | 0,i,h => by omega
  | k + 1,i,h => by
    rw [plT]
    rcases Nat.lt_or_ge i k with hk | hk
    · rw [List.getElem?_append_left (by rw [yO_]; exact hk)]; exact zbg T k i hk
    · obtain rfl : i = k:=by omega
      rw [List.getElem?_append_right (by rw [yO_]; exact Nat.le_refl _),yO_,Nat.sub_self]; rfl
theorem zbh (f : Nat) : ∀ k i,i < k → (plM f k)[i]? = some (f + i,zt_ 64)
  | 0,i,h => by omega
  | k + 1,i,h => by
    rw [plM]
    rcases Nat.lt_or_ge i k with hk | hk
    · rw [List.getElem?_append_left (by rw [vu_]; exact hk)]; exact zbh f k i hk
    · obtain rfl : i = k:=by omega
      rw [List.getElem?_append_right (by rw [vu_]; exact Nat.le_refl _),vu_,Nat.sub_self]; rfl
theorem zbi (T : List UInt8) (p i : Nat) (h : i < 1 + zr_ T.length + p) : ∃ b,(vY_ T p)[i]? = some (i,b) ∧ b.length = 64:=by
 unfold vY_
 by_cases h0 : i = 0
 · subst h0
   exact ⟨_,rfl,yT_ _ _⟩
 · by_cases h1 : i < 1 + zr_ T.length
   · rw [List.getElem?_append_left (by rw [List.length_append,yO_]; exact h1),List.getElem?_append_right (by show 1 ≤ i; omega)]
     rw [show i - [(0,zR_ T.length p)].length = i - 1 from rfl,zbg T _ _ (by omega)]
     exact ⟨_,by rw [show 1 + (i - 1) = i from by omega],zbk _ _⟩
   · rw [List.getElem?_append_right (by rw [List.length_append,yO_]; show 1 + _ ≤ i; omega),List.length_append,yO_]
     rw [show i - ([(0,zR_ T.length p)].length + zr_ T.length) = i - (1 + zr_ T.length) from rfl,zbh _ _ _ (by omega)]
     exact ⟨_,by rw [show 1 + zr_ T.length + (i - (1 + zr_ T.length)) = i from by omega],by rw [zI_]⟩
theorem zdt (s : List UInt8) (n : Nat) : (bts s).take n = bts (s.take n):=by unfold bts; rw [List.map_take]
theorem kT_ {P : Program} (w : World) (dT sT ty elem : TypeId) (g dLen dCap : Nat) (s : List UInt8) (cs : List Value) (t : TypeId)
    (hu : P.underlying dT = some (.slice elem)) (hs : (P.info? elem).map (·.size) = some 1) (hW : zb_ w g t cs) (hl : cs.length = dLen) :
    ∃ w',(Builtin.copy_ #[dT,sT] ty #[.slice (some ⟨g,0,none⟩) dLen dCap,.string (zc_ s)]).run P w = .ok (goInt (Nat.min s.length dLen)) w' ∧ zb_ w' g t (bts (s.take dLen) ++ cs.drop (s.take dLen).length) ∧ Chg [g] w w':=by
 have hsz:=zw_ s
 have hvl : (bts (s.take dLen)).length = Nat.min s.length dLen:=by rw [zx_,List.length_take,Nat.min_comm]
 have hm1 : Nat.min s.length dLen ≤ dLen:=Nat.min_le_right _ _
 have hst:=run_storeCells_at (P:=P) g 0 t (bts (s.take dLen)) 0 cs.toArray w hW (by rw [hvl]; simp; omega) (x4_ _)
 have htk : List.take (Nat.min s.length dLen) (List.map (fun b : UInt8 => Value.int IntKind.u8 (b.toNat : Int)) (zc_ s).data.toList) = bts (s.take dLen):=by
  rw [show (zc_ s).data.toList = s from by simp [zc_]]
  show List.take _ (bts s) = _
  rw [zdt]
  congr 1
  rw [List.take_eq_take_iff]
  show min (min s.length dLen) s.length = min dLen s.length
  omega
 simp only [Nat.add_zero,List.take_zero,List.nil_append,Nat.zero_add] at hst
 refine ⟨w.setRow g (bts (s.take dLen) ++ cs.drop (s.take dLen).length).toArray,?_,?_,?_⟩
 · cases hq : P.info? elem with
   | none => simp [hq] at hs
   | some i =>
     simp [Builtin.copy_,run_underlying hu,Builtin.lenOf,Builtin.firstCells,sizeOf,typeInfo,hq,hsz]
     rw [htk,hst]
     simp [Result.andThen,zx_]
 · exact setRow_heap w g _ _ t (0,0) hW
 · exact ⟨rfl,rfl,rfl,by rw [setRow_size]; exact Nat.le_refl _,fun k _ hk => setRow_other w g k _ (by simpa using hk)⟩
end Go.Proofs.YtbkfhndmeljlcaaGreatDoor
namespace Go.Proofs.YtbkfhndmeljlcaaGreatDoor
open Go.RowKit
def zaq (W : World) (pg ms : Int) (A : Option Addr) (n c : Nat) (T : List UInt8) (E : Int) : Prop :=
 ∀ w,Chg [] W w → xu_ w.heap.size w → Calls Tryz.prog 31 #[.agg #[.int .i64 pg,.int .i64 ms,.slice A n c]] w (zF_ T E w)
theorem zaq.keep {W W' : World} {pg ms : Int} {A : Option Addr} {n c : Nat} {T : List UInt8} {E : Int} (h : zaq W pg ms A n c T E) (hc : Chg [] W W') : zaq W' pg ms A n c T E:=fun w k hp => h w (hc.trans k) hp
theorem zaq.of_fnr {W : World} {pg ms : Int} {A : Option Addr} {n c : Nat} {l : List FnV} (h : Fnr W A n c l) (hsm : ∀ f ∈ l,f.code.size ≤ 9223372036854775807) : zaq W pg ms A n c (zM_ pg ms l).1 (zM_ pg ms l).2:=fun _ hc hp => uJ_ (h.keep hc) hsm hp
def yj_ (T : List UInt8) (E ms : Int) : Int:=if E = 0 then 1 + (zr_ T.length : Int) + ms else 0
section
variable {w : World}
theorem kD_ (n : Nat) (hn : n ≤ 1000000) (w : World) : Calls Tryz.prog 70 #[.int .i64 (n : Int)] w fun e w' => e = .returned (.int .i64 ((zr_ n : Nat) : Int)) ∧ w' = w:=by
 have HH:=hQ_ (show ((zr_ n : Nat) : Int) = ((n : Int) + 64 - 1) / 64 from by unfold zr_; omega)
 go_enter Tryz.func70,Tryz.ntmps70
 go_wp2_with fail
 go_ret
 exact ⟨congrArg (fun z : Int => Ending.returned (Value.int .i64 z)) HH.out.symm,rfl⟩
theorem xa_ (T : List UInt8) (hn : T.length ≤ 1000000) (w : World) : Calls Tryz.prog 44 #[.string (zc_ T)] w fun e w' => e = .returned (.int .i64 ((zr_ T.length : Nat) : Int)) ∧ w' = w:=by
 have HL:=hQ_ (kD_ T.length hn w)
 have hsz:=zw_ T
 go_enter Tryz.func44,Tryz.ntmps44
 go_wp2_with (
  go_at_call 70
  refine HL.out.mono ?_
  rintro e w2 ⟨rfl,rfl⟩)
 go_ret
 exact ⟨rfl,rfl⟩
variable {pg ms : Int} {A : Option Addr} {n c : Nat} {E : Int} {T : List UInt8}
theorem va_ (hT : zaq w pg ms A n c T E) (hTl : T.length ≤ 2048) (hms : E = 0 → 0 ≤ ms ∧ ms ≤ 64) (hP : xu_ w.heap.size w) : Calls Tryz.prog 19 #[.agg #[.int .i64 pg,.int .i64 ms,.slice A n c]] w fun e w' => e = .returned (.int .i64 (yj_ T E ms)) ∧ Chg [] w w':=by
 have HT:=hQ_ hT
 have HP:=hQ_ hP
 obtain ⟨N,hN⟩ : ∃ N,N = yj_ T E ms:=⟨_,rfl⟩
 rw [← hN]
 have HN:=hQ_ hN
 clear hT hP hN
 unfold zaq zF_ at HT
 go_enter Tryz.func19,Tryz.ntmps19
 go_upto_region 1 with fail
 have hN:=zb_.new w 24 [.int .i64 pg,.int .i64 ms,.slice A n c]
 have hal:=(Chg.refl [] w).alloc (.cells #[.int .i64 pg,.int .i64 ms,.slice A n c] 24)
 have HU1:=hQ_ hN
 have HC1:=hQ_ hal
 clear hN hal
 generalize w.heap.size = gu at HU1 ⊢
 generalize w.alloc (.cells #[.int .i64 pg,.int .i64 ms,.slice A n c] 24) = w1 at HU1 HC1 ⊢
 have u0:=HU1.out.cell 0
 have u1:=HU1.out.cell 1
 have u2:=HU1.out.cell 2
 by_cases hE : E = 0
 · subst hE
   have hN1 : N = 1 + (zr_ T.length : Int) + ms:=by rw [HN.out]; unfold yj_; rw [if_pos rfl]
   have HPG:=hQ_ (fun (W : World) => xa_ T (by omega) W)
   have hh : zr_ T.length ≤ 33:=by unfold zr_; omega
   obtain ⟨h,hh2⟩ : ∃ h,h = zr_ T.length:=⟨_,rfl⟩
   rw [← hh2] at HPG hN1 hh
   obtain ⟨hm0,hm1⟩:=hms rfl
   generalize zc_ T = S at HT HPG
   clear hh2 HN hTl hms
   have HN1:=hQ_ hN1
   clear hN1
   go_upto_region 4 with (
    go_at_call 31
    refine (HT.out _ HC1.out (HP.out.here HC1.out)).mono ?_
    rintro e w2 ⟨rfl,hc2⟩
    have HC2:=hQ_ (HC1.out.trans hc2)
    have HU2:=hQ_ (HU1.out.keep hc2)
    clear hc2)
   clear u0 u1 u2
   have HHW:=hQ_ (fun (W : World) (h : Chg [] w2.drew W) => (show Chg [] w2 W from (Chg.refl [] w2).drew.trans h))
   have HW1:=hQ_ (show IntKind.i64.wrap (1 + (h : Int)) = 1 + (h : Int) from IntWalk.i64_in _ (by omega))
   have HW2:=hQ_ (show IntKind.i64.wrap (1 + (h : Int) + ms) = N from by rw [HN1.out]; exact IntWalk.i64_in _ (by omega))
   refine wp_flow (by kernel_rfl) yp_ za_ (by kernel_rfl) ?_
   refine flow_move_out za_ rfl rfl rfl ?_
   refine zE_ (.int .i64 (h : Int)) (by kernel_rfl) rfl (.cons (.inn rfl) .nil) (fun W hW => (HPG.out W).mono ?_) ?_
   · rintro e w' ⟨rfl,rfl⟩
     rw [zD_]
     exact ⟨rfl,Chg.refl _ _⟩
   refine flow2 (r:=.int .i64 (1 + (h : Int))) za_ rfl (.const _) (.inn rfl) rfl (fun ev W he e1 e2 => by have q:=HW1.out; go_simp) ?_
   refine flow1 (r:=.pointer (some ⟨gu,1,none⟩)) za_ rfl (.out rfl rfl) rfl (fun ev W he e1 => by go_simp) ?_
   refine flow1h (r:=.int .i64 ms) za_ rfl (.inn rfl) rfl (fun ev W he hW e1 => by
    have hk:=HU2.out.keep (HHW.out W hW)
    have q1:=hk.cell 1
    clear hW hk
    go_simp) ?_
   refine flow2 (r:=.int .i64 N) za_ rfl (.inn rfl) (.inn rfl) rfl (fun ev W he e1 e2 => by have q:=HW2.out; go_simp) ?_
   refine flow_assign za_ rfl (zd_ _) (.inr (zd_ _)) rfl ?_
   intro vs W hW hF
   have e2 : vs 2 = .int .i64 N:=hF 2 _ rfl rfl
   have HCW:=hQ_ (HC2.out.trans (HHW.out W hW))
   simp only [zY_,Act.put,List.setIfInBounds_toArray,List.set_cons_zero,List.set_cons_succ]
   rw [e2]
   clear hF hW e2
   obtain ⟨wz,hwz⟩ : ∃ wz : World,wz = W:=⟨_,rfl⟩
   rw [← hwz] at HCW ⊢
   clear hwz
   go_wp2_with fail
   go_ret
   exact ⟨rfl,HCW.out⟩
 · obtain rfl : N = 0:=by rw [HN.out]; unfold yj_; rw [if_neg hE]
   have hd : (E == 0) = false:=by simpa using hE
   clear hE HN hms
   go_wp2_with (
    go_at_call 31
    refine (HT.out _ HC1.out (HP.out.here HC1.out)).mono ?_
    rintro e w2 ⟨rfl,hc2⟩
    have HC2:=hQ_ (HC1.out.trans hc2)
    clear hc2)
   go_ret
   exact ⟨rfl,HC2.out⟩
end
end Go.Proofs.YtbkfhndmeljlcaaGreatDoor
namespace Go.Proofs.YtbkfhndmeljlcaaGreatDoor
open Go.RowKit
open Go.Lib (decDigits encodeRune)
section
variable {W : World} {A : Option Addr} {n c : Nat} {l : List FnV} {pages most : Int}
theorem vV_ (h : Fnr W A n c l) (hsm : ∀ f ∈ l,f.code.size ≤ 9223372036854775807) : Calls Tryz.prog 26 #[z2_ pages most A n c] W (zF_ (zM_ pages most l).1 (zM_ pages most l).2 W):=by
 have HRI:=hQ_ (fun (w : World) (hc : Chg [] W w) => vW_ (pages:=pages) (most:=most) (h.keep hc) hsm)
 by_cases hR : zJ_ pages most l = 0
 · have HF:=vF_.1 hR
   obtain ⟨p,rfl⟩ : ∃ p : Nat,pages = (p : Int):=⟨pages.toNat,by have:=HF.p0; omega⟩
   obtain ⟨m,rfl⟩ : ∃ m : Nat,most = (m : Int):=⟨most.toNat,by have:=HF.p0; have:=HF.pm; omega⟩
   have hp64 : p ≤ 64:=by have:=HF.pm; have:=HF.m64; omega
   have hm64 : m ≤ 64:=by have:=HF.m64; omega
   have hn32 : n ≤ 32:=by have:=HF.few; have:=h.len; omega
   rw [hR] at HRI
   have H:=hQ_ h
   have HFF:=hQ_ HF
   have HSM:=hQ_ hsm
   have HLN:=hQ_ h.len
   have HPO:=hQ_ (show ∀ (e : Ending) (w' : World),zF_ (if 2048 < (utx (p : Int) (m : Int) l).length then ([] : List UInt8) else utx (p : Int) (m : Int) l) (if 2048 < (utx (p : Int) (m : Int) l).length then 3 else 0) W e w' → zF_ (zM_ (p : Int) (m : Int) l).1 (zM_ (p : Int) (m : Int) l).2 W e w' from fun e w' hq => by
    unfold zM_
    rw [if_pos hR]
    by_cases h2 : 2048 < (utx (p : Int) (m : Int) l).length
    · rw [if_pos h2] at hq ⊢
      rw [if_pos h2] at hq
      exact hq
    · rw [if_neg h2] at hq ⊢
      rw [if_neg h2] at hq
      exact hq)
   clear h hsm HF hR
   refine Calls.mono ?_ HPO.out
   clear HPO
   obtain ⟨U,hU⟩ : ∃ U,U = utx (p : Int) (m : Int) l:=⟨_,rfl⟩
   rw [← hU]
   obtain ⟨O,hO⟩ : ∃ O,O = (if 2048 < U.length then ([] : List UInt8) else U):=⟨_,rfl⟩
   obtain ⟨RO,hRO⟩ : ∃ O : Int,O = (if 2048 < U.length then 3 else 0):=⟨_,rfl⟩
   rw [← hO,← hRO]
   have HOO:=hQ_ hO
   have HRO:=hQ_ hRO
   clear hO hRO
   obtain ⟨D1,hD1⟩ : ∃ D,D = decDigits p:=⟨_,rfl⟩
   obtain ⟨D2,hD2⟩ : ∃ D,D = decDigits m:=⟨_,rfl⟩
   have HI1:=hQ_ (fun w => ux_ 1 p (by omega) (by omega) w)
   have HI2:=hQ_ (fun w => ux_ 1 m (by omega) (by omega) w)
   unfold x5_ at HI1 HI2
   rw [← hD1] at HI1
   rw [← hD2] at HI2
   have hL1 : D1.length ≤ 2:=by rw [hD1]; exact vw_ _ (by omega)
   have hL2 : D2.length ≤ 2:=by rw [hD2]; exact vw_ _ (by omega)
   have HU0:=hQ_ (show ([117,110,105,116,32] ++ D1 ++ [32] ++ D2) ++ [10] ++ qF_ (l.drop 0) = U from by rw [hU,utx,List.drop_zero,hD1,hD2]; simp)
   clear hU hD1 hD2
   have HH:=hQ_ (show ([117,110,105,116,32] ++ D1 ++ [32] ++ D2).length ≤ 50 from by simp; omega)
   have hadd1:=fun W => z9_ [117,110,105,116,32] D1 (by simp; omega) W
   have hadd2:=fun W => z9_ ([117,110,105,116,32] ++ D1) [32] (by simp; omega) W
   have hadd3:=fun W => z9_ ([117,110,105,116,32] ++ D1 ++ [32]) D2 (by simp; omega) W
   obtain ⟨HD,hHD⟩ : ∃ X,X = [117,110,105,116,32] ++ D1 ++ [32] ++ D2:=⟨_,rfl⟩
   rw [← hHD] at HU0 HH hadd3
   have hadd3b:=fun W => z9_ HD [10] (by have:=HH.out; simp; omega) W
   have HZL:=hQ_ (show (zc_ (HD ++ [10])) = zc_ (HD ++ [10]) from rfl)
   rw [show zc_ [10] = ⟨#[10]⟩ from rfl] at hadd3b
   have k1 : zc_ [117,110,105,116,32] = ⟨#[117,110,105,116,32]⟩:=rfl
   have k2 : zc_ [32] = ⟨#[32]⟩:=rfl
   rw [k1] at hadd1
   rw [k2] at hadd2
   generalize zc_ ([117,110,105,116,32] ++ D1) = Z1 at hadd1 hadd2
   generalize zc_ ([117,110,105,116,32] ++ D1 ++ [32]) = Z2 at hadd2 hadd3
   obtain ⟨Z3,hZ3⟩ : ∃ Z,Z = zc_ HD:=⟨_,rfl⟩
   rw [← hZ3] at hadd3 hadd3b
   obtain ⟨S1,hS1⟩ : ∃ Z,Z = zc_ D1:=⟨_,rfl⟩
   obtain ⟨S2,hS2⟩ : ∃ Z,Z = zc_ D2:=⟨_,rfl⟩
   rw [← hS1] at hadd1 HI1
   rw [← hS2] at hadd3 HI2
   clear hHD hZ3 hS1 hS2 k1 k2 hL1 hL2
   unfold z2_ at HRI ⊢
   go_enter Tryz.func26,Tryz.ntmps26
   go_upto_region 1 with fail
   have hN:=zb_.new W 24 [.int .i64 (p : Int),.int .i64 (m : Int),.slice A n c]
   have hal : Chg [] W (W.alloc (.cells #[.int .i64 (p : Int),.int .i64 (m : Int),.slice A n c] 24)):=(Chg.refl [] W).alloc _
   obtain ⟨g,hg⟩ : ∃ g,g = W.heap.size:=⟨_,rfl⟩
   rw [← hg] at hN ⊢
   have HU:=hQ_ hN
   have HC:=hQ_ hal
   generalize W.alloc (.cells #[.int .i64 (p : Int),.int .i64 (m : Int),.slice A n c] 24) = w1 at HU HC ⊢
   clear hN hal hg
   have u0:=HU.out.cell 0
   have u1:=HU.out.cell 1
   have u2:=HU.out.cell 2
   go_upto_region 4 with (
    go_at_call 52
    refine (HRI.out _ HC.out).mono ?_
    rintro e w2 ⟨rfl,hc2⟩
    have HU2:=hQ_ (HU.out.keep hc2)
    have HC2:=hQ_ (HC.out.trans hc2)
    clear hc2)
   have HHW:=hQ_ (fun (Wx : World) (h : Chg [] w2.drew Wx) => (show Chg [] w2 Wx from (Chg.refl [] w2).drew.trans h))
   refine wp_flow (by kernel_rfl) yp_ za_ (by kernel_rfl) ?_
   refine flow1 (r:=.pointer (some ⟨g,0,none⟩)) za_ rfl (.out rfl rfl) rfl (fun ev W he e1 => by go_simp) ?_
   refine flow1h (r:=.int .i64 (p : Int)) za_ rfl (.inn rfl) rfl (fun ev Wx he hW e1 => by have r0:=(HU2.out.keep (HHW.out Wx hW)).cell 0; clear hW; go_simp) ?_
   refine zE_ (.string S1) (by kernel_rfl) rfl (.cons (.inn rfl) .nil) (fun Wx hW => (HI1.out Wx).mono ?_) ?_
   · rintro e w' ⟨rfl,hcq⟩
     rw [zD_]
     exact ⟨rfl,hcq⟩
   refine flow2 (r:=.string Z1) za_ rfl (.const _) (.inn rfl) rfl (fun ev W he e1 e2 => by have q:=hadd1 W; go_simp) ?_
   refine flow2 (r:=.string Z2) za_ rfl (.inn rfl) (.const _) rfl (fun ev W he e1 e2 => by have q:=hadd2 W; go_simp) ?_
   refine flow1 (r:=.pointer (some ⟨g,1,none⟩)) za_ rfl (.out rfl rfl) rfl (fun ev W he e1 => by go_simp) ?_
   refine flow1h (r:=.int .i64 (m : Int)) za_ rfl (.inn rfl) rfl (fun ev Wx he hW e1 => by have r0:=(HU2.out.keep (HHW.out Wx hW)).cell 1; clear hW; go_simp) ?_
   refine zE_ (.string S2) (by kernel_rfl) rfl (.cons (.inn rfl) .nil) (fun Wx hW => (HI2.out Wx).mono ?_) ?_
   · rintro e w' ⟨rfl,hcq⟩
     rw [zD_]
     exact ⟨rfl,hcq⟩
   refine flow2 (r:=.string Z3) za_ rfl (.inn rfl) (.inn rfl) rfl (fun ev W he e1 e2 => by have q:=hadd3 W; go_simp) ?_
   refine flow2 (r:=.string (zc_ (HD ++ [10]))) za_ rfl (.inn rfl) (.const _) rfl (fun ev W he e1 e2 => by have q:=hadd3b W; go_simp) ?_
   refine flow_assign za_ rfl (zd_ _) (.inr (zd_ _)) rfl ?_
   intro vs Wx hW hF
   have e10 : vs 5 = .string (zc_ (HD ++ [10])):=hF 5 _ rfl rfl
   have HU3:=hQ_ (HU2.out.keep (HHW.out Wx hW))
   have HC3:=hQ_ (HC2.out.trans (HHW.out Wx hW))
   simp only [zY_,Act.put,List.setIfInBounds_toArray,List.set_cons_zero,List.set_cons_succ]
   rw [e10]
   clear hF hW e10 HHW hadd1 hadd2 hadd3 hadd3b HI1 HI2 HU2 HC2 u0 u1 u2 HZL
   have hlenH:=HH.out
   obtain ⟨w3,hw3⟩ : ∃ w3 : World,w3 = Wx:=⟨_,rfl⟩
   rw [← hw3] at HU3 HC3 ⊢
   clear hw3
   have u2:=HU3.out.cell 2
   go_wp2_with fail
   go_loopw [5,28] (fun b i wr => ∃ (k : Nat) (out : List UInt8) (no : Nat),b = .string (zc_ out) ∧ i = .int .i64 (k : Int) ∧ k ≤ n ∧ Hid (no = out.length) ∧ no ≤ 100 + 600 * k ∧ Hid (out ++ qF_ (l.drop k) = U) ∧ Hid (Chg [] W wr)) (fun _ i _ => n - (intOf i).toNat)
   case atStart => exact ⟨0,HD ++ [10],HD.length + 1,rfl,rfl,by omega,hQ_ (by rw [List.length_append]; rfl),by omega,HU0,HC3⟩
   case round =>
    obtain ⟨k,out,no,rfl,rfl,hk,HNO,hno,HX,HC5⟩:=hrel
    by_cases hkn : k < n
    · have hkI : (k : Int) < (n : Int):=by omega
      obtain ⟨t,htk⟩ : ∃ t,l[k]? = some t:=⟨l[k]'(by rw [HLN.out]; exact hkn),by simp⟩
      have hmem:=List.mem_of_getElem? htk
      obtain ⟨ts,hts⟩:=HFF.out.tok hmem
      obtain ⟨hnm,_,ha0,ha4⟩:=HFF.out.fn htk
      have HSZ:=hQ_ (HSM.out t hmem)
      obtain ⟨hl600,hl512⟩:=zaw hts ha4
      have HUL:=hQ_ hl600
      have HTL:=hQ_ hl512
      have HTS:=hQ_ hts
      have HNM:=hQ_ hnm
      obtain ⟨fb,fo,rfl,hfbl,e0,e1,e2⟩:=(H.out.keep HC5.out).cell htk
      have HSt:=hQ_ (show out ++ (utF t ++ qF_ (l.drop (k + 1))) = U from by
       rw [← HX.out,show l.drop k = t :: l.drop (k + 1) from List.drop_eq_getElem?_toList_append.trans (by rw [htk]; rfl),qF_])
      clear hnm hts hl600 hl512 hmem htk
      obtain ⟨tn,ta,tc⟩:=t
      simp only at e0 e1 e2 ha0 ha4 HSZ HTL HTS HNM
      obtain ⟨q,rfl⟩ : ∃ q : Nat,ta = (q : Int):=⟨ta.toNat,by omega⟩
      have hq4 : q ≤ 4:=by omega
      have HIQ:=hQ_ (fun w => ux_ 1 q (by omega) (by omega) w)
      unfold x5_ at HIQ
      have HTX : txC tc = txB false ts:=by unfold txC jp_; rw [HTS.out]; rfl
      obtain ⟨D,hD⟩ : ∃ D,D = decDigits q:=⟨_,rfl⟩
      obtain ⟨TX,hTX⟩ : ∃ D,D = txB false ts:=⟨_,rfl⟩
      have hDl : D.length ≤ 2:=by rw [hD]; exact vw_ _ (by omega)
      have hTl : TX.length ≤ 512:=by rw [hTX,← HTX]; exact HTL.out
      have hEl:=xe_ tn
      have HUE:=hQ_ (show out ++ encodeRune tn ++ D ++ [32] ++ TX ++ [10] ++ qF_ (l.drop (k + 1)) = U from by
       rw [← HSt.out]
       unfold utF
       simp only
       rw [HTX,hD,hTX]
       simp)
      rw [← hD] at HIQ
      have HGX:=hQ_ (fun (w : World) (Aq : Option Addr) (nq cq : Nat) (hT : Tks w Aq nq cq ts) (hn : nq ≤ 1000) => zaU hT (qG_ HTS.out) hn)
      rw [← hTX] at HGX
      have hol : out.length ≤ 30000:=by rw [← HNO.out]; omega
      have hadd1:=fun W => y8_ out tn (by omega) W
      have hadd2:=fun W => z9_ (out ++ encodeRune tn) D (by simp; omega) W
      have hadd3:=fun W => z9_ (out ++ encodeRune tn ++ D) [32] (by simp; omega) W
      have hadd4:=fun W => z9_ (out ++ encodeRune tn ++ D ++ [32]) TX (by simp; omega) W
      have hadd5:=fun W => z9_ (out ++ encodeRune tn ++ D ++ [32] ++ TX) [10] (by simp; omega) W
      rw [show zc_ [32] = ⟨#[32]⟩ from rfl] at hadd3
      rw [show zc_ [10] = ⟨#[10]⟩ from rfl] at hadd5
      have HLE:=hQ_ (show (out ++ encodeRune tn ++ D ++ [32] ++ TX ++ [10]).length ≤ 100 + 600 * (k + 1) from by simp; rw [← HNO.out]; omega)
      unfold x5_ at HGX
      obtain ⟨S5,hS5⟩ : ∃ S,S = out ++ encodeRune tn ++ D ++ [32] ++ TX ++ [10]:=⟨_,rfl⟩
      rw [← hS5] at hadd5 HUE HLE
      generalize zc_ (out ++ encodeRune tn ++ D ++ [32] ++ TX) = Z4 at hadd4 hadd5
      generalize zc_ (out ++ encodeRune tn ++ D ++ [32]) = Z3 at hadd3 hadd4
      generalize zc_ (out ++ encodeRune tn ++ D) = Z2 at hadd2 hadd3
      generalize zc_ (out ++ encodeRune tn) = Z1 at hadd1 hadd2
      generalize zc_ TX = ZT at hadd4 HGX
      generalize zc_ D = ZD at hadd2 HIQ
      generalize zc_ out = Z0 at hadd1 ⊢
      clear hD hTX hDl hTl hS5 HTX ha0 ha4 hEl hol
      go_upto_region 8 with fail
      have hX:=zb_.new wr 58 [.int .i32 tn,.int .i64 (q : Int),.string tc]
      have hc2:=(Chg.refl [] wr).alloc (.cells #[.int .i32 tn,.int .i64 (q : Int),.string tc] 58)
      have HX2:=hQ_ hX
      have HC6:=hQ_ (HC5.out.trans hc2)
      generalize wr.heap.size = gx at HX2 ⊢
      generalize wr.alloc (.cells #[.int .i32 tn,.int .i64 (q : Int),.string tc] 58) = w6 at HX2 HC6 ⊢
      clear hX e0 e1 e2 hfbl hc2
      have x2:=HX2.out.cell 2
      go_upto_region 9 with (
       go_at_call 50
       refine (kn_ tc HSZ.out).mono ?_
       intro e w7 hq
       obtain ⟨A7,c7,rfl,hl7,ho7,hc7⟩:=uO_ HTS.out hq
       have HT7:=hQ_ (Tks.own_at ho7 (by omega))
       have HL7:=hQ_ hl7
       have HC7:=hQ_ (HC6.out.trans hc7)
       have HX7:=hQ_ (HX2.out.keep hc7)
       clear hc7 hl7 ho7 hq)
      have HHW:=hQ_ (fun (Wx : World) (h : Chg [] w7.drew Wx) => (show Chg [] w7 Wx from (Chg.refl [] w7).drew.trans h))
      refine wp_flow (by kernel_rfl) yp_ za_ (by kernel_rfl) ?_
      refine flow_move_out za_ rfl rfl rfl ?_
      refine flow1 (r:=.pointer (some ⟨gx,0,none⟩)) za_ rfl (.out rfl rfl) rfl (fun ev W he e1 => by go_simp) ?_
      refine flow1h (r:=.int .i32 tn) za_ rfl (.inn rfl) rfl (fun ev Wx he hW e1 => by have r0:=(HX7.out.keep (HHW.out Wx hW)).cell 0; clear hW; go_simp) ?_
      refine flow1 (r:=.string (Utf8.encode tn)) za_ rfl (.inn rfl) rfl (fun ev W he e1 => by go_simp) ?_
      refine flow2 (r:=.string Z1) za_ rfl (.inn rfl) (.inn rfl) rfl (fun ev W he e1 e2 => by have q:=hadd1 W; go_simp) ?_
      refine flow1 (r:=.pointer (some ⟨gx,1,none⟩)) za_ rfl (.out rfl rfl) rfl (fun ev W he e1 => by go_simp) ?_
      refine flow1h (r:=.int .i64 (q : Int)) za_ rfl (.inn rfl) rfl (fun ev Wx he hW e1 => by have r0:=(HX7.out.keep (HHW.out Wx hW)).cell 1; clear hW; go_simp) ?_
      refine zE_ (.string ZD) (by kernel_rfl) rfl (.cons (.inn rfl) .nil) (fun Wx hW => (HIQ.out Wx).mono ?_) ?_
      · rintro e w' ⟨rfl,hcq⟩
        rw [zD_]
        exact ⟨rfl,hcq⟩
      refine flow2 (r:=.string Z2) za_ rfl (.inn rfl) (.inn rfl) rfl (fun ev W he e1 e2 => by have q:=hadd2 W; go_simp) ?_
      refine flow2 (r:=.string Z3) za_ rfl (.inn rfl) (.const _) rfl (fun ev W he e1 e2 => by have q:=hadd3 W; go_simp) ?_
      refine flow_move_out za_ rfl rfl rfl ?_
      refine zE_ (.string ZT) (by kernel_rfl) rfl (.cons (.inn rfl) .nil) (fun Wx hW => (HGX.out _ _ _ _ (HT7.out.keep (HHW.out Wx hW)) (by have:=HL7.out; omega)).mono ?_) ?_
      · rintro e w' ⟨rfl,hcq⟩
        rw [zD_]
        exact ⟨rfl,hcq⟩
      refine flow2 (r:=.string Z4) za_ rfl (.inn rfl) (.inn rfl) rfl (fun ev W he e1 e2 => by have q:=hadd4 W; go_simp) ?_
      refine flow2 (r:=.string (zc_ S5)) za_ rfl (.inn rfl) (.const _) rfl (fun ev W he e1 e2 => by have q:=hadd5 W; go_simp) ?_
      refine flow_assign za_ rfl (zd_ _) (.inr (zd_ _)) rfl ?_
      intro vs Wx hW hF
      have e10 : vs 5 = .string (zc_ S5):=hF 5 _ rfl rfl
      have HC8:=hQ_ (HC7.out.trans (HHW.out Wx hW))
      simp only [zY_,Act.put,List.setIfInBounds_toArray,List.set_cons_zero,List.set_cons_succ]
      rw [e10]
      clear hF hW e10 HHW hadd1 hadd2 hadd3 hadd4 hadd5
      go_wp2_with fail
      go_roundw
      case rel => exact ⟨k + 1,S5,S5.length,rfl,by go_num,by omega,hQ_ rfl,HLE.out,HUE,HC8⟩
      case measure => simp [intOf]; omega
    · have hkI : ¬ (k : Int) < (n : Int):=by omega
      have HXE:=hQ_ (show out = U from by
       have:=HX.out
       rw [List.drop_eq_nil_of_le (by rw [HLN.out]; omega),show qF_ [] = [] from rfl,List.append_nil] at this
       exact this)
      have hsz : (zc_ out).size = no:=by rw [zw_,HNO.out]
      by_cases h2 : 2048 < no
      · have h2I : (2048 : Int) < (no : Int):=by omega
        have HQ:=hQ_ (show 2048 < U.length by rw [← HXE.out,← HNO.out]; exact h2)
        have HPP:=hQ_ (show zF_ O RO W (.returned (.tuple #[.string ⟨#[]⟩,.int .i64 3])) wr from by
         rw [HOO.out,HRO.out,if_pos HQ.out,if_pos HQ.out]; exact ⟨rfl,HC5.out⟩)
        clear h2
        go_wp2_with fail
        go_ret2
        exact HPP.out
      · have h2I : ¬ (2048 : Int) < (no : Int):=by omega
        have HQ:=hQ_ (show ¬ 2048 < U.length by rw [← HXE.out,← HNO.out]; exact h2)
        have HPP:=hQ_ (show zF_ O RO W (.returned (.tuple #[.string (zc_ out),.int .i64 0])) wr from by
         rw [HOO.out,HRO.out,if_neg HQ.out,if_neg HQ.out,HXE.out]; exact ⟨rfl,HC5.out⟩)
        clear h2
        go_wp2_with fail
        go_ret2
        exact HPP.out
 · obtain ⟨R,hRR⟩ : ∃ R,R = zJ_ pages most l:=⟨_,rfl⟩
   have hT : zM_ pages most l = ([],R):=by unfold zM_; rw [if_neg hR,hRR]
   rw [hT]
   rw [← hRR] at HRI hR
   have hd : (R == 0) = false:=by simpa using hR
   have HPO:=hQ_ (show ∀ w',Chg [] W w' → zF_ [] R W (.returned (.tuple #[.string ⟨#[]⟩,.int .i64 R])) w' from fun w' hc => ⟨rfl,hc⟩)
   clear h hsm hT hRR
   unfold z2_ at HRI ⊢
   simp only
   go_enter Tryz.func26,Tryz.ntmps26
   go_upto_region 1 with fail
   have hal : Chg [] W (W.alloc (.cells #[.int .i64 pages,.int .i64 most,.slice A n c] 24)):=(Chg.refl [] W).alloc _
   have HC:=hQ_ hal
   have hN:=zb_.new W 24 [.int .i64 pages,.int .i64 most,.slice A n c]
   obtain ⟨g,hg⟩ : ∃ g,g = W.heap.size:=⟨_,rfl⟩
   rw [← hg] at hN ⊢
   generalize W.alloc (.cells #[.int .i64 pages,.int .i64 most,.slice A n c] 24) = w1 at HC hN ⊢
   have u0:=hN.cell 0
   have u1:=hN.cell 1
   have u2:=hN.cell 2
   clear hal hN hg
   go_wp2_with (
    go_at_call 52
    refine (HRI.out _ HC.out).mono ?_
    rintro e w2 ⟨rfl,hc2⟩
    have HC2:=hQ_ (HC.out.trans hc2)
    clear hc2)
   go_ret2
   exact HPO.out _ HC2.out
end
end Go.Proofs.YtbkfhndmeljlcaaGreatDoor
namespace Go.Proofs.YtbkfhndmeljlcaaGreatDoor
open Go.RowKit
def ym_ (l : List UInt8) : Nat × List UInt8:=if l = [] then (0,[]) else ((Utf8.decode (zc_ l) 0).1,l.drop (Utf8.decode (zc_ l) 0).2)
def kj_ (l : List UInt8) (w : World) (e : Ending) (w' : World) : Prop:=e = .returned (.tuple #[.int .i32 ((ym_ l).1 : Int),.string (zc_ (ym_ l).2)]) ∧ Chg [] w w'
section
variable {w : World}
theorem gH_ (l : List UInt8) (hl : l.length ≤ 1000000) : Calls Tryz.prog 117 #[.string (zc_ l)] w (kj_ l w):=by
 have HPP:=hQ_ (show ∀ (r : Nat) (s : ByteArray) (wr : World),r = (ym_ l).1 → s = zc_ (ym_ l).2 → Chg [] w wr → kj_ l w (.returned (.tuple #[.int .i32 (r : Int),.string s])) wr from fun r s wr h1 h2 h3 => ⟨by rw [h1,h2],h3⟩)
 obtain ⟨S,hS⟩ : ∃ S,S = zc_ l:=⟨_,rfl⟩
 have HS:=hQ_ hS
 have hszS : S.size = l.length:=by rw [hS]; exact zw_ l
 rw [← hS]
 clear hS
 obtain ⟨n,hn⟩ : ∃ n,n = l.length:=⟨_,rfl⟩
 rw [← hn] at hszS hl
 have HNL:=hQ_ hn
 clear hn
 have HSZ:=hQ_ hszS
 go_enter Tryz.func117,Tryz.ntmps117
 go_upto_region 3 with fail
 have hI : (w.iter S 0).heap[w.heap.size]? = some (.stringIter S 0):=World.iter_heap w S 0
 have hc0 : Chg [] w (w.iter S 0):=(Chg.refl [] w).alloc _
 obtain ⟨kI,hkI⟩ : ∃ k,k = w.heap.size:=⟨_,rfl⟩
 rw [← hkI] at hI ⊢
 generalize w.iter S 0 = w1 at hI hc0 ⊢
 have HI:=hQ_ hI
 have HC0:=hQ_ hc0
 have HK:=hQ_ hkI
 clear hI hc0 hkI hszS
 have HCZ:=hQ_ (fun (W : World) (hW : Chg [kI] w1 W) => show Chg [] w W from HC0.out.then_ hW (fun i hi hl => by have:=HK.out; simp only [List.mem_cons,List.not_mem_nil,or_false] at hi; omega))
 go_loopw [4] (fun v wr => ∃ (pos r : Nat),v = .int .i32 (r : Int) ∧ r ≤ 2147483647 ∧ pos ≤ n ∧ Hid (wr.heap[kI]? = some (.stringIter S pos)) ∧ Hid ((pos = 0 ∧ r = 0) ∨ (0 < n ∧ 0 < pos ∧ r = (ym_ l).1 ∧ (ym_ l).2 = l.drop pos)) ∧ Hid (Chg [kI] w1 wr)) (fun _ wr => n - wr.iterPos kI)
 case atStart => exact ⟨0,0,rfl,by omega,by omega,HI,hQ_ (.inl ⟨rfl,rfl⟩),hQ_ (Chg.refl _ _)⟩
 case round =>
  obtain ⟨pos,r,rfl,hr,hpn,HIr,HX,HCr⟩:=hrel
  by_cases hlt : pos < n
  · have hltS : pos < S.size:=by rw [HSZ.out]; exact hlt
    have hnx:=fun ty => Lib.run_next_any_at (P:=Tryz.prog) wr kI S pos ty HIr.out hltS
    go_upto_region 5 with fail
    obtain ⟨d,hd⟩ : ∃ d,d = (Utf8.decode S pos).2:=⟨_,rfl⟩
    obtain ⟨x,hx⟩ : ∃ r,r = (Utf8.decode S pos).1:=⟨_,rfl⟩
    have hx2 : x ≤ 2147483647:=by rw [hx]; exact decode_le S pos
    have hdd : 1 ≤ d ∧ pos + d ≤ n:=by
     have hdb:=uD_ l pos (by rw [← HNL.out]; exact hlt)
     rw [← HS.out,← HNL.out] at hdb
     rcases hdb with ⟨_,h2⟩ | ⟨_,_,h3,h4,_⟩
     · have e : d = 1:=by rw [hd,h2]
       omega
     · rw [← hd] at h3 h4
       exact ⟨h3,h4⟩
    have HI2:=hQ_ (Lib.iterAt_heap wr kI S pos (pos + d) HIr.out)
    have HC2:=hQ_ (show Chg [kI] w1 (wr.iterAt kI S (pos + d)) from HCr.out.trans ⟨rfl,rfl,rfl,by rw [Lib.iterAt_size]; exact Nat.le_refl _,fun i _ hn => Lib.iterAt_other wr kI i S (pos + d) (by simpa using hn)⟩)
    have HMP:=hQ_ (show wr.iterPos kI = pos from by unfold World.iterPos; rw [HIr.out])
    have HP2:=hQ_ (show (wr.iterAt kI S (pos + d)).iterPos kI = pos + d from by unfold World.iterPos; rw [HI2.out])
    have HDX:=hQ_ (And.intro hd hx)
    rw [← hd,← hx]
    generalize wr.iterAt kI S (pos + d) = w3 at HI2 HC2 HP2 ⊢
    clear hd hx hnx
    rcases HX.out with ⟨rfl,rfl⟩ | ⟨hn0,hp0,hr1,hr2⟩
    · have hne : l ≠ []:=fun h => by
       have e:=HNL.out
       rw [h,List.length_nil] at e
       omega
      have HX2:=hQ_ (show (0 + d = 0 ∧ x = 0) ∨ (0 < n ∧ 0 < 0 + d ∧ x = (ym_ l).1 ∧ (ym_ l).2 = l.drop (0 + d)) from by
       refine .inr ⟨hlt,by omega,?_,?_⟩
       · unfold ym_; rw [if_neg hne,HDX.out.2,HS.out]
       · unfold ym_; rw [if_neg hne,HDX.out.1,HS.out,Nat.zero_add])
      clear hne
      go_wp2_with fail
      go_roundw
      case rel => exact ⟨0 + d,x,rfl,hx2,by omega,HI2,HX2,HC2⟩
      case measure => rw [HP2.out,HMP.out]; omega
    · have hpI : (0 : Int) < (pos : Int):=by omega
      have hpJ : (0 : Int) ≤ (pos : Int):=by omega
      have hpS : (pos : Int) ≤ (S.size : Int):=by omega
      have hpT : (pos : Int) ≤ (n : Int):=by omega
      have hsn:=HSZ.out
      have HEX:=hQ_ (show S.extract pos S.size = zc_ (ym_ l).2 from by
       rw [HS.out,yo_,zw_,hr2,List.take_of_length_le (by rw [List.length_drop]; exact Nat.le_refl _)])
      have HEN:=hQ_ (show S.extract pos n = zc_ (ym_ l).2 from by rw [← hsn]; exact HEX.out)
      have HR1:=hQ_ hr1
      have HCF:=hQ_ (show Chg [] w w3.drew from (HCZ.out _ HC2.out).drew)
      clear hr1 hr2 hn0
      go_wp2_with fail
      go_region
      all_goals go_wp2_with fail
      all_goals go_ret2
      all_goals first | exact HPP.out _ _ _ HR1.out HEX.out HCF.out | exact HPP.out _ _ _ HR1.out HEN.out HCF.out
  · have hnx:=fun ty => Lib.run_next_end_at (P:=Tryz.prog) wr kI S pos ty HIr.out (by rw [HSZ.out]; exact hlt)
    obtain rfl : pos = n:=by omega
    have HPO:=hQ_ (HPP.out r ⟨#[]⟩ wr (by
     rcases HX.out with ⟨rfl,rfl⟩ | ⟨_,_,h,_⟩
     · have : l = []:=List.eq_nil_of_length_eq_zero HNL.out.symm
       unfold ym_; rw [if_pos this]
     · exact h) (by
     rcases HX.out with ⟨rfl,rfl⟩ | ⟨_,_,_,h⟩
     · have : l = []:=List.eq_nil_of_length_eq_zero HNL.out.symm
       unfold ym_; rw [if_pos this]; rfl
     · rw [h,HNL.out,List.drop_length]; rfl) (HCZ.out _ HCr.out))
    go_wp2_with fail
    go_ret2
    exact HPO.out
end
theorem zdf (l : List UInt8) : xT_ l = (match xv_ (ym_ l).2 with
  | some ([x],b) => if 48 ≤ x.toNat ∧ x.toNat ≤ 57 then some ⟨((ym_ l).1 : Int),((x.toNat - 48 : Nat) : Int),zc_ b⟩ else none
  | _ => none):=by
  unfold xT_ ym_
  by_cases h0 : l = []
  · subst h0
    rfl
  · rw [if_neg h0]
    show (match l.drop (Utf8.decode (zc_ l) 0).2 with | x :: y :: code => _ | _ => none) = _
    simp only
    generalize l.drop (Utf8.decode (zc_ l) 0).2 = R
    match R with
    | [] => rfl
    | [x] =>
      simp only [xv_]
      by_cases hx : x = 32
      · rw [if_pos hx]
      · rw [if_neg hx]; rfl
    | x :: y :: t =>
      simp only [xv_]
      by_cases hx : x = 32
      · rw [if_pos hx,if_neg]
        rintro ⟨_,h2,_⟩
        rw [hx] at h2
        exact absurd h2 (by decide)
      · rw [if_neg hx]
        by_cases hy : y = 32
        · rw [if_pos hy]
          simp only [Option.map_some]
          by_cases hd : 48 ≤ x.toNat ∧ x.toNat ≤ 57
          · rw [if_pos hd,if_pos ⟨h0,hd.1,hd.2,hy⟩]
            rfl
          · rw [if_neg hd,if_neg (fun h => hd ⟨h.2.1,h.2.2.1⟩)]
        · rw [if_neg hy,if_neg (fun h => hy h.2.2.2)]
          cases xv_ t with
          | none => rfl
          | some p => rfl
def qw_ (l : List UInt8) : Value:=match xT_ l with
  | some f => .tuple #[.agg (fnC f).toArray,.bool true]
  | none => .tuple #[.agg #[.int .i32 0,.int .i64 0,.string ⟨#[]⟩],.bool false]
def xo_ (l : List UInt8) (w : World) (e : Ending) (w' : World) : Prop:=e = .returned (qw_ l) ∧ Chg [] w w'
theorem zae (l : List UInt8) : (ym_ l).2.length ≤ l.length:=by
 unfold ym_
 split
 · simp
 · simp
section
variable {w : World}
theorem zay (l : List UInt8) (hl : l.length ≤ 1000000) : Calls Tryz.prog 95 #[.string (zc_ l)] w (xo_ l w):=by
 have hfl:=zae l
 have HF1:=hQ_ (fun (W : World) => gH_ (w:=W) l hl)
 have HC1:=hQ_ (fun (W : World) => qB_ (w:=W) (ym_ l).2 (by omega))
 obtain ⟨V,hV⟩ : ∃ V,V = qw_ l:=⟨_,rfl⟩
 unfold xo_
 rw [← hV]
 unfold qw_ at hV
 rw [zdf] at hV
 unfold kj_ at HF1
 unfold ud_ zdI at HC1
 have HV:=hQ_ hV
 clear hV hfl
 generalize (ym_ l).1 = r at *
 generalize (ym_ l).2 = R at *
 generalize xv_ R = o at *
 match o with
 | none =>
   simp only at HC1 HV
   go_enter Tryz.func95,Tryz.ntmps95
   go_upto_region 1 with fail
   have hN:=zb_.new w 58 [.int .i32 0,.int .i64 0,.string ⟨#[]⟩]
   have hal:=(Chg.refl [] w).alloc (.cells #[.int .i32 0,.int .i64 0,.string ⟨#[]⟩] 58)
   obtain ⟨g,hg⟩ : ∃ g,g = w.heap.size:=⟨_,rfl⟩
   rw [← hg] at hN ⊢
   have HG:=hQ_ hN
   have HW1:=hQ_ hal
   have HGS:=hQ_ hg
   generalize w.alloc (.cells #[.int .i32 0,.int .i64 0,.string ⟨#[]⟩] 58) = w1 at HG HW1 ⊢
   clear hN hal hg
   go_wp2_with (first
    | (go_at_call 117
       with_reducible refine (HF1.out _).mono ?_
       rintro e w2 ⟨rfl,hc2⟩
       have HQ2:=hQ_ (HW1.out.trans hc2)
       have HG2:=hQ_ (HG.out.keep hc2)
       clear hc2)
    | (go_at_call 115
       with_reducible refine (HC1.out _).mono ?_
       rintro e w3 ⟨rfl,hc3⟩
       have HQ5:=hQ_ (HQ2.out.trans hc3)
       have HG5:=hQ_ (HG2.out.keep hc3)
       have z0:=HG5.out.cell 0
       have z1:=HG5.out.cell 1
       have z2:=HG5.out.cell 2
       have f0:=HG5.out.frozen 0
       have f1:=HG5.out.frozen 1
       have f2:=HG5.out.frozen 2
       clear hc3))
   have hnl : ¬ g < w.heap.size:=by have:=HGS.out; omega
   have HC:=((HQ5.out.setCell (p:=⟨g,0,none⟩) (fun h => absurd h hnl) (.int .i32 0)).setCell (p:=⟨g,1,none⟩) (fun h => absurd h hnl) (.int .i64 0)).setCell (p:=⟨g,2,none⟩) (fun h => absurd h hnl) (.string ⟨#[]⟩)
   have HS:=((HG5.out.set_ 0 (.int .i32 0)).set_ 1 (.int .i64 0)).set_ 2 (.string ⟨#[]⟩)
   refine bodyPost_ret_by (ze_ rfl _ _ g 58 [(.int .i32 0),(.int .i64 0),(.string ⟨#[]⟩)] _ rfl HS Tryz.underlying58 (by kernel_rfl)) rfl ⟨by rw [HV.out]; rfl,HC⟩
 | some ([],b) =>
   simp only at HC1 HV
   have e0 : (zc_ ([] : List UInt8)).size = 0:=rfl
   go_enter Tryz.func95,Tryz.ntmps95
   go_upto_region 1 with fail
   have hN:=zb_.new w 58 [.int .i32 0,.int .i64 0,.string ⟨#[]⟩]
   have hal:=(Chg.refl [] w).alloc (.cells #[.int .i32 0,.int .i64 0,.string ⟨#[]⟩] 58)
   obtain ⟨g,hg⟩ : ∃ g,g = w.heap.size:=⟨_,rfl⟩
   rw [← hg] at hN ⊢
   have HG:=hQ_ hN
   have HW1:=hQ_ hal
   have HGS:=hQ_ hg
   generalize w.alloc (.cells #[.int .i32 0,.int .i64 0,.string ⟨#[]⟩] 58) = w1 at HG HW1 ⊢
   clear hN hal hg
   go_wp2_with (first
    | (go_at_call 117
       with_reducible refine (HF1.out _).mono ?_
       rintro e w2 ⟨rfl,hc2⟩
       have HQ2:=hQ_ (HW1.out.trans hc2)
       have HG2:=hQ_ (HG.out.keep hc2)
       clear hc2)
    | (go_at_call 115
       with_reducible refine (HC1.out _).mono ?_
       rintro e w3 ⟨rfl,hc3⟩
       have HQ5:=hQ_ (HQ2.out.trans hc3)
       have HG5:=hQ_ (HG2.out.keep hc3)
       have z0:=HG5.out.cell 0
       have z1:=HG5.out.cell 1
       have z2:=HG5.out.cell 2
       have f0:=HG5.out.frozen 0
       have f1:=HG5.out.frozen 1
       have f2:=HG5.out.frozen 2
       clear hc3))
   have hnl : ¬ g < w.heap.size:=by have:=HGS.out; omega
   have HC:=((HQ5.out.setCell (p:=⟨g,0,none⟩) (fun h => absurd h hnl) (.int .i32 0)).setCell (p:=⟨g,1,none⟩) (fun h => absurd h hnl) (.int .i64 0)).setCell (p:=⟨g,2,none⟩) (fun h => absurd h hnl) (.string ⟨#[]⟩)
   have HS:=((HG5.out.set_ 0 (.int .i32 0)).set_ 1 (.int .i64 0)).set_ 2 (.string ⟨#[]⟩)
   refine bodyPost_ret_by (ze_ rfl _ _ g 58 [(.int .i32 0),(.int .i64 0),(.string ⟨#[]⟩)] _ rfl HS Tryz.underlying58 (by kernel_rfl)) rfl ⟨by rw [HV.out]; rfl,HC⟩
 | some (x :: y :: a,b) =>
   simp only at HC1 HV
   have e0 : (zc_ (x :: y :: a)).size = a.length + 2:=by rw [zw_]; rfl
   have e1 : (((a.length + 2 : Nat) : Int) != 1) = true:=by simp; omega
   have e2 : (((zc_ (x :: y :: a)).size : Int) != 1) = true:=by rw [e0]; exact e1
   generalize zc_ (x :: y :: a) = S at *
   have HE0:=hQ_ e0
   clear e0 e1
   go_enter Tryz.func95,Tryz.ntmps95
   go_upto_region 1 with fail
   have hN:=zb_.new w 58 [.int .i32 0,.int .i64 0,.string ⟨#[]⟩]
   have hal:=(Chg.refl [] w).alloc (.cells #[.int .i32 0,.int .i64 0,.string ⟨#[]⟩] 58)
   obtain ⟨g,hg⟩ : ∃ g,g = w.heap.size:=⟨_,rfl⟩
   rw [← hg] at hN ⊢
   have HG:=hQ_ hN
   have HW1:=hQ_ hal
   have HGS:=hQ_ hg
   generalize w.alloc (.cells #[.int .i32 0,.int .i64 0,.string ⟨#[]⟩] 58) = w1 at HG HW1 ⊢
   clear hN hal hg
   go_wp2_with (first
    | (go_at_call 117
       with_reducible refine (HF1.out _).mono ?_
       rintro e w2 ⟨rfl,hc2⟩
       have HQ2:=hQ_ (HW1.out.trans hc2)
       have HG2:=hQ_ (HG.out.keep hc2)
       clear hc2)
    | (go_at_call 115
       with_reducible refine (HC1.out _).mono ?_
       rintro e w3 ⟨rfl,hc3⟩
       have HQ5:=hQ_ (HQ2.out.trans hc3)
       have HG5:=hQ_ (HG2.out.keep hc3)
       have z0:=HG5.out.cell 0
       have z1:=HG5.out.cell 1
       have z2:=HG5.out.cell 2
       have f0:=HG5.out.frozen 0
       have f1:=HG5.out.frozen 1
       have f2:=HG5.out.frozen 2
       clear hc3))
   have hnl : ¬ g < w.heap.size:=by have:=HGS.out; omega
   have HC:=((HQ5.out.setCell (p:=⟨g,0,none⟩) (fun h => absurd h hnl) (.int .i32 0)).setCell (p:=⟨g,1,none⟩) (fun h => absurd h hnl) (.int .i64 0)).setCell (p:=⟨g,2,none⟩) (fun h => absurd h hnl) (.string ⟨#[]⟩)
   have HS:=((HG5.out.set_ 0 (.int .i32 0)).set_ 1 (.int .i64 0)).set_ 2 (.string ⟨#[]⟩)
   refine bodyPost_ret_by (ze_ rfl _ _ g 58 [(.int .i32 0),(.int .i64 0),(.string ⟨#[]⟩)] _ rfl HS Tryz.underlying58 (by kernel_rfl)) rfl ⟨by rw [HV.out]; rfl,HC⟩
 | some ([x],b) =>
   simp only at HC1 HV
   have e0 : (zc_ [x]).size = 1:=by rw [zw_]; rfl
   have hg0 : ∀ h : 0 < (zc_ [x]).size,((zc_ [x])[0]'h).toNat = x.toNat:=by
    intro h
    have e1:=get_at (zc_ [x]) 0 h
    rw [Nat.add_zero,show (zc_ [x]).get! 0 = x from yy_ [x] 0] at e1
    rw [← e1]
   generalize zc_ [x] = S at *
   have hx:=x.toNat_lt
   generalize x.toNat = c at *
   by_cases h1 : c < 48
   · rw [if_neg (by omega)] at HV
     have q1 : decide ((c : Int) < 48) = true:=by simp; omega
     clear h1 hx
     go_enter Tryz.func95,Tryz.ntmps95
     go_upto_region 1 with fail
     have hN:=zb_.new w 58 [.int .i32 0,.int .i64 0,.string ⟨#[]⟩]
     have hal:=(Chg.refl [] w).alloc (.cells #[.int .i32 0,.int .i64 0,.string ⟨#[]⟩] 58)
     obtain ⟨g,hg⟩ : ∃ g,g = w.heap.size:=⟨_,rfl⟩
     rw [← hg] at hN ⊢
     have HG:=hQ_ hN
     have HW1:=hQ_ hal
     have HGS:=hQ_ hg
     generalize w.alloc (.cells #[.int .i32 0,.int .i64 0,.string ⟨#[]⟩] 58) = w1 at HG HW1 ⊢
     clear hN hal hg
     go_wp2_with (first
      | (go_at_call 117
         with_reducible refine (HF1.out _).mono ?_
         rintro e w2 ⟨rfl,hc2⟩
         have HQ2:=hQ_ (HW1.out.trans hc2)
         have HG2:=hQ_ (HG.out.keep hc2)
         clear hc2)
      | (go_at_call 115
         with_reducible refine (HC1.out _).mono ?_
         rintro e w3 ⟨rfl,hc3⟩
         have HQ5:=hQ_ (HQ2.out.trans hc3)
         have HG5:=hQ_ (HG2.out.keep hc3)
         have z0:=HG5.out.cell 0
         have z1:=HG5.out.cell 1
         have z2:=HG5.out.cell 2
         have f0:=HG5.out.frozen 0
         have f1:=HG5.out.frozen 1
         have f2:=HG5.out.frozen 2
         clear hc3))
     have hnl : ¬ g < w.heap.size:=by have:=HGS.out; omega
     have HC:=((HQ5.out.setCell (p:=⟨g,0,none⟩) (fun h => absurd h hnl) (.int .i32 0)).setCell (p:=⟨g,1,none⟩) (fun h => absurd h hnl) (.int .i64 0)).setCell (p:=⟨g,2,none⟩) (fun h => absurd h hnl) (.string ⟨#[]⟩)
     have HS:=((HG5.out.set_ 0 (.int .i32 0)).set_ 1 (.int .i64 0)).set_ 2 (.string ⟨#[]⟩)
     refine bodyPost_ret_by (ze_ rfl _ _ g 58 [(.int .i32 0),(.int .i64 0),(.string ⟨#[]⟩)] _ rfl HS Tryz.underlying58 (by kernel_rfl)) rfl ⟨by rw [HV.out]; rfl,HC⟩
   · have q1 : decide ((c : Int) < 48) = false:=by simp; omega
     by_cases h2 : 57 < c
     · rw [if_neg (by omega)] at HV
       have q2 : decide ((57 : Int) < (c : Int)) = true:=by simp; omega
       clear h1 h2 hx
       go_enter Tryz.func95,Tryz.ntmps95
       go_upto_region 1 with fail
       have hN:=zb_.new w 58 [.int .i32 0,.int .i64 0,.string ⟨#[]⟩]
       have hal:=(Chg.refl [] w).alloc (.cells #[.int .i32 0,.int .i64 0,.string ⟨#[]⟩] 58)
       obtain ⟨g,hg⟩ : ∃ g,g = w.heap.size:=⟨_,rfl⟩
       rw [← hg] at hN ⊢
       have HG:=hQ_ hN
       have HW1:=hQ_ hal
       have HGS:=hQ_ hg
       generalize w.alloc (.cells #[.int .i32 0,.int .i64 0,.string ⟨#[]⟩] 58) = w1 at HG HW1 ⊢
       clear hN hal hg
       go_wp2_with (first
        | (go_at_call 117
           with_reducible refine (HF1.out _).mono ?_
           rintro e w2 ⟨rfl,hc2⟩
           have HQ2:=hQ_ (HW1.out.trans hc2)
           have HG2:=hQ_ (HG.out.keep hc2)
           clear hc2)
        | (go_at_call 115
           with_reducible refine (HC1.out _).mono ?_
           rintro e w3 ⟨rfl,hc3⟩
           have HQ5:=hQ_ (HQ2.out.trans hc3)
           have HG5:=hQ_ (HG2.out.keep hc3)
           have z0:=HG5.out.cell 0
           have z1:=HG5.out.cell 1
           have z2:=HG5.out.cell 2
           have f0:=HG5.out.frozen 0
           have f1:=HG5.out.frozen 1
           have f2:=HG5.out.frozen 2
           clear hc3))
       have hnl : ¬ g < w.heap.size:=by have:=HGS.out; omega
       have HC:=((HQ5.out.setCell (p:=⟨g,0,none⟩) (fun h => absurd h hnl) (.int .i32 0)).setCell (p:=⟨g,1,none⟩) (fun h => absurd h hnl) (.int .i64 0)).setCell (p:=⟨g,2,none⟩) (fun h => absurd h hnl) (.string ⟨#[]⟩)
       have HS:=((HG5.out.set_ 0 (.int .i32 0)).set_ 1 (.int .i64 0)).set_ 2 (.string ⟨#[]⟩)
       refine bodyPost_ret_by (ze_ rfl _ _ g 58 [(.int .i32 0),(.int .i64 0),(.string ⟨#[]⟩)] _ rfl HS Tryz.underlying58 (by kernel_rfl)) rfl ⟨by rw [HV.out]; rfl,HC⟩
     · have q2 : decide ((57 : Int) < (c : Int)) = false:=by simp; omega
       rw [if_pos (by omega)] at HV
       have hw1 : IntKind.u8.wrap ((c : Int) - 48) = ((c - 48 : Nat) : Int):=by rw [IntKind.wrap_u8]; omega
       have hq9 : c - 48 ≤ 9:=by omega
       generalize c - 48 = q at *
       clear h1 h2 hx
       go_enter Tryz.func95,Tryz.ntmps95
       go_upto_region 1 with fail
       have hN:=zb_.new w 58 [.int .i32 0,.int .i64 0,.string ⟨#[]⟩]
       have hal:=(Chg.refl [] w).alloc (.cells #[.int .i32 0,.int .i64 0,.string ⟨#[]⟩] 58)
       obtain ⟨g,hg⟩ : ∃ g,g = w.heap.size:=⟨_,rfl⟩
       rw [← hg] at hN ⊢
       have HG:=hQ_ hN
       have HW1:=hQ_ hal
       have HGS:=hQ_ hg
       generalize w.alloc (.cells #[.int .i32 0,.int .i64 0,.string ⟨#[]⟩] 58) = w1 at HG HW1 ⊢
       clear hN hal hg
       go_wp2_with (first
        | (go_at_call 117
           with_reducible refine (HF1.out _).mono ?_
           rintro e w2 ⟨rfl,hc2⟩
           have HQ2:=hQ_ (HW1.out.trans hc2)
           have HG2:=hQ_ (HG.out.keep hc2)
           clear hc2)
        | (go_at_call 115
           with_reducible refine (HC1.out _).mono ?_
           rintro e w3 ⟨rfl,hc3⟩
           have HQ5:=hQ_ (HQ2.out.trans hc3)
           have HG5:=hQ_ (HG2.out.keep hc3)
           have z0:=HG5.out.cell 0
           have z1:=HG5.out.cell 1
           have z2:=HG5.out.cell 2
           have f0:=HG5.out.frozen 0
           have f1:=HG5.out.frozen 1
           have f2:=HG5.out.frozen 2
           clear hc3))
       have hnl : ¬ g < w.heap.size:=by have:=HGS.out; omega
       have HC:=((HQ5.out.setCell (p:=⟨g,0,none⟩) (fun h => absurd h hnl) (.int .i32 (r : Int))).setCell (p:=⟨g,1,none⟩) (fun h => absurd h hnl) (.int .i64 (q : Int))).setCell (p:=⟨g,2,none⟩) (fun h => absurd h hnl) (.string (zc_ b))
       have HS:=((HG5.out.set_ 0 (.int .i32 (r : Int))).set_ 1 (.int .i64 (q : Int))).set_ 2 (.string (zc_ b))
       refine bodyPost_ret_by (ze_ rfl _ _ g 58 [(.int .i32 (r : Int)),(.int .i64 (q : Int)),(.string (zc_ b))] _ rfl HS Tryz.underlying58 (by kernel_rfl)) rfl ⟨by rw [HV.out]; rfl,HC⟩
end
end Go.Proofs.YtbkfhndmeljlcaaGreatDoor
namespace Go.Proofs.YtbkfhndmeljlcaaGreatDoor
open Go.RowKit
theorem zdm {l : List UInt8} {d : Nat} (h : d + 2 ≤ l.length) : l.drop d = l.getD d 0 :: l.getD (d + 1) 0 :: l.drop (d + 2):=by
 rw [xD_ (l:=l) (p:=d) (by omega),xD_ (l:=l) (p:=d + 1) (by omega)]
section
variable {w : World}
theorem kW_ (l : List UInt8) (hl : l.length ≤ 1000000) : Calls Tryz.prog 86 #[.string (zc_ l)] w (xo_ l w):=by
 have HP0:=hQ_ (show xT_ l = none → ∀ wr,Chg [] w wr → xo_ l w (.returned (.tuple #[.agg #[.int .i32 0,.int .i64 0,.string ⟨#[]⟩],.bool false])) wr from fun h wr hc => ⟨by unfold qw_; rw [h],hc⟩)
 have HP1:=hQ_ (show ∀ f,xT_ l = some f → ∀ wr,Chg [] w wr → xo_ l w (.returned (.tuple #[.agg (fnC f).toArray,.bool true])) wr from fun f h wr hc => ⟨by unfold qw_; rw [h],hc⟩)
 generalize xo_ l w = PO at HP0 HP1 ⊢
 obtain ⟨S,hS⟩ : ∃ S,S = zc_ l:=⟨_,rfl⟩
 have hszS : S.size = l.length:=by rw [hS]; exact zw_ l
 obtain ⟨d,hd⟩ : ∃ d,d = (Utf8.decode S 0).2:=⟨_,rfl⟩
 obtain ⟨r,hr⟩ : ∃ r,r = (Utf8.decode S 0).1:=⟨_,rfl⟩
 have hr2 : r ≤ 2147483647:=by rw [hr]; exact decode_le S 0
 have hFP : xT_ l = (match l.drop d with
   | x :: y :: code => if l ≠ [] ∧ 48 ≤ x.toNat ∧ x.toNat ≤ 57 ∧ y = 32 then some ⟨(r : Int),((x.toNat - 48 : Nat) : Int),⟨code.toArray⟩⟩ else none
   | _ => none):=by
   unfold xT_
   rw [hd,hr,hS]
   rfl
 have HFP:=hQ_ hFP
 clear hFP
 have HAT:=hQ_ (fun (p : Nat) => show ∀ h : p < S.size,((S[p]'h).toNat : Nat) = (l.getD p 0).toNat from by
  intro h
  subst hS
  rw [uv_])
 have HEB:=hQ_ (fun (p : Nat) => show S.extract p l.length = zc_ (l.drop p) from by
  rw [hS,yo_]
  congr 1
  exact List.take_of_length_le (by rw [List.length_drop]; exact Nat.le_refl _))
 have hdp : 0 < l.length → 1 ≤ d ∧ d ≤ l.length:=fun h => by
  have h1:=uD_ l 0 h
  rw [hd,hS]
  rcases h1 with ⟨_,h2⟩ | ⟨_,_,h3,h4,_⟩
  · rw [h2]; simp only; omega
  · omega
 rw [← hS]
 clear hS
 obtain ⟨n,hn⟩ : ∃ n,n = l.length:=⟨_,rfl⟩
 rw [← hn] at hszS hl HEB hdp
 have HNL:=hQ_ hn
 clear hn
 have HSZ:=hQ_ hszS
 have HD:=hQ_ hd
 have HR:=hQ_ hr
 clear hd hr
 go_enter Tryz.func86,Tryz.ntmps86
 go_upto_region 1 with fail
 have hN:=zb_.new w 58 [.int .i32 0,.int .i64 0,.string ⟨#[]⟩]
 have hal:=(Chg.refl [] w).alloc (.cells #[.int .i32 0,.int .i64 0,.string ⟨#[]⟩] 58)
 obtain ⟨g,hg⟩ : ∃ g,g = w.heap.size:=⟨_,rfl⟩
 have hw1s : (w.alloc (.cells #[.int .i32 0,.int .i64 0,.string ⟨#[]⟩] 58)).heap.size = g + 1:=by rw [hg]; simp
 rw [← hg] at hN ⊢
 have hnl : ¬ g < w.heap.size:=by omega
 have HG1:=hQ_ hN
 have HC1:=hQ_ hal
 generalize w.alloc (.cells #[.int .i32 0,.int .i64 0,.string ⟨#[]⟩] 58) = w1 at HG1 HC1 hw1s ⊢
 clear hN hal hg
 go_upto_region 2 with fail
 have hN:=zb_.new w1 58 [.int .i32 0,.int .i64 0,.string ⟨#[]⟩]
 have hal:=(Chg.refl [] w1).alloc (.cells #[.int .i32 0,.int .i64 0,.string ⟨#[]⟩] 58)
 have hw2s : (w1.alloc (.cells #[.int .i32 0,.int .i64 0,.string ⟨#[]⟩] 58)).heap.size = g + 2:=by simp [hw1s]
 rw [hw1s] at hN
 have HF2:=hQ_ hN
 have HG2:=hQ_ (HG1.out.keep hal)
 have HC2:=hQ_ (HC1.out.trans hal)
 generalize w1.alloc (.cells #[.int .i32 0,.int .i64 0,.string ⟨#[]⟩] 58) = w2 at HF2 HG2 HC2 hw2s ⊢
 clear hN hal
 go_upto_region 4 with fail
 have hI : (w2.iter S 0).heap[w2.heap.size]? = some (.stringIter S 0):=World.iter_heap w2 S 0
 have hc0 : Chg [] w2 (w2.iter S 0):=(Chg.refl [] w2).alloc _
 rw [hw2s] at hI
 have HF3:=hQ_ (HF2.out.keep hc0)
 have HG3:=hQ_ (HG2.out.keep hc0)
 have HC3:=hQ_ (HC2.out.trans hc0)
 have HI3:=hQ_ hI
 generalize w2.iter S 0 = w3 at HF3 HG3 HC3 HI3 ⊢
 clear hI hc0
 have HZ:=hQ_ hw2s
 clear hw1s hw2s
 go_loopw [5] (fun f wr => f = .int .i64 0 ∧ ∃ (pos nm : Nat),Hid (wr.heap[g + 2]? = some (.stringIter S pos)) ∧ pos ≤ n ∧ (pos = 0 ∨ (pos = d ∧ 0 < n)) ∧ nm ≤ 2147483647 ∧ (pos = d → 0 < pos → nm = r) ∧ Hid (zb_ wr (g + 1) 58 [.int .i32 (nm : Int),.int .i64 0,.string ⟨#[]⟩]) ∧ Hid (zb_ wr g 58 [.int .i32 0,.int .i64 0,.string ⟨#[]⟩]) ∧ Hid (Chg [] w wr)) (fun _ wr => n - wr.iterPos (g + 2))
 case atStart => exact ⟨rfl,0,0,HI3,by omega,.inl rfl,by omega,fun _ h => by omega,HF3,HG3,HC3⟩
 case round =>
  obtain ⟨rfl,pos,nm,HIr,hpn,hpos,hnm,hnmr,HFr,HGr,HCr⟩:=hrel
  have HMP:=hQ_ (show wr.iterPos (g + 2) = pos from by unfold World.iterPos; rw [HIr.out])
  by_cases hlt : pos < n
  · have hltS : pos < S.size:=by rw [HSZ.out]; exact hlt
    have hnx:=fun ty => Lib.run_next_any_at (P:=Tryz.prog) wr (g + 2) S pos ty HIr.out hltS
    obtain ⟨hd1,hdn⟩:=hdp (by omega)
    go_upto_region 6 with fail
    obtain ⟨d2,hd2⟩ : ∃ d,d = (Utf8.decode S pos).2:=⟨_,rfl⟩
    obtain ⟨x2,hx2⟩ : ∃ r,r = (Utf8.decode S pos).1:=⟨_,rfl⟩
    have hx2b : x2 ≤ 2147483647:=by rw [hx2]; exact decode_le S pos
    have HI4:=hQ_ (Lib.iterAt_heap wr (g + 2) S pos (pos + d2) HIr.out)
    have hcI : Chg [g + 2] wr (wr.iterAt (g + 2) S (pos + d2)):=⟨rfl,rfl,rfl,by rw [Lib.iterAt_size]; exact Nat.le_refl _,fun i _ hn => Lib.iterAt_other wr (g + 2) i S (pos + d2) (by simpa using hn)⟩
    have HF4:=hQ_ (HFr.out.chg hcI (by simp))
    have HG4:=hQ_ (HGr.out.chg hcI (by simp))
    have HC4:=hQ_ (HCr.out.then_ hcI (fun i hi hlt => by simp at hi; omega))
    rw [← hd2,← hx2]
    generalize wr.iterAt (g + 2) S (pos + d2) = w4 at HI4 HF4 HG4 HC4 ⊢
    clear hnx hcI
    by_cases hp0 : pos = 0
    · subst hp0
      obtain rfl : d2 = d:=by rw [hd2,HD.out]
      obtain rfl : x2 = r:=by rw [hx2,HR.out]
      have c0:=HF4.out.cell 0
      have q0:=HF4.out.frozen 0
      have HF5:=hQ_ (show zb_ (w4.setCell ⟨g + 1,0,none⟩ (.int .i32 (x2 : Int))) (g + 1) 58 [.int .i32 (x2 : Int),.int .i64 0,.string ⟨#[]⟩] from by have:=HF4.out.set_ 0 (.int .i32 (x2 : Int)); simpa using this)
      have HG5:=hQ_ (HG4.out.far (p:=⟨g + 1,0,none⟩) (by simp) (.int .i32 (x2 : Int)))
      have HC5:=hQ_ (HC4.out.setCell (p:=⟨g + 1,0,none⟩) (fun h => by simp only at h; omega) (.int .i32 (x2 : Int)))
      have HI5:=hQ_ (show (w4.setCell ⟨g + 1,0,none⟩ (.int .i32 (x2 : Int))).heap[g + 2]? = some (.stringIter S (0 + d2)) from (Below.heap_setCell w4 ⟨g + 1,0,none⟩ (.int .i32 (x2 : Int)) (g + 2) (by simp)).trans HI4.out)
      have HP5:=hQ_ (show (w4.setCell ⟨g + 1,0,none⟩ (.int .i32 (x2 : Int))).iterPos (g + 2) = 0 + d2 from by unfold World.iterPos; rw [HI5.out])
      clear hd2 hx2
      go_wp2_with fail
      go_roundw
      case rel => exact ⟨rfl,0 + d2,x2,HI5,by omega,.inr ⟨by omega,by omega⟩,hx2b,fun _ _ => rfl,HF5,HG5,HC5⟩
      case measure => rw [HP5.out,HMP.out]; omega
    · obtain ⟨rfl,_⟩:=hpos.resolve_left hp0
      have hnr:=hnmr rfl (by omega)
      subst hnr
      have hp0I : (0 : Int) < (pos : Int):=by omega
      have hpz : ((pos : Int) == 0) = false:=by simp; omega
      clear hd2 hx2 hnmr hpos
      by_cases h2 : n < pos + 2
      · have HZZ:=hQ_ (show xT_ l = none from by
         rw [HFP.out]
         have hlen:=congrArg List.length (show l.drop pos = l.drop pos from rfl)
         match hm : l.drop pos with
         | [] => rfl
         | [x] => rfl
         | x :: y :: c =>
           have h3:=congrArg List.length hm
           rw [List.length_drop,← HNL.out] at h3
           simp at h3
           omega)
        have b2 : decide ((n : Int) < (pos : Int) + 2) = true:=decide_eq_true (by omega)
        have z0:=HG4.out.cell 0
        have z1:=HG4.out.cell 1
        have z2:=HG4.out.cell 2
        have f0:=HG4.out.frozen 0
        have f1:=HG4.out.frozen 1
        have f2:=HG4.out.frozen 2
        go_wp2_with fail
        have HCF:=((HC4.out.setCell (p:=⟨g,0,none⟩) (fun h => absurd h hnl) (.int .i32 0)).setCell (p:=⟨g,1,none⟩) (fun h => absurd h hnl) (.int .i64 0)).setCell (p:=⟨g,2,none⟩) (fun h => absurd h hnl) (.string ⟨#[]⟩)
        have HSS:=((HG4.out.set_ 0 (.int .i32 0)).set_ 1 (.int .i64 0)).set_ 2 (.string ⟨#[]⟩)
        exact bodyPost_ret_by (ze_ (p:=2) (u:=3) (ty:=58) rfl _ _ g 58 [.int .i32 0,.int .i64 0,.string ⟨#[]⟩] _ rfl HSS Tryz.underlying58 (by kernel_rfl)) rfl (HP0.out HZZ.out _ HCF)
      · have b2 : decide ((n : Int) < (pos : Int) + 2) = false:=decide_eq_false (by omega)
        have hdr:=zdm (l:=l) (d:=pos) (by rw [← HNL.out]; omega)
        have hat:=HAT.out pos
        have hat2:=HAT.out (pos + 1)
        have HFQ:=hQ_ (show xT_ l = if l ≠ [] ∧ 48 ≤ (l.getD pos 0).toNat ∧ (l.getD pos 0).toNat ≤ 57 ∧ l.getD (pos + 1) 0 = 32 then some ⟨(nm : Int),(((l.getD pos 0).toNat - 48 : Nat) : Int),⟨(l.drop (pos + 2)).toArray⟩⟩ else none from by rw [HFP.out,hdr])
        have hne : l ≠ []:=fun h => by rw [h] at HNL; have:=HNL.out; simp at this; omega
        have HNE:=hQ_ hne
        have hpS1 : pos < S.size:=by omega
        have hpS2 : pos + 1 < S.size:=by omega
        have hpI1 : (pos : Int) < (n : Int):=by omega
        have hpI2 : (pos : Int) + 1 < (n : Int):=by omega
        have hpI3 : (pos : Int) + 2 ≤ (n : Int):=by omega
        have hx255 : (l.getD pos 0).toNat < 256:=UInt8.toNat_lt _
        clear hdr hne
        generalize l.getD (pos + 1) 0 = y at hat2 HFQ
        generalize (l.getD pos 0).toNat = x at hat hx255 HFQ
        by_cases hx48 : x < 48
        · have HZZ:=hQ_ (show xT_ l = none from by rw [HFQ.out,if_neg (by omega)])
          have b3 : decide ((x : Int) < 48) = true:=decide_eq_true (by omega)
          have z0:=HG4.out.cell 0
          have z1:=HG4.out.cell 1
          have z2:=HG4.out.cell 2
          have f0:=HG4.out.frozen 0
          have f1:=HG4.out.frozen 1
          have f2:=HG4.out.frozen 2
          go_wp2_with fail
          have HCF:=((HC4.out.setCell (p:=⟨g,0,none⟩) (fun h => absurd h hnl) (.int .i32 0)).setCell (p:=⟨g,1,none⟩) (fun h => absurd h hnl) (.int .i64 0)).setCell (p:=⟨g,2,none⟩) (fun h => absurd h hnl) (.string ⟨#[]⟩)
          have HSS:=((HG4.out.set_ 0 (.int .i32 0)).set_ 1 (.int .i64 0)).set_ 2 (.string ⟨#[]⟩)
          exact bodyPost_ret_by (ze_ (p:=2) (u:=3) (ty:=58) rfl _ _ g 58 [.int .i32 0,.int .i64 0,.string ⟨#[]⟩] _ rfl HSS Tryz.underlying58 (by kernel_rfl)) rfl (HP0.out HZZ.out _ HCF)
        · have b3 : decide ((x : Int) < 48) = false:=decide_eq_false (by omega)
          by_cases hx57 : 57 < x
          · have HZZ:=hQ_ (show xT_ l = none from by rw [HFQ.out,if_neg (by omega)])
            have b4 : decide ((57 : Int) < (x : Int)) = true:=decide_eq_true (by omega)
            have z0:=HG4.out.cell 0
            have z1:=HG4.out.cell 1
            have z2:=HG4.out.cell 2
            have f0:=HG4.out.frozen 0
            have f1:=HG4.out.frozen 1
            have f2:=HG4.out.frozen 2
            go_wp2_with fail
            have HCF:=((HC4.out.setCell (p:=⟨g,0,none⟩) (fun h => absurd h hnl) (.int .i32 0)).setCell (p:=⟨g,1,none⟩) (fun h => absurd h hnl) (.int .i64 0)).setCell (p:=⟨g,2,none⟩) (fun h => absurd h hnl) (.string ⟨#[]⟩)
            have HSS:=((HG4.out.set_ 0 (.int .i32 0)).set_ 1 (.int .i64 0)).set_ 2 (.string ⟨#[]⟩)
            exact bodyPost_ret_by (ze_ (p:=2) (u:=3) (ty:=58) rfl _ _ g 58 [.int .i32 0,.int .i64 0,.string ⟨#[]⟩] _ rfl HSS Tryz.underlying58 (by kernel_rfl)) rfl (HP0.out HZZ.out _ HCF)
          · have b4 : decide ((57 : Int) < (x : Int)) = false:=decide_eq_false (by omega)
            by_cases hy : y = 32
            · have HVV:=hQ_ (HP1.out _ (by rw [HFQ.out,if_pos ⟨HNE.out,by omega,by omega,hy⟩]))
              rw [hy] at hat2
              have hat3 : ∀ h : pos + 1 < S.size,(S[pos + 1]'h).toNat = 32:=hat2
              have heb:=HEB.out (pos + 2)
              have hwx : IntKind.u8.wrap ((x : Int) - 48) = ((x - 48 : Nat) : Int):=by rw [IntKind.wrap_u8]; omega
              have hq9 : x - 48 ≤ 9:=by omega
              obtain ⟨q,hq⟩ : ∃ q,q = x - 48:=⟨_,rfl⟩
              rw [← hq] at hwx HVV hq9
              obtain ⟨CD,hCD⟩ : ∃ C,C = zc_ (l.drop (pos + 2)):=⟨_,rfl⟩
              rw [← hCD] at heb
              have HCD:=hQ_ (show (⟨(l.drop (pos + 2)).toArray⟩ : ByteArray) = CD from hCD.symm)
              rw [HCD.out] at HVV
              clear hat2 hy hq hCD
              have c0:=HF4.out.cell 0
              have c1:=HF4.out.cell 1
              have c2:=HF4.out.cell 2
              have q1:=HF4.out.frozen 1
              have q2:=HF4.out.frozen 2
              have z0:=HG4.out.cell 0
              have z1:=HG4.out.cell 1
              have z2:=HG4.out.cell 2
              have f0:=HG4.out.frozen 0
              have f1:=HG4.out.frozen 1
              have f2:=HG4.out.frozen 2
              go_wp2_with fail
              have HG6:=hQ_ ((HG4.out.far (p:=⟨g + 1,1,none⟩) (by simp) (.int .i64 (q : Int))).far (p:=⟨g + 1,2,none⟩) (by simp) (.string CD))
              have HC6:=hQ_ ((HC4.out.setCell (p:=⟨g + 1,1,none⟩) (fun h => by simp only at h; omega) (.int .i64 (q : Int))).setCell (p:=⟨g + 1,2,none⟩) (fun h => by simp only at h; omega) (.string CD))
              have HCF:=((HC6.out.setCell (p:=⟨g,0,none⟩) (fun h => absurd h hnl) (.int .i32 (nm : Int))).setCell (p:=⟨g,1,none⟩) (fun h => absurd h hnl) (.int .i64 (q : Int))).setCell (p:=⟨g,2,none⟩) (fun h => absurd h hnl) (.string CD)
              have HSS:=((HG6.out.set_ 0 (.int .i32 (nm : Int))).set_ 1 (.int .i64 (q : Int))).set_ 2 (.string CD)
              exact bodyPost_ret_by (ze_ (p:=2) (u:=3) (ty:=58) rfl _ _ g 58 [.int .i32 (nm : Int),.int .i64 (q : Int),.string CD] _ rfl HSS Tryz.underlying58 (by kernel_rfl)) rfl (HVV.out _ HCF)
            · have HZZ:=hQ_ (show xT_ l = none from by rw [HFQ.out,if_neg (fun h => hy h.2.2.2)])
              have hyn : y.toNat ≠ 32:=fun h => hy (UInt8.toNat_inj.1 (by rw [h]; rfl))
              generalize y.toNat = z at hat2 hyn
              have b5 : ((z : Int) == 32) = false:=by simp; omega
              have b6 : ((z : Int) != 32) = true:=by simp; omega
              have z0:=HG4.out.cell 0
              have z1:=HG4.out.cell 1
              have z2:=HG4.out.cell 2
              have f0:=HG4.out.frozen 0
              have f1:=HG4.out.frozen 1
              have f2:=HG4.out.frozen 2
              go_wp2_with fail
              have HCF:=((HC4.out.setCell (p:=⟨g,0,none⟩) (fun h => absurd h hnl) (.int .i32 0)).setCell (p:=⟨g,1,none⟩) (fun h => absurd h hnl) (.int .i64 0)).setCell (p:=⟨g,2,none⟩) (fun h => absurd h hnl) (.string ⟨#[]⟩)
              have HSS:=((HG4.out.set_ 0 (.int .i32 0)).set_ 1 (.int .i64 0)).set_ 2 (.string ⟨#[]⟩)
              exact bodyPost_ret_by (ze_ (p:=2) (u:=3) (ty:=58) rfl _ _ g 58 [.int .i32 0,.int .i64 0,.string ⟨#[]⟩] _ rfl HSS Tryz.underlying58 (by kernel_rfl)) rfl (HP0.out HZZ.out _ HCF)
  · have hnx:=fun ty => Lib.run_next_end_at (P:=Tryz.prog) wr (g + 2) S pos ty HIr.out (by omega)
    have HZZ:=hQ_ (show xT_ l = none from by
     rw [HFP.out]
     by_cases h0 : n = 0
     · have : l = []:=List.eq_nil_of_length_eq_zero (by rw [← HNL.out]; exact h0)
       subst this
       simp
     · have hpd : pos = d:=by omega
       rw [← hpd,List.drop_eq_nil_of_le (by rw [← HNL.out]; omega)])
    have z0:=HGr.out.cell 0
    have z1:=HGr.out.cell 1
    have z2:=HGr.out.cell 2
    have f0:=HGr.out.frozen 0
    have f1:=HGr.out.frozen 1
    have f2:=HGr.out.frozen 2
    go_wp2_with fail
    have HCF:=((HCr.out.setCell (p:=⟨g,0,none⟩) (fun h => absurd h hnl) (.int .i32 0)).setCell (p:=⟨g,1,none⟩) (fun h => absurd h hnl) (.int .i64 0)).setCell (p:=⟨g,2,none⟩) (fun h => absurd h hnl) (.string ⟨#[]⟩)
    have HSS:=((HGr.out.set_ 0 (.int .i32 0)).set_ 1 (.int .i64 0)).set_ 2 (.string ⟨#[]⟩)
    exact bodyPost_ret_by (ze_ (p:=2) (u:=3) (ty:=58) rfl _ _ g 58 [.int .i32 0,.int .i64 0,.string ⟨#[]⟩] _ rfl HSS Tryz.underlying58 (by kernel_rfl)) rfl (HP0.out HZZ.out _ HCF)
end
end Go.Proofs.YtbkfhndmeljlcaaGreatDoor
