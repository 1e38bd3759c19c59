import Derived.Test.YtbkfhndmeljlcaaGreatDoorZB10
import Derived.Deep.CutBlock
set_option maxRecDepth 100000
set_option maxHeartbeats 16000000
namespace Go.Proofs.YtbkfhndmeljlcaaGreatDoor
open Go.RowKit
theorem zbU {rs : List Nat} {r : Nat} {ys ys' : List TkV} {ph ph' : GPh} (h : zN_ ys ph r = some (ys',ph')) : vo_ (r :: rs) ys ph = vo_ rs ys' ph':=by rw [vo_,h]
theorem zbS {rs : List Nat} {r : Nat} {ys : List TkV} {ph : GPh} (h : zN_ ys ph r = none) : vo_ (r :: rs) ys ph = none:=by rw [vo_,h]
theorem gU_ {w w' : World} {B n k : Nat} {e : TypeId} {v : Value} {xs : List Value} {T : List Nat} (h : w.ownsRow B e k v n xs) (hc : Chg T w w') (hT : ∀ g,v.ownBlock = some g → g ∉ T) : w'.ownsRow B e k v n xs:=by
 refine ⟨h.1,?_⟩
 rcases h.2 with h1 | ⟨g,cap,cur,rfl,hb,hg,r⟩
 · exact .inl h1
 · refine .inr ⟨g,cap,cur,rfl,hb,?_,r⟩
   have hlt : g < w.heap.size:=by
    rcases Nat.lt_or_ge g w.heap.size with h | h
    · exact h
    · rw [Array.getElem?_eq_none h] at hg; cases hg
   exact (hc.block g hlt (hT g rfl)).trans hg
theorem jE_ {w : World} {B n k b : Nat} {e : TypeId} {v : Value} {xs : List Value} {s : ByteArray} {pos : Nat} (h : w.ownsRow B e k v n xs) (hb : w.heap[b]? = some (.stringIter s pos)) : v.ownBlock ≠ some b:=by
 intro hv
 rcases h.2 with ⟨rfl,_⟩ | ⟨g,cap,cur,rfl,_,hg,_⟩
 · simp [Value.ownBlock] at hv
 · simp [Value.ownBlock] at hv
   subst hv
   rw [hg] at hb
   injection hb with hb
   cases hb
theorem Gl.chg {W W' : World} {g : Nat} {v : Value} {ys : List TkV} {ph : GPh} {T : List Nat} (h : Gl W g v ys ph) (hc : Chg T W W') (hg : g ∉ T) (hv : ∀ b,v.ownBlock = some b → b ∉ T) : Gl W' g v ys ph:=⟨h.rec_.chg hc hg,gU_ h.own hc hv,h.few,h.big⟩
section
variable {w : World}
theorem u7_ (s : ByteArray) (hs : s.size ≤ 9223372036854775807) : Calls Tryz.prog 58 #[.string s] w (xt_ s w):=by
 by_cases hlong : 512 < s.size
 · have hlI : (512 : Int) < (s.size : Int):=by omega
   have HPO:=hQ_ (show xt_ s w (.returned (.tuple #[.slice none 0 0,.int .i64 3])) w from ⟨Chg.refl _ _,.inr ⟨by unfold xU_; rw [if_pos hlong],by unfold kO_; rw [if_pos hlong]⟩⟩)
   go_enter Tryz.func58,Tryz.ntmps58
   go_wp2_with fail
   go_ret2
   exact HPO.out
 have hlI : ¬ (512 : Int) < (s.size : Int):=by omega
 have HRT:=hQ_ (k7_ s hlong)
 have HE:=hQ_ (show kO_ s = 12 from by unfold kO_; rw [if_neg hlong])
 have hsz : s.size ≤ 512:=by omega
 clear hlong
 go_enter Tryz.func58,Tryz.ntmps58
 go_upto_region 5 with fail
 have hr1:=zb_.new w 132 [.slice none 0 0,.bool false,.bool false]
 have hc1:=(Chg.refl [] w).alloc (.cells #[.slice none 0 0,.bool false,.bool false] 132)
 have hz1 : (w.alloc (.cells #[.slice none 0 0,.bool false,.bool false] 132)).heap.size = w.heap.size + 1:=Array.size_push _
 obtain ⟨g,hg⟩ : ∃ g,g = w.heap.size:=⟨_,rfl⟩
 rw [← hg] at hr1 hz1 ⊢
 generalize w.alloc (.cells #[.slice none 0 0,.bool false,.bool false] 132) = w1 at hr1 hc1 hz1 ⊢
 have hI : (w1.iter s 0).heap[w1.heap.size]? = some (.stringIter s 0):=World.iter_heap w1 s 0
 have hc0 : Chg [] w1 (w1.iter s 0):=(Chg.refl [] w1).alloc _
 rw [hz1] at hI
 obtain ⟨kI,hkI⟩ : ∃ k,k = g + 1:=⟨_,rfl⟩
 have HK:=hQ_ (show g < kI from by omega)
 have HGW:=hQ_ (show w.heap.size = g from hg.symm)
 have HG1:=hQ_ (show Gl (w1.iter s 0) g (.slice none 0 0) [] .idle from ⟨hr1.keep hc0,World.ownsRow_nil _ _ _ _,by simp,fun m e => by cases e⟩)
 rw [← hkI] at hI ⊢
 have HC0:=hQ_ (hc1.new hc0)
 generalize w1.iter s 0 = w2 at hI hc0 HG1 HC0 ⊢
 have HI:=hQ_ hI
 clear hI hc0 hkI hr1 hc1 hz1 hg
 go_loopw [6] (fun _ wr => (∃ (pos f : Nat) (v : Value) (ys : List TkV) (ph : GPh),Hid (wr.heap[kI]? = some (.stringIter s pos)) ∧ s.size - pos ≤ f ∧ Hid (Gl wr g v ys ph) ∧ Hid (xU_ s = vo_ (zv_ s f pos) ys ph) ∧ ys.length + (pend ph).length + f ≤ s.size) ∧ Hid (Chg [] w wr)) (fun _ wr => s.size - wr.iterPos kI)
 case atStart => exact ⟨⟨0,s.size,_,_,_,HI,by omega,HG1,hQ_ (by rw [HRT.out]; rfl),by simp [pend]⟩,HC0⟩
 case round =>
  obtain ⟨⟨pos,f,v,ys,ph,HIr,hf,HG,HR,hyl⟩,HC⟩:=hrel
  by_cases hlt : pos < s.size
  · obtain ⟨f',rfl⟩ : ∃ f',f = f' + 1:=⟨f - 1,by omega⟩
    have hnx:=fun ty => Lib.run_next_any_at (P:=Tryz.prog) wr kI s pos ty HIr.out hlt
    go_upto_region 7 with fail
    obtain ⟨d,hd⟩ : ∃ d,d = (Utf8.decode s pos).2:=⟨_,rfl⟩
    obtain ⟨x,hx⟩ : ∃ r,r = (Utf8.decode s pos).1:=⟨_,rfl⟩
    have hw:=y6_ s pos hlt
    have hxm : x ≤ 2147483647:=by rw [hx]; exact decode_le s pos
    rw [← hd] at hw
    have HR2:=hQ_ (show xU_ s = vo_ (x :: zv_ s f' (pos + d)) ys ph from by rw [HR.out,zv_,if_pos hlt,← hd,← hx])
    have hci : Chg [kI] wr (wr.iterAt kI s (pos + d)):=⟨rfl,rfl,rfl,by rw [Lib.iterAt_size]; exact Nat.le_refl _,fun i _ hn => Lib.iterAt_other wr kI i s (pos + d) (by simpa using hn)⟩
    have HI2:=hQ_ (Lib.iterAt_heap wr kI s pos (pos + d) HIr.out)
    have HC2:=hQ_ (show Chg [] w (wr.iterAt kI s (pos + d)) from HC.out.then_ hci (fun i hi hl => by have:=HK.out; have:=HGW.out; simp only [List.mem_cons,List.not_mem_nil,or_false] at hi; omega))
    have HG2:=hQ_ (show Gl (wr.iterAt kI s (pos + d)) g v ys ph from HG.out.chg hci (by have:=HK.out; simp; omega) (fun b hb => by
     have:=jE_ HG.out.own HIr.out
     intro hm
     simp only [List.mem_cons,List.not_mem_nil,or_false] at hm
     subst hm
     exact this hb))
    rw [← hd,← hx]
    have HMP:=hQ_ (show wr.iterPos kI = pos from by unfold World.iterPos; rw [HIr.out])
    have HP2:=hQ_ (show (wr.iterAt kI s (pos + d)).iterPos kI = pos + d from by unfold World.iterPos; rw [HI2.out])
    generalize wr.iterAt kI s (pos + d) = w3 at HI2 HC2 HP2 HG2 ⊢
    clear hx hd hnx hci
    go_wp2_with fail
    refine (zbO HG2.out x hxm (by omega)).mono ?_
    rintro e w4 ⟨hfr,ho⟩
    have HI4:=hQ_ (hfr.obj HI2.out (by intro _ _ _ h; cases h))
    have HP4:=hQ_ (show w4.iterPos kI = pos + d from by unfold World.iterPos; rw [HI4.out])
    have HC4:=hQ_ (show Chg [] w w4 from (Fr.chg (B:=g) (TS:=glT) ((Fr.of_chg HC2.out).trans hfr) (by have:=HGW.out; omega)))
    clear hfr
    rcases ho with ⟨ho,rfl⟩ | ⟨ys',ph',v',ho,rfl,hG⟩
    · have HPO:=hQ_ (show xt_ s w (.returned (.tuple #[.slice none 0 0,.int .i64 12])) w4 from ⟨HC4.out,.inr ⟨by rw [HR2.out,zbS ho],by rw [HE.out]⟩⟩)
      clear ho
      go_wp2_with fail
      go_ret2
      exact HPO.out
    · have hyl' : ys'.length + (pend ph').length + f' ≤ s.size:=by have:=zbR ho; omega
      have HR4:=hQ_ (show xU_ s = vo_ (zv_ s f' (pos + d)) ys' ph' from by rw [HR2.out,zbU ho])
      have HG4:=hQ_ hG
      clear ho hG
      go_wp2_with fail
      go_roundw
      case rel => exact ⟨⟨pos + d,f',v',ys',ph',HI4,by omega,HG4,HR4,hyl'⟩,HC4⟩
      case measure => rw [HP4.out,HMP.out]; omega
  · have hnx:=fun ty => Lib.run_next_end_at (P:=Tryz.prog) wr kI s pos ty HIr.out hlt
    have HRE:=hQ_ (show xU_ s = gc_ ys ph from by
     rw [HR.out]
     cases f with
     | zero => simp [zv_,vo_]
     | succ f => rw [zv_,if_neg hlt,vo_])
    have c2:=HG.out.rec_.cell 2
    have c0:=HG.out.rec_.cell 0
    cases hwt : waits ph with
    | true =>
      have HPO:=hQ_ (show xt_ s w (.returned (.tuple #[.slice none 0 0,.int .i64 12])) wr from ⟨HC.out,.inr ⟨(by
       rw [HRE.out]
       cases ph with
       | wait q => rfl
       | num m => cases hwt
       | idle => cases hwt),by rw [HE.out]⟩⟩)
      rw [hwt] at c2
      clear hwt
      go_wp2_with fail
      go_ret2
      exact HPO.out
    | false =>
      have HPO:=hQ_ (show xt_ s w (.returned (.tuple #[v,.int .i64 0])) wr from ⟨HC.out,.inl ⟨ys ++ pend ph,v,(by
       rw [HRE.out]
       cases ph with
       | wait q => cases hwt
       | num m => rfl
       | idle => rw [pend,List.append_nil]; rfl),by rw [List.length_append]; omega,rfl,by
       have:=HG.out.own
       rw [List.length_append]
       exact z8_ this (by have:=HGW.out; omega)⟩⟩)
      rw [hwt] at c2
      obtain ⟨A5,n5,c5,rfl,hn5⟩:=HG.out.slice
      clear hwt hn5
      go_wp2_with fail
      go_ret2
      exact HPO.out
end
end Go.Proofs.YtbkfhndmeljlcaaGreatDoor
namespace Go.Proofs.YtbkfhndmeljlcaaGreatDoor
open Go.RowKit
section
variable {A : Option Addr} {n c : Nat} {l : List FnV} {pages most : Int}
theorem Fr.whole' {B : Nat} {TS : List TypeId} {a b : World} (h : Fr B TS a b) {g t : Nat} {cs : List Value} (hW : zb_ a g t cs) (ht : TS.contains t = false) : zb_ b g t cs:=h.whole hW (by simpa using ht)
theorem zcm {w : World} (hF : Fnr w A n c l) (hcode : ∀ f ∈ l,f.code.size ≤ 9223372036854775807) (k : Int) : Calls Tryz.prog 83 #[z2_ pages most A n c,.int .i64 k] w (yz_ (rFn l k) w):=by
 unfold z2_
 obtain ⟨i0,hi0,hz0,hz1,hz2⟩:=info_parts ve_
 obtain ⟨R,hR⟩ : ∃ R,R = rFn l k:=⟨_,rfl⟩
 rw [← hR]
 unfold rFn at hR
 rw [hF.len] at hR
 have HR:=hQ_ hR
 have H:=hQ_ hF
 have hmax:=hF.max
 clear hF hR
 go_enter Tryz.func83,Tryz.ntmps83
 go_upto_region 1 with fail
 have hN:=zb_.new w 24 [.int .i64 pages,.int .i64 most,.slice A n c]
 have hal : Chg [] w (w.alloc (.cells #[.int .i64 pages,.int .i64 most,.slice A n c] 24)):=(Chg.refl [] w).alloc _
 have HF1:=hQ_ (H.out.keep hal)
 have HU1:=hQ_ hN
 have HC1:=hQ_ hal
 have HBW:=hQ_ (show w.heap.size ≤ w.heap.size from Nat.le_refl _)
 obtain ⟨gu,hgu⟩ : ∃ g,g = w.heap.size:=⟨_,rfl⟩
 rw [← hgu] at HU1 ⊢
 generalize w.alloc (.cells #[.int .i64 pages,.int .i64 most,.slice A n c] 24) = w1 at HF1 HU1 HC1 ⊢
 clear hN hal hgu
 have u2:=HU1.out.cell 2
 by_cases hk0 : k < 0
 · have qk : decide (k < 0) = true:=by simpa using hk0
   have HP:=hQ_ (show yz_ R w (.returned (.tuple #[.slice none 0 0,.int .i64 23])) w1 from uq_ 23 (by rw [HR.out,if_pos (.inl hk0)]) HC1.out)
   clear hk0
   go_wp2_with fail
   go_ret2
   exact HP.out
 have qk : decide (k < 0) = false:=by simpa using hk0
 by_cases hkn : (n : Int) ≤ k
 · have qn : decide ((n : Int) ≤ k) = true:=by simpa using hkn
   have HP:=hQ_ (show yz_ R w (.returned (.tuple #[.slice none 0 0,.int .i64 23])) w1 from uq_ 23 (by rw [HR.out,if_pos (.inr hkn)]) HC1.out)
   clear hkn hk0
   go_wp2_with fail
   go_ret2
   exact HP.out
 have qn : decide ((n : Int) ≤ k) = false:=by simpa using hkn
 obtain ⟨q,rfl⟩ : ∃ q : Nat,k = (q : Int):=⟨k.toNat,by omega⟩
 have hqn : q < n:=by omega
 obtain ⟨f,hfk⟩ : ∃ f,l[q]? = some f:=⟨l[q]'(by rw [HF1.out.len]; exact hqn),by simp⟩
 have HR1:=hQ_ (show R = vt_ l f.code from by rw [HR.out,if_neg (by omega),show ((q : Int)).toNat = q from rfl,hfk])
 have hcd:=hcode f (List.mem_of_getElem? hfk)
 obtain ⟨fb,fo,rfl,hfbl,e0,e1,e2⟩:=HF1.out.cell hfk
 have hqI : (q : Int) < (n : Int):=by omega
 clear hfk hk0 hkn hcode e0 e1 HR
 go_wp2_with fail
 refine (u7_ f.code (by omega)).mono ?_
 rintro e w2 ⟨hc2,hT⟩
 have HC2:=hQ_ (HC1.out.new hc2)
 have HF2:=hQ_ (HF1.out.keep hc2)
 have HU2:=hQ_ (HU1.out.keep hc2)
 clear u2 e2 hfbl
 rcases hT with ⟨ts,v2,hts,htl,rfl,ho2⟩ | ⟨hts,rfl⟩
 rotate_left
 · have hE : kO_ f.code = 3 ∨ kO_ f.code = 12:=by unfold kO_; split <;> simp
   have HP:=hQ_ (show yz_ R w (.returned (.tuple #[.slice none 0 0,.int .i64 (kO_ f.code)])) w2 from uq_ _ (by rw [HR1.out,vt_,hts]) HC2.out)
   clear hts hc2
   generalize kO_ f.code = te at hE HP ⊢
   have qe : (te != 0) = true:=by simp; omega
   clear hE
   go_wp2_with fail
   go_ret2
   exact HP.out
 obtain ⟨TA,tc,rfl,hTk⟩:=Tks.of_own ho2 (by omega)
 have HT2:=hQ_ hTk
 have HR2:=hQ_ (show R = match yR_ (zo_ ts) with | none => (13,[]) | some _ => vs_ l ts 0 [] [] from by rw [HR1.out,vt_,hts]; rfl)
 clear hts hc2 ho2 hTk HR1
 obtain ⟨tn,htn⟩ : ∃ tn,tn = ts.length:=⟨_,rfl⟩
 rw [← htn] at HT2 htl ⊢
 have HTN:=hQ_ htn
 clear htn
 go_wp2_with fail
 refine (zes HT2.out).mono ?_
 rintro e w3 ⟨hc3,hT⟩
 have HC3:=hQ_ (HC2.out.new hc3)
 have HF3:=hQ_ (HF2.out.keep hc3)
 have HU3:=hQ_ (HU2.out.keep hc3)
 have HT3:=hQ_ (HT2.out.keep hc3)
 clear hc3
 rw [jH_] at hT
 rcases hT with ⟨t3,d3,g3,hn3,_,rfl,_⟩ | ⟨hn3,rfl⟩
 rotate_left
 · have HP:=hQ_ (show yz_ R w (.returned (.tuple #[.slice none 0 0,.int .i64 13])) w3 from uq_ 13 (by rw [HR2.out,hn3]) HC3.out)
   clear hn3
   go_wp2_with fail
   go_ret2
   exact HP.out
 have HR3:=hQ_ (show R = vs_ l ts 0 [] [] from by rw [HR2.out,hn3])
 have HD:=hQ_ (zcL hn3)
 clear hn3
 have hN4:=zb_.new w3 145 [.int .i64 0,.slice none 0 0]
 have hal4 : Chg [] w3 (w3.alloc (.cells #[.int .i64 0,.slice none 0 0] 145)):=(Chg.refl [] w3).alloc _
 have hsz4 : (w3.alloc (.cells #[.int .i64 0,.slice none 0 0] 145)).heap.size = w3.heap.size + 1:=Array.size_push _
 go_upto_region 10 with fail
 have HC4:=hQ_ (HC3.out.new hal4)
 have HGS:=hQ_ (show w.heap.size ≤ w3.heap.size from HC3.out.size)
 generalize w3.alloc (.cells #[.int .i64 0,.slice none 0 0] 145) = w4 at hN4 hal4 hsz4 HC4 ⊢
 have HC34:=hQ_ hal4
 obtain ⟨gs,hgs⟩ : ∃ g,g = w3.heap.size:=⟨_,rfl⟩
 rw [← hgs] at hN4 hsz4 HGS ⊢
 have HW4:=hQ_ (show Wk w4 gs 0 (.slice none 0 0) [] from ⟨hN4,World.ownsRow_nil _ _ _ _,by simp,by omega,fun b hb => by simp at hb⟩)
 have HG3:=hQ_ hgs
 have HZ4:=hQ_ hsz4
 clear hN4 hal4 hsz4 hgs HC3 HC2 HF2 HU2 HT2 HC1 HF1 HU1
 have HTL:=hQ_ htl
 have hmk : ∀ W : World,(Instr.makeSlice 26 (.int .i64 0) (.int .i64 (tn : Int))).run Tryz.prog W = .ok (.slice (some ⟨W.heap.size,0,none⟩) 0 tn) (W.alloc (.cells (List.replicate tn (.int .i64 0)).toArray 3)):=fun W =>
  js_ (P:=Tryz.prog) 26 3 i0 _ rfl Tryz.underlying26 hi0 hz0 hz1 tn (by rw [hz2]; omega) (by omega) W
 go_upto_region 12 with fail
 have hM:=zb_.new w4 3 (List.replicate tn (.int .i64 0))
 have hal5 : Chg [] w4 (w4.alloc (.cells (List.replicate tn (.int .i64 0)).toArray 3)):=(Chg.refl [] w4).alloc _
 have HO4:=hQ_ (show (w4.alloc (.cells (List.replicate tn (.int .i64 0)).toArray 3)).ownsRow (gs + 1) 3 1 (.slice (some ⟨w4.heap.size,0,none⟩) 0 tn) 0 (nms []) from by
  have h:=yS_ (n:=0) hM (show gs + 1 ≤ w4.heap.size from by have:=HZ4.out; omega) (by simp) (Nat.zero_le tn) (by unfold maxLen; omega)
  simpa [nms] using h)
 have HW5:=hQ_ (HW4.out.keep hal5)
 have HC5':=hQ_ (HC4.out.new hal5)
 have HC35:=hQ_ (HC34.out.new hal5)
 rw [show (List.replicate tn (Value.int .i64 0)).toArray = Array.replicate tn (Value.int .i64 0) from by simp] at HO4 HW5 HC5' HC35
 generalize w4.heap.size = gm at HO4 ⊢
 generalize w4.alloc (.cells (Array.replicate tn (.int .i64 0)) 3) = w5' at HO4 HW5 HC5' HC35 ⊢
 clear hM hal5 hmk HW4 HC4 HC34
 go_loopw [9,47] (fun v i wr => ∃ (j : Nat) (h : Int) (bs : List BkV) (vo : Value) (out : List Int),i = .int .i64 (j : Int) ∧ j ≤ tn ∧ Hid (Wk wr gs h vo bs) ∧ Hid (wr.ownsRow (gs + 1) 3 1 v j (nms out)) ∧
   Hid (SOk (zo_ (ts.drop j)) (bs.map (·.sign))) ∧ Hid (Bas h bs) ∧ Hid (bs.length ≤ 16) ∧ Hid (R = vs_ l (ts.drop j) h bs out) ∧ Hid (Chg [] w wr) ∧ Hid (Chg [] w3 wr)) (fun _ i _ => tn - (intOf i).toNat)
 case atStart => exact ⟨0,0,[],_,[],rfl,by omega,HW5,HO4,HD,hQ_ ⟨by simp,fun x hx => by simp at hx,fun _ x hx => by simp at hx⟩,hQ_ (by simp),HR3,HC5',HC35⟩
 case round =>
  obtain ⟨j,h,bs,vo,out,rfl,hj,HS,HO,HDR,HBA,HB16,HRW,HC,HCW⟩:=hrel
  obtain ⟨AO,co,rfl,_⟩:=zp_ HO.out
  by_cases hjn : j < tn
  · have hjI : (j : Int) < (tn : Int):=by omega
    obtain ⟨t,htj⟩ : ∃ t,ts[j]? = some t:=⟨ts[j]'(by rw [← HTN.out]; exact hjn),by simp⟩
    have HDJ:=hQ_ (show ts.drop j = t :: ts.drop (j + 1) from List.drop_eq_getElem?_toList_append.trans (by rw [htj]; rfl))
    have HTr:=hQ_ (HT3.out.keep HCW.out)
    obtain ⟨b,o,rfl,hbl,t0,t1,t2⟩:=HTr.out.cell htj
    clear htj
    go_upto_region 14 with fail
    have hal5 : Chg [] wr (wr.alloc (.cells #[.int .i32 t.sign,.int .i64 t.n,.int .i32 t.name] 110)):=(Chg.refl [] wr).alloc _
    have HT5:=hQ_ (zb_.new wr 110 [.int .i32 t.sign,.int .i64 t.n,.int .i32 t.name])
    have HS5:=hQ_ (HS.out.keep hal5)
    have HO5:=hQ_ (zg_ HO.out hal5)
    have HU5:=hQ_ (HU3.out.keep (HCW.out.new hal5))
    have HC5:=hQ_ (HC.out.new hal5)
    have HCW5:=hQ_ (HCW.out.new hal5)
    obtain ⟨gt,hgt⟩ : ∃ g,g = wr.heap.size:=⟨_,rfl⟩
    rw [← hgt] at HT5 ⊢
    generalize wr.alloc (.cells #[.int .i32 t.sign,.int .i64 t.n,.int .i32 t.name] 110) = w5 at hal5 HT5 HS5 HO5 HU5 HC5 HCW5 ⊢
    clear hal5 hgt t0 t1 t2 hbl HTr HC HCW HO HS
    have c0:=HS5.out.rec_.cell 0
    have HAL:=hQ_ (show Chg [] w5 (w5.alloc (.cells #[.int .i64 h] 3)) from (Chg.refl [] w5).alloc _)
    have HO6:=hQ_ (zg_ HO5.out HAL.out)
    have HRM:=hQ_ (show gs + 1 ≤ (w5.alloc (.cells #[.int .i64 h] 3)).heap.size from by have:=HAL.out.size; have:=HS5.out.rec_.lt; omega)
    have hjb:=HTL.out
    clear htl
    have HDD:=hQ_ (show zfC t.sign (bs.map (·.sign)) ∧ SOk (zo_ (ts.drop (j + 1))) (vq_ t.sign (bs.map (·.sign))) from by have:=HDR.out; rw [HDJ.out] at this; exact this)
    obtain ⟨RT,hRT⟩ : ∃ RT,RT = x8_ l h bs t.sign t.name:=⟨_,rfl⟩
    have HRW2:=hQ_ (show R = if RT.1 = 0 then vs_ l (ts.drop (j + 1)) RT.2.1 RT.2.2 (out ++ [h]) else (RT.1,[]) from by rw [HRW.out,HDJ.out,xy_,hRT])
    have HLN:=hQ_ (show RT.1 = 0 → Bas RT.2.1 RT.2.2 ∧ RT.2.2.map (·.sign) = vq_ t.sign (bs.map (·.sign)) from fun he => by rw [hRT] at he ⊢; exact zeb HBA.out (fun x hx => (HS5.out.rb x hx).1) HS5.out.hr he)
    have HRT:=hQ_ hRT
    clear hRT
    go_wp2_with (
     at_builtin
     refine wpList_append_own _ rfl (.tmp 51) (.tmp 54) _ rfl (gs + 1) 3 i0 _ 1 8 Tryz.underlying26 hi0 hz0 hz1 hz2 rfl (by decide) (.slice AO j co) j (nms out) rfl HO6.out ⟨w5.heap.size,0,none⟩ 1 1 [.int .i64 h] rfl rfl (zq_ _ _ _) (by simp [Value.oneCell']) (by simp only [maxLen]; omega) (by omega) HRM.out ?_
     intro v' w6 ho6 hg6 _
     obtain ⟨A6,c6,rfl,_⟩:=zp_ ho6
     have HO7:=hQ_ ho6
     have HG7:=hQ_ hg6
     have HU6:=hQ_ (zi_ (HU5.out.keep HAL.out) HO6.out (by decide) hg6)
     have HT6:=hQ_ (zi_ (HT5.out.keep HAL.out) HO6.out (by decide) hg6)
     have HC6:=hQ_ (show Chg [] w w6 from zQ_ (HC5.out.new HAL.out) hg6 (fun g hg => by have:=(HO6.out.lt g hg).1; have:=HGS.out; omega))
     have HCW6:=hQ_ (show Chg [] w3 w6 from zQ_ (HCW5.out.new HAL.out) hg6 (fun g hg => by have:=(HO6.out.lt g hg).1; have:=HG3.out; omega))
     have HS7:=hQ_ (show Wk w6 gs h vo bs from ⟨zi_ (HS5.out.keep HAL.out).rec_ HO6.out (by decide) HG7.out,yM_ (HS5.out.keep HAL.out).own HO6.out (by decide) HG7.out,HS5.out.few,HS5.out.hr,HS5.out.rb⟩)
     have u0:=HU6.out.cell 0
     have u1:=HU6.out.cell 1
     have u2:=HU6.out.cell 2
     have t0:=HT6.out.cell 0
     have t1:=HT6.out.cell 1
     have t2:=HT6.out.cell 2
     clear ho6 hg6)
    have HTK:=hQ_ (zat (pages:=pages) (most:=most) HS7.out (HF3.out.keep HCW6.out) t HBA.out (zcD HDD.out.1) (by have:=HB16.out; omega))
    rw [← HRT.out] at HTK
    refine HTK.out.mono ?_
    rintro e w7 ⟨hfr,rfl,hS8⟩
    have HC7:=hQ_ (show Chg [] w w7 from ((Fr.of_chg HC6.out).trans (hfr.sub HGS.out (fun _ h => h))).chg (Nat.le_refl _))
    have HCW7:=hQ_ (show Chg [] w3 w7 from ((Fr.of_chg HCW6.out).trans (hfr.sub (show w3.heap.size ≤ gs from by have:=HG3.out; omega) (fun _ h => h))).chg (Nat.le_refl _))
    have HO8:=hQ_ (hfr.own HO7.out (by decide))
    have HU8:=hQ_ (hfr.whole' HU6.out (by decide))
    clear hfr u0 u1 u2 t0 t1 t2 c0
    by_cases her : RT.1 = 0
    · obtain ⟨vo8,hS9⟩:=hS8 her
      have HS9:=hQ_ hS9
      have HR9:=hQ_ (HRW2.out.trans (if_pos her))
      have HD9:=hQ_ (show SOk (zo_ (ts.drop (j + 1))) (RT.2.2.map (·.sign)) from by rw [(HLN.out her).2]; exact HDD.out.2)
      have HBA9:=hQ_ (HLN.out her).1
      have HB9:=hQ_ (show RT.2.2.length ≤ 16 from by
       have h1:=congrArg List.length (HLN.out her).2
       rw [List.length_map] at h1
       rw [h1]
       have h2:=HDD.out.1
       have h3:=HB16.out
       unfold vq_
       split
       · rename_i hs; have:=h2.2.2.2.2 hs; simp at this ⊢; omega
       · split
         · rename_i hs
           obtain ⟨y,hy⟩:=h2.1 hs
           have h4:=congrArg List.length hy
           simp at h4 ⊢
           omega
         · split
           · simp; omega
           · simp; exact h3)
      rw [her]
      clear hS8 hS9 her
      go_wp2_with fail
      go_roundw
      case rel => exact ⟨j + 1,RT.2.1,RT.2.2,vo8,out ++ [h],by go_num,by omega,HS9,hQ_ (by have:=HO8.out; simpa [nms] using this),HD9,HBA9,HB9,HR9,HC7,HCW7⟩
      case measure => simp [intOf]; omega
    · have qe : (RT.1 != 0) = true:=by simpa using her
      have HP:=hQ_ (show yz_ R w (.returned (.tuple #[.slice none 0 0,.int .i64 RT.1])) w7 from uq_ _ (HRW2.out.trans (if_neg her)) HC7.out)
      clear hS8 her
      go_wp2_with fail
      go_ret2
      exact HP.out
  · have hjI : (tn : Int) ≤ (j : Int):=by omega
    have HRZ:=hQ_ (show R = if h ≠ 1 ∧ 0 ≤ h then (14,[]) else (0,out) from by rw [HRW.out,List.drop_eq_nil_of_le (by rw [← HTN.out]; omega),vs_])
    have c0:=HS.out.rec_.cell 0
    have hhr:=HS.out.hr
    have HOW:=hQ_ (z8_ HO.out (show w.heap.size ≤ gs + 1 from by have:=HGS.out; omega))
    have HJO:=hQ_ (show j = out.length from by have:=HO.out.1; simpa [nms] using this.symm)
    by_cases h1 : h = 1
    · have q1 : (h != 1) = false:=by simpa using h1
      have q2 : (h != -1) = true:=by simp; omega
      have HP:=hQ_ (show yz_ R w (.returned (.tuple #[.slice AO j co,.int .i64 0])) wr from by
       rw [HRZ.out,if_neg (by omega)]
       exact ⟨_,rfl,by rw [← HJO.out]; exact HOW.out,HC.out⟩)
      clear h1
      go_wp2_with fail
      go_ret2
      exact HP.out
    · have q1 : (h != 1) = true:=by simpa using h1
      by_cases h0 : 0 ≤ h
      · have q0 : (h != -1) = true:=by simp; omega
        have HP:=hQ_ (show yz_ R w (.returned (.tuple #[.slice none 0 0,.int .i64 14])) wr from uq_ 14 (by rw [HRZ.out,if_pos ⟨h1,h0⟩]) HC.out)
        clear h1 h0
        go_wp2_with fail
        go_ret2
        exact HP.out
      · have q0 : (h != -1) = false:=by simp; omega
        have HP:=hQ_ (show yz_ R w (.returned (.tuple #[.slice AO j co,.int .i64 0])) wr from by
         rw [HRZ.out,if_neg (by omega)]
         exact ⟨_,rfl,by rw [← HJO.out]; exact HOW.out,HC.out⟩)
        clear h1 h0
        go_wp2_with fail
        go_ret2
        exact HP.out
end
end Go.Proofs.YtbkfhndmeljlcaaGreatDoor
namespace Go.Proofs.YtbkfhndmeljlcaaGreatDoor
open Go.RowKit
def nmL : List Int:=[102,103,945,104,19990]
def j9_ (w : World) (e : Ending) (w' : World) : Prop:=e = .returned (.slice (some ⟨w.heap.size,0,none⟩) 5 5) ∧ w' = w.alloc (.cells #[.int .i32 102,.int .i32 103,.int .i32 945,.int .i32 104,.int .i32 19990] 21)
theorem jI_ (w : World) : Calls Tryz.prog 34 #[] w (j9_ w):=by
 have HP:=hQ_ (show j9_ w (.returned (.slice (some ⟨w.heap.size,0,none⟩) 5 5)) (w.alloc (.cells #[.int .i32 102,.int .i32 103,.int .i32 945,.int .i32 104,.int .i32 19990] 21)) from ⟨rfl,rfl⟩)
 go_enter Tryz.func34,Tryz.ntmps34
 go_wp2_with fail
 go_ret
 exact HP.out
structure GoodU (l : List FnV) : Prop where
  lo : l.length ≤ 3
  fn : ∀ i f,l[i]? = some f → nmL[i]? = some f.name ∧ 0 ≤ f.args ∧ f.args ≤ 2 ∧ f.code.size ≤ 1000 ∧ (vt_ (l.take (i + 1)) f.code).1 = 0
def zeT : ByteArray:=⟨#[97,32,49,43]⟩
theorem zcX : xU_ zeT = some [⟨97,0,0⟩,⟨48,1,0⟩,⟨43,0,0⟩]:=by rfl
theorem zeo (l : List FnV) : (vt_ l zeT).1 = 0:=by
 unfold vt_
 rw [zcX]
 simp only
 rw [show yR_ (zo_ [⟨97,0,0⟩,⟨48,1,0⟩,⟨43,0,0⟩]) = some ([-1,-1,-1],0) from by decide +kernel]
 simp only
 rw [xy_,show x8_ l 0 [] (TkV.mk 97 0 0).sign (TkV.mk 97 0 0).name = (0,1,[]) from rfl]
 rw [if_pos rfl,xy_,show x8_ l 1 [] (TkV.mk 48 1 0).sign (TkV.mk 48 1 0).name = (0,2,[]) from rfl]
 rw [if_pos rfl,xy_,show x8_ l 2 [] (TkV.mk 43 0 0).sign (TkV.mk 43 0 0).name = (0,1,[]) from rfl]
 rfl
theorem GoodU.nil : GoodU []:=⟨by simp,fun i f h => by simp at h⟩
theorem GoodU.more {l : List FnV} {f : FnV} (h : GoodU l) (hk : l.length < 3) (h1 : nmL[l.length]? = some f.name) (h2 : 0 ≤ f.args ∧ f.args ≤ 2) (h3 : f.code.size ≤ 1000) (h4 : (vt_ (l ++ [f]) f.code).1 = 0) : GoodU (l ++ [f]):=by
 refine ⟨by simp; omega,fun i g hg => ?_⟩
 by_cases hi : i < l.length
 · rw [List.getElem?_append_left hi] at hg
   rw [List.take_append_of_le_length (by omega)]
   exact h.fn i g hg
 · have hil : i < (l ++ [f]).length:=(List.getElem?_eq_some_iff.1 hg).1
   simp at hil
   have : i = l.length:=by omega
   subst this
   simp at hg
   subst hg
   rw [List.take_of_length_le (by simp)]
   exact ⟨h1,h2.1,h2.2,h3,h4⟩
def gq_ (w : World) (e : Ending) (w' : World) : Prop :=
 ∃ (pg ms : Int) (v : Value) (l : List FnV),e = .returned (.agg #[.int .i64 pg,.int .i64 ms,v]) ∧ 0 ≤ pg ∧ pg ≤ 2 ∧ pg + 1 ≤ ms ∧ ms ≤ pg + 3 ∧ w'.ownsRow w.heap.size 58 3 v l.length (y3_ l) ∧ GoodU l ∧ 0 < l.length ∧ Chg [] w w'
section
variable {w : World} {A : Option Addr} {n c : Nat} {l : List Int}
theorem Fns.of_own {W : World} {B p n : Nat} {e : TypeId} {v : Value} {l : List FnV} (h : W.ownsRow B e 3 v n (y3_ l)) (hm : n ≤ 1000) (hB : p < B) (ha : ∀ f ∈ l,0 ≤ f.args ∧ f.args ≤ 2) : ∃ A c,v = .slice A n c ∧ Fns W p A n c l:=by
 have hl : l.length = n:=by have:=h.1; rw [yt_] at this; omega
 rcases h.2 with ⟨rfl,rfl⟩ | ⟨g,cap,cur,rfl,hb,hg,hn,hc,hs,ht⟩
 · exact ⟨none,0,rfl,hl,fun h => absurd h (by rw [yt_]; omega),Nat.le_refl _,by omega,fun h => absurd h (by omega),ha⟩
 · refine ⟨_,cap,rfl,hl,fun _ => ⟨_,rfl,zdR hg,fun j u hj => h.cells rfl j u hj⟩,hn,hm,fun _ ad e => by injection e with e; subst e; exact ⟨rfl,by simp; omega⟩,ha⟩
theorem Fnr.of_own {W : World} {B n : Nat} {e : TypeId} {v : Value} {l : List FnV} (h : W.ownsRow B e 3 v n (y3_ l)) (hm : n ≤ 1000) (ha : ∀ f ∈ l,-9223372036854775808 ≤ f.args ∧ f.args ≤ 9223372036854775807) : ∃ A c,v = .slice A n c ∧ Fnr W A n c l:=by
 have hl : l.length = n:=by have:=h.1; rw [yt_] at this; omega
 rcases h.2 with ⟨rfl,rfl⟩ | ⟨g,cap,cur,rfl,hb,hg,hn,hc,hs,ht⟩
 · exact ⟨none,0,rfl,hl,fun h => absurd h (by rw [yt_]; omega),Nat.le_refl _,by omega,fun h => absurd h (by omega),ha⟩
 · exact ⟨_,cap,rfl,hl,fun _ => ⟨_,rfl,zdR hg,fun j u hj => h.cells rfl j u hj⟩,hn,hm,fun _ ad e => by injection e with e; subst e; rfl,ha⟩
theorem GoodU.args {l : List FnV} (h : GoodU l) : ∀ f ∈ l,0 ≤ f.args ∧ f.args ≤ 2:=fun f hf => by
 obtain ⟨i,hi,rfl⟩:=List.getElem_of_mem hf
 have:=h.fn i _ (List.getElem?_eq_getElem hi)
 exact ⟨this.2.1,this.2.2.1⟩
theorem GoodU.size {l : List FnV} (h : GoodU l) : ∀ f ∈ l,f.code.size ≤ 1000:=fun f hf => by
 obtain ⟨i,hi,rfl⟩:=List.getElem_of_mem hf
 exact (h.fn i _ (List.getElem?_eq_getElem hi)).2.2.2.1
theorem x_new {w6 w9 : World} {p j9 : Nat} (hT : Tp w9 p A n c l j9) (hq : Chg [p] w6 w9) (nm : Int) (a : Nat) : Hid (zb_ (w9.alloc (.cells #[.int .i32 nm,.int .i64 (a : Int),.string ⟨#[]⟩] 58)) w9.heap.size 58 [.int .i32 nm,.int .i64 (a : Int),.string ⟨#[]⟩]) ∧
    Hid (∃ j,Tp (w9.alloc (.cells #[.int .i32 nm,.int .i64 (a : Int),.string ⟨#[]⟩] 58)) p A n c l j) ∧ Hid (Chg [p] w6 (w9.alloc (.cells #[.int .i32 nm,.int .i64 (a : Int),.string ⟨#[]⟩] 58))) ∧ Hid (w6.heap.size ≤ w9.heap.size) :=
 ⟨hQ_ (zb_.new w9 _ _),hQ_ ⟨_,hT.keep ((Chg.refl [] w9).alloc _)⟩,hQ_ (hq.alloc _),hQ_ hq.size⟩
theorem zeX {w6 w9 : World} {p j9 g : Nat} (hX : zb_ w9 g 58 [.int .i32 0,.int .i64 0,.string ⟨#[]⟩]) (hT : Tp w9 p A n c l j9) (hq : Chg [p] w6 w9) (hg : w6.heap.size ≤ g) (hp : p < g) (nm : Int) (a : Nat) :
    Hid (zb_ (((w9.setCell ⟨g,0,none⟩ (.int .i32 nm)).setCell ⟨g,1,none⟩ (.int .i64 (a : Int))).setCell ⟨g,2,none⟩ (.string ⟨#[]⟩)) g 58 [.int .i32 nm,.int .i64 (a : Int),.string ⟨#[]⟩]) ∧
    Hid (∃ j,Tp (((w9.setCell ⟨g,0,none⟩ (.int .i32 nm)).setCell ⟨g,1,none⟩ (.int .i64 (a : Int))).setCell ⟨g,2,none⟩ (.string ⟨#[]⟩)) p A n c l j) ∧
    Hid (Chg [p] w6 (((w9.setCell ⟨g,0,none⟩ (.int .i32 nm)).setCell ⟨g,1,none⟩ (.int .i64 (a : Int))).setCell ⟨g,2,none⟩ (.string ⟨#[]⟩))) ∧ Hid (w6.heap.size ≤ g):=by
 have h1:=((hX.set_ 0 (.int .i32 nm)).set_ 1 (.int .i64 (a : Int))).set_ 2 (.string ⟨#[]⟩)
 have hA : ∀ ad,A = some ad → 0 < n → ad.block ≠ g:=fun ad e h0 => by have:=(hT.spot h0 ad e).2; omega
 have hne : g ≠ p:=by omega
 have h2:=((hT.other (j:=0) hne hA (.int .i32 nm)).other (j:=1) hne hA (.int .i64 (a : Int))).other (j:=2) hne hA (.string ⟨#[]⟩)
 refine ⟨hQ_ (by simpa using h1),hQ_ ⟨_,h2⟩,hQ_ (((hq.setCell ?_ _).setCell ?_ _).setCell ?_ _),hQ_ hg⟩
 all_goals (intro hh; simp only at hh; omega)
theorem zcC (hs : Src w A (nms l)) (hlen : l.length = n) (hspot : 0 < n → ∀ ad,A = some ad → ad.spot = none) (hn : n ≤ 9223372036854775807) (hrng : ∀ x ∈ l,-9223372036854775808 ≤ x ∧ x ≤ 9223372036854775807) :
    Calls Tryz.prog 10 #[.slice A n c] w (gq_ w):=by
 obtain ⟨i0,hi0,hz0,hz1,hz2⟩:=info_parts zbK
 have HAR:=hQ_ (And.intro hs (And.intro hlen (And.intro hspot (And.intro hn hrng))))
 clear hs hlen hspot hrng hn
 go_enter Tryz.func10,Tryz.ntmps10
 go_upto_region 2 with fail
 obtain ⟨g2,hg2⟩ : ∃ g,g = w.heap.size:=⟨_,rfl⟩
 have HG2:=hQ_ hg2
 have h1:=(Chg.refl [] w).alloc (.cells #[.int .i64 0,.int .i64 0,.slice none 0 0] 24)
 have hz1 : (w.alloc (.cells #[.int .i64 0,.int .i64 0,.slice none 0 0] 24)).heap.size = g2 + 1:=by rw [hg2]; exact Array.size_push _
 have hW1:=zb_.new w 24 [.int .i64 0,.int .i64 0,.slice none 0 0]
 rw [← hg2] at hW1 ⊢
 generalize hw1 : w.alloc (.cells #[.int .i64 0,.int .i64 0,.slice none 0 0] 24) = w1 at *
 have h2:=(Chg.refl [] w1).alloc (.cells #[.slice A n c,.int .i64 0] 66)
 have hz2' : (w1.alloc (.cells #[.slice A n c,.int .i64 0] 66)).heap.size = g2 + 1 + 1:=by rw [← hz1]; exact Array.size_push _
 have hT2 : Tp (w1.alloc (.cells #[.slice A n c,.int .i64 0] 66)) (g2 + 1) A n c l 0:=by
  refine ⟨by rw [← hz1]; exact zb_.new w1 66 [.slice A n c,.int .i64 0],HAR.out.2.1,HAR.out.1.keep (h1.trans h2),fun hp ad e => ⟨HAR.out.2.2.1 hp ad e,?_⟩,HAR.out.2.2.2.2,Nat.zero_le _,HAR.out.2.2.2.1⟩
  obtain ⟨ad',e',hb,_⟩:=HAR.out.1 (by simp [nms]; have:=HAR.out.2.1; omega)
  rw [e] at e'
  injection e' with e'
  subst e'
  omega
 have HC2:=hQ_ (h1.trans h2)
 have HR2:=hQ_ (hW1.keep h2)
 generalize w1.alloc (.cells #[.slice A n c,.int .i64 0] 66) = w2 at *
 have HT2:=hQ_ hT2
 have HZ2:=hQ_ hz2'
 clear hw1 h1 h2 hz1 hW1 hz2' hT2 HAR hg2
 obtain ⟨p,hp⟩ : ∃ p,p = g2 + 1:=⟨_,rfl⟩
 rw [← hp] at HT2 HZ2 ⊢
 have HPP:=hQ_ hp
 clear hp
 go_wp2_with fail
 refine (zH_ HT2.out 3 (by omega) (by omega)).mono ?_
 rintro e w3 ⟨pg,a3,hpg,rfl,hT3,hc3⟩
 have HR3:=hQ_ (HR2.out.chg hc3 (by have:=HPP.out; simp; omega))
 have HC3:=hQ_ (show Chg [] w w3 from HC2.out.then_ hc3 (fun i hi hlt => by have:=HPP.out; have:=HG2.out; simp at hi; omega))
 have HT3:=hQ_ hT3
 have HZ3:=hQ_ (show p + 1 ≤ w3.heap.size from by have:=hc3.size; have:=HZ2.out; omega)
 clear hT3 hc3 HR2 HC2 HT2 HZ2
 go_upto_region 3 with fail
 have hU4:=zb_.new w3 24 [.int .i64 (pg : Int),.int .i64 0,.slice none 0 0]
 have h4:=(Chg.refl [] w3).alloc (.cells #[.int .i64 (pg : Int),.int .i64 0,.slice none 0 0] 24)
 have hz4 : (w3.alloc (.cells #[.int .i64 (pg : Int),.int .i64 0,.slice none 0 0] 24)).heap.size = w3.heap.size + 1:=Array.size_push _
 obtain ⟨gu,hgu⟩ : ∃ g,g = w3.heap.size:=⟨_,rfl⟩
 rw [← hgu] at hU4 hz4 ⊢
 have HGU:=hQ_ (show p + 1 ≤ gu from by have:=HZ3.out; omega)
 have HGW:=hQ_ (show w.heap.size ≤ gu from by have:=HC3.out.size; omega)
 generalize w3.alloc (.cells #[.int .i64 (pg : Int),.int .i64 0,.slice none 0 0] 24) = w4 at *
 have HU4:=hQ_ hU4
 have HC4:=hQ_ (HC3.out.new h4)
 have HR4:=hQ_ (HR3.out.keep h4)
 have HT4:=hQ_ (HT3.out.keep h4)
 have HZ4:=hQ_ hz4
 clear hU4 h4 hz4 hgu HC3 HR3 HT3 HZ3
 go_cut [] (fun wx => ∃ q : Nat,q < 3 ∧ Hid (zb_ wx gu 24 [.int .i64 (pg : Int),.int .i64 ((pg : Int) + 1 + (q : Int)),.slice none 0 0]) ∧ Hid (∃ j,Tp wx p A n c l j) ∧ Hid (Chg [p,gu] w4 wx))
 case first =>
  have hD : Chg [] w4 w4.drew:=(Chg.refl [] w4).drew
  have c0:=HU4.out.cell 0
  have c1:=HU4.out.cell 1
  have hpI : (pg : Int) < 3:=by omega
  have hpI0 : (0 : Int) ≤ (pg : Int):=by omega
  have hw1 : IntKind.i64.wrap ((pg : Int) + 1) = (pg : Int) + 1:=IntWalk.i64_in _ (by omega)
  go_region_with (
   go_at_call 33
   refine (zH_ (HT4.out.keep hD) 3 (by omega) (by omega)).mono ?_
   rintro e w5 ⟨r,a5,hr,rfl,hT5,hc5⟩
   have hU5:=(HU4.out.keep hD).chg hc5 (by have:=HGU.out; simp; omega)
   have d0:=hU5.cell 0
   have d1:=hU5.cell 1
   have f1:=hU5.frozen 1
   have hw2 : IntKind.i64.wrap ((pg : Int) + 1 + (r : Int)) = (pg : Int) + 1 + (r : Int):=IntWalk.i64_in _ (by omega))
  all_goals
    have hW6:=hU5.set_ 1 (.int .i64 ((pg : Int) + 1 + (r : Int)))
    have hT6:=hT5.other (g:=gu) (j:=1) (by have:=HGU.out; omega) (fun ad e h0 => by have:=(hT5.spot h0 ad e).2; have:=HGU.out; omega) (.int .i64 ((pg : Int) + 1 + (r : Int)))
    have hC6 : Chg [p,gu] w4 (w5.setCell ⟨gu,1,none⟩ (.int .i64 ((pg : Int) + 1 + (r : Int)))):=((hD.sub (T':=[p,gu]) (by simp)).trans (hc5.sub (by simp))).setCell (fun _ => by simp) _
    go_wp2_with fail
    go_meet
    exact ⟨r,hr,hQ_ (by simpa using hW6),hQ_ ⟨_,hT6⟩,hQ_ hC6⟩
 case rest =>
  obtain ⟨q,hq,HU5,HT5,HCu⟩:=hcut
  obtain ⟨w5,rfl⟩ : ∃ w5 : World,w5 = wc:=⟨_,rfl⟩
  have HC5:=hQ_ (show Chg [] w w5 from HC4.out.then_ HCu.out (fun i hi hlt => by have:=HPP.out; have:=HG2.out; have:=HGW.out; simp at hi; omega))
  have HR5:=hQ_ (HR4.out.chg HCu.out (by have:=HPP.out; have:=HGU.out; simp; omega))
  have HZ5:=hQ_ (show gu + 1 ≤ w5.heap.size from by have:=HCu.out.size; have:=HZ4.out; omega)
  clear HU4 HC4 HR4 HT4 HZ4 HCu
  go_wp2_with fail
  go_loopw [5] (fun i wr => ∃ (k : Nat) (fl : List FnV) (vf : Value),i = .int .i64 (k : Int) ∧ k ≤ 3 ∧ Hid (zb_ wr gu 24 [.int .i64 (pg : Int),.int .i64 ((pg : Int) + 1 + (q : Int)),vf]) ∧ Hid (∃ j,Tp wr p A n c l j) ∧
    Hid (wr.ownsRow (gu + 1) 58 3 vf k (y3_ fl)) ∧ Hid (GoodU fl) ∧ Hid (zb_ wr g2 24 [.int .i64 0,.int .i64 0,.slice none 0 0]) ∧ Hid (Chg [] w wr) ∧ Hid (gu + 1 ≤ wr.heap.size)) (fun i _ => 3 - (intOf i).toNat)
  case atStart => exact ⟨0,[],_,rfl,by omega,HU5,HT5,hQ_ (World.ownsRow_nil _ _ _ _),hQ_ GoodU.nil,HR5,HC5,HZ5⟩
  case round =>
   obtain ⟨k,fl,vf,rfl,hk,HU,HTj,HO,HG,HR,HC,HZ⟩:=hrel
   obtain ⟨jt,hTj⟩:=HTj.out
   have HT:=hQ_ hTj
   clear hTj HTj
   go_wp2_with fail
   refine (zH_ HT.out 3 (by omega) (by omega)).mono ?_
   rintro e w6 ⟨r6,j6,hr6,rfl,hT6,hc6⟩
   have HT6:=hQ_ hT6
   have HU6:=hQ_ (HU.out.chg hc6 (by have:=HGU.out; simp; omega))
   have HO6:=hQ_ (z0_ HO.out hc6 (by have:=HGU.out; simp; omega))
   have HR6:=hQ_ (HR.out.chg hc6 (by have:=HPP.out; simp; omega))
   have HC6:=hQ_ (show Chg [] w w6 from HC.out.then_ hc6 (fun i hi hlt => by have:=HPP.out; have:=HG2.out; simp at hi; omega))
   have HZ6:=hQ_ (Nat.le_trans HZ.out hc6.size)
   clear hT6 hc6 HT HU HO HR HC HZ
   by_cases hkr : k < 1 + r6
   · have hkI : (k : Int) < 1 + (r6 : Int):=by omega
     have hk3 : k < 3:=by omega
     obtain ⟨nm,hnm⟩ : ∃ nm,nmL[k]? = some nm:=⟨_,List.getElem?_eq_getElem (by simp [nmL]; omega)⟩
     have HNM:=hQ_ hnm
     have hk5 : (k : Int) < 5:=by omega
     have hD : Chg [] w6 w6.drew:=(Chg.refl [] w6).drew
     have hrow : ∀ W : World,(W.alloc (.cells #[.int .i32 102,.int .i32 103,.int .i32 945,.int .i32 104,.int .i32 19990] 21)).cell? ⟨W.heap.size,k,none⟩ = some (.int .i32 nm):=fun W => ((zb_.new W 21 [.int .i32 102,.int .i32 103,.int .i32 945,.int .i32 104,.int .i32 19990]).cell k).trans (by
      have h3 : k = 0 ∨ k = 1 ∨ k = 2:=by omega
      rcases h3 with rfl | rfl | rfl <;> (simp [nmL] at hnm; subst hnm; rfl))
     have HROW:=hQ_ (show [Value.int .i32 102,.int .i32 103,.int .i32 945,.int .i32 104,.int .i32 19990][k]? = some (.int .i32 nm) from by
      have h3 : k = 0 ∨ k = 1 ∨ k = 2:=by omega
      rcases h3 with rfl | rfl | rfl <;> (simp [nmL] at hnm; subst hnm; rfl))
     clear hnm
     go_wp2_with fail
     go_cut [6] (fun s6 wx => ∃ g a : Nat,s6 = .pointer (some ⟨g,0,none⟩) ∧ a < 3 ∧ Hid (zb_ wx g 58 [.int .i32 nm,.int .i64 (a : Int),.string ⟨#[]⟩]) ∧ Hid (∃ j,Tp wx p A n c l j) ∧ Hid (Chg [p] w6 wx) ∧ Hid (w6.heap.size ≤ g))
     case first =>
      go_region_with (first
       | (go_at_call 33
          have _t:=hX8
          refine (zH_ ((HT6.out.keep hD).keep hN8c) 3 (by omega) (by omega)).mono ?_
          rintro e w9 ⟨r9,j9,hr9,rfl,hT9,hc9⟩
          have hq9 : Chg [p] w6 w9:=((hD.trans hN8c).sub (T':=[p]) (by simp)).trans hc9
          have hN9:=hN8.chg hc9 (by have:=HN8z.out; simp; omega)
          have d9:=(hN9.cell k).trans (HROW.out)
          have hX9:=hX8.chg hc9 (by have:=HN8z.out; simp; omega)
          have x0:=hX9.cell 0
          have x1:=hX9.cell 1
          have x2:=hX9.cell 2
          have y0:=hX9.frozen 0
          have y1:=hX9.frozen 1
          have y2:=hX9.frozen 2)
       | (go_at_call 33
          have hal : Chg [] w8 (w8.alloc (.cells #[.int .i32 0,.int .i64 0,.string { data:=#[] }] 58)):=(Chg.refl [] w8).alloc _
          refine (zH_ (((HT6.out.keep hD).keep hN8c).keep hal) 3 (by omega) (by omega)).mono ?_
          rintro e w9 ⟨r9,j9,hr9,rfl,hT9,hc9⟩
          have hq9 : Chg [p] w6 w9:=(((hD.trans hN8c).trans hal).sub (T':=[p]) (by simp)).trans hc9
          have hN9:=(hN8.keep hal).chg hc9 (by have:=HN8z.out; simp; omega)
          have d9:=(hN9.cell k).trans (HROW.out)
          have hX9:=(zb_.new w8 58 [.int .i32 0,.int .i64 0,.string ⟨#[]⟩]).chg hc9 (by have:=HN8z.out; have:=hN8c.size; simp; simp at this; omega)
          have x0:=hX9.cell 0
          have x1:=hX9.cell 1
          have x2:=hX9.cell 2
          have y0:=hX9.frozen 0
          have y1:=hX9.frozen 1
          have y2:=hX9.frozen 2)
       | (go_at_call 33
          refine (zH_ ((HT6.out.keep hD).keep hN8c) 3 (by omega) (by omega)).mono ?_
          rintro e w9 ⟨r9,j9,hr9,rfl,hT9,hc9⟩
          have hq9 : Chg [p] w6 w9:=((hD.trans hN8c).sub (T':=[p]) (by simp)).trans hc9
          have hN9:=hN8.chg hc9 (by have:=HN8z.out; simp; omega)
          have d9:=(hN9.cell k).trans (HROW.out)
          have d9a:=zf_ d9 ((Chg.refl [] w9).alloc (.cells #[.int .i32 0,.int .i64 0,.string { data:=#[] }] 58)))
       | (go_at_call 34
          refine (jI_ (w6.drew.alloc (.cells #[.int .i32 0,.int .i64 0,.string { data:=#[] }] 58))).mono ?_
          rintro e w8 ⟨rfl,hw8⟩
          have hN8c : Chg [] w6.drew w8:=by rw [hw8]; exact ((Chg.refl [] w6.drew).alloc _).alloc _
          have hsz : (w6.drew.alloc (.cells #[.int .i32 0,.int .i64 0,.string { data:=#[] }] 58)).heap.size = w6.heap.size + 1:=Array.size_push _
          have hN8 : zb_ w8 (w6.heap.size + 1) 21 [.int .i32 102,.int .i32 103,.int .i32 945,.int .i32 104,.int .i32 19990]:=by rw [hw8,← hsz]; exact zb_.new (w6.drew.alloc (.cells #[.int .i32 0,.int .i64 0,.string { data:=#[] }] 58)) 21 _
          have hX8 : zb_ w8 w6.heap.size 58 [.int .i32 0,.int .i64 0,.string ⟨#[]⟩]:=by rw [hw8]; exact (zb_.new w6.drew 58 [.int .i32 0,.int .i64 0,.string ⟨#[]⟩]).keep ((Chg.refl [] _).alloc _)
          have HN8z:=hQ_ (show p < w6.heap.size from HT6.out.lt)
          have d8 : w8.cell? ⟨w6.heap.size + 1,k,none⟩ = some (.int .i32 nm):=(hN8.cell k).trans HROW.out
          clear hw8 hsz)
       | (go_at_call 34
          refine (jI_ w6.drew).mono ?_
          rintro e w8 ⟨rfl,hw8⟩
          have hN8c : Chg [] w6.drew w8:=by rw [hw8]; exact (Chg.refl [] w6.drew).alloc _
          have hN8 : zb_ w8 w6.heap.size 21 [.int .i32 102,.int .i32 103,.int .i32 945,.int .i32 104,.int .i32 19990]:=by rw [hw8]; exact zb_.new w6.drew 21 _
          have HN8z:=hQ_ (show p < w6.heap.size from HT6.out.lt)
          have d8 : w8.cell? ⟨w6.heap.size,k,none⟩ = some (.int .i32 nm):=by rw [hw8]; exact hrow w6.drew
          have d8a:=zf_ d8 ((Chg.refl [] w8).alloc (.cells #[.int .i32 0,.int .i64 0,.string { data:=#[] }] 58))
          clear hw8))
      all_goals
        go_wp2_with fail
        go_meet
        first
          | exact ⟨w9.heap.size,r9,rfl,hr9,x_new hT9 hq9 _ _⟩
          | exact ⟨w8.heap.size,r9,rfl,hr9,zeX hX9 hT9 hq9 hN8c.size (by have:=HN8z.out; have:=hN8c.size; simp at this; omega) _ _⟩
          | exact ⟨w6.heap.size,r9,rfl,hr9,zeX hX9 hT9 hq9 (Nat.le_refl _) HN8z.out _ _⟩
     case rest =>
      obtain ⟨g6,a6,rfl,ha6,HX,HTx,HCx,HGx⟩:=hcut
      obtain ⟨w7,rfl⟩ : ∃ w7 : World,w7 = wc:=⟨_,rfl⟩
      obtain ⟨j7,hT7⟩:=HTx.out
      have HT7:=hQ_ hT7
      have HU7:=hQ_ (HU6.out.chg HCx.out (by have:=HGU.out; simp; omega))
      have HO7:=hQ_ (z0_ HO6.out HCx.out (by have:=HGU.out; simp; omega))
      have HR7:=hQ_ (HR6.out.chg HCx.out (by have:=HPP.out; simp; omega))
      have HC7:=hQ_ (show Chg [] w w7 from HC6.out.then_ HCx.out (fun i hi hlt => by have:=HPP.out; have:=HG2.out; simp at hi; omega))
      have HZ7:=hQ_ (Nat.le_trans HZ6.out HCx.out.size)
      have HGX:=hQ_ (show gu + 1 ≤ g6 from Nat.le_trans HZ6.out HGx.out)
      have HOL:=hQ_ (fun b (hb : vf.ownBlock = some b) => show b < g6 from Nat.lt_of_lt_of_le (HO6.out.lt b hb).2 HGx.out)
      clear hT7 HTx HU6 HO6 HR6 HC6 HCx HT6
      obtain ⟨AF,cf,rfl,hFs⟩:=Fns.of_own (p:=p) HO7.out (by omega) (by have:=HGU.out; omega) HG.out.args
      have HF7:=hQ_ hFs
      clear hFs
      go_wp2_with fail
      refine (zH_ HT7.out 4 (by omega) (by omega)).mono ?_
      rintro e w8 ⟨r8,j8,hr8,rfl,hT8,hc8⟩
      have HT8:=hQ_ hT8
      have HC78:=hQ_ hc8
      clear hT8 hc8
      go_wp2_with fail
      go_loopw [7,8] (fun v i wr => ∃ (m : Nat) (s : ByteArray),i = .int .i64 (m : Int) ∧ m ≤ 3 ∧ v = .string s ∧ s.size < 250 ∧ Hid (∃ j,Tp wr p A n c l j) ∧ Hid (Chg [p] w7 wr)) (fun _ i _ => (intOf i).toNat)
      case atStart => exact ⟨r8,_,rfl,by omega,rfl,by decide,hQ_ ⟨_,HT8.out⟩,HC78⟩
      case round =>
       obtain ⟨m,s,rfl,hm,rfl,hs,HTm,HCm⟩:=hrel
       have HUm:=hQ_ (HU7.out.chg HCm.out (by have:=HGU.out; simp; omega))
       by_cases hm0 : 0 < m
       · have hm0I : (0 : Int) < (m : Int):=by omega
         have u2:=HUm.out.cell 2
         go_wp2_with fail
         obtain ⟨jm,hTm⟩:=HTm.out
         refine ((zdp 2 (by omega)) 2 wr jm (by omega) (by omega) hTm (HF7.out.keep HCm.out)).mono ?_
         rintro e w9 ⟨d,rfl,hd,hT9,hc9⟩
         replace hd : d.size ≤ 5800:=hd
         have HT9:=hQ_ hT9
         have HC9:=hQ_ (HCm.out.trans hc9)
         clear hT9 hc9 hTm u2 HUm
         by_cases hsd : s.size + d.size < 250
         · have hsdI : (s.size : Int) + (d.size : Int) < 250:=by omega
           obtain ⟨y1,hy1,haddy1⟩:=xs_ s d s.size d.size (Nat.le_refl _) (Nat.le_refl _) (by omega)
           have haddy1:=haddy1 w9
           go_wp2_with fail
           refine (jU_ d w9 (by omega)).mono ?_
           rintro e w10 ⟨b,rfl,hw10⟩
           subst hw10
           cases b
           · go_wp2_with fail
             go_roundw
             case rel => exact ⟨m - 1,y1,by go_num,by omega,rfl,by omega,HT9,HC9⟩
             case measure => simp [intOf]; omega
           · go_wp2_with fail
             go_roundw
             case rel => exact ⟨m - 1,s,by go_num,by omega,rfl,by omega,HT9,HC9⟩
             case measure => simp [intOf]; omega
         · have hsdI : 250 ≤ (s.size : Int) + (d.size : Int):=by omega
           go_wp2_with fail
           go_roundw
           case rel => exact ⟨m - 1,s,by go_num,by omega,rfl,by omega,HT9,HC9⟩
           case measure => simp [intOf]; omega
       · have hm0I : ¬ (0 : Int) < (m : Int):=by omega
         have u2:=HUm.out.cell 2
         go_wp2_with fail
         obtain ⟨jm,hTm⟩:=HTm.out
         refine ((uI_ 3 (by omega)) 3 wr jm (by omega) (by omega) hTm (HF7.out.keep HCm.out)).mono ?_
         rintro e w9 ⟨v9,rfl,hv9,hT9,hc9⟩
         replace hv9 : v9.size ≤ 1880:=hv9
         have HT9:=hQ_ hT9
         have HC9:=hQ_ (HCm.out.trans hc9)
         clear hT9 hc9 hTm u2 HUm
         go_upto_if 73 with fail
         have hszs : s.size + v9.size ≤ 4000:=by omega
         go_cut [10] (fun v wx => (∃ t : ByteArray,v = .string t ∧ s.size + t.size ≤ 1000) ∧ wx = w9)
         case first =>
          by_cases hbig : 400 < s.size + v9.size
          · have hbI : (400 : Int) < (s.size : Int) + (v9.size : Int):=by omega
            go_wp2_with fail
            go_meet
            exact ⟨⟨_,rfl,by show s.size + 2 ≤ 1000; omega⟩,rfl⟩
          · have hbI : (s.size : Int) + (v9.size : Int) ≤ 400:=by omega
            go_wp2_with fail
            go_meet
            exact ⟨⟨_,rfl,by omega⟩,rfl⟩
         case rest =>
          obtain ⟨⟨t,rfl,hst⟩,hcw⟩:=hcut
          rw [hcw]
          clear hcw
          obtain ⟨y,hy,haddy⟩:=xs_ s t s.size t.size (Nat.le_refl _) (Nat.le_refl _) (by omega)
          have haddy:=haddy w9
          have HX9:=hQ_ (HX.out.chg HC9.out (by have:=HGX.out; have:=HGU.out; simp; omega))
          have x2:=HX9.out.cell 2
          have f2:=HX9.out.frozen 2
          go_upto_region 19 with fail
          have HX10:=hQ_ (show zb_ (w9.setCell ⟨g6,2,none⟩ (.string y)) g6 58 [.int .i32 nm,.int .i64 (a6 : Int),.string y] from by have:=HX9.out.set_ 2 (.string y); simpa using this)
          have HU10:=hQ_ ((HU7.out.chg HC9.out (by have:=HGU.out; simp; omega)).far (p:=⟨g6,2,none⟩) (by simp only; have:=HGX.out; omega) (.string y))
          have HR10:=hQ_ ((HR7.out.chg HC9.out (by have:=HPP.out; simp; omega)).far (p:=⟨g6,2,none⟩) (by simp only; have:=HGX.out; have:=HGU.out; have:=HPP.out; omega) (.string y))
          have HO10:=hQ_ (zs_ (p:=⟨g6,2,none⟩) (u:=.string y) (z0_ HO7.out HC9.out (by have:=HGU.out; simp; omega)) (fun hb => by have:=HOL.out _ hb; simp only at this; omega))
          have HT10:=hQ_ (HT9.out.imp fun j hj => hj.other (g:=g6) (j:=2) (by have:=HGX.out; have:=HGU.out; omega) (fun ad e h0 => by have:=(hj.spot h0 ad e).2; have:=HGX.out; have:=HGU.out; omega) (.string y))
          have HC10:=hQ_ (show Chg [] w (w9.setCell ⟨g6,2,none⟩ (.string y)) from (HC7.out.then_ HC9.out (fun i hi hlt => by have:=HPP.out; have:=HG2.out; simp at hi; omega)).setCell (fun hh => by simp only at hh; have:=HGX.out; have:=HGW.out; omega) _)
          have HZ10:=hQ_ (show gu + 1 ≤ (w9.setCell ⟨g6,2,none⟩ (.string y)).heap.size from by rw [zG_]; exact Nat.le_trans HZ7.out HC9.out.size)
          generalize w9.setCell ⟨g6,2,none⟩ (.string y) = w10 at HX10 HU10 HR10 HO10 HT10 HC10 HZ10 ⊢
          clear haddy x2 f2 HX9
          have x0:=HX10.out.cell 0
          have x1:=HX10.out.cell 1
          have x2:=HX10.out.cell 2
          have u2:=HU10.out.cell 2
          have HAL:=hQ_ (show Chg [] w10 (w10.alloc (.cells #[.int .i32 nm,.int .i64 (a6 : Int),.string y] 58)) from (Chg.refl [] w10).alloc _)
          have HOA:=hQ_ (zg_ HO10.out HAL.out)
          have hkb : k < 3:=hk3
          go_upto_region 20 with (
           at_builtin
           refine wpList_append_own _ rfl (.tmp 79) (.tmp 81) _ rfl (gu + 1) 58 i0 _ 3 32 Tryz.underlying22 hi0 hz0 hz1 hz2 rfl (by decide) (.slice AF k cf) k (y3_ fl) rfl HOA.out ⟨w10.heap.size,0,none⟩ 1 1 [.int .i32 nm,.int .i64 (a6 : Int),.string y] rfl rfl (zq_ _ _ _) (by simp [Value.oneCell']) (by simp only [maxLen]; omega) (by omega) (by have:=HZ10.out; simp; omega) ?_
           intro v' w11 ho11 hg11 _
           obtain ⟨A11,c11,rfl,_⟩:=zm_ ho11
           have HO11:=hQ_ ho11
           have HG11:=hQ_ hg11
           have HU11:=hQ_ (zi_ (HU10.out.keep HAL.out) HOA.out (by decide) hg11)
           have f2:=HU11.out.frozen 2
           have e2:=HU11.out.cell 2
           clear ho11 hg11)
          have HU12:=hQ_ (show zb_ (w11.setCell ⟨gu,2,none⟩ (.slice A11 (k + 1) c11)) gu 24 [.int .i64 (pg : Int),.int .i64 ((pg : Int) + 1 + (q : Int)),.slice A11 (k + 1) c11] from by have:=HU11.out.set_ 2 (.slice A11 (k + 1) c11); simpa using this)
          have HO12:=hQ_ (show (w11.setCell ⟨gu,2,none⟩ (.slice A11 (k + 1) c11)).ownsRow (gu + 1) 58 3 (.slice A11 (k + 1) c11) (k + 1) (y3_ (fl ++ [⟨nm,(a6 : Int),y⟩])) from by
           rw [vg_,zdj]
           exact zs_ (p:=⟨gu,2,none⟩) (u:=.slice A11 (k + 1) c11) HO11.out (fun hb => by have:=(HO11.out.lt _ hb).1; simp only at this; omega))
          have HR12:=hQ_ ((zi_ (HR10.out.keep HAL.out) HOA.out (by decide) HG11.out).far (p:=⟨gu,2,none⟩) (by simp only; have:=HGU.out; have:=HPP.out; omega) (.slice A11 (k + 1) c11))
          have HT12:=hQ_ (HT10.out.imp fun j hj => ((hj.keep HAL.out).grown HOA.out HG11.out (by decide) (by have:=HGU.out; omega)).other (g:=gu) (j:=2) (by have:=HGU.out; omega) (fun ad e h0 => by have:=(hj.spot h0 ad e).2; have:=HGU.out; omega) (.slice A11 (k + 1) c11))
          have HC12:=hQ_ (show Chg [] w (w11.setCell ⟨gu,2,none⟩ (.slice A11 (k + 1) c11)) from (zQ_ (HC10.out.new HAL.out) HG11.out (fun g hg => by have:=(HOA.out.lt g hg).1; have:=HGW.out; omega)).setCell (fun hh => by simp only at hh; have:=HGW.out; omega) _)
          have HZ12:=hQ_ (show gu + 1 ≤ (w11.setCell ⟨gu,2,none⟩ (.slice A11 (k + 1) c11)).heap.size from by rw [zG_]; exact Nat.le_trans HZ10.out (Nat.le_trans HAL.out.size HG11.out.size))
          have HFL:=hQ_ (show fl.length = k from by have:=HO7.out.1; rw [yt_] at this; omega)
          generalize w11.setCell ⟨gu,2,none⟩ (.slice A11 (k + 1) c11) = w12 at HU12 HO12 HR12 HT12 HC12 HZ12 ⊢
          clear f2 e2 HU11 HO11 HG11 HOA HAL x0 x1 x2 u2
          have HHF:=hQ_ (show ∀ f ∈ fl ++ [⟨nm,(a6 : Int),y⟩],0 ≤ f.args ∧ f.args ≤ 2 from fun f hf => by
           rcases List.mem_append.1 hf with hf | hf
           · exact HG.out.args f hf
           · rw [List.mem_singleton] at hf; subst hf; simp only; omega)
          have HHS:=hQ_ (show ∀ f ∈ fl ++ [⟨nm,(a6 : Int),y⟩],f.code.size ≤ 1000000 from fun f hf => by
           rcases List.mem_append.1 hf with hf | hf
           · have:=HG.out.size f hf; omega
           · rw [List.mem_singleton] at hf; subst hf; simp only; omega)
          obtain ⟨A',c',e',hFr⟩:=Fnr.of_own HO12.out (by omega) (fun f hf => by have:=HHF.out f hf; omega)
          simp only [Value.slice.injEq,true_and] at e'
          obtain ⟨e1,e2⟩:=e'
          subst e1; subst e2
          have HFR:=hQ_ hFr
          clear hFr
          have u0:=HU12.out.cell 0
          have u1:=HU12.out.cell 1
          have u2:=HU12.out.cell 2
          have HRF:=hQ_ (show rFn (fl ++ [⟨nm,(a6 : Int),y⟩]) (k : Int) = vt_ (fl ++ [⟨nm,(a6 : Int),y⟩]) y from by
           unfold rFn
           rw [if_neg (by rw [List.length_append,List.length_singleton,HFL.out]; omega),show ((k : Int)).toNat = k from rfl,← HFL.out]
           simp)
          have HNX:=hQ_ (show ∀ z : ByteArray,z.size ≤ 1000 → (vt_ (fl ++ [⟨nm,(a6 : Int),z⟩]) z).1 = 0 → GoodU (fl ++ [⟨nm,(a6 : Int),z⟩]) from fun z hz h0 => HG.out.more (by rw [HFL.out]; omega) (by rw [HFL.out]; exact HNM.out) (by simp only; omega) hz h0)
          have hy1000 : y.size ≤ 1000:=by omega
          generalize hRR : rFn (fl ++ [⟨nm,(a6 : Int),y⟩]) (k : Int) = RR at HRF
          have HRR:=hQ_ hRR
          clear hRR
          go_wp2_with fail
          refine (zaZ HFR.out HHS.out (k : Int)).mono ?_
          rw [HRR.out]
          rintro e w13 ⟨vh,rfl,hoh,hc13⟩
          obtain ⟨AH,cH,rfl,_⟩:=zp_ hoh
          have HU13:=hQ_ (HU12.out.keep hc13)
          have HO13:=hQ_ (zg_ HO12.out hc13)
          have HR13:=hQ_ (HR12.out.keep hc13)
          have HT13:=hQ_ (HT12.out.imp fun j hj => hj.keep hc13)
          have HC13:=hQ_ (HC12.out.new hc13)
          have HZ13:=hQ_ (Nat.le_trans HZ12.out hc13.size)
          clear hoh hc13 u0 u1 u2
          by_cases he : RR.1 = 0
          · have qe : (RR.1 != 0) = false:=by simpa using he
            have HG13:=hQ_ (HNX.out y hy1000 (by rw [← HRF.out]; exact he))
            clear he
            go_wp2_with fail
            go_roundw
            case rel => exact ⟨k + 1,fl ++ [⟨nm,(a6 : Int),y⟩],_,by go_num,by omega,HU13,HT13,HO13,HG13,HR13,HC13,HZ13⟩
            case measure => simp [intOf]; omega
          · have qe : (RR.1 != 0) = true:=by simpa using he
            clear he
            have HG13:=hQ_ (HNX.out zeT (by decide) (zeo _))
            have u2:=HU13.out.cell 2
            have hkl : (fl ++ [⟨nm,(a6 : Int),y⟩])[k]? = some ⟨nm,(a6 : Int),y⟩:=by rw [← HFL.out]; simp
            obtain ⟨gf,e,y2⟩:=zA_ HO13.out rfl ((xn_ _ k _ 2 hkl (by omega)).trans rfl)
            subst e
            have z2:=zZ_ (j:=k * 3 + 2) HO13.out
            have hgf:=(HO13.out.lt gf rfl).1
            have hkI3 : (k : Int) < (k : Int) + 1:=by omega
            have HO14:=hQ_ (show (w13.setCell ⟨gf,k * 3 + 2,none⟩ (.string ⟨#[97,32,49,43]⟩)).ownsRow (gu + 1) 58 3 (.slice (some ⟨gf,0,none⟩) (k + 1) c11) (k + 1) (y3_ (fl ++ [⟨nm,(a6 : Int),zeT⟩])) from by
             have h:=xl_ (j:=k * 3 + 2) (u:=.string ⟨#[97,32,49,43]⟩) HO13.out
             have e : (y3_ (fl ++ [⟨nm,(a6 : Int),y⟩])).set (k * 3 + 2) (.string ⟨#[97,32,49,43]⟩) = y3_ (fl ++ [⟨nm,(a6 : Int),zeT⟩]):=by
              rw [vg_,vg_,List.set_append_right _ _ (by rw [yt_,HFL.out]; omega),yt_,HFL.out,show k * 3 + 2 - k * 3 = 2 from by omega]
              rfl
             rw [e] at h
             exact h)
            have HU14:=hQ_ (HU13.out.far (p:=⟨gf,k * 3 + 2,none⟩) (by simp only; omega) (.string ⟨#[97,32,49,43]⟩))
            have HR14:=hQ_ (HR13.out.far (p:=⟨gf,k * 3 + 2,none⟩) (by simp only; have:=HGU.out; have:=HPP.out; omega) (.string ⟨#[97,32,49,43]⟩))
            have HT14:=hQ_ (HT13.out.imp fun j hj => hj.other (g:=gf) (j:=k * 3 + 2) (by have:=HGU.out; omega) (fun ad e h0 => by have:=(hj.spot h0 ad e).2; have:=HGU.out; omega) (.string ⟨#[97,32,49,43]⟩))
            have HC14:=hQ_ (HC13.out.setCell (p:=⟨gf,k * 3 + 2,none⟩) (fun hh => by simp only at hh; have:=HGW.out; omega) (.string ⟨#[97,32,49,43]⟩))
            have HZ14:=hQ_ (show gu + 1 ≤ (w13.setCell ⟨gf,k * 3 + 2,none⟩ (.string ⟨#[97,32,49,43]⟩)).heap.size from by rw [zG_]; exact HZ13.out)
            clear hkl
            go_wp2_with fail
            go_roundw
            case rel => exact ⟨k + 1,fl ++ [⟨nm,(a6 : Int),zeT⟩],_,by go_num,by omega,HU14,HT14,HO14,HG13,HR14,HC14,HZ14⟩
            case measure => simp [intOf]; omega
   · have hkI : 1 + (r6 : Int) ≤ (k : Int):=by omega
     obtain ⟨AF,cf,rfl,_⟩:=zm_ HO6.out
     have u0:=HU6.out.cell 0
     have u1:=HU6.out.cell 1
     have u2:=HU6.out.cell 2
     have v0:=HR6.out.cell 0
     have v1:=HR6.out.cell 1
     have v2:=HR6.out.cell 2
     have f0:=HR6.out.frozen 0
     have f1:=HR6.out.frozen 1
     have f2:=HR6.out.frozen 2
     go_wp2_with fail
     have HP:=hQ_ (show gq_ w (.returned (.agg #[.int .i64 (pg : Int),.int .i64 ((pg : Int) + 1 + (q : Int)),.slice AF k cf])) (((w6.setCell ⟨g2,0,none⟩ (.int .i64 (pg : Int))).setCell ⟨g2,1,none⟩ (.int .i64 ((pg : Int) + 1 + (q : Int)))).setCell ⟨g2,2,none⟩ (.slice AF k cf)) from by
      have hfl : fl.length = k:=by have:=HO6.out.1; rw [yt_] at this; omega
      have haw : ∀ b,(Value.slice AF k cf).ownBlock = some b → b ≠ g2:=fun b hb => by have:=(HO6.out.lt b hb).1; have:=HGU.out; have:=HPP.out; omega
      have ho:=zs_ (p:=⟨g2,2,none⟩) (u:=.slice AF k cf) (zs_ (p:=⟨g2,1,none⟩) (u:=.int .i64 ((pg : Int) + 1 + (q : Int))) (zs_ (p:=⟨g2,0,none⟩) (u:=.int .i64 (pg : Int)) HO6.out (fun hb => haw _ hb rfl)) (fun hb => haw _ hb rfl)) (fun hb => haw _ hb rfl)
      refine ⟨_,_,_,fl,rfl,by omega,by omega,by omega,by omega,?_,HG.out,by omega,?_⟩
      · rw [hfl]
        exact z8_ ho (by have:=HGW.out; omega)
      · exact ((HC6.out.setCell (fun hh => by simp at hh; have:=HG2.out; omega) _).setCell (fun hh => by simp at hh; have:=HG2.out; omega) _).setCell (fun hh => by simp at hh; have:=HG2.out; omega) _)
     have hRf:=((HR6.out.set_ 0 (.int .i64 (pg : Int))).set_ 1 (.int .i64 ((pg : Int) + 1 + (q : Int)))).set_ 2 (.slice AF k cf)
     have e0:=hRf.cell 0
     have e1:=hRf.cell 1
     have e2:=hRf.cell 2
     clear hRf
     generalize ((w6.setCell ⟨g2,0,none⟩ (.int .i64 (pg : Int))).setCell ⟨g2,1,none⟩ (.int .i64 ((pg : Int) + 1 + (q : Int)))).setCell ⟨g2,2,none⟩ (.slice AF k cf) = wf at HP e0 e1 e2 ⊢
     simp only [List.set_cons_zero,List.set_cons_succ,List.getElem?_cons_zero,List.getElem?_cons_succ] at e0 e1 e2
     refine bodyPost_ret (v:=.agg #[.int .i64 (pg : Int),.int .i64 ((pg : Int) + 1 + (q : Int)),.slice AF k cf]) (by simp [results,Tryz.results10,go_sem,e0,e1,e2]) rfl HP.out
end
end Go.Proofs.YtbkfhndmeljlcaaGreatDoor
namespace Go.Proofs.YtbkfhndmeljlcaaGreatDoor
open Go.RowKit
structure TurnV where
  what : Int
  func : Int
  at_ : Int
  n : Int
  text : ByteArray
def turnC (t : TurnV) : List Value:=[.int .i64 t.what,.int .i64 t.func,.int .i64 t.at_,.int .i64 t.n,.string t.text]
structure TurnOk (t : TurnV) : Prop where
  what : -9223372036854775808 ≤ t.what ∧ t.what ≤ 9223372036854775807
  func : -9223372036854775808 ≤ t.func ∧ t.func ≤ 9223372036854775807
  at_ : -9223372036854775808 ≤ t.at_ ∧ t.at_ ≤ 9223372036854775807
  n : -9223372036854775808 ≤ t.n ∧ t.n ≤ 9223372036854775807
  text : t.text.size ≤ 9223372036854775807
structure Od (w W : World) (g gt gr B : Nat) (pg ms : Int) (vf : Value) (l : List FnV) (t : TurnV) : Prop where
  u : zb_ W g 24 [.int .i64 pg,.int .i64 ms,vf]
  t : zb_ W gt 84 (turnC t)
  r : zb_ W gr 24 [.int .i64 0,.int .i64 0,.slice none 0 0]
  o : W.ownsRow B 58 3 vf l.length (y3_ l)
  c : Chg [] w W
  z : w.heap.size ≤ g ∧ g < gt ∧ gt < gr ∧ gr < B ∧ B ≤ W.heap.size
end Go.Proofs.YtbkfhndmeljlcaaGreatDoor
namespace Go.Proofs.YtbkfhndmeljlcaaGreatDoor
open Go.RowKit
def zdM (x : Int) : Prop:=-9223372036854775808 ≤ x ∧ x ≤ 9223372036854775807
structure OdR (w W : World) (g gr : Nat) (pg ms : Int) (A : Option Addr) (n c : Nat) (l : List FnV) : Prop where
  u : zb_ W g 24 [.int .i64 pg,.int .i64 ms,.slice A n c]
  r : zb_ W gr 24 [.int .i64 0,.int .i64 0,.slice none 0 0]
  f : Fnr W A n c l
  a : ∀ ad,A = some ad → ad.block ≠ g ∧ ad.block ≠ gr
  p : zdM pg
  m : zdM ms
  c : Chg [] w W
  z : w.heap.size ≤ g ∧ g < gr ∧ gr < W.heap.size
end Go.Proofs.YtbkfhndmeljlcaaGreatDoor
namespace Go.Proofs.YtbkfhndmeljlcaaGreatDoor
open Go.RowKit
open Go.Lib
def jp_ (s : ByteArray) : List TkV:=(xU_ s).getD []
def txC (s : ByteArray) : List UInt8:=txB false (jp_ s)
def x0_ (l : List FnV) : List FnV → Nat → Bool
  | [],_ => true
  | f :: r,k => (zU_ f.name && (xC_ l f.name == (k : Int)) && decide (0 ≤ f.args) && decide (f.args ≤ 4)) && x0_ l r (k + 1)
def xd_ (l : List FnV) : Nat → Nat → Int
  | 0,_ => 0
  | q + 1,k => if (rFn l (k : Int)).1 = 0 then xd_ l q (k + 1) else (rFn l (k : Int)).1
def zJ_ (pages most : Int) (l : List FnV) : Int :=
 if pages < 0 ∨ most < pages ∨ 64 < most then 25
 else if 32 < l.length then 3
 else if x0_ l l 0 = true then xd_ l l.length 0 else 12
def utF (f : FnV) : List UInt8:=encodeRune f.name ++ (decDigits f.args.toNat ++ (32 :: (txC f.code ++ [10])))
def qF_ : List FnV → List UInt8
  | [] => []
  | f :: l => utF f ++ qF_ l
def utx (pages most : Int) (l : List FnV) : List UInt8:=117 :: 110 :: 105 :: 116 :: 32 :: (decDigits pages.toNat ++ (32 :: (decDigits most.toNat ++ (10 :: qF_ l))))
def zM_ (pages most : Int) (l : List FnV) : List UInt8 × Int :=
 if zJ_ pages most l = 0 then (if 2048 < (utx pages most l).length then ([],3) else (utx pages most l,0)) else ([],zJ_ pages most l)
def zz_ : List UInt8 → List UInt8 → List (List UInt8) × List UInt8
  | [],acc => ([],acc)
  | b :: t,acc => if b = 10 then (acc :: (zz_ t []).1,(zz_ t []).2) else zz_ t (acc ++ [b])
def ue_ : List UInt8 → Nat → Option Nat
  | [],n => some n
  | b :: t,n => if 48 ≤ b.toNat ∧ b.toNat ≤ 57 then (if (9223372036854775807 - (b.toNat - 48)) / 10 < n then none else ue_ t (n * 10 + (b.toNat - 48))) else none
def us_ (s : List UInt8) : Option Nat:=if s = [] ∨ (1 < s.length ∧ s.getD 0 0 = 48) then none else ue_ s 0
def xv_ : List UInt8 → Option (List UInt8 × List UInt8)
  | [] => none
  | b :: t => if b = 32 then some ([],t) else (xv_ t).map fun p => (b :: p.1,p.2)
def xO_ (s : List UInt8) : Option (Nat × Nat) :=
 if s.take 5 = [117,110,105,116,32] then (match xv_ (s.drop 5) with
   | none => none
   | some (a,b) => match us_ a,us_ b with
     | some x,some y => some (x,y)
     | _,_ => none) else none
def xT_ (s : List UInt8) : Option FnV :=
 match s.drop (Utf8.decode ⟨s.toArray⟩ 0).2 with
 | x :: y :: code => if s ≠ [] ∧ 48 ≤ x.toNat ∧ x.toNat ≤ 57 ∧ y = 32 then some ⟨((Utf8.decode ⟨s.toArray⟩ 0).1 : Int),((x.toNat - 48 : Nat) : Int),⟨code.toArray⟩⟩ else none
 | _ => none
def z3_ : List (List UInt8) → Option (List FnV)
  | [] => some []
  | s :: l => match xT_ s with
    | none => none
    | some f => (z3_ l).map (f :: ·)
def yq_ (s : List UInt8) : Option (Nat × Nat × List FnV) :=
 match (zz_ s []).1 with
 | [] => none
 | a :: l => if (zz_ s []).2 = [] then (match xO_ a with
   | none => none
   | some (p,m) => (z3_ l).map fun fs => (p,m,fs)) else none
def zK_ (s : List UInt8) : Int × Int × Int × List FnV :=
 if 2048 < s.length then (3,0,0,[])
 else match yq_ s with
   | none => (12,0,0,[])
   | some (p,m,l) => if zJ_ p m l = 0 then (if (zM_ p m l).1 = s then (0,(p : Int),(m : Int),l) else (12,0,0,[])) else (zJ_ p m l,0,0,[])
/- What was written is right. -/
theorem zaB {s : ByteArray} {ts : List TkV} (h : xU_ s = some ts) : xU_ ⟨(txC s).toArray⟩ = some ts ∧ (txC s).length ≤ s.size:=by
 have hs : ¬ 512 < s.size:=by
  intro hh
  unfold xU_ at h
  rw [if_pos hh] at h
  cases h
 have hr:=k7_ s hs
 rw [h] at hr
 have e : txC s = txB false ts:=by unfold txC jp_; rw [h]; rfl
 have hlen:=zeZ hr.symm
 have hok:=qv_ _ hr.symm (fun t ht => by simp at ht) trivial
 rw [e]
 refine ⟨?_,hlen⟩
 rw [k7_ _ (by rw [xg_]; omega)]
 exact zeY ts hok
theorem zfc {l : List FnV} {k : Nat} {f : FnV} (hk : l[k]? = some f) : rFn l (k : Int) = vt_ l f.code:=by
 have hl:=(List.getElem?_eq_some_iff.1 hk).1
 unfold rFn
 rw [if_neg (by omega),show ((k : Int)).toNat = k from rfl,hk]
theorem k8_ {l : List FnV} : ∀ (q k : Nat),xd_ l q k = 0 ↔ ∀ j,k ≤ j → j < k + q → (rFn l (j : Int)).1 = 0
  | 0,k => by rw [xd_]; exact ⟨fun _ j h1 h2 => by omega,fun _ => rfl⟩
  | q + 1,k => by
    rw [xd_]
    by_cases h : (rFn l (k : Int)).1 = 0
    · rw [if_pos h,k8_ q (k + 1)]
      refine ⟨fun hh j h1 h2 => ?_,fun hh j h1 h2 => hh j (by omega) (by omega)⟩
      by_cases e : j = k
      · rw [e]; exact h
      · exact hh j (by omega) (by omega)
    · rw [if_neg h]
      exact ⟨fun hh => absurd hh h,fun hh => absurd (hh k (by omega) (by omega)) h⟩
structure RightF (pages most : Int) (l : List FnV) : Prop where
  p0 : 0 ≤ pages
  pm : pages ≤ most
  m64 : most ≤ 64
  few : l.length ≤ 32
  name : x0_ l l 0 = true
  ok : ∀ k : Nat,k < l.length → (rFn l (k : Int)).1 = 0
theorem vF_ {pages most : Int} {l : List FnV} : zJ_ pages most l = 0 ↔ RightF pages most l:=by
 unfold zJ_
 constructor
 · intro h
   split at h
   · omega
   · split at h
     · omega
     · split at h
       · rename_i h1 h2 h3
         exact ⟨by omega,by omega,by omega,by omega,h3,fun k hk => (k8_ _ _).1 h k (by omega) (by omega)⟩
       · omega
 · rintro ⟨h1,h2,h3,h4,h5,h6⟩
   rw [if_neg (by omega),if_neg (by omega),if_pos h5,k8_]
   exact fun j _ h => h6 j (by omega)
theorem qX_ {l : List FnV} : ∀ {r : List FnV} {k : Nat},x0_ l r k = true → ∀ (j : Nat) (f : FnV),r[j]? = some f → zU_ f.name = true ∧ xC_ l f.name = ((k + j : Nat) : Int) ∧ 0 ≤ f.args ∧ f.args ≤ 4
  | [],_,_,j,f,hj => by simp at hj
  | g :: r,k,h,j,f,hj => by
    rw [x0_] at h
    simp only [Bool.and_eq_true,decide_eq_true_eq,beq_iff_eq] at h
    cases j with
    | zero => simp at hj; subst hj; exact ⟨h.1.1.1.1,h.1.1.1.2,h.1.1.2,h.1.2⟩
    | succ j =>
      have:=qX_ h.2 j f (by simpa using hj)
      rw [show k + (j + 1) = k + 1 + j from by omega]
      exact this
theorem RightF.fn {pages most : Int} {l : List FnV} (h : RightF pages most l) {k : Nat} {f : FnV} (hk : l[k]? = some f) : zU_ f.name = true ∧ xC_ l f.name = (k : Int) ∧ 0 ≤ f.args ∧ f.args ≤ 4:=by
 have:=qX_ h.name k f hk
 rw [Nat.zero_add] at this
 exact this
theorem RightF.tok {pages most : Int} {l : List FnV} (h : RightF pages most l) {f : FnV} (hf : f ∈ l) : ∃ ts,xU_ f.code = some ts:=by
 obtain ⟨k,hk,e⟩:=List.getElem_of_mem hf
 have h1 : l[k]? = some f:=by rw [List.getElem?_eq_getElem hk,e]
 have:=h.ok k hk
 rw [zfc h1] at this
 unfold vt_ at this
 cases ht : xU_ f.code with
 | none =>
   rw [ht] at this
   simp only at this
   unfold kO_ at this
   split at this <;> omega
 | some ts => exact ⟨ts,rfl⟩
/- Bytes that are no end of a line, and no blank. -/
theorem u8_ne {b c : UInt8} (h : b.toNat ≠ c.toNat) : b ≠ c:=fun e => h (by rw [e])
theorem j1_ : ∀ (a b : List UInt8),(∀ x ∈ a,x ≠ 32) → xv_ (a ++ 32 :: b) = some (a,b)
  | [],b,_ => by rw [List.nil_append,xv_,if_pos rfl]
  | x :: a,b,h => by
    rw [List.cons_append,xv_,if_neg (h x (by simp)),j1_ a b (fun y hy => h y (by simp [hy]))]
    rfl
end Go.Proofs.YtbkfhndmeljlcaaGreatDoor
namespace Go.Proofs.YtbkfhndmeljlcaaGreatDoor
open Go.RowKit
open Go.Lib (decDigits encodeRune)
theorem zcb (r : Int) : Utf8.encode r = zc_ (encodeRune r):=by
 unfold zc_ encodeRune
 by_cases hv : okR r
 · have hc : (0 ≤ r ∧ r ≤ 127) ∨ (128 ≤ r ∧ r ≤ 2047) ∨ ((2048 ≤ r ∧ r < 55296) ∨ (57343 < r ∧ r ≤ 65535)) ∨ (65536 ≤ r ∧ r ≤ 1114111):=by unfold okR at hv; omega
   have hval : Utf8.valid r = true:=by unfold Utf8.valid; unfold okR at hv; simp; omega
   unfold Utf8.encode
   simp only [hval,if_true]
   have b : ∀ (z : Int) (n : Nat),z = (n : Int) → z.toNat.toUInt8 = UInt8.ofNat n:=fun z n h => by subst h; rfl
   rcases hc with h | h | h | h
   · rw [if_pos (by omega),Lib.encodeRuneZ_one h.1 h.2]
     simp only [List.map_cons,List.map_nil]
   · rw [if_neg (by omega),if_pos (by omega),Lib.encodeRuneZ_two h.1 h.2]
     simp only [List.map_cons,List.map_nil]
     rw [b (192 + r / 64) (0xC0 + r.toNat / 64) (by omega),b (128 + r % 64) (0x80 + r.toNat % 64) (by omega)]
   · rw [if_neg (by omega),if_neg (by omega),if_pos (by omega),Lib.encodeRuneZ_three h]
     simp only [List.map_cons,List.map_nil]
     rw [b (224 + r / 4096) (0xE0 + r.toNat / 4096) (by omega),b (128 + r / 64 % 64) (0x80 + r.toNat / 64 % 64) (by omega),b (128 + r % 64) (0x80 + r.toNat % 64) (by omega)]
   · rw [if_neg (by omega),if_neg (by omega),if_neg (by omega),Lib.encodeRuneZ_four h.1 h.2]
     simp only [List.map_cons,List.map_nil]
     rw [b (240 + r / 262144) (0xF0 + r.toNat / 262144) (by omega),b (128 + r / 4096 % 64) (0x80 + r.toNat / 4096 % 64) (by omega),b (128 + r / 64 % 64) (0x80 + r.toNat / 64 % 64) (by omega),b (128 + r % 64) (0x80 + r.toNat % 64) (by omega)]
 · have hval : Utf8.valid r = false:=by
    unfold Utf8.valid
    unfold okR at hv
    simp
    omega
   unfold Utf8.encode
   rw [Lib.encodeRuneZ_bad (by unfold okR at hv; omega)]
   simp only [hval,Bool.false_eq_true,if_false,Utf8.runeError]
   rfl
theorem zaI (a b : List UInt8) : zc_ a ++ zc_ b = zc_ (a ++ b):=by
 apply ByteArray.ext
 simp [zc_,ByteArray.data_append]
theorem zw_ (a : List UInt8) : (zc_ a).size = a.length:=by
 show a.toArray.size = _
 simp
theorem z9_ (a b : List UInt8) (h : a.length + b.length ≤ 1000000) (W : World) : (Op.stringOp .add (zc_ a) (zc_ b)).run Tryz.prog W = .ok (.string (zc_ (a ++ b))) W:=by
 rw [← zaI]
 exact run_string_add_sum _ _ _ (by rw [zw_,zw_]; omega)
theorem y8_ (a : List UInt8) (r : Int) (h : a.length ≤ 900000) (W : World) : (Op.stringOp .add (zc_ a) (Utf8.encode r)).run Tryz.prog W = .ok (.string (zc_ (a ++ encodeRune r))) W:=by
 rw [zcb]
 exact z9_ _ _ (by have:=(Lib.encodeRuneZ_length r).2; unfold encodeRune; rw [List.length_map]; omega) W
theorem qf_ (a : List UInt8) (r : Int) (h : a.length ≤ 900000) (W : World) : (Op.stringOp .add (Utf8.encode r) (zc_ a)).run Tryz.prog W = .ok (.string (zc_ (encodeRune r ++ a))) W:=by
 rw [zcb]
 exact z9_ _ _ (by have:=(Lib.encodeRuneZ_length r).2; unfold encodeRune; rw [List.length_map]; omega) W
theorem qA_ (r : Nat) (h : r < 10) : encodeRune (48 + (r : Int)) = [UInt8.ofNat (48 + r)]:=by
 unfold encodeRune
 rw [Lib.encodeRuneZ_one (by omega) (by omega)]
 simp only [List.map_cons,List.map_nil]
 rw [show (48 + (r : Int)).toNat = 48 + r from by omega]
def zeI (m : Nat) : List UInt8:=if m = 0 then [] else decDigits m
theorem zcf (m : Nat) (h : 0 < m) : zeI m = zeI (m / 10) ++ [UInt8.ofNat (48 + m % 10)]:=by
 unfold zeI
 rw [if_neg (by omega)]
 by_cases h10 : m < 10
 · rw [if_pos (by omega),Lib.decDigits_one h10,show m % 10 = m from by omega,List.nil_append]
 · rw [if_neg (by omega),decDigits,dif_neg h10]
theorem kb_ (m : Nat) (h : m ≤ 9223372036854775807) : (decDigits m).length ≤ 19:=by
 have key : ∀ (k m : Nat),m < 10 ^ (k + 1) → (decDigits m).length ≤ k + 1:=by
  intro k
  induction k with
  | zero => intro m hm; rw [Lib.decDigits_one (by omega)]; simp
  | succ k ih =>
    intro m hm
    by_cases h10 : m < 10
    · rw [Lib.decDigits_one h10]; simp
    · rw [decDigits,dif_neg h10,List.length_append]
      have:=ih (m / 10) (by rw [Nat.pow_succ] at hm; omega)
      simp; omega
 exact key 18 m (by omega)
theorem qi_ (z : Int) (hz : z ≤ 9223372036854775807) (w : World) : Calls Tryz.prog 79 #[.int .i64 z] w fun e w' => e = .returned (.string (zc_ (decDigits z.toNat))) ∧ w = w':=by
 by_cases h0 : z ≤ 0
 · have HE:=hQ_ (show decDigits z.toNat = [48] from by rw [show z.toNat = 0 from by omega,Lib.decDigits_one (by omega)]; rfl)
   go_enter Tryz.func79,Tryz.ntmps79
   go_wp2_with fail
   go_ret
   exact ⟨by rw [HE.out]; rfl,rfl⟩
 · obtain ⟨N,rfl⟩ : ∃ N : Nat,z = (N : Int):=⟨z.toNat,by omega⟩
   have hN : 0 < N:=by omega
   have HNB:=hQ_ (kb_ N (by omega))
   have HE:=hQ_ (show zeI N = decDigits ((N : Int)).toNat from by unfold zeI; rw [if_neg (by omega)]; rfl)
   obtain ⟨D,hD⟩ : ∃ D,D = decDigits ((N : Int)).toNat:=⟨_,rfl⟩
   rw [← hD] at HE ⊢
   have HDL:=hQ_ (show D.length ≤ 19 from by rw [hD]; exact HNB.out)
   clear hD HNB
   go_enter Tryz.func79,Tryz.ntmps79
   go_wp2_with fail
   go_loop [0,3] (fun x s => ∃ (m : Nat) (out : List UInt8),x = .int .i64 (m : Int) ∧ s = .string (zc_ out) ∧ m ≤ N ∧ Hid (zeI m ++ out = D)) (fun x _ => (intOf x).toNat)
   case atStart => exact ⟨N,[],rfl,rfl,Nat.le_refl _,hQ_ (by rw [List.append_nil]; exact HE.out)⟩
   case round =>
    obtain ⟨m,out,rfl,rfl,hm,HX⟩:=hrel
    by_cases hm0 : 0 < m
    · have hmI : (0 : Int) < (m : Int):=by omega
      have hq : (m : Int).tdiv 10 = ((m / 10 : Nat) : Int):=rfl
      have hr : (m : Int).tmod 10 = ((m % 10 : Nat) : Int):=rfl
      have HX2:=hQ_ (show zeI (m / 10) ++ (UInt8.ofNat (48 + m % 10) :: out) = D from by
       rw [← HX.out,zcf m hm0]; simp)
      have hol : out.length ≤ 19:=by have:=HDL.out; rw [← HX.out,List.length_append] at this; omega
      have hr9 : m % 10 < 10:=by omega
      have hqm : m / 10 < m:=by omega
      generalize m % 10 = r at hr HX2 hr9
      generalize m / 10 = q at hq HX2 hqm
      have hadd:=qf_ out (48 + (r : Int)) (by omega)
      rw [qA_ r hr9] at hadd
      generalize UInt8.ofNat (48 + r) = c at hadd HX2
      clear hm0
      go_wp2_with fail
      go_round
      case rel => exact ⟨q,_,rfl,rfl,by omega,HX2⟩
      case measure => simp [intOf]; omega
    · have hmI : ¬ (0 : Int) < (m : Int):=by omega
      have HX2:=hQ_ (show out = D from by
       have:=HX.out
       rw [show m = 0 from by omega] at this
       exact this)
      go_wp2_with fail
      go_ret
      exact ⟨by rw [← HX2.out]; rfl,rfl⟩
end Go.Proofs.YtbkfhndmeljlcaaGreatDoor
namespace Go.Proofs.YtbkfhndmeljlcaaGreatDoor
open Go.RowKit
theorem ye_ (l : List UInt8) : (zc_ l).data.toList = l:=by simp [zc_]
theorem yo_ (l : List UInt8) (a b : Nat) : (zc_ l).extract a b = zc_ ((l.drop a).take (b - a)):=by
 apply ByteArray.ext
 rw [ByteArray.data_extract]
 apply Array.toList_inj.1
 rw [Array.toList_extract]
 simp [zc_,List.extract]
theorem zck : ∀ l : List UInt8,Lib.indexByte l 32 = (match xv_ l with | none => -1 | some (a,_) => (a.length : Int))
  | [] => rfl
  | b :: l => by
    rw [Lib.indexByte,xv_,zck l]
    by_cases h : b = 32
    · subst h
      simp
    · rw [if_neg (by simpa using h),if_neg h]
      cases xv_ l with
      | none => rfl
      | some p =>
        obtain ⟨x,y⟩:=p
        simp only [Option.map_some,List.length_cons]
        rw [if_neg (by simp)]
        simp
theorem uE_ : ∀ {l a b : List UInt8},xv_ l = some (a,b) → a = l.take a.length ∧ b = l.drop (a.length + 1) ∧ a.length < l.length
  | [],a,b,h => by simp [xv_] at h
  | x :: l,a,b,h => by
    rw [xv_] at h
    by_cases hx : x = 32
    · rw [if_pos hx] at h
      injection h with h
      injection h with h1 h2
      subst h1 h2
      simp
    · rw [if_neg hx] at h
      cases hc : xv_ l with
      | none => rw [hc] at h; simp at h
      | some p =>
        obtain ⟨y,z⟩:=p
        rw [hc] at h
        simp only [Option.map_some,Option.some.injEq,Prod.mk.injEq] at h
        obtain ⟨rfl,rfl⟩:=h
        obtain ⟨h1,h2,h3⟩:=uE_ hc
        refine ⟨?_,?_,by simp; omega⟩
        · rw [List.length_cons,List.take_succ_cons,← h1]
        · rw [List.length_cons,List.drop_succ_cons,← h2]
def zdI (l : List UInt8) : Value:=match xv_ l with
  | some (a,b) => .tuple #[.string (zc_ a),.string (zc_ b),.bool true]
  | none => .tuple #[.string (zc_ l),.string (zc_ []),.bool false]
def ud_ (l : List UInt8) (w : World) (e : Ending) (w' : World) : Prop:=e = .returned (zdI l) ∧ Chg [] w w'
section
variable {w : World}
theorem qn_ (l : List UInt8) (hl : l.length ≤ 1000000) : Calls Tryz.prog 127 #[.string (zc_ l),.string ⟨#[32]⟩] w (ud_ l w):=by
 have HX:=hQ_ (Tryz.stringslite_Index_one (zc_ l) 32 w)
 rw [ye_,zck] at HX
 obtain ⟨V,hV⟩ : ∃ V,V = zdI l:=⟨_,rfl⟩
 unfold ud_
 rw [← hV]
 unfold zdI at hV
 cases hc : xv_ l with
 | none =>
   rw [hc] at HX hV
   simp only at HX hV
   have HV:=hQ_ hV
   clear hV hc
   go_enter Tryz.func127,Tryz.ntmps127
   go_wp2_with (go_at_call 139; refine HX.out.mono ?_; rintro e w1 ⟨rfl,rfl⟩)
   go_ret3
   exact ⟨by rw [HV.out]; rfl,Chg.refl _ _⟩
 | some p =>
   obtain ⟨a,b⟩:=p
   rw [hc] at HX hV
   simp only at HX hV
   obtain ⟨h1,h2,h3⟩:=uE_ hc
   have HV:=hQ_ hV
   have e1 : (zc_ l).extract 0 a.length = zc_ a:=by rw [yo_,List.drop_zero,Nat.sub_zero,← h1]
   have e2 : (zc_ l).extract (a.length + 1) (zc_ l).size = zc_ b:=by
    rw [yo_,zw_,List.take_of_length_le (by rw [List.length_drop]; omega),← h2]
   have hsz:=zw_ l
   have HE:=hQ_ (And.intro e1 e2)
   clear hV hc h1 h2
   obtain ⟨n,hn⟩ : ∃ n,n = a.length:=⟨_,rfl⟩
   rw [← hn] at HX h3 HE
   obtain ⟨N,hN⟩ : ∃ N,N = l.length:=⟨_,rfl⟩
   rw [← hN] at hsz h3 hl
   clear hn hN e1 e2
   generalize zc_ l = S at *
   have c1 : (0 : Int) ≤ (n : Int):=by omega
   have c2 : (n : Int) ≤ (S.size : Int):=by omega
   have c3 : (0 : Int) ≤ (n : Int) + 1:=by omega
   have c4 : (n : Int) + 1 ≤ (S.size : Int):=by omega
   have HSZ:=hQ_ hsz
   clear hsz
   go_enter Tryz.func127,Tryz.ntmps127
   go_wp2_with (go_at_call 139; refine HX.out.mono ?_; rintro e w1 ⟨rfl,rfl⟩)
   have HD:=hQ_ ((Chg.refl [] w1).drew)
   go_region
   all_goals go_wp2_with fail
   all_goals go_ret3
   all_goals exact ⟨by rw [HV.out,← HE.out.1,← HE.out.2]; rfl,HD.out⟩
theorem qB_ (l : List UInt8) (hl : l.length ≤ 1000000) : Calls Tryz.prog 115 #[.string (zc_ l),.string ⟨#[32]⟩] w (ud_ l w):=by
 have HX:=hQ_ (qn_ (w:=w) l hl)
 obtain ⟨V,hV⟩ : ∃ V,V = zdI l:=⟨_,rfl⟩
 unfold ud_ at HX ⊢
 rw [← hV] at HX ⊢
 obtain ⟨x,y,z,hxyz⟩ : ∃ x y z,V = .tuple #[.string x,.string y,.bool z]:=by
  rw [hV]; unfold zdI; split <;> exact ⟨_,_,_,rfl⟩
 clear hV
 subst hxyz
 go_enter Tryz.func115,Tryz.ntmps115
 go_wp2_with (go_at_call 127; refine HX.out.mono ?_; rintro e w1 ⟨rfl,hc1⟩; have HC1:=hQ_ hc1; clear hc1)
 go_ret3
 exact ⟨rfl,HC1.out⟩
end
end Go.Proofs.YtbkfhndmeljlcaaGreatDoor
