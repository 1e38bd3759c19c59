import Derived.Test.YtbkfhndmeljlcaaGreatDoorZA18
import Derived.Shelf.Bytes.SlJoin
set_option maxRecDepth 100000
set_option maxHeartbeats 16000000
namespace Go.Proofs.YtbkfhndmeljlcaaGreatDoor
open Go.RowKit
def xm_ (w : World) (cs : List (Nat × List UInt8)) (r : Int) (e : Ending) (w' : World) : Prop :=
 ∃ v ls,e = .returned (.tuple #[v,.int .i64 r]) ∧ w'.ownsRow w.heap.size 44 2 v ls.length (vS_ ls) ∧ (∀ a ∈ ls,RMade w' w.heap.size a) ∧ ku_ ls cs ∧ Chg [] w w'
theorem xm_.no {w w' : World} {r : Int} (hc : Chg [] w w') : xm_ w [] r (.returned (.tuple #[.slice none 0 0,.int .i64 r])) w':=⟨_,[],rfl,World.ownsRow_nil _ _ _ _,by simp,rfl,hc⟩
def ut_ (T : List UInt8) (E pg ms pages : Int) : List (Nat × List UInt8) × Int :=
 if E ≠ 0 then ([],E) else if pages < yn_ T E ms ∨ 64 < pages then ([],25) else (v3_ T pg.toNat,0)
theorem gM_ (m n : Nat) : (bts (zt_ m)).drop n = bts (zt_ (m - n)):=by
 unfold bts zt_
 rw [List.map_replicate,List.drop_replicate,List.map_replicate]
theorem zbc {P : Program} {ops : Array Oper} {rest : List Oper} {o : Oper} {a : Act} {w w' : World} {Q : Exit → Act → World → Prop} {v u x : Value} (hgd : o.guard = none) (d s : Operand) (t t' : TypeId)
    (ho : o.op = .call { callee:=.builtin .copy,args:=#[d,s],argTypes:=#[t,t'] }) (hd : a.eval d = v) (hs : a.eval s = u) (hr : (Builtin.copy_ #[t,t'] o.type #[v,u]).run P w = .ok x w') (h : wpList P ops Q rest (a.put o.dst x) w') : wpList P ops Q (o :: rest) a w:=by
      refine wpList_plain hgd fun _ hK => ?_
      unfold Oper.wp execOp
      simp only [ho,resolve,invoke,builtin,Sem.run_bind,Sem.run_pure,Result.andThen_ok,List.map_toArray,List.map_cons,List.map_nil,hd,hs,hr]
      exact hK _ _ h
theorem RMade.more {w : World} {B0 B1 : Nat} {a : ChV} (h : RMade w B0 a) (hB : B1 ≤ B0) : RMade w B1 a:=by
 obtain ⟨g,r,hg,hb,hW⟩:=h.b
 exact { h with b:=⟨g,r,hg,Nat.le_trans hB hb,hW⟩ }
theorem kQ_ (w : World) (B : Nat) (hB : B ≤ w.heap.size) (a : ChV) : (w.alloc (.cells #[.int .i64 a.page,.slice a.bA a.bn a.bc] 44)).ownsRow B 44 2 (.slice (some ⟨w.heap.size,0,none⟩) 1 1) 1 (vS_ [a]) :=
 ⟨by simp [vS_,chC],.inr ⟨w.heap.size,1,#[.int .i64 a.page,.slice a.bA a.bn a.bc],rfl,hB,heap_alloc_new w _,Nat.le_refl _,by unfold maxLen; omega,by simp,by simp [vS_,chC]⟩⟩
theorem u9_ (W : World) : (Instr.makeSlice 33 (.int .i64 64) (.int .i64 64)).run Tryz.prog W = .ok (.slice (some ⟨W.heap.size,0,none⟩) 64 64) (W.alloc (.cells (bts (zt_ 64)).toArray 5)):=zbV 64 (by omega) W
section
variable {w : World} {pg ms : Int} {A : Option Addr} {n c : Nat} {E : Int} {T : List UInt8}
theorem jR_ (hT : zaJ w pg ms A n c T E) (hTl : T.length ≤ 2048) (hms : E = 0 → 0 ≤ pg ∧ pg ≤ ms ∧ ms ≤ 64) (pages : Int) (hP : xq_ w.heap.size w) : Calls Tryz.prog 20 #[.agg #[.int .i64 pg,.int .i64 ms,.slice A n c],.int .i64 pages] w (xm_ w (ut_ T E pg ms pages).1 (ut_ T E pg ms pages).2):=by
 obtain ⟨i0,hi,hz0,hz1,hz2⟩:=info_parts kd_
 have HT:=hQ_ hT
 have HP:=hQ_ hP
 have HND:=hQ_ (fun (W : World) (hc : Chg [] w W) (hp : xq_ W.heap.size W) => ve_ (hT.keep hc) hTl (fun h => ⟨by have:=hms h; omega,(hms h).2.2⟩) hp)
 have HNO:=hQ_ (show ∀ (r : Int) (wr : World),ut_ T E pg ms pages = ([],r) → Chg [] w wr → xm_ w (ut_ T E pg ms pages).1 (ut_ T E pg ms pages).2 (.returned (.tuple #[.slice none 0 0,.int .i64 r])) wr from fun r wr h hc => by rw [h]; exact xm_.no hc)
 have HYES:=hQ_ (show ∀ (v : Value) (ls : List ChV) (wr : World) (B : Nat),ut_ T E pg ms pages = (v3_ T pg.toNat,0) → w.heap.size ≤ B → wr.ownsRow B 44 2 v ls.length (vS_ ls) → (∀ a ∈ ls,RMade wr B a) → ku_ ls (v3_ T pg.toNat) → Chg [] w wr → xm_ w (ut_ T E pg ms pages).1 (ut_ T E pg ms pages).2 (.returned (.tuple #[v,.int .i64 0])) wr from fun v ls wr B h hB h1 h2 h3 h4 => by rw [h]; exact ⟨v,ls,rfl,jJ_ h1 hB,fun a ha => (h2 a ha).more hB,h3,h4⟩)
 have HDEF:=hQ_ (show ut_ T E pg ms pages = if E ≠ 0 then ([],E) else if pages < yn_ T E ms ∨ 64 < pages then ([],25) else (v3_ T pg.toNat,0) from rfl)
 clear hT hP
 generalize ut_ T E pg ms pages = RP at HNO HYES HDEF ⊢
 generalize xm_ w RP.1 RP.2 = PO at HNO HYES ⊢
 unfold zaJ zG_ at HT
 go_enter Tryz.func20,Tryz.ntmps20
 go_upto_region 1 with fail
 have hN:=zb_.new w 24 [.int .i64 pg,.int .i64 ms,.slice A n c]
 have hal:=(Chg.refl [] w).alloc (.cells #[.int .i64 pg,.int .i64 ms,.slice A n c] 24)
 have HU1:=hQ_ hN
 have HC1:=hQ_ hal
 clear hN hal
 have HGW:=hQ_ (Nat.le_refl w.heap.size)
 obtain ⟨gu,hgu⟩ : ∃ gu,gu = w.heap.size:=⟨_,rfl⟩
 rw [← hgu] at HU1 ⊢
 clear hgu
 generalize w.alloc (.cells #[.int .i64 pg,.int .i64 ms,.slice A n c] 24) = w1 at HU1 HC1 ⊢
 have u0:=HU1.out.cell 0
 have u1:=HU1.out.cell 1
 have u2:=HU1.out.cell 2
 by_cases hE : E = 0
 · subst hE
   obtain ⟨hp0,hpm,hm1⟩:=hms rfl
   obtain ⟨p,rfl⟩ : ∃ p : Nat,pg = (p : Int):=⟨pg.toNat,by omega⟩
   have hp64 : p ≤ 64:=by omega
   have hnz : yn_ T 0 ms = 1 + (zs_ T.length : Int) + ms:=by unfold yn_; rw [if_pos rfl]
   by_cases hbad : pages < yn_ T 0 ms ∨ 64 < pages
   · have HR:=hQ_ (show RP = ([],25) from by rw [HDEF.out,if_neg (by simp),if_pos hbad])
     generalize yn_ T 0 ms = N at HND hbad
     clear hnz HDEF hTl hms
     generalize zc_ T = S at HT
     by_cases hb1 : pages < N
     · clear hbad
       go_wp2_with (first
        | (go_at_call 31
           refine (HT.out _ HC1.out (HP.out.here HC1.out)).mono ?_
           rintro e w2 ⟨rfl,hc2⟩
           have HC2:=hQ_ (HC1.out.trans hc2)
           have HU2:=hQ_ (HU1.out.keep hc2)
           have v0:=HU2.out.cell 0
           have v1:=HU2.out.cell 1
           have v2:=HU2.out.cell 2
           clear hc2)
        | (go_at_call 19
           refine (HND.out _ HC2.out (HP.out.here HC2.out)).mono ?_
           rintro e w3 ⟨rfl,hc3⟩
           have HC3:=hQ_ (HC2.out.trans hc3)
           clear hc3))
       exact HNO.out 25 _ HR.out HC3.out
     · have hb2 : 64 < pages:=by omega
       clear hbad
       go_wp2_with (first
        | (go_at_call 31
           refine (HT.out _ HC1.out (HP.out.here HC1.out)).mono ?_
           rintro e w2 ⟨rfl,hc2⟩
           have HC2:=hQ_ (HC1.out.trans hc2)
           have HU2:=hQ_ (HU1.out.keep hc2)
           have v0:=HU2.out.cell 0
           have v1:=HU2.out.cell 1
           have v2:=HU2.out.cell 2
           clear hc2)
        | (go_at_call 19
           refine (HND.out _ HC2.out (HP.out.here HC2.out)).mono ?_
           rintro e w3 ⟨rfl,hc3⟩
           have HC3:=hQ_ (HC2.out.trans hc3)
           clear hc3))
       exact HNO.out 25 _ HR.out HC3.out
   · have HR:=hQ_ (show RP = (v3_ T p,0) from by rw [HDEF.out,if_neg (by simp),if_neg hbad]; rfl)
     obtain ⟨hb1,hb2⟩ : ¬ pages < yn_ T 0 ms ∧ ¬ 64 < pages:=by omega
     obtain ⟨h,hh⟩ : ∃ h,h = zs_ T.length:=⟨_,rfl⟩
     have hh33 : h ≤ 33:=by rw [hh]; unfold zs_; omega
     have HPG:=hQ_ (fun (W : World) => xe_ T (by omega) W)
     have HCS:=hQ_ (show v3_ T p = [(0,zT_ T.length p)] ++ plT T h ++ plM (1 + h) p from by rw [hh]; rfl)
     have HHT:=hQ_ (show T.length ≤ h * 64 ∧ (0 < h → (h - 1) * 64 ≤ T.length) from by rw [hh]; unfold zs_; omega)
     rw [← hh] at HPG
     clear hh hbad HDEF hnz hms
     generalize yn_ T 0 ms = N at HND hb1
     have HMT:=hQ_ (fun (W : World) => gb_ (w:=W) T.length p (by omega) (by omega))
     have hsz : (zc_ T).size = T.length:=zy_ T
     obtain ⟨S,hS⟩ : ∃ S,S = zc_ T:=⟨_,rfl⟩
     rw [← hS] at HT hsz HPG
     have HS:=hQ_ hS
     clear hS
     obtain ⟨nT,hnT⟩ : ∃ nT,nT = T.length:=⟨_,rfl⟩
     have HNT:=hQ_ hnT
     rw [← hnT] at hsz hTl HMT HCS HHT
     clear hnT
     -- the Meta
     go_upto_region 7 with (first
      | (go_at_call 31
         refine (HT.out _ HC1.out (HP.out.here HC1.out)).mono ?_
         rintro e w2 ⟨rfl,hc2⟩
         have HC2:=hQ_ (HC1.out.trans hc2)
         have HU2:=hQ_ (HU1.out.keep hc2)
         have v0:=HU2.out.cell 0
         have v1:=HU2.out.cell 1
         have v2:=HU2.out.cell 2
         clear hc2)
      | (go_at_call 19
         refine (HND.out _ HC2.out (HP.out.here HC2.out)).mono ?_
         rintro e w3 ⟨rfl,hc3⟩
         have HC3:=hQ_ (HC2.out.trans hc3)
         have HU3:=hQ_ (HU2.out.keep hc3)
         have x0:=HU3.out.cell 0
         clear hc3)
      | (go_at_call 46
         refine (HMT.out _).mono ?_
         rintro e w4 ⟨v4,rfl,ho4,hc4⟩
         rw [yW_] at ho4
         obtain ⟨g4,r4,rfl,hg4,hW4,hm4⟩:=xf_ ho4 (by omega)
         have HW4:=hQ_ hW4
         have HM4:=hQ_ hm4
         have HG4:=hQ_ (Nat.le_trans HC3.out.size hg4)
         have HC4:=hQ_ (HC3.out.trans hc4)
         have HU4:=hQ_ (HU3.out.keep hc4)
         clear hc4 ho4 hW4 hm4 hg4))
     clear u0 u1 u2 v0 v1 v2 x0
     obtain ⟨c4,hc4⟩ : ∃ c4,c4 = 64 + r4.length:=⟨_,rfl⟩
     have HC4C:=hQ_ hc4
     rw [← hc4] at HM4 ⊢
     clear hc4
     have hal:=(Chg.refl [] w4).alloc (.cells #[.int .i64 0,.slice (some ⟨g4,0,none⟩) 64 c4] 44)
     have HOA:=hQ_ (kQ_ w4 w.heap.size HC4.out.size ⟨0,some ⟨g4,0,none⟩,64,c4,zT_ nT p⟩)
     have HRA:=hQ_ (show ∀ a ∈ [(⟨0,some ⟨g4,0,none⟩,64,c4,zT_ nT p⟩ : ChV)],RMade (w4.alloc (.cells #[.int .i64 0,.slice (some ⟨g4,0,none⟩) 64 c4] 44)) w.heap.size a from fun a ha => by
      rw [List.mem_singleton] at ha; subst ha
      have hm:=HM4.out
      unfold maxLen at hm
      exact ⟨⟨g4,r4,rfl,HG4.out,HW4.out.keep hal,HC4C.out,by rw [← HC4C.out]; exact hm⟩,yW_ _ _,rfl,by simp only; omega⟩)
     have HU5:=hQ_ (HU4.out.keep hal)
     have HC5:=hQ_ (HC4.out.trans hal)
     clear hal
     generalize w4.heap.size = g5 at HOA ⊢
     generalize w4.alloc (.cells #[.int .i64 0,.slice (some ⟨g4,0,none⟩) 64 c4] 44) = w5 at HOA HRA HU5 HC5 ⊢
     have HS0:=hQ_ (show ku_ [(⟨0,some ⟨g4,0,none⟩,64,c4,zT_ nT p⟩ : ChV)] ([(0,zT_ nT p)] ++ plT T 0) from rfl)
     generalize [(⟨0,some ⟨g4,0,none⟩,64,c4,zT_ nT p⟩ : ChV)] = ls0 at HOA HRA HS0
     have hl0 : ls0.length = 1:=by have:=HS0.out.len; simpa [plT] using this
     have HL0:=hQ_ hl0
     clear hl0 HW4 HM4 HG4 HC4C HC4 HU4 HC3 HC2 HU2 HU3
     go_wp2_with (
      go_at_call 44
      refine (HPG.out _).mono ?_
      rintro e wq ⟨rfl,rfl⟩)
     go_loopw [8,38] (fun v i wr => ∃ (k : Nat) (ls : List ChV) (A' : Option Addr) (c' : Nat),k ≤ h ∧ i = .int .i64 (k : Int) ∧ v = .slice A' (1 + k) c' ∧ Hid (ls.length = 1 + k) ∧ Hid (wr.ownsRow w.heap.size 44 2 (.slice A' (1 + k) c') (1 + k) (vS_ ls)) ∧ Hid (∀ a ∈ ls,RMade wr w.heap.size a) ∧ Hid (ku_ ls ([(0,zT_ nT p)] ++ plT T k)) ∧ Hid (zb_ wr gu 24 [.int .i64 (p : Int),.int .i64 ms,.slice A n c]) ∧ Hid (Chg [] w wr)) (fun _ i _ => h - (intOf i).toNat)
     case atStart => exact ⟨0,ls0,some ⟨g5,0,none⟩,1,by omega,rfl,rfl,HL0,HOA,HRA,HS0,HU5,HC5⟩
     case round =>
      clear HOA HRA HS0 HU5 HC5 HL0
      obtain ⟨k,ls,A',c',hk,rfl,rfl,HLS,HOR,HRR,HSR,HUR,HCr⟩:=hrel
      by_cases hkh : k < h
      · have hkI : (k : Int) < (h : Int):=by omega
        have hk64 : k * 64 ≤ S.size:=by
         have h1:=HHT.out.2 (by omega)
         have h2 : k * 64 ≤ (h - 1) * 64:=Nat.mul_le_mul_right 64 (by omega)
         omega
        have hex : S.extract (k * 64) nT = zc_ (T.drop (k * 64)):=by rw [← hsz,HS.out]; exact g3_ T (k * 64)
        have HEX:=hQ_ hex
        have hN:=zb_.new wr 5 (bts (zt_ 64))
        have hal:=(Chg.refl [] wr).alloc (.cells (bts (zt_ 64)).toArray 5)
        obtain ⟨w6,hcp,hW6,hc6⟩:=k6_ (P:=Tryz.prog) (wr.alloc (.cells (bts (zt_ 64)).toArray 5)) 33 9 3 5 wr.heap.size 64 64 (T.drop (k * 64)) _ 5 Tryz.underlying33 zbd hN (by rw [zA_,zI_])
        have HCP:=hQ_ hcp
        have hc6' : Chg [] wr w6:=hal.then_ hc6 (fun i hi hlt => by rw [List.mem_singleton] at hi; subst hi; exact absurd hlt (Nat.lt_irrefl _))
        have HW6:=hQ_ (show zb_ w6 wr.heap.size 5 (bts (pgT T k)) from by
         have e : bts (pgT T k) = bts ((T.drop (k * 64)).take 64) ++ (bts (zt_ 64)).drop ((T.drop (k * 64)).take 64).length:=by
          unfold pgT
          rw [ug_,gM_]
         rw [e]; exact hW6)
        have HB5:=hQ_ (HCr.out.size)
        have HC6:=hQ_ hc6'
        have HA6:=hQ_ hal
        clear hN hal hcp hW6 hc6 hc6'
        obtain ⟨g6,hg6⟩ : ∃ g6,g6 = wr.heap.size:=⟨_,rfl⟩
        have hmk : (Instr.makeSlice 33 (.int .i64 64) (.int .i64 64)).run Tryz.prog wr = .ok (.slice (some ⟨g6,0,none⟩) 64 64) (wr.alloc (.cells (bts (zt_ 64)).toArray 5)):=by rw [hg6]; exact u9_ wr
        rw [← hg6] at HW6 HB5 HCP
        clear hg6
        generalize wr.alloc (.cells (bts (zt_ 64)).toArray 5) = w55 at hmk HCP HA6
        have HR6:=hQ_ (show ∀ a ∈ ls,RMade w6 w.heap.size a from fun a ha => (HRR.out a ha).chg HC6.out (by simp))
        have HO6:=hQ_ (z3_ HOR.out HC6.out (by simp))
        have HU6:=hQ_ (HUR.out.keep HC6.out)
        have HC7:=hQ_ (HCr.out.trans HC6.out)
        have hws : w.heap.size ≤ w6.heap.size:=HC7.out.size
        have HALX:=hQ_ ((Chg.refl [] w6).alloc (.cells #[.int .i64 (1 + (k : Int)),.slice (some ⟨g6,0,none⟩) 64 64] 44))
        have HOX:=hQ_ (z3_ HO6.out HALX.out (by simp))
        have hcpf:=HCP.out
        rw [← HEX.out] at hcpf
        have HCPF:=hQ_ hcpf
        clear hcpf
        go_wp2_with (first
         | (with_reducible refine zbc (v:=.slice (some ⟨g6,0,none⟩) 64 64) (u:=.string (S.extract (k * 64) nT)) rfl (.tmp 42) (.tmp 46) 33 9 rfl rfl rfl HCPF.out ?_)
         | (at_builtin
            refine wpList_append_own _ rfl (.tmp 48) (.tmp 53) _ rfl w.heap.size 44 i0 _ 2 32 Tryz.underlying39 hi hz0 hz1 hz2 rfl (by decide) (.slice A' (1 + k) c') (1 + k) (vS_ ls) rfl HOX.out ⟨w6.heap.size,0,none⟩ 1 1 [.int .i64 (1 + (k : Int)),.slice (some ⟨g6,0,none⟩) 64 64] rfl rfl ?c1 ?c2 ?c3 ?c4 ?c5 ?_
            case c1 => exact zo_ _ _ _
            case c2 => simp [Value.oneCell']
            case c3 => simp only [maxLen]; omega
            case c4 => omega
            case c5 => simp; omega
            intro v' w8 hown' hg' _))
        obtain ⟨A8,c8,rfl,_⟩:=zl_ hown'
        have HO8:=hQ_ hown'
        have HU8:=hQ_ (zh_ (HU6.out.keep HALX.out) HOX.out (by decide) hg')
        have HC8:=hQ_ (kj_ (HC7.out.trans HALX.out) hg' (fun g hg => (HOX.out.lt g hg).1))
        have HR8:=hQ_ (show ∀ a ∈ ls ++ [(⟨((1 + k : Nat) : Int),some ⟨g6,0,none⟩,64,64,pgT T k⟩ : ChV)],RMade w8 w.heap.size a from fun a ha => by
         rcases List.mem_append.1 ha with h | h
         · exact ((HR6.out a h).chg HALX.out (by simp)).grown HOX.out hg'
         · simp only [List.mem_cons,List.not_mem_nil,or_false] at h
           subst h
           exact ((MadeCh.rmade ⟨⟨g6,rfl,HB5.out,HW6.out⟩,zbF _ _,rfl,rfl,by simp only; omega⟩).chg HALX.out (by simp)).grown HOX.out hg')
        clear hown' hg'
        go_roundw
        case rel =>
         refine ⟨k + 1,ls ++ [(⟨((1 + k : Nat) : Int),some ⟨g6,0,none⟩,64,64,pgT T k⟩ : ChV)],A8,c8,by omega,by go_num,rfl,hQ_ (by rw [List.length_append,HLS.out]; rfl),hQ_ ?_,HR8,hQ_ ?_,HU8,HC8⟩
         · rw [uM_,jr_]
           have:=HO8.out
           rw [show (1 : Int) + (k : Int) = ((1 + k : Nat) : Int) by omega] at this
           exact this
         · rw [plT,← List.append_assoc]
           exact HSR.out.snoc (a:=⟨((1 + k : Nat) : Int),some ⟨g6,0,none⟩,64,64,pgT T k⟩) rfl
        case measure => simp [intOf]; omega
      · have hkI : ¬ (k : Int) < (h : Int):=by omega
        obtain rfl : h = k:=by omega
        have u0:=HUR.out.cell 0
        clear hkI hkh hk
        go_wp2_with (
         go_at_call 44
         refine (HPG.out _).mono ?_
         rintro e wq ⟨rfl,rfl⟩)
        clear u0
        obtain ⟨q1,hq1⟩ : ∃ q1,q1 = 1 + h:=⟨_,rfl⟩
        have HQ1:=hQ_ hq1
        rw [← hq1] at HLS HOR ⊢
        clear hq1
        have HSR2:=hQ_ (show ku_ ls ([(0,zT_ nT p)] ++ plT T h ++ plM (1 + h) 0) from by have:=HSR.out; simpa [plM] using this)
        go_loopw [8,61] (fun v i wr => ∃ (j : Nat) (ls : List ChV) (A' : Option Addr) (c' : Nat),j ≤ p ∧ i = .int .i64 (j : Int) ∧ v = .slice A' (q1 + j) c' ∧ Hid (ls.length = q1 + j) ∧ Hid (wr.ownsRow w.heap.size 44 2 (.slice A' (q1 + j) c') (q1 + j) (vS_ ls)) ∧ Hid (∀ a ∈ ls,RMade wr w.heap.size a) ∧ Hid (ku_ ls ([(0,zT_ nT p)] ++ plT T h ++ plM (1 + h) j)) ∧ Hid (Chg [] w wr)) (fun _ i _ => p - (intOf i).toNat)
        case atStart => exact ⟨0,ls,A',c',by omega,rfl,rfl,HLS,HOR,HRR,HSR2,HCr⟩
        case round =>
         clear HLS HOR HRR HSR HSR2 HCr HUR
         obtain ⟨j,ls,A',c',hj,rfl,rfl,HLS,HOR,HRR,HSR,HCr⟩:=hrel
         by_cases hjp : j < p
         · have hjI : (j : Int) < (p : Int):=by omega
           have hq34 : q1 ≤ 34:=by have:=HQ1.out; omega
           have hN:=zb_.new wr 5 (bts (zt_ 64))
           have hal:=(Chg.refl [] wr).alloc (.cells (bts (zt_ 64)).toArray 5)
           have hmk0:=u9_ wr
           obtain ⟨g6,hg6⟩ : ∃ g6,g6 = wr.heap.size:=⟨_,rfl⟩
           have HB5:=hQ_ (HCr.out.size)
           rw [← hg6] at hN hmk0 HB5
           clear hg6
           obtain ⟨w6,hw6⟩ : ∃ w6,w6 = wr.alloc (.cells (bts (zt_ 64)).toArray 5):=⟨_,rfl⟩
           rw [← hw6] at hN hal hmk0
           have HW6:=hQ_ hN
           have HC6:=hQ_ hal
           clear hN hal hw6
           have HR6:=hQ_ (show ∀ a ∈ ls,RMade w6 w.heap.size a from fun a ha => (HRR.out a ha).chg HC6.out (by simp))
           have HO6:=hQ_ (z3_ HOR.out HC6.out (by simp))
           have HC7:=hQ_ (HCr.out.trans HC6.out)
           have hws : w.heap.size ≤ w6.heap.size:=HC7.out.size
           have HALX:=hQ_ ((Chg.refl [] w6).alloc (.cells #[.int .i64 (1 + (h : Int) + (j : Int)),.slice (some ⟨g6,0,none⟩) 64 64] 44))
           have HOX:=hQ_ (z3_ HO6.out HALX.out (by simp))
           go_wp2_with (first
            | (at_builtin
               refine wpList_append_own _ rfl (.tmp 64) (.tmp 70) _ rfl w.heap.size 44 i0 _ 2 32 Tryz.underlying39 hi hz0 hz1 hz2 rfl (by decide) (.slice A' (q1 + j) c') (q1 + j) (vS_ ls) rfl HOX.out ⟨w6.heap.size,0,none⟩ 1 1 [.int .i64 (1 + (h : Int) + (j : Int)),.slice (some ⟨g6,0,none⟩) 64 64] rfl rfl ?c1 ?c2 ?c3 ?c4 ?c5 ?_
               case c1 => exact zo_ _ _ _
               case c2 => simp [Value.oneCell']
               case c3 => simp only [maxLen]; omega
               case c4 => omega
               case c5 => simp; omega
               intro v' w8 hown' hg' _))
           obtain ⟨A8,c8,rfl,_⟩:=zl_ hown'
           have HO8:=hQ_ hown'
           have HC8:=hQ_ (kj_ (HC7.out.trans HALX.out) hg' (fun g hg => (HOX.out.lt g hg).1))
           have HR8:=hQ_ (show ∀ a ∈ ls ++ [(⟨((1 + h + j : Nat) : Int),some ⟨g6,0,none⟩,64,64,zt_ 64⟩ : ChV)],RMade w8 w.heap.size a from fun a ha => by
            rcases List.mem_append.1 ha with h | h
            · exact ((HR6.out a h).chg HALX.out (by simp)).grown HOX.out hg'
            · simp only [List.mem_cons,List.not_mem_nil,or_false] at h
              subst h
              exact ((MadeCh.rmade ⟨⟨g6,rfl,HB5.out,HW6.out⟩,by rw [zI_],rfl,rfl,by simp only; omega⟩).chg HALX.out (by simp)).grown HOX.out hg')
           clear hown' hg'
           go_roundw
           case rel =>
            refine ⟨j + 1,ls ++ [(⟨((1 + h + j : Nat) : Int),some ⟨g6,0,none⟩,64,64,zt_ 64⟩ : ChV)],A8,c8,by omega,by go_num,rfl,hQ_ (by rw [List.length_append,HLS.out]; rfl),hQ_ ?_,HR8,hQ_ ?_,HC8⟩
            · rw [uM_,jr_]
              have:=HO8.out
              rw [show (1 : Int) + (h : Int) + (j : Int) = ((1 + h + j : Nat) : Int) by omega] at this
              exact this
            · rw [plM,← List.append_assoc]
              exact HSR.out.snoc (a:=⟨((1 + h + j : Nat) : Int),some ⟨g6,0,none⟩,64,64,zt_ 64⟩) rfl
           case measure => simp [intOf]; omega
         · have hjI : ¬ (j : Int) < (p : Int):=by omega
           obtain rfl : p = j:=by omega
           have HF:=hQ_ (HYES.out (.slice A' (q1 + p) c') ls wr w.heap.size (by rw [HR.out]; rfl) (Nat.le_refl _) (by rw [HLS.out]; exact HOR.out) HRR.out (by
            show ku_ ls (v3_ T p)
            rw [HCS.out]; exact HSR.out) HCr.out)
           go_wp2_with fail
           exact HF.out
 · have hd : (E == 0) = false:=by simpa using hE
   have HR:=hQ_ (show RP = ([],E) from by rw [HDEF.out,if_pos hE])
   generalize zc_ T = S at HT
   clear hE HDEF hms hTl
   go_wp2_with (
    go_at_call 31
    refine (HT.out _ HC1.out (HP.out.here HC1.out)).mono ?_
    rintro e w2 ⟨rfl,hc2⟩
    have HC2:=hQ_ (HC1.out.trans hc2)
    clear hc2)
   exact HNO.out E _ HR.out HC2.out
end
end Go.Proofs.YtbkfhndmeljlcaaGreatDoor
namespace Go.Proofs.YtbkfhndmeljlcaaGreatDoor
open Go.RowKit
def zaI (W : World) (pg ms : Int) (A : Option Addr) (n c : Nat) (T : List UInt8) (E : Int) : Prop :=
 ∀ w,Chg [] W w → Calls Tryz.prog 26 #[.agg #[.int .i64 pg,.int .i64 ms,.slice A n c]] w (zG_ T E w)
theorem zaI.keep {W W' : World} {pg ms : Int} {A : Option Addr} {n c : Nat} {T : List UInt8} {E : Int} (h : zaI W pg ms A n c T E) (hc : Chg [] W W') : zaI W' pg ms A n c T E:=fun w k => h w (hc.trans k)
theorem zaI.of_fnr {W : World} {pg ms : Int} {A : Option Addr} {n c : Nat} {l : List FnV} (h : Fnr W A n c l) (hsm : ∀ f ∈ l,f.code.size ≤ 9223372036854775807) : zaI W pg ms A n c (zS_ pg ms l).1 (zS_ pg ms l).2:=fun _ hc => v0_ (h.keep hc) hsm
section
variable {w : World}
theorem kK_ (T : List UInt8) (hn : T.length ≤ 1000000) (w : World) : Calls Tryz.prog 39 #[.string (zc_ T)] w fun e w' => e = .returned (.int .i64 ((zs_ T.length : Nat) : Int)) ∧ w' = w:=by
 have HH:=hQ_ (show ((zs_ T.length : Nat) : Int) = ((T.length : Int) + 64 - 1) / 64 from by unfold zs_; omega)
 have hsz:=zy_ T
 generalize zs_ T.length = h at HH
 generalize zc_ T = S at hsz
 generalize T.length = n at HH hsz hn
 go_enter Tryz.func39,Tryz.ntmps39
 go_wp2_with fail
 go_ret
 exact ⟨congrArg (fun z : Int => Ending.returned (Value.int .i64 z)) HH.out.symm,rfl⟩
variable {pg ms : Int} {A : Option Addr} {n c : Nat} {E : Int} {T : List UInt8}
theorem vH_ (hT : zaI w pg ms A n c T E) (hTl : T.length ≤ 2048) (hms : E = 0 → 0 ≤ ms ∧ ms ≤ 64) : Calls Tryz.prog 12 #[.agg #[.int .i64 pg,.int .i64 ms,.slice A n c]] w fun e w' => e = .returned (.int .i64 (yn_ T E ms)) ∧ Chg [] w w':=by
 have HT:=hQ_ hT
 obtain ⟨N,hN⟩ : ∃ N,N = yn_ T E ms:=⟨_,rfl⟩
 rw [← hN]
 have HN:=hQ_ hN
 clear hT hN
 unfold zaI zG_ at HT
 go_enter Tryz.func12,Tryz.ntmps12
 go_upto_region 1 with fail
 have hN:=zb_.new w 24 [.int .i64 pg,.int .i64 ms,.slice A n c]
 have hal:=(Chg.refl [] w).alloc (.cells #[.int .i64 pg,.int .i64 ms,.slice A n c] 24)
 have HU1:=hQ_ hN
 have HC1:=hQ_ hal
 clear hN hal
 generalize w.heap.size = gu at HU1 ⊢
 generalize w.alloc (.cells #[.int .i64 pg,.int .i64 ms,.slice A n c] 24) = w1 at HU1 HC1 ⊢
 have u0:=HU1.out.cell 0
 have u1:=HU1.out.cell 1
 have u2:=HU1.out.cell 2
 by_cases hE : E = 0
 · subst hE
   have hN1 : N = 1 + (zs_ T.length : Int) + ms:=by rw [HN.out]; unfold yn_; rw [if_pos rfl]
   have HPG:=hQ_ (fun (W : World) => kK_ T (by omega) W)
   have hh : zs_ T.length ≤ 33:=by unfold zs_; omega
   obtain ⟨h,hh2⟩ : ∃ h,h = zs_ T.length:=⟨_,rfl⟩
   rw [← hh2] at HPG hN1 hh
   obtain ⟨hm0,hm1⟩:=hms rfl
   generalize zc_ T = S at HT HPG
   clear hh2 HN hTl hms
   have HN1:=hQ_ hN1
   clear hN1
   go_upto_region 4 with (
    go_at_call 26
    refine (HT.out _ HC1.out).mono ?_
    rintro e w2 ⟨rfl,hc2⟩
    have HC2:=hQ_ (HC1.out.trans hc2)
    have HU2:=hQ_ (HU1.out.keep hc2)
    clear hc2)
   clear u0 u1 u2
   have HHW:=hQ_ (fun (W : World) (h : Chg [] w2.drew W) => (show Chg [] w2 W from (Chg.refl [] w2).drew.trans h))
   have HW1:=hQ_ (show IntKind.i64.wrap (1 + (h : Int)) = 1 + (h : Int) from IntWalk.i64_in _ (by omega))
   have HW2:=hQ_ (show IntKind.i64.wrap (1 + (h : Int) + ms) = N from by rw [HN1.out]; exact IntWalk.i64_in _ (by omega))
   refine wp_flow (by kernel_rfl) yt_ za_ (by kernel_rfl) ?_
   refine flow_move_out za_ rfl rfl rfl ?_
   refine zF_ (.int .i64 (h : Int)) (by kernel_rfl) rfl (.cons (.inn rfl) .nil) (fun W hW => (HPG.out W).mono ?_) ?_
   · rintro e w' ⟨rfl,rfl⟩
     rw [zE_]
     exact ⟨rfl,Chg.refl _ _⟩
   refine flow2 (r:=.int .i64 (1 + (h : Int))) za_ rfl (.const _) (.inn rfl) rfl (fun ev W he e1 e2 => by have q:=HW1.out; go_simp) ?_
   refine flow1 (r:=.pointer (some ⟨gu,1,none⟩)) za_ rfl (.out rfl rfl) rfl (fun ev W he e1 => by go_simp) ?_
   refine flow1h (r:=.int .i64 ms) za_ rfl (.inn rfl) rfl (fun ev W he hW e1 => by
    have hk:=HU2.out.keep (HHW.out W hW)
    have q1:=hk.cell 1
    clear hW hk
    go_simp) ?_
   refine flow2 (r:=.int .i64 N) za_ rfl (.inn rfl) (.inn rfl) rfl (fun ev W he e1 e2 => by have q:=HW2.out; go_simp) ?_
   refine flow_assign za_ rfl (zd_ _) (.inr (zd_ _)) rfl ?_
   intro vs W hW hF
   have e2 : vs 2 = .int .i64 N:=hF 2 _ rfl rfl
   have HCW:=hQ_ (HC2.out.trans (HHW.out W hW))
   simp only [z2_,Act.put,List.setIfInBounds_toArray,List.set_cons_zero,List.set_cons_succ]
   rw [e2]
   clear hF hW e2
   obtain ⟨wz,hwz⟩ : ∃ wz : World,wz = W:=⟨_,rfl⟩
   rw [← hwz] at HCW ⊢
   clear hwz
   go_wp2_with fail
   go_ret
   exact ⟨rfl,HCW.out⟩
 · obtain rfl : N = 0:=by rw [HN.out]; unfold yn_; rw [if_neg hE]
   have hd : (E == 0) = false:=by simpa using hE
   clear hE HN hms
   go_wp2_with (
    go_at_call 26
    refine (HT.out _ HC1.out).mono ?_
    rintro e w2 ⟨rfl,hc2⟩
    have HC2:=hQ_ (HC1.out.trans hc2)
    clear hc2)
   go_ret
   exact ⟨rfl,HC2.out⟩
theorem jL_ (t p : Nat) (ht : t ≤ 2147483647) (hp : p ≤ 2147483647) :
    Calls Tryz.prog 66 #[.int .i64 (t : Int),.int .i64 (p : Int)] w (yL_ w (zT_ t p)):=by
 obtain ⟨i0,hi,hz,hs1,hb1⟩:=info_parts xg_
 have et : (t : Int) % 4294967296 = (t : Int):=by omega
 have ep : (p : Int) % 4294967296 = (p : Int):=by omega
 have hbs:=gy_ w 5 xL_ (4,5) (by simp [xL_])
 rw [gx_] at hbs
 have HB1:=hQ_ (show Bs (w.alloc (.cells #[.int .u8 85,.int .u8 78,.int .u8 73,.int .u8 84] 5 (4,5))) (some ⟨w.heap.size,0,none⟩) 4 4 xL_ from hbs)
 have HA1:=hQ_ ((Chg.refl [] w).alloc (.cells #[.int .u8 85,.int .u8 78,.int .u8 73,.int .u8 84] 5 (4,5)))
 have kc:=zfL w rfl
 have HPA:=hQ_ (zed HB1.out t (by omega) (by decide))
 unfold yL_ at HPA
 clear hbs
 go_enter Tryz.func66,Tryz.ntmps66
 go_upto_region 2 with (first
  | (go_at_call 101
     with_reducible refine HPA.out.mono ?_
     rintro e w2 ⟨v2,rfl,ho2,hc2⟩
     have hl2 : (xL_ ++ be4 t).length = 8:=rfl
     rw [hl2] at ho2
     obtain ⟨A2,c2,rfl,hB2,_⟩:=Bs.of_own ho2
     have HPB:=hQ_ (zed hB2 p (by omega) (by omega))
     unfold yL_ at HPB
     have HC2:=hQ_ (HA1.out.new hc2)
     clear hl2 ho2 hB2 hc2)
  | (go_at_call 101
     with_reducible refine HPB.out.mono ?_
     rintro e w5 ⟨v5,rfl,ho5,hc5⟩
     have HO5:=hQ_ ho5
     have HC5:=hQ_ hc5
     clear ho5 hc5))
 have ho5:=HO5.out
 have hc5:=HC5.out
 have hl5 : (xL_ ++ be4 t ++ be4 p).length = 12:=rfl
 rw [hl5] at ho5
 have hsz:=HC2.out.size
 have HRL:=hQ_ (show zT_ t p = (xL_ ++ be4 t ++ be4 p) ++ zt_ 52 from rfl)
 generalize xL_ ++ be4 t ++ be4 p = Z at ho5 HRL
 obtain ⟨g,r,rfl,hbg,_,_⟩:=xf_ ho5 (by omega)
 obtain ⟨g',cap',w6,hr,ho6,hg6,hor⟩:=xU_ (P:=Tryz.prog) w5 w2.heap.size 33 3 33 5 i0 _ 1 .i64 Tryz.underlying33 Tryz.underlying3 hi hz hs1 hb1 rfl rfl g 12 (12 + r.length) (bts Z) ho5 52 (by unfold maxLen; omega) (by omega) hc5.size
 have hc6 : Chg [] w2 w6:=hc5.own ho5 (Nat.le_refl _) hg6
 have HR:=hQ_ hr
 have HO:=hQ_ ho6
 have HC6:=hQ_ (HC2.out.new hc6)
 clear hr ho6 hg6 hor hc6 ho5 hc5 hl5 HO5 HC5 HPA HPB
 go_wp2_with (at_builtin; refine Lib.wpList_append_run w5 rfl (.tmp 14) (.tmp 17) 33 3 rfl _ _ rfl rfl _ _ HR.out ?_)
 go_ret
 refine ⟨_,rfl,?_,HC6.out⟩
 have e1 : (zT_ t p).length = 12 + 52:=yW_ t p
 have e2 : bts (zT_ t p) = bts Z ++ List.replicate 52 (.int .u8 0):=by rw [HRL.out,ug_,xj_]
 rw [e1,e2]
 exact vK_ HO.out hsz
end
end Go.Proofs.YtbkfhndmeljlcaaGreatDoor
namespace Go.Proofs.YtbkfhndmeljlcaaGreatDoor
open Go.RowKit
theorem g7_ (w : World) {B n : Nat} {v : Value} {out : List UInt8} (h : OwnM w B v n out) (hB : B ≤ w.heap.size) (k : Nat) (hm : n + k ≤ 1000000) :
    ∃ v' w',(Builtin.append_ #[33,3] 33 #[v,.int .i64 (k : Int)]).run Tryz.prog w = .ok v' w' ∧ OwnM w' B v' (n + k) (out ++ zt_ k) ∧ w.grownBy w' v.ownBlock:=by
 obtain ⟨i,hi,hz,h1,h2⟩:=info_parts v9_
 have ht:=Tryz.underlying33
 have htn:=Tryz.underlying3
 have hw : IntKind.i64.wrap (k : Int) = k:=by rw [IntKind.wrap_i64]; omega
 have hneg : ¬ ((k : Int) < 0):=by omega
 have h48i : ¬ (281474976710656 < (k : Int) * (i.bytes : Int)):=by rw [h2]; omega
 obtain ⟨hl,g,cap,cur,fz,rfl,hBg,hg,hf,hnc,hcm,hcs,htk⟩:=h
 have hcm' : cap ≤ 9223372036854775807:=by simpa only [maxLen] using hcm
 by_cases hk0 : k = 0
 · subst hk0
   refine ⟨_,w,?_,⟨by rw [List.length_append,hl]; rfl,g,cap,cur,fz,rfl,hBg,hg,hf,by omega,hcm,hcs,by rw [show zt_ 0 = [] from rfl,List.append_nil,Nat.add_zero]; exact htk⟩,World.grownBy.refl w _⟩
   have hw0 : IntKind.i64.wrap 0 = 0:=by decide
   simp [Builtin.append_,run_underlying ht,run_underlying htn,sizeOf,typeInfo,hi,asInt,asIntOf,storeCells,hnc,hw0]
 · have hns : ¬ (k * i.size = 0):=by rw [h1]; omega
   by_cases hroom : n + k ≤ cap
   · have hlr : (List.replicate k (Value.int .u8 0)).length = k:=List.length_replicate ..
     have hst:=run_storeCells_cells (P:=Tryz.prog) g n (List.replicate k (Value.int .u8 0)) 0 w (fun j hj => by rw [cell_of_row w g _ cur _ fz hg]; simp at hj ⊢; omega) (fun j hj => by rw [hlr] at hj; exact jT_ hg hf _ (by omega)) (fun u hu => by rw [(List.mem_replicate.1 hu).2]; rfl)
     simp only [Nat.add_zero] at hst
     obtain ⟨c',a,b,c⟩:=x1_ g 5 fz (List.replicate k (Value.int .u8 0)) n cur w hg (by rw [hlr]; omega)
     have hr : (Builtin.append_ #[33,3] 33 #[.slice (some ⟨g,0,none⟩) n cap,.int .i64 (k : Int)]).run Tryz.prog w = .ok (.slice (some ⟨g,0,none⟩) (n + k) cap) (w.setCells g n (List.replicate k (Value.int .u8 0))):=by
      simp [Builtin.append_,run_underlying ht,run_underlying htn,sizeOf,typeInfo,zeroValue,hi,hz,asInt,asIntOf,hw,hneg,h48i,hk0,hroom,h1,Value.cells,yF_,Addr.add_lit,hst]
     refine ⟨_,_,hr,⟨by rw [List.length_append,hl,zI_],g,cap,c',fz,rfl,hBg,a,by rw [b]; exact hf,hroom,hcm,by rw [b]; exact hcs,?_⟩,xu_ g _ _ w⟩
     rw [hlr] at c
     rw [c,htk,ug_,xj_]
   · have hold : (Builtin.firstCells i.size n (.slice (some ⟨g,0,none⟩) n cap)).run Tryz.prog w.drew = .ok (bts out).toArray w.drew:=by
      refine run_firstCells_some w.drew i.size n ⟨g,0,none⟩ n cap (bts out) (by rw [h1]; simp [bts,hl]) (fun j u hu => ?_)
      have hadd : (⟨g,0,none⟩ : Addr).add j = ⟨g,j,none⟩:=by unfold Addr.add; split <;> simp_all
      rw [hadd]
      show w.cell? _ = _
      rw [cell_of_row w g j cur _ fz hg]
      rw [← htk,List.getElem?_take] at hu
      split at hu
      · simpa using hu
      · cases hu
     have hr:=Lib.run_append_grow_zeros (P:=Tryz.prog) w 33 3 33 5 i _ .i64 _ ht htn hi hz (some ⟨g,0,none⟩) n cap (bts out) hold k (by omega) (by omega) (by omega) (by omega) (by rw [h2]; omega) (by rw [h2]; exact growslice_fits (by omega) (by omega))
     have hge:=grownCap_ge w (n + k) cap 5
     have hcm2:=grownCap_le_maxLen w (n + k) cap 5 (by unfold maxLen; omega)
     refine ⟨_,_,hr,⟨by rw [List.length_append,hl,zI_],w.heap.size,_,_,(0,0),rfl,hB,heap_alloc_new w.drew _,.inl rfl,hge,hcm2,?_,?_⟩,⟨rfl,rfl,rfl,by simp,fun j hj _ => Below.heap_alloc w.drew _ j hj⟩⟩
     · simp only [Array.size_append,List.size_toArray,size_zeroCells,Value.cells]
       simp [bts,hl]
       omega
     · have : n + k = (bts out ++ bts (zt_ k)).length:=by simp [bts,hl,zI_]
       simp only [Array.toList_append,Value.cells,yF_]
       rw [this,xj_,List.append_assoc,← List.append_assoc,List.take_left,ug_,xj_]
def zfG (B : Nat) (l : List UInt8) : yE_:=fun v W => OwnM W B v l.length l
theorem kb_ (B : Nat) (l : List UInt8) : zU_ (Chg []) (zfG B l):=fun _ _ _ h hc => h.keep hc
theorem zfI {B n : Nat} {v : Value} {out : List UInt8} {w w' : World} (ho : OwnM w B v n out) (hg : w.grownBy w' v.ownBlock) : Low B w w':=by
 refine ⟨hg.os,hg.tape,hg.output,hg.size,fun k hk hl => hg.block k hl fun hc => ?_⟩
 obtain ⟨_,g,cap,cur,fz,rfl,hb,_⟩:=ho
 injection hc with hc
 simp only at hc
 omega
end Go.Proofs.YtbkfhndmeljlcaaGreatDoor
namespace Go.Proofs
open Go.Shelf
def Tryz.laysSlJ14_ren : Go.Shelf.Ren:=⟨fun | 14 => 49 | 15 => 75 | n => n,fun | 26 => 30 | 22 => 33 | 3 => 3 | 4 => 4 | 0 => 0 | 9 => 9 | 20 => 20 | 5 => 5 | n => n,fun | n => n⟩
theorem Tryz.laysSlJ14 : Go.Proofs.SlLaysJ.n14 Tryz.prog Tryz.laysSlJ14_ren:={
  mixed:=by kernel_rfl
  f14:=Tryz.func49.trans (congrArg some (by kernel_rfl))
  f15:=Tryz.func75.trans (congrArg some (by kernel_rfl))
  t0:=Tryz.underlying0
  a0:=Tryz.isAgg0
  z0:=Tryz.sizeOf0
  v0:=Tryz.zeroValue0
  t3:=Tryz.underlying3
  a3:=Tryz.isAgg3
  z3:=Tryz.sizeOf3
  v3:=Tryz.zeroValue3
  t4:=Tryz.underlying4
  a4:=Tryz.isAgg4
  z4:=Tryz.sizeOf4
  v4:=Tryz.zeroValue4
  t9:=Tryz.underlying9
  a9:=Tryz.isAgg9
  z9:=Tryz.sizeOf9
  v9:=Tryz.zeroValue9
  t20:=Tryz.underlying20
  a20:=Tryz.isAgg20
  z20:=Tryz.sizeOf20
  v20:=Tryz.zeroValue20
  t22:=Tryz.underlying33
  a22:=Tryz.isAgg33
  z22:=Tryz.sizeOf33
  v22:=Tryz.zeroValue33
  t26:=Tryz.underlying30
  a26:=Tryz.isAgg30
  z26:=Tryz.sizeOf30
  v26:=Tryz.zeroValue30
  t5:=Tryz.underlying5
  z5:=Tryz.sizeOf5
  i5:=by kernel_rfl }
open Go.RowKit Go.Lib in
theorem Tryz.bytes_Join_many (b o n c : Nat) (vs : List Value) (ls : List (List UInt8)) (sv : Value) (sep : List UInt8) (w : World) (hn : ls.length = n) (h2 : 2 ≤ n) (hP : Lib.PartsAt w ⟨b,o,none⟩ vs ls) (hcap : n ≤ c) (hS : Lib.HoldsBytes w sv sep) (hn47 : n ≤ 140737488355328) (hlen : Lib.lens ls + sep.length * (n - 1) ≤ 140737488355328) :
    Calls Tryz.prog 49 #[.slice (some ⟨b,o,none⟩) n c,sv] w fun e w' => ∃ v',e = .returned v' ∧ Lib.FreshBytes w.heap.size w' v' (Lib.join ls sep) ∧ Below w.heap.size w w':=Any.bytes_Join_many Tryz.laysSlJ14 b o n c vs ls sv sep w hn h2 hP hcap hS hn47 hlen
open Go.RowKit Go.Lib in
theorem Tryz.bytes_Join_none (p : Option Addr) (c : Nat) (sv : Value) (w : World) :
    Calls Tryz.prog 49 #[.slice p 0 c,sv] w fun e w' => e = .returned (.slice (some ⟨w.heap.size,0,none⟩) 0 0) ∧ w' = w.alloc (.cells #[] 5):=Any.bytes_Join_none Tryz.laysSlJ14 p c sv w
open Go.RowKit Go.Lib in
theorem Tryz.bytes_Join_one (b o c : Nat) (ad0 : Addr) (c0 : Nat) (l0 : List UInt8) (sv : Value) (w : World) (hcell : w.cell? ⟨b,o,none⟩ = some (.slice (some ad0) l0.length c0)) (hc : ∀ (i : Nat) x,l0[i]? = some x → w.cell? (ad0.add i) = some (.int .u8 (x.toNat : Int))) (h0 : 0 < l0.length) (hs : l0.length ≤ 140737488355328) :
    Calls Tryz.prog 49 #[.slice (some ⟨b,o,none⟩) 1 c,sv] w fun e w' => ∃ v',e = .returned v' ∧ Lib.FreshBytes w.heap.size w' v' l0 ∧ Below w.heap.size w w':=Any.bytes_Join_one Tryz.laysSlJ14 b o c ad0 c0 l0 sv w hcell hc h0 hs
end Go.Proofs
namespace Go.Proofs.YtbkfhndmeljlcaaGreatDoor
open Go.RowKit
theorem zaL : ¬ xp_ (zt_ 64):=by
 intro h
 have h2:=h.2.2
 have h3:=congrArg (fun l : List UInt8 => l.getD 0 0) h2
 simp [zT_,xL_,zt_] at h3
def zem (w : World) (e : Ending) (w' : World) : Prop:=e = .returned (.tuple #[.string ⟨#[]⟩,.int .i64 0,.bool false]) ∧ Chg [] w w'
def zgb (r : Int) (w : World) (e : Ending) (w' : World) : Prop:=e = .returned (.tuple #[.agg #[.int .i64 0,.int .i64 0,.slice none 0 0],.pointer none,.int .i64 0,.int .i64 r]) ∧ Chg [] w w'
theorem zw_ {fn : Func} {p a b c : Tmp} {ty : TypeId} (h : fn.results = #[.cell p ty,.tmp a,.tmp b,.tmp c]) (tmps : Array Value) (w : World) (g : Nat) (t : TypeId) (cs : List Value) (fs : Array Field)
    (hp : tmps.getD p undef = .pointer (some ⟨g,0,none⟩)) (hg : zb_ w g t cs) (hu : Tryz.prog.underlying ty = some (.struct fs)) (hi : (Tryz.prog.info? ty).map (·.size) = some cs.toArray.size) :
    (results fn tmps).run Tryz.prog w = .ok (.tuple #[.agg cs.toArray,tmps.getD a undef,tmps.getD b undef,tmps.getD c undef]) w:=by
      have hp' : tmps[p]?.getD undef = .pointer (some ⟨g,0,none⟩):=by simpa using hp
      unfold results
      simp [h,hp',asAddr,run_loadVar_row w g t ty cs.toArray (0,0) (.struct fs) hg hu rfl hi]
section
variable {w : World}
theorem zad : Calls Tryz.prog 47 #[.slice none 0 0] w (zem w):=by
 have HPO:=hQ_ (show ∀ w',Chg [] w w' → zem w (.returned (.tuple #[.string ⟨#[]⟩,.int .i64 0,.bool false])) w' from fun w' hc => ⟨rfl,hc⟩)
 generalize zem w = PO at HPO ⊢
 go_enter Tryz.func47,Tryz.ntmps47
 go_wp2_with fail
 go_loopw [15] (fun i wr => i = .int .i64 0 ∧ wr = w) (fun _ _ => 0)
 case atStart => exact ⟨rfl,rfl⟩
 case round =>
  obtain ⟨rfl,rfl⟩:=hrel
  go_wp2_with fail
  go_ret3
  exact HPO.out _ (Chg.refl [] _)
theorem qx_ {gr gb : Nat} (hr : zb_ w gr 33 [.slice (some ⟨gb,0,none⟩) 64 64]) (hb : zb_ w gb 5 (bts (zt_ 64))) : Calls Tryz.prog 47 #[.slice (some ⟨gr,0,none⟩) 1 1] w (zem w):=by
 have HPO:=hQ_ (show ∀ w',Chg [] w w' → zem w (.returned (.tuple #[.string ⟨#[]⟩,.int .i64 0,.bool false])) w' from fun w' hc => ⟨rfl,hc⟩)
 generalize zem w = PO at HPO ⊢
 have r0:=hr.cell 0
 have hbs : Bs w (some ⟨gb,0,none⟩) 64 64 (zt_ 64):=by
  have:=Bs.of_all hb (by rw [zI_]; omega)
  rwa [zI_] at this
 have HSR:=hQ_ (kF_ hbs)
 clear hb hbs hr
 go_enter Tryz.func47,Tryz.ntmps47
 go_wp2_with fail
 go_loopw [15] (fun i wr => ∃ k : Nat,i = .int .i64 (k : Int) ∧ k ≤ 1 ∧ wr = w) (fun i _ => 1 - (intOf i).toNat)
 case atStart => exact ⟨0,rfl,by omega,rfl⟩
 case round =>
  obtain ⟨k,rfl,hk,hwr⟩:=hrel
  subst hwr
  by_cases hk1 : k < 1
  · obtain rfl : k = 0:=by omega
    go_wp2_with fail
    go_roundw
    case rel => exact ⟨1,by go_num,by omega,by first | rfl | trivial⟩
    case measure => simp [intOf]
  · obtain rfl : k = 1:=by omega
    go_wp2_with (
     go_at_call 73
     refine HSR.out.mono ?_
     rintro e w2 (⟨hm,_⟩ | ⟨_,rfl,hc2⟩)
     · exact absurd hm zaL
     have HC2:=hQ_ hc2
     clear hc2)
    go_ret3
    exact HPO.out _ HC2.out
theorem q2_ {V : Value} (HR0 : ∀ W,Chg [] w W → Calls Tryz.prog 47 #[V] W (zem W)) : Calls Tryz.prog 21 #[V] w (zgb 12 w):=by
 have HR:=hQ_ HR0
 clear HR0
 unfold zem at HR
 have HPO:=hQ_ (show ∀ w',Chg [] w w' → zgb 12 w (.returned (.tuple #[.agg #[.int .i64 0,.int .i64 0,.slice none 0 0],.pointer none,.int .i64 0,.int .i64 12])) w' from fun w' hc => ⟨rfl,hc⟩)
 generalize zgb 12 w = PO at HPO ⊢
 go_enter Tryz.func21,Tryz.ntmps21
 go_upto_region 1 with fail
 have hN:=zb_.new w 24 [.int .i64 0,.int .i64 0,.slice none 0 0]
 have hal:=(Chg.refl [] w).alloc (.cells #[.int .i64 0,.int .i64 0,.slice none 0 0] 24)
 obtain ⟨g,hg⟩ : ∃ g,g = w.heap.size:=⟨_,rfl⟩
 have hnl : ¬ g < w.heap.size:=by omega
 rw [← hg] at hN ⊢
 have HG:=hQ_ hN
 have HW1:=hQ_ hal
 generalize w.alloc (.cells #[.int .i64 0,.int .i64 0,.slice none 0 0] 24) = w1 at HG HW1 ⊢
 clear hN hal hg
 go_wp2_with (
  go_at_call 47
  refine (HR.out _ HW1.out).mono ?_
  rintro e w2 ⟨rfl,hc2⟩
  have HG2:=hQ_ (HG.out.keep hc2)
  have HW2:=hQ_ (HW1.out.trans hc2)
  have z0:=HG2.out.cell 0
  have z1:=HG2.out.cell 1
  have z2:=HG2.out.cell 2
  have f0:=HG2.out.frozen 0
  have f1:=HG2.out.frozen 1
  have f2:=HG2.out.frozen 2
  clear hc2)
 have HCF:=((HW2.out.setCell (p:=⟨g,0,none⟩) (fun h => absurd h hnl) (.int .i64 0)).setCell (p:=⟨g,1,none⟩) (fun h => absurd h hnl) (.int .i64 0)).setCell (p:=⟨g,2,none⟩) (fun h => absurd h hnl) (.slice none 0 0)
 have HSS:=((HG2.out.set_ 0 (.int .i64 0)).set_ 1 (.int .i64 0)).set_ 2 (.slice none 0 0)
 exact bodyPost_ret_by (zw_ (p:=2) (a:=3) (b:=4) (c:=5) (ty:=24) rfl _ _ g 24 [.int .i64 0,.int .i64 0,.slice none 0 0] _ rfl HSS Tryz.underlying24 (by kernel_rfl)) rfl (HPO.out _ HCF)
end
end Go.Proofs.YtbkfhndmeljlcaaGreatDoor
namespace Go.Proofs.YtbkfhndmeljlcaaGreatDoor
open Go.RowKit
structure Pgs (W : World) (A : Option Addr) (n c : Nat) (ys : List Value) (zs : List (List UInt8)) : Prop where
  len : ys.length = n
  src : Src W A ys
  ls : kr_ W ys zs
  cap : n ≤ c
  max : c ≤ 9223372036854775807
  spot : 0 < n → ∀ ad,A = some ad → ad.spot = none
theorem Pgs.keep {W W' : World} {A : Option Addr} {n c : Nat} {ys : List Value} {zs : List (List UInt8)} (h : Pgs W A n c ys zs) (hc : Chg [] W W') : Pgs W' A n c ys zs:=⟨h.len,h.src.keep hc,h.ls.keep hc,h.cap,h.max,h.spot⟩
theorem Pgs.zlen {W : World} {A : Option Addr} {n c : Nat} {ys : List Value} {zs : List (List UInt8)} (h : Pgs W A n c ys zs) : zs.length = n:=by rw [← h.ls.1,h.len]
theorem Pgs.form {W : World} {A : Option Addr} {n c : Nat} {ys : List Value} {zs : List (List UInt8)} (h : Pgs W A n c ys zs) (hn : 0 < n) : ∃ b o,A = some ⟨b,o,none⟩ ∧ b < W.heap.size ∧ ∀ i y,ys[i]? = some y → W.cell? ⟨b,o + i,none⟩ = some y:=by
 obtain ⟨⟨b,o,s⟩,e,hb,hx⟩:=h.src (by rw [h.len]; exact hn)
 obtain rfl : s = none:=h.spot hn _ e
 refine ⟨b,o,e,hb,fun i y hy => ?_⟩
 have:=hx i y hy
 rwa [zj_] at this
theorem Pgs.at_ {W : World} {A : Option Addr} {n c i : Nat} {ys : List Value} {zs : List (List UInt8)} {z : List UInt8} (h : Pgs W A n c ys zs) (hz : zs[i]? = some z) : ∃ y B m d,ys[i]? = some y ∧ y = .slice B m d ∧ Bs W B m d z:=by
 have hi : i < ys.length:=by rw [h.ls.1]; exact (List.getElem?_eq_some_iff.1 hz).1
 obtain ⟨B,m,d,e,hB⟩:=h.ls.2 i ys[i] z (List.getElem?_eq_getElem hi) hz
 exact ⟨_,B,m,d,List.getElem?_eq_getElem hi,e,hB⟩
theorem Pgs.part {W : World} {b o n c : Nat} {ys : List Value} {zs : List (List UInt8)} (h : Pgs W (some ⟨b,o,none⟩) n c ys zs) {lo k : Nat} (hk : lo + k ≤ n) (hn : 0 < n) : Pgs W (some ⟨b,o + lo,none⟩) k (c - lo) ((ys.drop lo).take k) ((zs.drop lo).take k):=by
 have hl:=h.len
 have hc:=h.cap
 have hm:=h.max
 obtain ⟨b',o',e,hb,hx⟩:=h.form hn
 injection e with e
 injection e with e1 e2
 subst e1; subst e2
 refine ⟨by rw [List.length_take,List.length_drop]; omega,fun _ => ⟨_,rfl,hb,fun i y hy => ?_⟩,⟨by rw [List.length_take,List.length_take,List.length_drop,List.length_drop,h.ls.1],fun i v X hv hX => ?_⟩,by omega,by omega,fun _ ad e => by injection e with e; subst e; rfl⟩
 · rw [zj_]
   rw [List.getElem?_take] at hy
   split at hy
   · rw [List.getElem?_drop] at hy
     have:=hx (lo + i) y hy
     rw [show o + lo + i = o + (lo + i) from by omega]
     exact this
   · cases hy
 · rw [List.getElem?_take] at hv hX
   split at hv
   · rename_i hik
     rw [if_pos hik] at hX
     rw [List.getElem?_drop] at hv hX
     exact h.ls.2 (lo + i) v X hv hX
   · cases hv
theorem Pgs.cut {W : World} {A : Option Addr} {n c : Nat} {ys : List Value} {zs : List (List UInt8)} (h : Pgs W A n c ys zs) {lo k : Nat} (hk : lo + k ≤ n) : Pgs W (if c = lo then A else A.map (·.add lo)) k (c - lo) ((ys.drop lo).take k) ((zs.drop lo).take k):=by
 have hc:=h.cap
 have hm:=h.max
 rcases Nat.eq_zero_or_pos k with h0 | h0
 · subst h0
   exact ⟨by simp,fun hp => absurd hp (by simp),⟨by simp,fun i v X hv => by simp at hv⟩,by omega,by omega,fun hp => absurd hp (by omega)⟩
 · obtain ⟨b,o,rfl,_,_⟩:=h.form (by omega)
   rw [if_neg (by omega),Option.map_some,zj_]
   exact h.part hk (by omega)
theorem zam (ls : List (List UInt8)) : Lib.join ls [] = ls.flatten:=by
 cases ls with
 | nil => rfl
 | cons x r =>
   rw [Lib.join_cons]
   unfold Lib.joinTail
   simp
theorem v6_ (zs : List (List UInt8)) (h : ∀ z ∈ zs,z.length = 64) : Lib.lens zs = 64 * zs.length ∧ zs.flatten.length = 64 * zs.length:=by
 induction zs with
 | nil => exact ⟨rfl,rfl⟩
 | cons z zs ih =>
   have hz:=h z (by simp)
   obtain ⟨h1,h2⟩:=ih (fun x hx => h x (by simp [hx]))
   refine ⟨?_,?_⟩
   · have : Lib.lens (z :: zs) = z.length + Lib.lens zs:=Lib.lens_cons z zs
     rw [this,hz,h1,List.length_cons]; omega
   · rw [List.flatten_cons,List.length_append,hz,h2,List.length_cons]; omega
theorem zdW {W : World} {A : Option Addr} {n c : Nat} {l : List UInt8} (h : Bs W A n c l) : Lib.HoldsBytes W (.slice A n c) l:=by
 refine ⟨A,c,by rw [h.len],fun e => ?_,fun a e i x hx => ?_⟩
 · cases l with
   | nil => rfl
   | cons b l =>
     obtain ⟨ad,e2,_⟩:=h.src (by simp [bts])
     rw [e] at e2; cases e2
 · have hil:=(List.getElem?_eq_some_iff.1 hx).1
   obtain ⟨ad,e2,_,hc⟩:=h.src (by rw [zA_]; omega)
   rw [e] at e2
   injection e2 with e2
   subst e2
   exact hc i _ (by unfold bts; rw [List.getElem?_map,hx]; rfl)
theorem zdJ {B : Nat} {W : World} {v : Value} {l : List UInt8} (h : Lib.FreshBytes B W v l) (hW : ∀ g cap,v = .slice (some ⟨g,0,none⟩) l.length cap → 0 < cap → g < W.heap.size) : ∃ g c,v = .slice (some ⟨g,0,none⟩) l.length c ∧ B ≤ g ∧ Bs W (some ⟨g,0,none⟩) l.length c l:=by
 obtain ⟨g,cap,zs,rfl,hB,hlc,hcm,hzl,hr,hb,hcell,_⟩:=h
 refine ⟨g,cap,rfl,hB,rfl,fun hp => ?_,hlc,by unfold maxLen at hcm; omega,fun _ ad e => by injection e with e; subst e; rfl⟩
 rw [zA_] at hp
 refine ⟨_,rfl,hW g cap rfl (by omega),fun j u hj => ?_⟩
 rw [zj_,Nat.zero_add]
 have hjl : j < l.length:=by have:=(List.getElem?_eq_some_iff.1 hj).1; rwa [zA_] at this
 rw [hcell j (by omega)]
 have h2 : (Lib.bytesOf (zs.take l.length))[j]? = some (UInt8.ofNat (zs.getD j 0).toNat):=by
  unfold Lib.bytesOf
  rw [List.getElem?_map,List.getElem?_take,if_pos hjl,List.getElem?_eq_getElem (by omega),Option.map_some,List.getD_eq_getElem?_getD,List.getElem?_eq_getElem (by omega),Option.getD_some]
 rw [hb] at h2
 unfold bts at hj
 rw [List.getElem?_map,h2,Option.map_some] at hj
 rw [← hj]
 have hm:=hr (zs.getD j 0) (by rw [List.getD_eq_getElem?_getD,List.getElem?_eq_getElem (by omega),Option.getD_some]; exact List.getElem_mem _)
 unfold B8
 have e3 : ((UInt8.ofNat (zs.getD j 0).toNat).toNat : Int) = zs.getD j 0:=by
  rw [UInt8.toNat_ofNat']
  omega
 rw [e3]
def zen (l : List UInt8) (w : World) (e : Ending) (w' : World) : Prop:=∃ A c,e = .returned (.slice A l.length c) ∧ Bs w' A l.length c l ∧ Chg [] w w' ∧ (∀ ad,A = some ad → w.heap.size ≤ ad.block)
theorem zdI {W : World} {g : Nat} {x : Value} (h : W.cell? ⟨g,0,none⟩ = some x) : g < W.heap.size:=by
 unfold World.cell? at h
 rcases Nat.lt_or_ge g W.heap.size with hlt | hge
 · exact hlt
 · simp only [Array.getElem?_eq_none hge] at h
   cases h
theorem kO_ {w : World} {A : Option Addr} {n c : Nat} {ys : List Value} {zs : List (List UInt8)} (h : Pgs w A n c ys zs) (h64 : ∀ z ∈ zs,z.length = 64) (hn : n ≤ 100000) : Calls Tryz.prog 49 #[.slice A n c,.slice none 0 0] w (zen zs.flatten w):=by
 have hzl:=h.zlen
 obtain ⟨hl1,hl2⟩:=v6_ zs h64
 have hfr : ∀ {B : Nat} {w' : World} {v : Value} {l : List UInt8},Lib.FreshBytes B w' v l → ∃ g c,v = .slice (some ⟨g,0,none⟩) l.length c ∧ B ≤ g ∧ Bs w' (some ⟨g,0,none⟩) l.length c l:=fun hf => zdJ hf (fun g cap e hc0 => by
  obtain ⟨g',cap',zs',e',_,_,_,_,_,_,hcell,_⟩:=hf
  rw [e] at e'
  injection e' with e1 _ e2
  injection e1 with e1
  injection e1 with e1
  subst e1; subst e2
  exact zdI (hcell 0 hc0))
 rcases Nat.lt_or_ge n 2 with h2 | h2
 · rcases Nat.lt_or_ge n 1 with h1 | h1
   · obtain rfl : n = 0:=by omega
     obtain rfl : zs = []:=List.length_eq_zero_iff.1 hzl
     refine (Tryz.bytes_Join_none A c (.slice none 0 0) w).mono ?_
     rintro e w' ⟨rfl,rfl⟩
     exact ⟨_,_,rfl,⟨rfl,fun hp => absurd hp (by simp [bts]),Nat.le_refl _,by omega,fun h0 => absurd h0 (by omega)⟩,(Chg.refl [] w).alloc _,fun ad e => by injection e with e; subst e; exact Nat.le_refl _⟩
   · obtain rfl : n = 1:=by omega
     obtain ⟨z,rfl⟩:=List.length_eq_one_iff.1 hzl
     obtain ⟨b,o,rfl,_,hx⟩:=h.form (by omega)
     obtain ⟨y,B,m,d,hy,rfl,hB⟩:=h.at_ (i:=0) (z:=z) rfl
     have hz64:=h64 z (by simp)
     have hm : m = z.length:=hB.len.symm
     subst hm
     obtain ⟨ad,rfl,_,hc⟩:=hB.src (by rw [zA_]; omega)
     have hc0:=hx 0 _ hy
     rw [Nat.add_zero] at hc0
     refine (Tryz.bytes_Join_one b o c ad d z (.slice none 0 0) w hc0 (fun i x hxi => hc i _ (by unfold bts; rw [List.getElem?_map,hxi]; rfl)) (by omega) (by omega)).mono ?_
     rintro e w' ⟨v',rfl,hf,hbel⟩
     obtain ⟨g,c',rfl,hgB,hbs⟩:=hfr hf
     rw [show [z].flatten = z from by simp]
     exact ⟨_,_,rfl,hbs,Chg.of_below hbel,fun ad e => by injection e with e; subst e; exact hgB⟩
 · obtain ⟨b,o,rfl,_,hx⟩:=h.form (by omega)
   have hP : Lib.PartsAt w ⟨b,o,none⟩ ys zs:=⟨h.ls.1,fun i v hv => by rw [zj_]; exact hx i v hv,fun i v l hv hl => by
    obtain ⟨B,m,d,e,hB⟩:=h.ls.2 i v l hv hl
    rw [e]; exact zdW hB⟩
   have hS : Lib.HoldsBytes w (.slice none 0 0) []:=⟨none,0,rfl,fun _ => rfl,fun a e => by cases e⟩
   refine (Tryz.bytes_Join_many b o n c ys zs (.slice none 0 0) [] w hzl h2 hP h.cap hS (by omega) (by rw [hl1,hzl]; simp; omega)).mono ?_
   rintro e w' ⟨v',rfl,hf,hbel⟩
   rw [zam] at hf
   obtain ⟨g,c',rfl,hgB,hbs⟩:=hfr hf
   exact ⟨_,_,rfl,hbs,Chg.of_below hbel,fun ad e => by injection e with e; subst e; exact hgB⟩
end Go.Proofs.YtbkfhndmeljlcaaGreatDoor
namespace Go.Proofs.YtbkfhndmeljlcaaGreatDoor
open Go.RowKit
open Go.Lib (decDigits encodeRune)
def kpT : List UInt8:=[117,110,105,116,32,49,32,50,10,102,48,32,49,10]
theorem zeZ : zS_ 1 2 [kuG] = (kpT,0):=by
 have ht : txC ⟨#[49]⟩ = [49]:=by
  have h : xX_ ⟨#[49]⟩ = some [⟨48,1,0⟩]:=by rfl
  unfold txC jD_
  rw [h]
  show txB false [⟨48,1,0⟩] = _
  rw [xZ_ _ _ _ rfl,show (1 : Int).toNat = 1 from rfl,dg1]
  rfl
 have hf : utF kuG = [102,48,32,49,10]:=by
  unfold utF
  show encodeRune 102 ++ (decDigits ((0 : Int).toNat) ++ (32 :: (txC ⟨#[49]⟩ ++ [10]))) = _
  rw [ht,show (0 : Int).toNat = 0 from rfl,dg0]
  rfl
 have hu : utx 1 2 [kuG] = kpT:=by
  unfold utx qR_
  rw [hf,show (1 : Int).toNat = 1 from rfl,show (2 : Int).toNat = 2 from rfl,dg1,dg2]
  rfl
 have hr : zJ_ 1 2 [kuG] = 0:=by decide +kernel
 unfold zS_
 rw [if_pos hr,hu]
 rfl
theorem zdK {W : World} {g : Nat} {f : FnV} (h0 : -9223372036854775808 ≤ f.args ∧ f.args ≤ 9223372036854775807) (h : zb_ W g 58 (fnC f)) : Fnr W (some ⟨g,0,none⟩) 1 1 [f]:=by
 refine ⟨rfl,fun _ => ⟨_,rfl,h.lt,fun j v hj => ?_⟩,Nat.le_refl _,by omega,fun _ ad e => by injection e with e; subst e; rfl,fun x hx => ?_⟩
 · rw [zj_,Nat.zero_add,h.cell j]
   have : yx_ [f] = fnC f:=List.append_nil _
   rw [this] at hj
   exact hj
 · rw [List.mem_singleton] at hx; subst hx; exact h0
theorem zfc : yn_ kpT 0 2 = 4:=by rfl
theorem zfa : ut_ kpT 0 1 2 4 = (v3_ kpT 1,0):=by rfl
theorem zfb : ut_ kpT 0 1 2 3 = ([],25):=by rfl
theorem zfK : (v3_ kpT 1).length = 3:=by rw [xN_]; rfl
theorem zba (W : World) : (convert 33 9 (.slice (some ⟨W.heap.size,0,none⟩) 64 64)).run Tryz.prog (W.alloc (.cells (bts (zt_ 64)).toArray 5)) = .ok (.string (zc_ (zt_ 64))) (W.alloc (.cells (bts (zt_ 64)).toArray 5)):=by
 have hN:=zb_.new W 5 (bts (zt_ 64))
 have hbs:=Bs.of_all hN (by rw [zI_]; omega)
 rw [zI_] at hbs
 exact hbs.str (P:=Tryz.prog) 33 5 9 Tryz.underlying33 Tryz.underlying5 Tryz.underlying9
section
variable {w : World}
theorem zdx (hP : xq_ w.heap.size w) : Calls Tryz.prog 16 #[] w (zz_ true w):=by
 have HP:=hQ_ hP
 unfold zz_
 clear hP
 go_enter Tryz.func16,Tryz.ntmps16
 go_upto_region 2 with fail
 have hW:=zb_.new w 58 [.int .i32 102,.int .i64 0,.string ⟨#[49]⟩]
 have hal:=(Chg.refl [] w).alloc (.cells #[.int .i32 102,.int .i64 0,.string ⟨#[49]⟩] 58)
 have hal2:=hal.alloc (.cells #[.int .i64 1,.int .i64 2,.slice (some ⟨w.heap.size,0,none⟩) 1 1] 24)
 have hU:=zb_.new (w.alloc (.cells #[.int .i32 102,.int .i64 0,.string ⟨#[49]⟩] 58)) 24 [.int .i64 1,.int .i64 2,.slice (some ⟨w.heap.size,0,none⟩) 1 1]
 rw [show (w.alloc (.cells #[.int .i32 102,.int .i64 0,.string ⟨#[49]⟩] 58)).heap.size = w.heap.size + 1 by simp] at hU
 have hW2:=hW.keep ((Chg.refl [] (w.alloc (.cells #[.int .i32 102,.int .i64 0,.string ⟨#[49]⟩] 58))).alloc (.cells #[.int .i64 1,.int .i64 2,.slice (some ⟨w.heap.size,0,none⟩) 1 1] 24))
 have HU2:=hQ_ hU
 have HW2:=hQ_ hW2
 have HC2:=hQ_ hal2
 clear hW hal hal2 hU hW2
 generalize w.heap.size = gf at HU2 HW2 HC2 ⊢
 generalize (w.alloc (.cells #[.int .i32 102,.int .i64 0,.string ⟨#[49]⟩] 58)).alloc (.cells #[.int .i64 1,.int .i64 2,.slice (some ⟨gf,0,none⟩) 1 1] 24) = w2 at HU2 HW2 HC2 ⊢
 have HF2:=hQ_ (show Fnr w2 (some ⟨gf,0,none⟩) 1 1 [kuG] from zdK (f:=kuG) (by decide) HW2.out)
 have HTX:=hQ_ (zaJ.of_fnr (pg:=1) (ms:=2) HF2.out (fun f hf => by rw [List.mem_singleton] at hf; subst hf; decide))
 rw [zeZ] at HTX
 simp only at HTX
 have HPU:=hQ_ (fun (W : World) (hc : Chg [] w2 W) (hp : xq_ W.heap.size W) (pages : Int) => jR_ (HTX.out.keep hc) (by decide) (fun _ => by decide) pages hp)
 have HPND:=hQ_ (fun (W : World) (hc : Chg [] w2 W) (hp : xq_ W.heap.size W) => ve_ (HTX.out.keep hc) (by decide) (fun _ => by decide) hp)
 rw [zfc] at HPND
 have HP4:=hQ_ (fun (W : World) (hc : Chg [] w2 W) (hp : xq_ W.heap.size W) => HPU.out W hc hp 4)
 have HP3:=hQ_ (fun (W : World) (hc : Chg [] w2 W) (hp : xq_ W.heap.size W) => HPU.out W hc hp 3)
 rw [zfa] at HP4
 rw [zfb] at HP3
 unfold xm_ at HP4 HP3
 simp only at HP4 HP3
 have u0:=HU2.out.cell 0
 have u1:=HU2.out.cell 1
 have u2:=HU2.out.cell 2
 have HGN:=hQ_ (fun (W : World) => q2_ (w:=W) (V:=.slice none 0 0) (fun _ _ => zad))
 unfold zgb at HGN
 have HBP:=hQ_ (fun (W : World) (h : Chg [] w2 W) => (HP.out.here (HC2.out.trans h)))
 clear HW2 HF2 HTX HPU
 go_upto_region 5 with (first
  | (go_at_call 20
     with_reducible refine (HP4.out _ (Chg.refl [] _) (HBP.out _ (Chg.refl [] _))).mono ?_
     rintro e w3 ⟨v3,ls3,rfl,ho3,_,hs3,hc3⟩
     obtain ⟨A3,c3,rfl,_⟩:=zl_ ho3
     have HL3:=hQ_ (show ls3.length = 3 from by rw [hs3.len,zfK])
     have HK3:=hQ_ hc3
     have v0:=(HU2.out.keep hc3).cell 0
     have v1:=(HU2.out.keep hc3).cell 1
     have v2:=(HU2.out.keep hc3).cell 2
     clear ho3 hs3 hc3)
  | (go_at_call 20
     with_reducible refine (HP3.out _ HK3.out (HBP.out _ HK3.out)).mono ?_
     rintro e w4 ⟨v4,ls4,rfl,ho4,_,hs4,hc4⟩
     obtain ⟨A4,c4,rfl,_⟩:=zl_ ho4
     have HK4:=hQ_ (HK3.out.trans hc4)
     clear ho4 hs4 hc4)
  | (go_at_call 21
     refine (HGN.out _).mono ?_
     rintro e w5 ⟨rfl,hc5⟩
     have HK5:=hQ_ (HK4.out.trans hc5)
     clear hc5))
 clear u0 u1 u2 v0 v1 v2
 have hl3:=HL3.out
 rw [hl3]
 generalize ls4.length = n4
 have HK6:=hQ_ (HK5.out.alloc (.cells #[.int .i64 0,.int .i64 0,.slice none 0 0] 24))
 generalize w5.heap.size = ga
 generalize w5.alloc (.cells #[.int .i64 0,.int .i64 0,.slice none 0 0] 24) = w6 at HK6 ⊢
 -- a page of zt_
 have hN:=zb_.new w6 5 (bts (zt_ 64))
 have hal:=(Chg.refl [] w6).alloc (.cells (bts (zt_ 64)).toArray 5)
 have hmk0:=u9_ w6
 obtain ⟨gz,hgz⟩ : ∃ gz,gz = w6.heap.size:=⟨_,rfl⟩
 rw [← hgz] at hN hmk0
 clear hgz
 obtain ⟨w7,hw7⟩ : ∃ w7,w7 = w6.alloc (.cells (bts (zt_ 64)).toArray 5):=⟨_,rfl⟩
 rw [← hw7] at hN hal hmk0
 clear hw7
 have HZ7:=hQ_ hN
 have HK7:=hQ_ (HK6.out.trans hal)
 clear hN hal
 have hN:=zb_.new w7 33 [.slice (some ⟨gz,0,none⟩) 64 64]
 have hal:=(Chg.refl [] w7).alloc (.cells #[.slice (some ⟨gz,0,none⟩) 64 64] 33)
 have HGZ:=hQ_ (q2_ (w:=w7.alloc (.cells #[.slice (some ⟨gz,0,none⟩) 64 64] 33)) (V:=.slice (some ⟨w7.heap.size,0,none⟩) 1 1) (fun W hc => qx_ (hN.keep hc) ((HZ7.out.keep hal).keep hc)))
 unfold zgb at HGZ
 have HKA:=hQ_ (HK7.out.trans hal)
 clear hN hal
 go_upto_region 6 with (
  go_at_call 21
  with_reducible refine HGZ.out.mono ?_
  rintro e w8 ⟨rfl,hc8⟩
  have HK8:=hQ_ (HKA.out.trans hc8)
  clear hc8)
 clear hmk0
 have HK9:=hQ_ (HK8.out.alloc (.cells #[.int .i64 0,.int .i64 0,.slice none 0 0] 24))
 generalize w8.heap.size = gb
 generalize w8.alloc (.cells #[.int .i64 0,.int .i64 0,.slice none 0 0] 24) = w9 at HK9 ⊢
 have HU9:=hQ_ (HU2.out.keep HK9.out)
 have u0:=HU9.out.cell 0
 have u1:=HU9.out.cell 1
 have u2:=HU9.out.cell 2
 have hmkA:=u9_
 have hstA:=zba
 have HPZ:=hQ_ (fun (W : World) => xe_ (zt_ 64) (by rw [zI_]; omega) W)
 rw [zI_,show zs_ 64 = 1 from rfl] at HPZ
 have HPN:=hQ_ (fun (W : World) => xe_ [] (by decide) W)
 rw [show zc_ [] = ⟨#[]⟩ from rfl,show (([] : List UInt8).length) = 0 from rfl,show zs_ 0 = 0 from rfl] at HPN
 generalize zc_ (zt_ 64) = SZ at hstA HPZ
 generalize (bts (zt_ 64)).toArray = BZ at hmkA hstA
 have HMK:=hQ_ hmkA
 have HST:=hQ_ hstA
 clear hmkA hstA
 go_wp2_with (first
  | (go_at_call 19
     refine (HPND.out _ HK9.out (HBP.out _ HK9.out)).mono ?_
     rintro e wa ⟨rfl,hca⟩
     have hmk:=HMK.out wa
     have hst:=HST.out wa
     have HCA:=hQ_ ((HK9.out.trans hca).alloc (.cells BZ 5))
     clear hca)
  | (go_at_call 44
     with_reducible refine (HPZ.out _).mono ?_
     rintro e wb ⟨rfl,rfl⟩)
  | (go_at_call 44
     with_reducible refine (HPN.out _).mono ?_
     rintro e wb ⟨rfl,rfl⟩))
 go_ret
 exact ⟨rfl,HC2.out.trans HCA.out⟩
end
end Go.Proofs.YtbkfhndmeljlcaaGreatDoor
