import Derived.Test.YtbkfhndmeljlcaaGreatDoorZB13
import Derived.Lib.BufferOwn
import Derived.Test.YtbkfhndmeljlcaaGreatDoorRows
import Derived.LaidMore
import Derived.Stop.LaidErr
set_option maxRecDepth 100000
set_option maxHeartbeats 16000000
namespace Go.Proofs.YtbkfhndmeljlcaaGreatDoor
open Go.RowKit
open Go.Lib (decDigits encodeRune)
def xu_ (B : Nat) (w : World) : Prop := Lib.TabBelow Tryz.prog B w "internal/strconv.uint64pow10" .u64 Lib.pow10Tab
theorem xu_.on {B : Nat} {w w' : World} (h : xu_ B w) (hb : Below B w w') : xu_ B w':=Lib.TabBelow.on h hb
theorem xu_.keep {B : Nat} {w w' : World} (h : xu_ B w) (hB : B ≤ w.heap.size) (hc : Chg [] w w') : xu_ B w':=h.on (hc.below0.mono hB)
theorem xu_.less {B B' : Nat} {w : World} (h : xu_ B w) (hB : B ≤ B') : xu_ B' w:=fun w' hb => h w' (hb.mono hB)
theorem yh_ (l : List UInt8) : bts l = Lib.byteCells l:=by
 unfold bts Lib.byteCells
 rfl
abbrev u8T : List TypeId:=[5]
def zdK (B : Nat) (w : World) (out : List UInt8) (e : Ending) (w' : World) : Prop :=
 ∃ v' n',e = .returned v' ∧ n' = out.length ∧ w'.ownsRow B 5 1 v' n' (bts out) ∧ Fr B u8T w w'
theorem ke_ {B n : Nat} {v : Value} {out : List UInt8} {w : World} (r : Int) (hr : -2147483648 ≤ r ∧ r ≤ 2147483647) (ho : w.ownsRow B 5 1 v n (bts out)) (hn : n = out.length) (hB : B ≤ w.heap.size) (hm : out.length ≤ 1000000) :
    Calls Tryz.prog 59 #[v,.int .i32 r] w (zdK B w (out ++ encodeRune r)):=by
 subst hn
 refine (Tryz.utf8_AppendRune_plain B v out.length (bts out) r hr.1 hr.2 w ho (by omega) hB).mono ?_
 rintro e w' ⟨v',rfl,ho',o,hg⟩
 have hl : (Lib.runeCells r).length = (encodeRune r).length:=Lib.runeCells_length r
 refine ⟨v',(out ++ encodeRune r).length,rfl,rfl,?_,?_⟩
 · rw [List.length_append,← hl,yh_,Lib.byteCells_append,Lib.byteCells_encodeRune,← yh_]
   exact ho'
 · exact ((Fr.of_chg ((Chg.refl [] w).alloc o)).grown (zn_ ho ((Chg.refl [] w).alloc o)) (Nat.le_refl _) (by simp) hg)
theorem gp_ {B n : Nat} {v : Value} {out : List UInt8} {w : World} (m : Nat) (hm : m ≤ 9223372036854775807) (hP : xu_ B w) (ho : w.ownsRow B 5 1 v n (bts out)) (hn : n = out.length) (hB : B ≤ w.heap.size) (hl : out.length ≤ 1000000) :
    Calls Tryz.prog 90 #[v,.int .i64 (m : Int),.int .i64 10] w (zdK B w (out ++ decDigits m)):=by
 subst hn
 refine (Tryz.strconv_AppendInt_10 B out.length (m : Int) (by omega) (by omega) v (bts out) w ho hB (by omega) hP).mono ?_
 rintro e w' ⟨v',rfl,ho',hb,hk⟩
 rw [Lib.itoa_nonneg] at ho'
 refine ⟨v',(out ++ decDigits m).length,rfl,rfl,?_,?_⟩
 · rw [List.length_append,yh_,Lib.byteCells_append,← yh_]
   exact ho'
 · refine ⟨hb.os,hb.tape,hb.output,hb.size,fun k hlt hc => ?_⟩
   rcases hc with h | h
   · exact hb.block k h
   · have e : w.heap[k]? = some (w.heap[k]):=Array.getElem?_eq_getElem hlt
     rw [e]
     refine hk k _ e (by simp) (fun c fz hh => ?_)
     exact h c 5 fz (by rw [e,hh]) (by simp)
structure TkRng (t : TkV) : Prop where
  sign : -2147483648 ≤ t.sign ∧ t.sign ≤ 2147483647
  n : -9223372036854775808 ≤ t.n ∧ t.n ≤ 9223372036854775807
  name : -2147483648 ≤ t.name ∧ t.name ≤ 2147483647
def x5_ (o : List UInt8) (w : World) (e : Ending) (w' : World) : Prop:=e = .returned (.string (zc_ o)) ∧ Chg [] w w'
theorem xW_ (nb : Bool) (t : TkV) (l : List TkV) (h : t.sign = 48) : txB nb (t :: l) = (if nb then [32] else []) ++ (decDigits t.n.toNat ++ txB true l):=by rw [txB,if_pos h]
theorem vk_ (nb : Bool) (t : TkV) (l : List TkV) (h : t.sign ≠ 48) (h1 : zW_ t.sign = true) (h2 : zU_ t.name = true) : txB nb (t :: l) = encodeRune t.sign ++ (encodeRune t.name ++ txB false l):=by rw [txB,if_neg h,if_pos h1,if_pos h2]
theorem vA_ (nb : Bool) (t : TkV) (l : List TkV) (h : t.sign ≠ 48) (h1 : zW_ t.sign = true) (h2 : zU_ t.name = false) : txB nb (t :: l) = txB nb l:=by rw [txB,if_neg h,if_pos h1,if_neg (by rw [h2]; decide)]
theorem vl_ (nb : Bool) (t : TkV) (l : List TkV) (h : t.sign ≠ 48) (h1 : zW_ t.sign = false) (h2 : zP_ t.sign = true) : txB nb (t :: l) = encodeRune t.sign ++ txB false l:=by rw [txB,if_neg h,if_neg (by rw [h1]; decide),if_pos h2]
theorem uf_ (nb : Bool) (t : TkV) (l : List TkV) (h : t.sign ≠ 48) (h1 : zW_ t.sign = false) (h2 : zP_ t.sign = false) : txB nb (t :: l) = txB nb l:=by rw [txB,if_neg h,if_neg (by rw [h1]; decide),if_neg (by rw [h2]; decide)]
theorem xe_ (r : Int) : (encodeRune r).length ≤ 4:=by
 unfold encodeRune
 rw [List.length_map]
 exact (Lib.encodeRuneZ_length r).2
theorem zfx (m : Nat) (h : m ≤ 9223372036854775807) : (decDigits m).length ≤ 19:=by
 have key : ∀ (k m : Nat),m < 10 ^ (k + 1) → (decDigits m).length ≤ k + 1:=by
  intro k
  induction k with
  | zero => intro m hm; rw [Lib.decDigits_one (by omega)]; simp
  | succ k ih =>
    intro m hm
    by_cases h10 : m < 10
    · rw [Lib.decDigits_one h10]; simp
    · rw [decDigits,dif_neg h10,List.length_append]
      have:=ih (m / 10) (by rw [Nat.pow_succ] at hm; omega)
      simp; omega
 exact key 18 m (by omega)
section
variable {w : World} {A : Option Addr} {n c : Nat} {l : List TkV}
theorem zbN (hT : Tks w A n c l) (hr : ∀ t ∈ l,TkRng t) (hn : n ≤ 1000) (hP : xu_ w.heap.size w) : Calls Tryz.prog 60 #[.slice A n c] w (x5_ (txB false l) w):=by
 obtain ⟨i0,hi0,hz0,hz1,hz2⟩:=info_parts v4_
 have HT:=hQ_ hT
 have HR:=hQ_ hr
 have HP:=hQ_ hP
 have HNL:=hQ_ hT.len
 clear hT hr hP
 go_enter Tryz.func60,Tryz.ntmps60
 go_wp2_with fail
 go_loopw [3,4,9] (fun v b i wr => ∃ (k : Nat) (nb : Bool) (out : List UInt8) (no : Nat),i = .int .i64 (k : Int) ∧ b = .bool nb ∧ k ≤ n ∧ Hid (no = out.length) ∧ no ≤ 25 * k ∧ Hid (wr.ownsRow w.heap.size 5 1 v no (bts out)) ∧ Hid (out ++ txB nb (l.drop k) = txB false l) ∧ Hid (Chg [] w wr)) (fun _ _ i _ => n - (intOf i).toNat)
 case atStart => exact ⟨0,false,[],0,rfl,rfl,by omega,hQ_ rfl,by omega,hQ_ (World.ownsRow_nil _ _ _ _),hQ_ rfl,hQ_ (Chg.refl [] _)⟩
 case round =>
  obtain ⟨k,nb,out,no,rfl,rfl,hk,HNO,hno,HO,HX,HC⟩:=hrel
  by_cases hkn : k < n
  · have hkI : (k : Int) < (n : Int):=by omega
    obtain ⟨t,htk⟩ : ∃ t,l[k]? = some t:=⟨l[k]'(by rw [HNL.out]; exact hkn),by simp⟩
    have htr:=HR.out t (List.mem_of_getElem? htk)
    obtain ⟨fb,fo,rfl,hfbl,e0,e1,e2⟩:=(HT.out.keep HC.out).cell htk
    have HD:=hQ_ (show l.drop k = t :: l.drop (k + 1) from List.drop_eq_getElem?_toList_append.trans (by rw [htk]; rfl))
    have HS:=hQ_ (show out ++ txB nb (t :: l.drop (k + 1)) = txB false l from by rw [← HD.out]; exact HX.out)
    clear htk
    obtain ⟨ts,tn,tm⟩:=t
    have hts:=htr.sign
    have htn:=htr.n
    have htm:=htr.name
    simp only at e0 e1 e2 hts htn htm
    clear htr
    have hnum:=hQ_ hno
    go_upto_region 7 with fail
    have hX:=zb_.new wr 110 [.int .i32 ts,.int .i64 tn,.int .i32 tm]
    have hc2:=(Chg.refl [] wr).alloc (.cells #[.int .i32 ts,.int .i64 tn,.int .i32 tm] 110)
    have HX2:=hQ_ hX
    have HC2:=hQ_ hc2
    have HO2:=hQ_ (zn_ HO.out hc2)
    have HB2:=hQ_ (show w.heap.size ≤ (wr.alloc (.cells #[.int .i32 ts,.int .i64 tn,.int .i32 tm] 110)).heap.size from Nat.le_trans HC.out.size hc2.size)
    generalize wr.heap.size = gx at HX2 ⊢
    generalize wr.alloc (.cells #[.int .i32 ts,.int .i64 tn,.int .i32 tm] 110) = w3 at HX2 HC2 HO2 HB2 ⊢
    clear hX e0 e1 e2 hfbl hc2
    have x0:=HX2.out.cell 0
    have x1:=HX2.out.cell 1
    have x2:=HX2.out.cell 2
    have HF3:=hQ_ (show Fr w.heap.size u8T w w3 from Fr.of_chg (HC.out.new HC2.out))
    have HPW:=hQ_ (fun (W : World) (h : Fr w.heap.size u8T w W) => HP.out.keep (Nat.le_refl _) (h.chg (Nat.le_refl _)))
    have HKX:=hQ_ (fun (W : World) (h : Fr w.heap.size u8T w3 W) => h.whole HX2.out (by decide))
    by_cases h48 : ts = 48
    · subst h48
      obtain ⟨m,hmax,hm⟩ : ∃ m : Nat,max tn 0 = (m : Int) ∧ m = tn.toNat:=⟨tn.toNat,by omega,rfl⟩
      have HM:=hQ_ hm
      have HMB:=hQ_ (show m ≤ 9223372036854775807 by omega)
      have HMC:=hQ_ (zfx m (by omega))
      clear hm
      have HNX:=hQ_ (fun (o : List UInt8) (h : o = out ++ ((if nb then [32] else []) ++ decDigits m)) => show o ++ txB true (l.drop (k + 1)) = txB false l from by
       rw [h,← HS.out,xW_ _ _ _ rfl,HM.out]
       simp only [List.append_assoc])
      cases nb with
      | true =>
        go_wp2_with (first
         | (at_builtin
            refine wpList_append_own _ rfl (.tmp 22) (.tmp 23) _ rfl w.heap.size 5 i0 _ 1 1 Tryz.underlying33 hi0 hz0 hz1 hz2 rfl (by decide) u3 no (bts out) rfl (zn_ HO2.out ((Chg.refl [] w3).alloc _)) ⟨w3.heap.size,0,none⟩ 1 1 [.int .u8 32] rfl rfl (zq_ _ _ _) (by simp [Value.oneCell']) (by simp only [maxLen]; omega) (by omega) (by have:=HB2.out; simp; omega) ?_
            intro v6 w6 ho6 hg6 _
            have HF6:=hQ_ ((Fr.of_chg (B:=w.heap.size) (TS:=u8T) ((Chg.refl [] w3).alloc (.cells #[.int .u8 32] 5))).grown (zn_ HO2.out ((Chg.refl [] w3).alloc _)) (Nat.le_refl _) (by simp) hg6)
            have HO6:=hQ_ (show w6.ownsRow w.heap.size 5 1 v6 (no + 1) (bts (out ++ [32])) from by rw [yh_,Lib.byteCells_append,← yh_]; exact ho6)
            have y0:=(HKX.out w6 HF6.out).cell 0
            have y1:=(HKX.out w6 HF6.out).cell 1
            clear ho6 hg6)
         | (go_at_call 90
            refine (gp_ m HMB.out (HPW.out _ (HF3.out.trans HF6.out)) HO6.out (by rw [List.length_append,← HNO.out]; rfl) (Nat.le_trans HB2.out HF6.out.size) (by rw [List.length_append,← HNO.out]; simp; omega)).mono ?_
            rintro e w7 ⟨v7,n7,rfl,hn7,ho7,hf7⟩
            have HF7:=hQ_ (HF6.out.trans hf7)
            have HO7:=hQ_ ho7
            have HN7:=hQ_ hn7
            have hn7b : n7 ≤ 25 * (k + 1):=by rw [hn7,List.length_append,List.length_append,← HNO.out]; have:=HMC.out; simp; omega
            have z0:=(HKX.out w7 HF7.out).cell 0
            clear hn7 ho7 hf7))
        go_roundw
        case rel => exact ⟨k + 1,true,_,n7,by go_num,rfl,by omega,HN7,hn7b,HO7,hQ_ (HNX.out _ (by simp)),hQ_ ((HF3.out.trans HF7.out).chg (Nat.le_refl _))⟩
        case measure => simp [intOf]; omega
      | false =>
        go_wp2_with (
         go_at_call 90
         refine (gp_ m HMB.out (HPW.out _ HF3.out) HO2.out HNO.out HB2.out (by rw [← HNO.out]; omega)).mono ?_
         rintro e w7 ⟨v7,n7,rfl,hn7,ho7,hf7⟩
         have HF7:=hQ_ hf7
         have HO7:=hQ_ ho7
         have HN7:=hQ_ hn7
         have hn7b : n7 ≤ 25 * (k + 1):=by rw [hn7,List.length_append,← HNO.out]; have:=HMC.out; omega
         have z0:=(HKX.out w7 HF7.out).cell 0
         clear hn7 ho7 hf7)
        go_roundw
        case rel => exact ⟨k + 1,true,_,n7,by go_num,rfl,by omega,HN7,hn7b,HO7,hQ_ (HNX.out _ (by simp)),hQ_ ((HF3.out.trans HF7.out).chg (Nat.le_refl _))⟩
        case measure => simp [intOf]; omega
    · have h48d : (ts == 48) = false:=by simpa using h48
      have HKN:=hQ_ (v7_ ts w3)
      have HNA:=hQ_ (fun W => jJ_ ts W)
      have HNB:=hQ_ (fun W => u8_ tm W)
      have HSK:=hQ_ (fun (h : txB nb (⟨ts,tn,tm⟩ :: l.drop (k + 1)) = txB nb (l.drop (k + 1))) => show out ++ txB nb (l.drop (k + 1)) = txB false l from by rw [← h]; exact HS.out)
      by_cases hkw : zP_ ts = true
      · rw [hkw] at HKN
        by_cases hnm : zW_ ts = true
        · rw [hnm] at HNA
          by_cases hnb : zU_ tm = true
          · rw [hnb] at HNB
            have HNX:=hQ_ (fun (o : List UInt8) (h : o = out ++ (encodeRune ts ++ encodeRune tm)) => show o ++ txB false (l.drop (k + 1)) = txB false l from by
             rw [h,← HS.out,vk_ _ _ _ h48 hnm hnb]
             simp only [List.append_assoc])
            clear hkw hnm hnb
            go_wp2_with (first
             | (go_at_call 91
                refine HKN.out.mono ?_
                rintro e w5 ⟨rfl,hc5⟩
                have HF5:=hQ_ (Fr.of_chg (B:=w.heap.size) (TS:=u8T) hc5)
                have HO5:=hQ_ (zn_ HO2.out hc5)
                have y0:=(HKX.out w5 HF5.out).cell 0
                have y2:=(HKX.out w5 HF5.out).cell 2
                clear hc5)
             | (go_at_call 92
                refine (HNA.out _).mono ?_
                rintro e w8 ⟨rfl,rfl⟩)
             | (go_at_call 81
                refine (HNB.out _).mono ?_
                rintro e w8 ⟨rfl,rfl⟩))
            have hnn:=HNO.out
            have HLN:=hQ_ (show no + 4 + 4 ≤ 25 * (k + 1) ∧ no ≤ 25000 from ⟨by have:=hnum.out; omega,by have:=hnum.out; omega⟩)
            clear hnn
            have HF5d:=hQ_ (show Fr w.heap.size u8T w3 w5.drew from HF5.out.trans (Fr.of_chg (Chg.refl [] w5).drew))
            have TOK:=zfs (B:=w.heap.size) (TS:=u8T) (hard:=[3,6]) (soft:=[3,6,7])
            refine wp_flow (by kernel_rfl) (frT w.heap.size u8T [3,6] [3,6,7]) TOK (by kernel_rfl) ?_
            refine flow_move_out TOK rfl rfl rfl ?_
            refine flow1 (r:=.pointer (some ⟨gx,0,none⟩)) TOK rfl (.out rfl rfl) rfl (fun ev W he e1 => by go_simp) ?_
            refine flow1h (r:=.int .i32 ts) TOK rfl (.inn rfl) rfl (fun ev W he hW e1 => by have r0:=(HKX.out W (HF5d.out.trans hW)).cell 0; clear hW; go_simp) ?_
            refine zac (gZ_ w.heap.size 5 (bts (out ++ encodeRune ts))) (x1_ _ _ _) (.inl rfl) rfl rfl (fun ev W he hW hfs => ?_) ?_
            · have hc0 : Chg [] w5 W:=(Chg.refl [] w5).drew.trans (zeF hW)
              rw [kU_ he (by kernel_rfl)]
              obtain ⟨_,f1,f2,_⟩:=hfs
              have e1 : ev (.tmp 50) = u3:=f1
              have e2 : ev (.tmp 52) = .int .i32 ts:=f2
              rw [show Array.map ev #[.tmp 50,.tmp 52] = #[ev (.tmp 50),ev (.tmp 52)] by simp]
              unfold yK_
              simp only
              rw [e1,e2]
              refine (ke_ ts hts (zn_ HO5.out hc0) HNO.out (Nat.le_trans (Nat.le_trans HB2.out HF5.out.size) hc0.size) (by have:=HLN.out; rw [← HNO.out]; omega)).mono ?_
              rintro e w7 ⟨v7,n7,rfl,hn7,ho7,hf7⟩
              exact ⟨v7,rfl,zbV rfl hf7,by unfold gZ_; rw [zx_,← hn7]; exact ho7⟩
            refine flow1 (r:=.pointer (some ⟨gx,2,none⟩)) TOK rfl (.out rfl rfl) rfl (fun ev W he e1 => by go_simp) ?_
            refine flow1h (r:=.int .i32 tm) TOK rfl (.inn rfl) rfl (fun ev W he hW e1 => by have r0:=(HKX.out W (HF5d.out.trans hW)).cell 2; clear hW; go_simp) ?_
            refine flow_call (gZ_ w.heap.size 5 (bts (out ++ encodeRune ts ++ encodeRune tm))) (x1_ _ _ _) (.inl rfl) (by kernel_rfl) rfl (fun ev W he hW hfs => ?_) ?_
            · obtain ⟨f1,f2,_⟩:=hfs
              have e2 : ev (.tmp 55) = .int .i32 tm:=f2
              have f3 : gZ_ w.heap.size 5 (bts (out ++ encodeRune ts)) (ev (.tmp 53)) W:=f1
              unfold gZ_ at f3
              rw [show (List.map ev [.tmp 53,.tmp 55]).toArray = #[ev (.tmp 53),ev (.tmp 55)] by simp,e2]
              refine (ke_ tm htm f3 (by rw [zx_]) (Nat.le_trans (Nat.le_trans HB2.out HF5.out.size) hW.size) (by have:=HLN.out; have:=xe_ ts; rw [List.length_append,← HNO.out]; omega)).mono ?_
              rintro e w7 ⟨v7,n7,rfl,hn7,ho7,hf7⟩
              exact ⟨v7,rfl,zbV rfl hf7,by unfold gZ_; rw [zx_,← hn7]; exact ho7⟩
            refine flow_assign TOK rfl (x1_ _ _ _) (.inl rfl) rfl ?_
            intro vs W hW hF
            have hd : gZ_ w.heap.size 5 (bts (out ++ encodeRune ts ++ encodeRune tm)) (vs 3) W:=hF 3 _ rfl rfl
            have HO9:=hQ_ hd
            have HF9:=hQ_ (show Fr w.heap.size u8T w3 W from HF5d.out.trans hW)
            simp only [zY_,Act.put,List.setIfInBounds_toArray,List.set_cons_zero,List.set_cons_succ]
            clear hF hW hd TOK
            obtain ⟨w9,hw9⟩ : ∃ w9 : World,w9 = W:=⟨_,rfl⟩
            rw [← hw9] at HO9 HF9 ⊢
            clear hw9
            obtain ⟨n9,hn9⟩ : ∃ n9,n9 = (out ++ encodeRune ts ++ encodeRune tm).length:=⟨_,rfl⟩
            have HO8:=hQ_ (show w9.ownsRow w.heap.size 5 1 (vs 3) n9 (bts (out ++ encodeRune ts ++ encodeRune tm)) from by have:=HO9.out; unfold gZ_ at this; rwa [zx_,← hn9] at this)
            have hn9b : n9 ≤ 25 * (k + 1):=by have:=HLN.out; have:=xe_ ts; have:=xe_ tm; rw [hn9,List.length_append,List.length_append,← HNO.out]; omega
            have HN9:=hQ_ hn9
            have s0:=(HKX.out w9 HF9.out).cell 0
            clear hn9
            generalize vs 3 = v3 at HO8 ⊢
            clear HO9
            go_wp2_with fail
            go_roundw
            case rel => exact ⟨k + 1,false,_,n9,by go_num,rfl,by omega,HN9,hn9b,HO8,hQ_ (HNX.out _ (by simp only [List.append_assoc])),hQ_ ((HF3.out.trans HF9.out).chg (Nat.le_refl _))⟩
            case measure => simp [intOf]; omega
          · have hnbf : zU_ tm = false:=by simpa using hnb
            rw [hnbf] at HNB
            have HS2:=hQ_ (HSK.out (vA_ nb ⟨ts,tn,tm⟩ _ h48 hnm hnbf))
            clear hkw hnm hnb hnbf
            go_wp2_with (first
             | (go_at_call 91
                refine HKN.out.mono ?_
                rintro e w5 ⟨rfl,hc5⟩
                have HF5:=hQ_ (Fr.of_chg (B:=w.heap.size) (TS:=u8T) hc5)
                have HO5:=hQ_ (zn_ HO2.out hc5)
                have HC5:=hQ_ (HC.out.new (HC2.out.new hc5))
                have y0:=(HKX.out w5 HF5.out).cell 0
                have y2:=(HKX.out w5 HF5.out).cell 2
                clear hc5)
             | (go_at_call 92
                refine (HNA.out _).mono ?_
                rintro e w8 ⟨rfl,rfl⟩)
             | (go_at_call 81
                refine (HNB.out _).mono ?_
                rintro e w8 ⟨rfl,rfl⟩))
            go_roundw
            case rel => exact ⟨k + 1,nb,out,no,by go_num,rfl,by omega,HNO,by omega,HO5,HS2,HC5⟩
            case measure => simp [intOf]; omega
        · have hnmf : zW_ ts = false:=by simpa using hnm
          rw [hnmf] at HNA
          have HNX:=hQ_ (fun (o : List UInt8) (h : o = out ++ encodeRune ts) => show o ++ txB false (l.drop (k + 1)) = txB false l from by
           rw [h,← HS.out,vl_ _ _ _ h48 hnmf hkw]
           simp only [List.append_assoc])
          clear hkw hnm hnmf
          have hlo : out.length ≤ 25000:=by rw [← HNO.out]; omega
          go_wp2_with (first
           | (go_at_call 59
              refine (ke_ ts hts HO5.out HNO.out (Nat.le_trans HB2.out HF5.out.size) (by omega)).mono ?_
              rintro e w7 ⟨v7,n7,rfl,hn7,ho7,hf7⟩
              have HF7:=hQ_ (HF5.out.trans hf7)
              have HO7:=hQ_ ho7
              have HN7:=hQ_ hn7
              have hn7b : n7 ≤ 25 * (k + 1):=by have:=xe_ ts; rw [hn7,List.length_append,← HNO.out]; omega
              have z0:=(HKX.out w7 HF7.out).cell 0
              clear hn7 ho7 hf7)
           | (go_at_call 91
              refine HKN.out.mono ?_
              rintro e w5 ⟨rfl,hc5⟩
              have HF5:=hQ_ (Fr.of_chg (B:=w.heap.size) (TS:=u8T) hc5)
              have HO5:=hQ_ (zn_ HO2.out hc5)
              have HC5:=hQ_ (HC.out.new (HC2.out.new hc5))
              have y0:=(HKX.out w5 HF5.out).cell 0
              have y2:=(HKX.out w5 HF5.out).cell 2
              clear hc5)
           | (go_at_call 92
              refine (HNA.out _).mono ?_
              rintro e w8 ⟨rfl,rfl⟩)
           | (go_at_call 81
              refine (HNB.out _).mono ?_
              rintro e w8 ⟨rfl,rfl⟩))
          go_roundw
          case rel => exact ⟨k + 1,false,_,n7,by go_num,rfl,by omega,HN7,hn7b,HO7,hQ_ (HNX.out _ rfl),hQ_ ((HF3.out.trans HF7.out).chg (Nat.le_refl _))⟩
          case measure => simp [intOf]; omega
      · have hkf : zP_ ts = false:=by simpa using hkw
        have hnmf : zW_ ts = false:=by
         cases hh : zW_ ts with
         | false => rfl
         | true => exact absurd (xN_ hh).1 hkw
        rw [hkf] at HKN
        have HS2:=hQ_ (HSK.out (uf_ nb ⟨ts,tn,tm⟩ _ h48 hnmf hkf))
        clear hkw hkf hnmf
        go_wp2_with (first
         | (go_at_call 91
            refine HKN.out.mono ?_
            rintro e w5 ⟨rfl,hc5⟩
            have HF5:=hQ_ (Fr.of_chg (B:=w.heap.size) (TS:=u8T) hc5)
            have HO5:=hQ_ (zn_ HO2.out hc5)
            have HC5:=hQ_ (HC.out.new (HC2.out.new hc5))
            have y0:=(HKX.out w5 HF5.out).cell 0
            have y2:=(HKX.out w5 HF5.out).cell 2
            clear hc5)
         | (go_at_call 92
            refine (HNA.out _).mono ?_
            rintro e w8 ⟨rfl,rfl⟩)
         | (go_at_call 81
            refine (HNB.out _).mono ?_
            rintro e w8 ⟨rfl,rfl⟩))
        go_roundw
        case rel => exact ⟨k + 1,nb,out,no,by go_num,rfl,by omega,HNO,by omega,HO5,HS2,HC5⟩
        case measure => simp [intOf]; omega
  · have hkI : ¬ (k : Int) < (n : Int):=by omega
    have HXE:=hQ_ (show out = txB false l from by
     have:=HX.out
     rw [List.drop_eq_nil_of_le (by rw [HNL.out]; omega),show txB nb [] = [] from by cases nb <;> rfl,List.append_nil] at this
     exact this)
    obtain ⟨A3,c3,rfl,hbs,_⟩:=Bs.of_own HO.out
    have HSTR:=hQ_ (hbs.str 33 5 9 Tryz.underlying33 Tryz.underlying5 Tryz.underlying9)
    have hstr:=HSTR.out
    go_wp2_with fail
    go_ret
    exact ⟨by rw [← HXE.out]; rfl,HC.out⟩
end
end Go.Proofs.YtbkfhndmeljlcaaGreatDoor
namespace Go.Proofs.YtbkfhndmeljlcaaGreatDoor
open Go.RowKit
open Go.Lib (decDigits encodeRune)
structure OwnM (w : World) (B : Nat) (v : Value) (n : Nat) (out : List UInt8) : Prop where
  len : out.length = n
  row : ∃ g cap cur fz,v = .slice (some ⟨g,0,none⟩) n cap ∧ B ≤ g ∧ w.heap[g]? = some (.cells cur 5 fz) ∧ (fz.2 = 0 ∨ fz.1 = cur.size) ∧ n ≤ cap ∧ cap ≤ maxLen ∧ cur.size = cap ∧ cur.toList.take n = bts out
section
variable {w w' : World} {B n : Nat} {v : Value} {out : List UInt8}
theorem OwnM.keep (h : OwnM w B v n out) (hc : Chg [] w w') : OwnM w' B v n out:=by
 obtain ⟨hl,g,cap,cur,fz,e,hB,hg,rest⟩:=h
 refine ⟨hl,g,cap,cur,fz,e,hB,?_,rest⟩
 rw [hc.block g (Array.getElem?_eq_some_iff.1 hg).1 (by simp),hg]
theorem OwnM.fr (h : OwnM w B v n out) (hg : w.grownBy w' v.ownBlock) : Fr B u8T w w':=by
 obtain ⟨hl,g,cap,cur,fz,rfl,hB,hgg,rest⟩:=h
 refine ⟨hg.os,hg.tape,hg.output,hg.size,fun k hk hc => ?_⟩
 refine hg.block k hk (fun e => ?_)
 simp only [Value.ownBlock,Option.some.injEq] at e
 subst e
 rcases hc with h1 | h1
 · omega
 · exact h1 _ _ _ hgg (by simp)
theorem OwnM.cells (h : OwnM w B v n out) : ∃ g cap,v = .slice (some ⟨g,0,none⟩) n cap ∧ (∀ j u,(bts out)[j]? = some u → w.cell? ((⟨g,0,none⟩ : Addr).add j) = some u) ∧ n ≤ cap ∧ cap ≤ maxLen:=by
 obtain ⟨hl,g,cap,cur,fz,rfl,hB,hgg,hf,hnc,hcm,hcs,htk⟩:=h
 refine ⟨g,cap,rfl,fun j u hu => ?_,hnc,hcm⟩
 have hadd : (⟨g,0,none⟩ : Addr).add j = ⟨g,j,none⟩:=by unfold Addr.add; split <;> simp_all
 rw [hadd,cell_of_row w g j cur _ fz hgg]
 rw [← htk,List.getElem?_take] at hu
 split at hu
 · simpa using hu
 · cases hu
theorem jF_ {g : Nat} {cur : Array Value} {t : TypeId} {fz : Nat × Nat} (hg : w.heap[g]? = some (.cells cur t fz)) (hf : fz.2 = 0 ∨ fz.1 = cur.size) (j : Nat) (hj : j < cur.size) : w.frozen? ⟨g,j,none⟩ = false:=by
 obtain ⟨lo,hi⟩:=fz
 simp only [World.frozen?,hg,Bool.and_eq_false_iff,decide_eq_false_iff_not]
 simp only at hf
 omega
end
theorem kP_ {α : Type} (l : List α) (o : Nat) (v : α) (h : o < l.length) : (l.set o v).take (o + 1) = l.take o ++ [v]:=by
 induction l generalizing o with
 | nil => simp at h
 | cons a l ih =>
   cases o with
   | zero => simp
   | succ o => simp at h ⊢; exact ih o h
theorem xY_ (g : Nat) (t : TypeId) (fz : Nat × Nat) : ∀ (vs : List Value) (o : Nat) (cur : Array Value) (w : World),w.heap[g]? = some (.cells cur t fz) → o + vs.length ≤ cur.size →
    ∃ cur',(w.setCells g o vs).heap[g]? = some (.cells cur' t fz) ∧ cur'.size = cur.size ∧ cur'.toList.take (o + vs.length) = cur.toList.take o ++ vs
  | [],o,cur,w,hg,_ => ⟨cur,hg,rfl,by simp⟩
  | v :: r,o,cur,w,hg,hl => by
    have h1 : (w.setCell ⟨g,o,none⟩ v).heap[g]? = some (.cells (cur.setIfInBounds o v) t fz):=by
     rw [setCell_eq_setRow w g o cur t fz v hg]; exact setRow_heap w g cur _ t fz hg
    have hl' : o + (r.length + 1) ≤ cur.size:=hl
    obtain ⟨c',a,b,c⟩:=xY_ g t fz r (o + 1) (cur.setIfInBounds o v) _ h1 (by simp; omega)
    refine ⟨c',a,by rw [b]; simp,?_⟩
    have e : o + (v :: r).length = o + 1 + r.length:=by simp only [List.length_cons]; omega
    rw [e,c,Array.toList_setIfInBounds,kP_ _ _ _ (by simp; omega)]
    simp
theorem xq_ (g : Nat) : ∀ (vs : List Value) (o : Nat) (w : World),w.grownBy (w.setCells g o vs) (some g)
  | [],_,w => World.grownBy.refl w _
  | v :: r,o,w => Lib.grownBy_trans (Lib.grownBy_setCell w g o v) (xq_ g r (o + 1) _)
theorem zcM (w : World) (tx ty : TypeId) (x : Value) (m : Nat) (new : List UInt8) {B n : Nat} {v : Value} {out : List UInt8} (h : OwnM w B v n out) (hs : Go.Src Tryz.prog 1 tx x m (bts new) w) (hB : B ≤ w.heap.size) (hm : n + m ≤ 1000000) :
    ∃ v' w',(Builtin.append_ #[33,tx] ty #[v,x]).run Tryz.prog w = .ok v' w' ∧ OwnM w' B v' (n + m) (out ++ new) ∧ w.grownBy w' v.ownBlock:=by
 obtain ⟨i,hi,hz,h1,h2⟩:=info_parts v4_
 have hsl : new.length = m:=by have:=hs.newsLen; simpa [bts] using this
 obtain ⟨hl,g,cap,cur,fz,rfl,hBg,hg,hf,hnc,hcm,hcs,htk⟩:=h
 by_cases hr : n + m ≤ cap
 · have hlen : (bts new).length = m:=by simpa [bts] using hsl
   have hrun:=run_append_room_src (P:=Tryz.prog) w 33 tx ty 5 i Tryz.underlying33 hi g 0 n cap x m (bts new) (by rw [h1]; exact hs) hr
     (fun j hj => by rw [h1,cell_of_row w g _ cur _ fz hg]; simp; omega)
     (fun j hj => by rw [h1]; exact jF_ hg hf _ (by omega))
   rw [h1,Nat.mul_one,Nat.zero_add] at hrun
   obtain ⟨c',a,b,c⟩:=xY_ g 5 fz (bts new) n cur w hg (by omega)
   refine ⟨_,_,hrun,⟨by rw [List.length_append]; omega,g,cap,c',fz,rfl,hBg,a,by rw [b]; exact hf,hr,hcm,by rw [b]; exact hcs,?_⟩,xq_ g _ _ w⟩
   rw [hlen] at c
   rw [c,htk]
   simp [bts]
 · have hold : (Builtin.firstCells i.size n (.slice (some ⟨g,0,none⟩) n cap)).run Tryz.prog w.drew = .ok (bts out).toArray w.drew:=by
    refine run_firstCells_some w.drew i.size n ⟨g,0,none⟩ n cap (bts out) (by rw [h1]; simp [bts,hl]) (fun j u hu => ?_)
    have hadd : (⟨g,0,none⟩ : Addr).add j = ⟨g,j,none⟩:=by unfold Addr.add; split <;> simp_all
    rw [hadd]
    show w.cell? _ = _
    rw [cell_of_row w g j cur _ fz hg]
    rw [← htk,List.getElem?_take] at hu
    split at hu
    · simpa using hu
    · cases hu
   have hrun:=run_append_grow_src (P:=Tryz.prog) w 33 tx ty 5 i _ Tryz.underlying33 hi hz (some ⟨g,0,none⟩) n cap (bts out) hold x m (bts new) (by rw [h1]; exact hs) (by omega) (by omega)
     (by rw [h2]; exact growslice_fits (by omega) (by omega))
   have hge:=grownCap_ge w (n + m) cap 5
   refine ⟨_,_,hrun,⟨by rw [List.length_append]; omega,w.heap.size,_,_,(0,0),rfl,hB,heap_alloc_new w.drew _,.inl rfl,hge,grownCap_le_maxLen w (n + m) cap _ (by unfold maxLen; omega),?_,?_⟩,⟨rfl,rfl,rfl,by simp,fun k hk _ => heap_alloc_old w.drew _ hk⟩⟩
   · simp only [Array.size_append,List.size_toArray,size_zeroCells,List.length_append]
     simp [bts,Value.cells,hl,hsl]
     omega
   · have : n + m = (bts out ++ bts new).length:=by simp [bts,hl,hsl]
     simp only [Array.toList_append]
     rw [this,List.take_left]
     simp [bts]
section
variable (w : World)
theorem yd_ {ops : Array Oper} {rest : List Oper} {o : Oper} {a : Act} {Q : Exit → Act → World → Prop} (hgd : o.guard = none) (s x : Operand) (tx : TypeId)
    (hop : o.op = Op.call { callee:=Callee.builtin Builtin.append,args:=#[s,x],argTypes:=#[33,tx] }) {B n : Nat} {v : Value} {out : List UInt8} (hs : a.eval s = v) (h : OwnM w B v n out)
    (X : Value) (m : Nat) (new : List UInt8) (hx : a.eval x = X) (hsrc : Go.Src Tryz.prog 1 tx X m (bts new) w) (hB : B ≤ w.heap.size) (hm : n + m ≤ 1000000)
    (hK : ∀ v' w',OwnM w' B v' (n + m) (out ++ new) → w.grownBy w' v.ownBlock → wpList Tryz.prog ops Q rest (a.put o.dst v') w') : wpList Tryz.prog ops Q (o :: rest) a w:=by
      refine wpList_plain hgd fun K hK' => ?_
      obtain ⟨v',w',hrun,r1,r2⟩:=zcM w tx o.type X m new h hsrc hB hm
      unfold Oper.wp
      simp [execOp,hop,resolve,invoke,builtin,hs,hx,hrun,Result.andThen]
      exact hK' _ _ (hK v' w' r1 r2)
end
def WrM (B : Nat) (w : World) (out : List UInt8) (e : Ending) (w' : World) : Prop :=
 ∃ v' n',e = .returned v' ∧ n' = out.length ∧ OwnM w' B v' n' out ∧ Fr B u8T w w'
end Go.Proofs.YtbkfhndmeljlcaaGreatDoor
namespace Go.Proofs.YtbkfhndmeljlcaaGreatDoor
open Go.RowKit
open Go.Lib (decDigits encodeRune)
set_option linter.unusedSimpArgs false
variable {w : World} {B n : Nat} {v : Value} {out : List UInt8}
theorem vp_ (w : World) (xs : List Value) (m : Nat) (h1 : ∀ u ∈ xs,u.oneCell' = true) (hl : xs.length = m) : Go.Src Tryz.prog 1 33 (.slice (some ⟨w.heap.size,0,none⟩) m m) m xs (w.alloc (.cells xs.toArray 5)) :=
 Go.Src.ofSlice _ Tryz.underlying33 ⟨w.heap.size,0,none⟩ m m xs (by rw [hl,Nat.mul_one]) (zq_ _ _ _) h1
theorem OwnM.wrote {w' : World} {W : World} {v' : Value} {m : Nat} {new : List UInt8} (h : OwnM w B v n out) (hc : Chg [] w W) (ho : OwnM w' B v' (n + m) (out ++ new)) (hg : W.grownBy w' v.ownBlock) : WrM B w (out ++ new) (.returned v') w' :=
 ⟨v',n + m,rfl,ho.len.symm,ho,(Fr.of_chg hc).trans ((h.keep hc).fr hg)⟩
theorem g2_ (r : Int) (h0 : 128 ≤ r) (h1 : r ≤ 2047) (ho : OwnM w B v n out) (hB : B ≤ w.heap.size) (hm : n ≤ 900000) : Calls Tryz.prog 89 #[v,.int .i32 r] w (WrM B w (out ++ encodeRune r)):=by
 have HE:=hQ_ (show bts (encodeRune r) = [.int .u8 (192 + r / 64),.int .u8 (128 + r % 64)] from by rw [yh_,Lib.byteCells_encodeRune,Lib.runeCells,Lib.encodeRuneZ_two h0 h1]; rfl)
 have HO:=hQ_ ho
 clear ho
 go_enter Tryz.func89,Tryz.ntmps89
 go_wp2_with (
  at_builtin
  refine yd_ _ rfl _ _ _ rfl rfl (HO.out.keep ((Chg.refl [] w).alloc (.cells #[.int .u8 (192 + r / 64),.int .u8 (128 + r % 64)] 5))) (.slice (some ⟨w.heap.size,0,none⟩) 2 2) 2 (encodeRune r) rfl ?src ?hB ?hm ?_)
 case src =>
  rw [HE.out]
  exact vp_ w [.int .u8 (192 + r / 64),.int .u8 (128 + r % 64)] 2 (by intro u hu; simp at hu; rcases hu with rfl | rfl <;> rfl) rfl
 case hB => simp; omega
 case hm => omega
 intro v' w2 ho2 hg2
 go_wp2
 go_ret
 exact HO.out.wrote ((Chg.refl [] w).alloc _) ho2 hg2
theorem zbx (r : Int) (h0 : 2048 ≤ r) (h1 : r < 55296) (ho : OwnM w B v n out) (hB : B ≤ w.heap.size) (hm : n ≤ 900000) : Calls Tryz.prog 89 #[v,.int .i32 r] w (WrM B w (out ++ encodeRune r)):=by
 have HE:=hQ_ (show bts (encodeRune r) = [.int .u8 (224 + r / 4096),.int .u8 (128 + r / 64 % 64),.int .u8 (128 + r % 64)] from by rw [yh_,Lib.byteCells_encodeRune,Lib.runeCells,Lib.encodeRuneZ_three (.inl ⟨h0,h1⟩)]; rfl)
 have HO:=hQ_ ho
 clear ho
 go_enter Tryz.func89,Tryz.ntmps89
 go_wp2_with (
  at_builtin
  refine yd_ _ rfl _ _ _ rfl rfl (HO.out.keep ((Chg.refl [] w).alloc (.cells #[.int .u8 (224 + r / 4096),.int .u8 (128 + r / 64 % 64),.int .u8 (128 + r % 64)] 5))) (.slice (some ⟨w.heap.size,0,none⟩) 3 3) 3 (encodeRune r) rfl ?src ?hB ?hm ?_)
 case src =>
  rw [HE.out]
  exact vp_ w [.int .u8 (224 + r / 4096),.int .u8 (128 + r / 64 % 64),.int .u8 (128 + r % 64)] 3 (by intro u hu; simp at hu; rcases hu with rfl | rfl | rfl <;> rfl) rfl
 case hB => simp; omega
 case hm => omega
 intro v' w2 ho2 hg2
 go_wp2
 go_ret
 exact HO.out.wrote ((Chg.refl [] w).alloc _) ho2 hg2
theorem zby (r : Int) (h0 : 57343 < r) (h1 : r ≤ 65535) (ho : OwnM w B v n out) (hB : B ≤ w.heap.size) (hm : n ≤ 900000) : Calls Tryz.prog 89 #[v,.int .i32 r] w (WrM B w (out ++ encodeRune r)):=by
 have HE:=hQ_ (show bts (encodeRune r) = [.int .u8 (224 + r / 4096),.int .u8 (128 + r / 64 % 64),.int .u8 (128 + r % 64)] from by rw [yh_,Lib.byteCells_encodeRune,Lib.runeCells,Lib.encodeRuneZ_three (.inr ⟨h0,h1⟩)]; rfl)
 have HO:=hQ_ ho
 clear ho
 go_enter Tryz.func89,Tryz.ntmps89
 go_wp2_with (
  at_builtin
  refine yd_ _ rfl _ _ _ rfl rfl (HO.out.keep ((Chg.refl [] w).alloc (.cells #[.int .u8 (224 + r / 4096),.int .u8 (128 + r / 64 % 64),.int .u8 (128 + r % 64)] 5))) (.slice (some ⟨w.heap.size,0,none⟩) 3 3) 3 (encodeRune r) rfl ?src ?hB ?hm ?_)
 case src =>
  rw [HE.out]
  exact vp_ w [.int .u8 (224 + r / 4096),.int .u8 (128 + r / 64 % 64),.int .u8 (128 + r % 64)] 3 (by intro u hu; simp at hu; rcases hu with rfl | rfl | rfl <;> rfl) rfl
 case hB => simp; omega
 case hm => omega
 intro v' w2 ho2 hg2
 go_wp2
 go_ret
 exact HO.out.wrote ((Chg.refl [] w).alloc _) ho2 hg2
theorem qm_ (r : Int) (h0 : 65536 ≤ r) (h1 : r ≤ 1114111) (ho : OwnM w B v n out) (hB : B ≤ w.heap.size) (hm : n ≤ 900000) : Calls Tryz.prog 89 #[v,.int .i32 r] w (WrM B w (out ++ encodeRune r)):=by
 have HE:=hQ_ (show bts (encodeRune r) = [.int .u8 (240 + r / 262144),.int .u8 (128 + r / 4096 % 64),.int .u8 (128 + r / 64 % 64),.int .u8 (128 + r % 64)] from by rw [yh_,Lib.byteCells_encodeRune,Lib.runeCells,Lib.encodeRuneZ_four h0 h1]; rfl)
 have HO:=hQ_ ho
 clear ho
 go_enter Tryz.func89,Tryz.ntmps89
 go_wp2_with (
  at_builtin
  refine yd_ _ rfl _ _ _ rfl rfl (HO.out.keep ((Chg.refl [] w).alloc (.cells #[.int .u8 (240 + r / 262144),.int .u8 (128 + r / 4096 % 64),.int .u8 (128 + r / 64 % 64),.int .u8 (128 + r % 64)] 5))) (.slice (some ⟨w.heap.size,0,none⟩) 4 4) 4 (encodeRune r) rfl ?src ?hB ?hm ?_)
 case src =>
  rw [HE.out]
  exact vp_ w [.int .u8 (240 + r / 262144),.int .u8 (128 + r / 4096 % 64),.int .u8 (128 + r / 64 % 64),.int .u8 (128 + r % 64)] 4 (by intro u hu; simp at hu; rcases hu with rfl | rfl | rfl | rfl <;> rfl) rfl
 case hB => simp; omega
 case hm => omega
 intro v' w2 ho2 hg2
 go_wp2
 go_ret
 exact HO.out.wrote ((Chg.refl [] w).alloc _) ho2 hg2
theorem zev {r : Int} (h : zU_ r = true) : (0 ≤ r ∧ r ≤ 127) ∨ (128 ≤ r ∧ r ≤ 2047) ∨ (2048 ≤ r ∧ r < 55296) ∨ (57343 < r ∧ r ≤ 65535) ∨ (65536 ≤ r ∧ r ≤ 1114111):=by
 by_cases hs : yE_ r = true
 · have : 97 ≤ r ∧ r ≤ 122:=by
    unfold yE_ at hs
    simpa using hs
   omega
 · have hs' : yE_ r = false:=by simpa using hs
   by_cases h2 : 255 < r
   · rw [vZ_ hs' h2] at h
     unfold xV_ at h
     simp at h
     omega
   · rw [qW_ hs' h2] at h
     cases h
theorem g3_ (r : Int) (hr : zU_ r = true) (ho : OwnM w B v n out) (hB : B ≤ w.heap.size) (hm : n ≤ 900000) : Calls Tryz.prog 59 #[v,.int .i32 r] w (WrM B w (out ++ encodeRune r)):=by
 have HN:=hQ_ (zev hr)
 have HO:=hQ_ ho
 clear ho hr
 by_cases h127 : r ≤ 127
 · have h0 : 0 ≤ r:=by have:=HN.out; omega
   have HE:=hQ_ (show bts (encodeRune r) = [.int .u8 r] from by rw [yh_,Lib.byteCells_encodeRune,Lib.runeCells,Lib.encodeRuneZ_one h0 h127]; rfl)
   go_enter Tryz.func59,Tryz.ntmps59
   go_wp2_with (
    at_builtin
    refine yd_ _ rfl _ _ _ rfl rfl (HO.out.keep ((Chg.refl [] w).alloc (.cells #[.int .u8 r] 5))) (.slice (some ⟨w.heap.size,0,none⟩) 1 1) 1 (encodeRune r) rfl ?src ?hB ?hm ?_)
   case src =>
    rw [HE.out]
    exact vp_ w [.int .u8 r] 1 (by intro u hu; simp at hu; subst hu; rfl) rfl
   case hB => simp; omega
   case hm => omega
   intro v' w2 ho2 hg2
   go_wp2
   go_ret
   exact HO.out.wrote ((Chg.refl [] w).alloc _) ho2 hg2
 · have h128 : 128 ≤ r:=by omega
   have hmx : r ≤ 1114111:=by have:=HN.out; omega
   have HC:=hQ_ (show Calls Tryz.prog 89 #[v,.int .i32 r] w (WrM B w (out ++ encodeRune r)) from by
    rcases HN.out with h | h | h | h | h
    · omega
    · exact g2_ r h.1 h.2 HO.out hB hm
    · exact zbx r h.1 h.2 HO.out hB hm
    · exact zby r h.1 h.2 HO.out hB hm
    · exact qm_ r h.1 h.2 HO.out hB hm)
   go_enter Tryz.func59,Tryz.ntmps59
   go_wp2_with (
    go_at_call 89
    refine HC.out.mono ?_
    rintro e w5 ⟨v',n',rfl,hn',ho',hf'⟩)
   go_ret
   exact ⟨v',n',rfl,hn',ho',hf'⟩
end Go.Proofs.YtbkfhndmeljlcaaGreatDoor
namespace Go.Proofs.YtbkfhndmeljlcaaGreatDoor
open Go.RowKit
open Go.Lib (decDigits encodeRune)
section
variable {w : World} {A : Option Addr} {n c : Nat} {l : List TkV}
theorem zaU (hT : Tks w A n c l) (hr : ∀ t ∈ l,TkRng t) (hn : n ≤ 1000) : Calls Tryz.prog 51 #[.slice A n c] w (x5_ (txB false l) w):=by
 have HT:=hQ_ hT
 have HR:=hQ_ hr
 have HNL:=hQ_ hT.len
 clear hT hr
 go_enter Tryz.func51,Tryz.ntmps51
 go_wp2_with fail
 go_loopw [3,4,9] (fun v b i wr => ∃ (k : Nat) (nb : Bool) (out : List UInt8),i = .int .i64 (k : Int) ∧ b = .bool nb ∧ v = .string (zc_ out) ∧ k ≤ n ∧ Hid (out.length ≤ 25 * k) ∧ Hid (out ++ txB nb (l.drop k) = txB false l) ∧ Hid (Chg [] w wr)) (fun _ _ i _ => n - (intOf i).toNat)
 case atStart => exact ⟨0,false,[],rfl,rfl,rfl,by omega,hQ_ (by simp),hQ_ rfl,hQ_ (Chg.refl [] _)⟩
 case round =>
  obtain ⟨k,nb,out,rfl,rfl,rfl,hk,HNO,HX,HC⟩:=hrel
  by_cases hkn : k < n
  · have hkI : (k : Int) < (n : Int):=by omega
    obtain ⟨t,htk⟩ : ∃ t,l[k]? = some t:=⟨l[k]'(by rw [HNL.out]; exact hkn),by simp⟩
    have htr:=HR.out t (List.mem_of_getElem? htk)
    obtain ⟨fb,fo,rfl,hfbl,e0,e1,e2⟩:=(HT.out.keep HC.out).cell htk
    have HD:=hQ_ (show l.drop k = t :: l.drop (k + 1) from List.drop_eq_getElem?_toList_append.trans (by rw [htk]; rfl))
    have HS:=hQ_ (show out ++ txB nb (t :: l.drop (k + 1)) = txB false l from by rw [← HD.out]; exact HX.out)
    clear htk
    obtain ⟨ts,tn,tm⟩:=t
    have hts:=htr.sign
    have htn:=htr.n
    have htm:=htr.name
    simp only at e0 e1 e2 hts htn htm
    clear htr
    have hol : out.length ≤ 25000:=by have:=HNO.out; omega
    go_upto_region 6 with fail
    have hX:=zb_.new wr 110 [.int .i32 ts,.int .i64 tn,.int .i32 tm]
    have hc2:=(Chg.refl [] wr).alloc (.cells #[.int .i32 ts,.int .i64 tn,.int .i32 tm] 110)
    have HX2:=hQ_ hX
    have HC2:=hQ_ (HC.out.new hc2)
    generalize wr.heap.size = gx at HX2 ⊢
    generalize wr.alloc (.cells #[.int .i32 ts,.int .i64 tn,.int .i32 tm] 110) = w3 at HX2 HC2 ⊢
    clear hX e0 e1 e2 hfbl hc2
    have x0:=HX2.out.cell 0
    have x1:=HX2.out.cell 1
    have x2:=HX2.out.cell 2
    by_cases h48 : ts = 48
    · subst h48
      have HDG:=hQ_ (qi_ tn htn.2 w3)
      obtain ⟨D,hD⟩ : ∃ D,D = decDigits tn.toNat:=⟨_,rfl⟩
      rw [← hD] at HDG
      have hDl : D.length ≤ 19:=by rw [hD]; exact kb_ _ (by omega)
      have HNX:=hQ_ (fun (o : List UInt8) (h : o = out ++ ((if nb then [32] else []) ++ D)) => show o ++ txB true (l.drop (k + 1)) = txB false l from by
       rw [h,← HS.out,xW_ _ _ _ rfl,hD]
       simp only [List.append_assoc])
      clear hD
      cases nb with
      | true =>
        have q1:=z9_ out [32] (by simp; omega) w3
        rw [show zc_ [32] = ⟨#[32]⟩ from rfl] at q1
        have q2:=z9_ (out ++ [32]) D (by simp; omega) w3
        have hlb:=hQ_ (show (out ++ 32 :: D).length ≤ 25 * (k + 1) from by have:=HNO.out; simp; omega)
        go_wp2_with (
         go_at_call 79
         refine HDG.out.mono ?_
         rintro e w7 ⟨rfl,rfl⟩)
        go_roundw
        case rel => exact ⟨k + 1,true,_,by go_num,rfl,rfl,by omega,hlb,hQ_ (HNX.out _ (by simp)),HC2⟩
        case measure => simp [intOf]; omega
      | false =>
        have q2:=z9_ out D (by omega) w3
        have hlb:=hQ_ (show (out ++ D).length ≤ 25 * (k + 1) from by have:=HNO.out; simp; omega)
        go_wp2_with (
         go_at_call 79
         refine HDG.out.mono ?_
         rintro e w7 ⟨rfl,rfl⟩)
        go_roundw
        case rel => exact ⟨k + 1,true,_,by go_num,rfl,rfl,by omega,hlb,hQ_ (HNX.out _ (by simp)),HC2⟩
        case measure => simp [intOf]; omega
    · have h48d : (ts == 48) = false:=by simpa using h48
      have HSK:=hQ_ (fun (h : txB nb (⟨ts,tn,tm⟩ :: l.drop (k + 1)) = txB nb (l.drop (k + 1))) => show out ++ txB nb (l.drop (k + 1)) = txB false l from by rw [← h]; exact HS.out)
      have HLS:=hQ_ (show out.length ≤ 25 * (k + 1) from by have:=HNO.out; omega)
      by_cases hnm : zW_ ts = true
      · have h5 : ts = 955 ∨ ts = 960:=by unfold zW_ at hnm; simpa using hnm
        have HNA:=hQ_ (uz_ tm w3)
        by_cases hnb : zU_ tm = true
        · rw [hnb] at HNA
          have HNX:=hQ_ (show (out ++ (encodeRune ts ++ encodeRune tm)) ++ txB false (l.drop (k + 1)) = txB false l from by
           rw [← HS.out,vk_ _ _ _ h48 hnm hnb]
           simp only [List.append_assoc])
          have q1:=y8_ out ts (by omega) w3
          have q2:=y8_ (out ++ encodeRune ts) tm (by have:=xe_ ts; rw [List.length_append]; omega) w3
          have hlb:=hQ_ (show (out ++ (encodeRune ts ++ encodeRune tm)).length ≤ 25 * (k + 1) from by have:=HNO.out; have:=xe_ ts; have:=xe_ tm; rw [List.length_append,List.length_append]; omega)
          clear hnm hnb
          generalize encodeRune tm = E2 at *
          rcases h5 with rfl | rfl
          all_goals
            generalize encodeRune _ = E1 at *
            go_wp2_with (
             go_at_call 77
             refine HNA.out.mono ?_
             rintro e w7 ⟨rfl,rfl⟩)
            go_roundw
            case rel => exact ⟨k + 1,false,_,by go_num,rfl,rfl,by omega,hlb,HNX,HC2⟩
            case measure => simp [intOf]; omega
        · have hnbf : zU_ tm = false:=by simpa using hnb
          rw [hnbf] at HNA
          have HS2:=hQ_ (HSK.out (vA_ nb ⟨ts,tn,tm⟩ _ h48 hnm hnbf))
          clear hnm hnb hnbf
          rcases h5 with rfl | rfl
          all_goals
            go_wp2_with (
             go_at_call 77
             refine HNA.out.mono ?_
             rintro e w7 ⟨rfl,rfl⟩)
            go_roundw
            case rel => exact ⟨k + 1,nb,out,by go_num,rfl,rfl,by omega,HLS,HS2,HC2⟩
            case measure => simp [intOf]; omega
      · have hnmf : zW_ ts = false:=by simpa using hnm
        have h955 : (ts == 955) = false:=by unfold zW_ at hnmf; simp at hnmf; simpa using hnmf.1
        have h960 : (ts == 960) = false:=by unfold zW_ at hnmf; simp at hnmf; simpa using hnmf.2
        have HKN:=hQ_ (jO_ ts w3)
        by_cases hkw : zP_ ts = true
        · rw [hkw] at HKN
          have HNX:=hQ_ (show (out ++ encodeRune ts) ++ txB false (l.drop (k + 1)) = txB false l from by
           rw [← HS.out,vl_ _ _ _ h48 hnmf hkw]
           simp only [List.append_assoc])
          have hlb:=hQ_ (show (out ++ encodeRune ts).length ≤ 25 * (k + 1) from by have:=HNO.out; have:=xe_ ts; rw [List.length_append]; omega)
          clear hnm hnmf hkw
          go_wp2_with (
           go_at_call 78
           refine HKN.out.mono ?_
           rintro e w7 ⟨rfl,hc7⟩
           have HC7:=hQ_ (HC2.out.new hc7)
           have y0:=(HX2.out.keep hc7).cell 0
           have q1:=y8_ out ts (by omega) w7
           clear hc7)
          go_roundw
          case rel => exact ⟨k + 1,false,_,by go_num,rfl,rfl,by omega,hlb,HNX,HC7⟩
          case measure => simp [intOf]; omega
        · have hkf : zP_ ts = false:=by simpa using hkw
          rw [hkf] at HKN
          have HS2:=hQ_ (HSK.out (uf_ nb ⟨ts,tn,tm⟩ _ h48 hnmf hkf))
          clear hnm hnmf hkw hkf
          go_wp2_with (
           go_at_call 78
           refine HKN.out.mono ?_
           rintro e w7 ⟨rfl,hc7⟩
           have HC7:=hQ_ (HC2.out.new hc7)
           clear hc7)
          go_roundw
          case rel => exact ⟨k + 1,nb,out,by go_num,rfl,rfl,by omega,HLS,HS2,HC7⟩
          case measure => simp [intOf]; omega
  · have hkI : ¬ (k : Int) < (n : Int):=by omega
    have HXE:=hQ_ (show out = txB false l from by
     have:=HX.out
     rw [List.drop_eq_nil_of_le (by rw [HNL.out]; omega),show txB nb [] = [] from by cases nb <;> rfl,List.append_nil] at this
     exact this)
    go_wp2_with fail
    go_ret
    exact ⟨by rw [← HXE.out]; rfl,HC.out⟩
end
end Go.Proofs.YtbkfhndmeljlcaaGreatDoor
namespace Go.Proofs.YtbkfhndmeljlcaaGreatDoor
open Go.RowKit
open Go.Lib (decDigits encodeRune)
theorem gr_.rng {t : TkV} (h : gr_ t) : TkRng t:=by
 rcases h with ⟨h1,h2,h3,h4⟩ | ⟨h1,h2,h3⟩ | ⟨h0,h1,h2,h3,h4⟩
 · exact ⟨by omega,by omega,by omega⟩
 · have a:=(xB_ (xN_ h1).1).1
   have b:=(k1_ h3).1
   unfold okR at a b
   exact ⟨by omega,by omega,by omega⟩
 · have a:=(xB_ h2).1
   unfold okR at a
   exact ⟨by omega,by omega,by omega⟩
theorem xu_.here {w w' : World} (h : xu_ w.heap.size w) (hc : Chg [] w w') : xu_ w'.heap.size w':=(h.keep (Nat.le_refl _) hc).less hc.size
end Go.Proofs.YtbkfhndmeljlcaaGreatDoor
namespace Go.Proofs.YtbkfhndmeljlcaaGreatDoor
open Go.RowKit
open Go.Lib (decDigits encodeRune)
theorem OwnM.bs {w : World} {B n : Nat} {v : Value} {out : List UInt8} (h : OwnM w B v n out) : ∃ g c,v = .slice (some ⟨g,0,none⟩) n c ∧ Bs w (some ⟨g,0,none⟩) n c out:=by
 have hl:=h.len
 have hlt : ∃ g cap,v = .slice (some ⟨g,0,none⟩) n cap ∧ g < w.heap.size:=by
  obtain ⟨_,g,cap,cur,fz,e,hB,hg,_⟩:=h
  exact ⟨g,cap,e,(Array.getElem?_eq_some_iff.1 hg).1⟩
 obtain ⟨g0,cap0,e0,hlt⟩:=hlt
 obtain ⟨g,c,e,hc,hn,hm⟩:=h.cells
 rw [e0] at e
 injection e with e1 e2 e3
 injection e1 with e1
 injection e1 with e1
 subst e1
 exact ⟨g0,c,by rw [e0,e3],hl,fun _ => ⟨_,rfl,hlt,hc⟩,hn,by unfold maxLen at hm; omega,fun _ ad e => by injection e with e; subst e; rfl⟩
def omF (B : Nat) (out : List UInt8) : yB_:=fun v W => OwnM W B v out.length out
theorem uA_ (B : Nat) (out : List UInt8) : zS_ (Chg []) (omF B out):=fun _ _ _ h hc => h.keep hc
theorem gi_ (w : World) (l : List UInt8) (hl : l.length ≤ 1000000) : ∃ v w',(convert 9 33 (.string (zc_ l))).run Tryz.prog w = .ok v w' ∧ OwnM w' w.heap.size v l.length l ∧ Chg [] w w':=by
 have h:=run_bytes_of_string (P:=Tryz.prog) w 9 33 5 (zc_ l) Tryz.underlying9 Tryz.underlying33 Tryz.underlying5
 have hge:=grownCap_ge w (zc_ l).size 0 5
 have hle:=grownCap_le_maxLen w (zc_ l).size 0 5 (by rw [zw_]; unfold maxLen; omega)
 generalize grownCap w (zc_ l).size 0 5 = cap at h hge hle
 have hsz:=zw_ l
 refine ⟨_,_,h,⟨rfl,w.heap.size,cap,_,_,by rw [hsz],Nat.le_refl _,heap_alloc_new w.drew _,.inr rfl,by omega,hle,?_,?_⟩,(Chg.refl [] w).drew.alloc _⟩
 · unfold bytesRow
   rw [Array.size_append,Array.size_map,Array.size_replicate]
   have : (zc_ l).data.size = (zc_ l).size:=rfl
   omega
 · unfold bytesRow
   have e : (Array.map (fun b => Value.int .u8 (b.toNat : Int)) (zc_ l).data).toList = bts l:=by simp [zc_,bts,B8]
   rw [Array.toList_append,e,List.take_left' (by simp [bts])]
theorem OwnM.less {w : World} {B B' n : Nat} {v : Value} {out : List UInt8} (h : OwnM w B v n out) (hB : B' ≤ B) : OwnM w B' v n out:=by
 obtain ⟨hl,g,cap,cur,fz,e,hb,rest⟩:=h
 exact ⟨hl,g,cap,cur,fz,e,Nat.le_trans hB hb,rest⟩
def zF_ (o : List UInt8) (r : Int) (w : World) (e : Ending) (w' : World) : Prop:=e = .returned (.tuple #[.string (zc_ o),.int .i64 r]) ∧ Chg [] w w'
theorem k3_ (m : Nat) (hm : m < 100) (w : World) : Calls Tryz.prog 57 #[.int .i64 (m : Int)] w fun e w' => e = .returned (.string (zc_ (decDigits m))) ∧ w' = w:=Tryz.strconv_Itoa_small m hm w
theorem vw_ (m : Nat) (hm : m < 100) : (decDigits m).length ≤ 2:=by
 by_cases h : 10 ≤ m
 · rw [decDigits,dif_neg (by omega),List.length_append,Lib.decDigits_one (by omega)]; simp
 · rw [Lib.decDigits_one (by omega)]; simp
theorem zaw {f : FnV} {ts : List TkV} (ht : xU_ f.code = some ts) (ha : f.args ≤ 4) : (utF f).length ≤ 600 ∧ (txC f.code).length ≤ 512:=by
 have h1:=(zaB ht).2
 have h2 : ¬ 512 < f.code.size:=by
  intro hh
  unfold xU_ at ht
  rw [if_pos hh] at ht
  cases ht
 have h3:=vw_ f.args.toNat (by omega)
 have h4:=xe_ f.name
 refine ⟨?_,by omega⟩
 unfold utF
 simp only [List.length_append,List.length_cons,List.length_nil]
 omega
theorem zdV (w : World) (l : List UInt8) : Go.Src Tryz.prog 1 9 (.string (zc_ l)) l.length (bts l) w:=by
 have h:=Go.Src.ofString (P:=Tryz.prog) w Tryz.underlying9 (zc_ l)
 rw [zw_] at h
 have e : Go.byteCells (zc_ l) = bts l:=by simp [Go.byteCells,zc_,bts,B8]
 rw [e] at h
 exact h
theorem qG_ {s : ByteArray} {ts : List TkV} (h : xU_ s = some ts) : ∀ t ∈ ts,TkRng t:=by
 have hs : ¬ 512 < s.size:=by
  intro hh
  unfold xU_ at h
  rw [if_pos hh] at h
  cases h
 have hr:=k7_ s hs
 rw [h] at hr
 exact fun t ht => (qv_ _ hr.symm (fun t ht => by simp at ht) trivial t ht).rng
theorem Tks.own_at {W : World} {B n c : Nat} {A : Option Addr} {l : List TkV} (h : W.ownsRow B 110 3 (.slice A n c) n (xI_ l)) (hm : n ≤ 100000) : Tks W A n c l:=by
 obtain ⟨A',c',e,hT⟩:=Tks.of_own h hm
 injection e with e1 e2 e3
 subst e1; subst e3
 exact hT
theorem uO_ {s : ByteArray} {ts : List TkV} {w w' : World} {e : Ending} (ht : xU_ s = some ts) (h : xt_ s w e w') : ∃ A c,e = .returned (.tuple #[.slice A ts.length c,.int .i64 0]) ∧ ts.length ≤ 512 ∧ w'.ownsRow w.heap.size 110 3 (.slice A ts.length c) ts.length (xI_ ts) ∧ Chg [] w w':=by
 obtain ⟨hc,⟨ts',v,h1,h2,rfl,h4⟩ | ⟨h1,_⟩⟩:=h
 · rw [ht] at h1
   injection h1 with h1
   subst h1
   obtain ⟨A,c,rfl,_⟩:=Tks.of_own h4 (by omega)
   exact ⟨A,c,rfl,h2,h4,hc⟩
 · rw [ht] at h1; cases h1
section
variable {W : World} {A : Option Addr} {n c : Nat} {l : List FnV} {pages most : Int}
theorem uJ_ (h : Fnr W A n c l) (hsm : ∀ f ∈ l,f.code.size ≤ 9223372036854775807) (hP : xu_ W.heap.size W) : Calls Tryz.prog 31 #[z2_ pages most A n c] W (zF_ (zM_ pages most l).1 (zM_ pages most l).2 W):=by
 have HRI:=hQ_ (fun (w : World) (hc : Chg [] W w) => vS_ (pages:=pages) (most:=most) (h.keep hc) hsm)
 by_cases hR : zJ_ pages most l = 0
 · have HF:=vF_.1 hR
   obtain ⟨p,rfl⟩ : ∃ p : Nat,pages = (p : Int):=⟨pages.toNat,by have:=HF.p0; omega⟩
   obtain ⟨m,rfl⟩ : ∃ m : Nat,most = (m : Int):=⟨most.toNat,by have:=HF.p0; have:=HF.pm; omega⟩
   have hp64 : p ≤ 64:=by have:=HF.pm; have:=HF.m64; omega
   have hm64 : m ≤ 64:=by have:=HF.m64; omega
   have hn32 : n ≤ 32:=by have:=HF.few; have:=h.len; omega
   rw [hR] at HRI
   have H:=hQ_ h
   have HP:=hQ_ hP
   have HFF:=hQ_ HF
   have HSM:=hQ_ hsm
   have HLN:=hQ_ h.len
   have HPO:=hQ_ (show ∀ (e : Ending) (w' : World),zF_ (if 2048 < (utx (p : Int) (m : Int) l).length then ([] : List UInt8) else utx (p : Int) (m : Int) l) (if 2048 < (utx (p : Int) (m : Int) l).length then 3 else 0) W e w' → zF_ (zM_ (p : Int) (m : Int) l).1 (zM_ (p : Int) (m : Int) l).2 W e w' from fun e w' hq => by
    unfold zM_
    rw [if_pos hR]
    by_cases h2 : 2048 < (utx (p : Int) (m : Int) l).length
    · rw [if_pos h2] at hq ⊢
      rw [if_pos h2] at hq
      exact hq
    · rw [if_neg h2] at hq ⊢
      rw [if_neg h2] at hq
      exact hq)
   clear h hP hsm HF hR
   refine Calls.mono ?_ HPO.out
   clear HPO
   obtain ⟨U,hU⟩ : ∃ U,U = utx (p : Int) (m : Int) l:=⟨_,rfl⟩
   rw [← hU]
   obtain ⟨O,hO⟩ : ∃ O,O = (if 2048 < U.length then ([] : List UInt8) else U):=⟨_,rfl⟩
   obtain ⟨RO,hRO⟩ : ∃ O : Int,O = (if 2048 < U.length then 3 else 0):=⟨_,rfl⟩
   rw [← hO,← hRO]
   have HOO:=hQ_ hO
   have HRO:=hQ_ hRO
   clear hO hRO
   obtain ⟨D1,hD1⟩ : ∃ D,D = decDigits p:=⟨_,rfl⟩
   obtain ⟨D2,hD2⟩ : ∃ D,D = decDigits m:=⟨_,rfl⟩
   have HI1:=hQ_ (fun w => k3_ p (by omega) w)
   have HI2:=hQ_ (fun w => k3_ m (by omega) w)
   rw [← hD1] at HI1
   rw [← hD2] at HI2
   have hL1 : D1.length ≤ 2:=by rw [hD1]; exact vw_ _ (by omega)
   have hL2 : D2.length ≤ 2:=by rw [hD2]; exact vw_ _ (by omega)
   have HU0:=hQ_ (show ([117,110,105,116,32] ++ D1 ++ [32] ++ D2) ++ [10] ++ qF_ (l.drop 0) = U from by rw [hU,utx,List.drop_zero,hD1,hD2]; simp)
   clear hU hD1 hD2
   have HH:=hQ_ (show ([117,110,105,116,32] ++ D1 ++ [32] ++ D2).length ≤ 50 from by simp; omega)
   have hadd1:=fun W => z9_ [117,110,105,116,32] D1 (by simp; omega) W
   have hadd2:=fun W => z9_ ([117,110,105,116,32] ++ D1) [32] (by simp; omega) W
   have hadd3:=fun W => z9_ ([117,110,105,116,32] ++ D1 ++ [32]) D2 (by simp; omega) W
   obtain ⟨HD,hHD⟩ : ∃ X,X = [117,110,105,116,32] ++ D1 ++ [32] ++ D2:=⟨_,rfl⟩
   rw [← hHD] at HU0 HH hadd3
   have HBY:=hQ_ (fun w => gi_ w HD (by have:=HH.out; omega))
   have k1 : zc_ [117,110,105,116,32] = ⟨#[117,110,105,116,32]⟩:=rfl
   have k2 : zc_ [32] = ⟨#[32]⟩:=rfl
   rw [k1] at hadd1
   rw [k2] at hadd2
   generalize zc_ ([117,110,105,116,32] ++ D1) = Z1 at hadd1 hadd2
   generalize zc_ ([117,110,105,116,32] ++ D1 ++ [32]) = Z2 at hadd2 hadd3
   obtain ⟨Z3,hZ3⟩ : ∃ Z,Z = zc_ HD:=⟨_,rfl⟩
   rw [← hZ3] at hadd3 HBY
   obtain ⟨S1,hS1⟩ : ∃ Z,Z = zc_ D1:=⟨_,rfl⟩
   obtain ⟨S2,hS2⟩ : ∃ Z,Z = zc_ D2:=⟨_,rfl⟩
   rw [← hS1] at hadd1 HI1
   rw [← hS2] at hadd3 HI2
   clear hHD hZ3 hS1 hS2 k1 k2 hL1 hL2
   unfold z2_ at HRI ⊢
   go_enter Tryz.func31,Tryz.ntmps31
   go_upto_region 1 with fail
   have hN:=zb_.new W 24 [.int .i64 (p : Int),.int .i64 (m : Int),.slice A n c]
   have hal : Chg [] W (W.alloc (.cells #[.int .i64 (p : Int),.int .i64 (m : Int),.slice A n c] 24)):=(Chg.refl [] W).alloc _
   obtain ⟨g,hg⟩ : ∃ g,g = W.heap.size:=⟨_,rfl⟩
   rw [← hg] at hN ⊢
   have HU:=hQ_ hN
   have HC:=hQ_ hal
   generalize W.alloc (.cells #[.int .i64 (p : Int),.int .i64 (m : Int),.slice A n c] 24) = w1 at HU HC ⊢
   clear hN hal hg
   have u0:=HU.out.cell 0
   have u1:=HU.out.cell 1
   have u2:=HU.out.cell 2
   go_upto_region 4 with (
    go_at_call 54
    refine (HRI.out _ HC.out).mono ?_
    rintro e w2 ⟨rfl,hc2⟩
    have HU2:=hQ_ (HU.out.keep hc2)
    have HC2:=hQ_ (HC.out.trans hc2)
    clear hc2)
   have HHW:=hQ_ (fun (Wx : World) (h : Chg [] w2.drew Wx) => (show Chg [] w2 Wx from (Chg.refl [] w2).drew.trans h))
   refine wp_flow (by kernel_rfl) yp_ za_ (by kernel_rfl) ?_
   refine flow1 (r:=.pointer (some ⟨g,0,none⟩)) za_ rfl (.out rfl rfl) rfl (fun ev W he e1 => by go_simp) ?_
   refine flow1h (r:=.int .i64 (p : Int)) za_ rfl (.inn rfl) rfl (fun ev Wx he hW e1 => by have r0:=(HU2.out.keep (HHW.out Wx hW)).cell 0; clear hW; go_simp) ?_
   refine zE_ (.string S1) (by kernel_rfl) rfl (.cons (.inn rfl) .nil) (fun Wx hW => (HI1.out Wx).mono ?_) ?_
   · rintro e w' ⟨rfl,rfl⟩
     rw [zD_]
     exact ⟨rfl,Chg.refl [] _⟩
   refine flow2 (r:=.string Z1) za_ rfl (.const _) (.inn rfl) rfl (fun ev W he e1 e2 => by have q:=hadd1 W; go_simp) ?_
   refine flow2 (r:=.string Z2) za_ rfl (.inn rfl) (.const _) rfl (fun ev W he e1 e2 => by have q:=hadd2 W; go_simp) ?_
   refine flow1 (r:=.pointer (some ⟨g,1,none⟩)) za_ rfl (.out rfl rfl) rfl (fun ev W he e1 => by go_simp) ?_
   refine flow1h (r:=.int .i64 (m : Int)) za_ rfl (.inn rfl) rfl (fun ev Wx he hW e1 => by have r0:=(HU2.out.keep (HHW.out Wx hW)).cell 1; clear hW; go_simp) ?_
   refine zE_ (.string S2) (by kernel_rfl) rfl (.cons (.inn rfl) .nil) (fun Wx hW => (HI2.out Wx).mono ?_) ?_
   · rintro e w' ⟨rfl,rfl⟩
     rw [zD_]
     exact ⟨rfl,Chg.refl [] _⟩
   refine flow2 (r:=.string Z3) za_ rfl (.inn rfl) (.inn rfl) rfl (fun ev W he e1 e2 => by have q:=hadd3 W; go_simp) ?_
   refine flow_op (omF W.heap.size HD) (uA_ _ _) (.inr (uA_ _ _)) rfl (fun ev Wx he hW hf => ?_) ?_
   · have e1 : ev (.tmp 23) = .string Z3:=hf.1
     obtain ⟨v,w',hr,ho,hc⟩:=HBY.out Wx
     simp only [execOp,e1,Sem.run_bind,hr,Result.andThen_ok,Sem.run_pure]
     exact ⟨by rw [zD_]; exact hc,ho.less (Nat.le_trans HC2.out.size (HHW.out Wx hW).size)⟩
   refine flow_assign za_ rfl (uA_ _ _) (.inr (uA_ _ _)) rfl ?_
   intro vs Wx hW hF
   have e10 : omF W.heap.size HD (vs 5) Wx:=hF 5 _ rfl rfl
   have HO:=hQ_ e10
   have HU3:=hQ_ (HU2.out.keep (HHW.out Wx hW))
   have HC3:=hQ_ (HC2.out.trans (HHW.out Wx hW))
   simp only [zY_,Act.put,List.setIfInBounds_toArray,List.set_cons_zero,List.set_cons_succ]
   generalize vs 5 = vb at HO e10 ⊢
   clear hF hW e10 HHW hadd1 hadd2 hadd3 HBY HI1 HI2 HU2 HC2 u0 u1 u2
   have hlenH:=HH.out
   obtain ⟨nb,hnb⟩ : ∃ q,q = HD.length:=⟨_,rfl⟩
   unfold omF at HO
   rw [← hnb] at HO hlenH
   have HNB:=hQ_ hnb
   clear hnb
   obtain ⟨w3,hw3⟩ : ∃ w3 : World,w3 = Wx:=⟨_,rfl⟩
   rw [← hw3] at HO HU3 HC3 ⊢
   clear hw3
   have u2:=HU3.out.cell 2
   have HB3:=hQ_ (show W.heap.size ≤ w3.heap.size from HC3.out.size)
   go_wp2_with (
    at_builtin
    refine yd_ _ rfl _ _ _ rfl rfl (HO.out.keep ((Chg.refl [] w3).alloc (.cells #[.int .u8 10] 5))) (.slice (some ⟨w3.heap.size,0,none⟩) 1 1) 1 [10] rfl (vp_ w3 [.int .u8 10] 1 (by simp [Value.oneCell']) rfl) (by have:=HB3.out; simp; omega) (by omega) ?_
    intro v4 w4 ho4 hg4
    have HF4:=hQ_ ((Fr.of_chg (B:=W.heap.size) (TS:=u8T) ((Chg.refl [] w3).alloc (.cells #[.int .u8 10] 5))).trans ((HO.out.keep ((Chg.refl [] w3).alloc (.cells #[.int .u8 10] 5))).fr hg4))
    have HO4:=hQ_ ho4
    have u2b:=(HF4.out.whole HU3.out (by decide)).cell 2
    clear ho4 hg4)
   have HFW:=hQ_ ((Fr.of_chg (B:=W.heap.size) (TS:=u8T) HC3.out).trans HF4.out)
   go_loopw [5,31] (fun b i wr => ∃ (k : Nat) (out : List UInt8) (no : Nat),i = .int .i64 (k : Int) ∧ k ≤ n ∧ Hid (no = out.length) ∧ no ≤ 100 + 600 * k ∧ Hid (OwnM wr W.heap.size b no out) ∧ Hid (out ++ qF_ (l.drop k) = U) ∧ Hid (Fr W.heap.size u8T W wr)) (fun _ i _ => n - (intOf i).toNat)
   case atStart => exact ⟨0,HD ++ [10],nb + 1,rfl,by omega,hQ_ (by rw [List.length_append,← HNB.out]; rfl),by omega,HO4,HU0,HFW⟩
   case round =>
    obtain ⟨k,out,no,rfl,hk,HNO,hno,HO5,HX,HF5⟩:=hrel
    by_cases hkn : k < n
    · have hkI : (k : Int) < (n : Int):=by omega
      obtain ⟨t,htk⟩ : ∃ t,l[k]? = some t:=⟨l[k]'(by rw [HLN.out]; exact hkn),by simp⟩
      have hmem:=List.mem_of_getElem? htk
      obtain ⟨ts,hts⟩:=HFF.out.tok hmem
      obtain ⟨hnm,_,ha0,ha4⟩:=HFF.out.fn htk
      have HSZ:=hQ_ (HSM.out t hmem)
      obtain ⟨hl600,hl512⟩:=zaw hts ha4
      have HUL:=hQ_ hl600
      have HTL:=hQ_ hl512
      have HTS:=hQ_ hts
      have HNM:=hQ_ hnm
      obtain ⟨fb,fo,rfl,hfbl,e0,e1,e2⟩:=(H.out.keep (HF5.out.chg (Nat.le_refl _))).cell htk
      have HSt:=hQ_ (show out ++ (utF t ++ qF_ (l.drop (k + 1))) = U from by
       rw [← HX.out,show l.drop k = t :: l.drop (k + 1) from List.drop_eq_getElem?_toList_append.trans (by rw [htk]; rfl),qF_])
      clear hnm hts hl600 hl512 hmem htk
      obtain ⟨tn,ta,tc⟩:=t
      simp only at e0 e1 e2 ha0 ha4 HSZ HTL HTS HNM
      obtain ⟨q,rfl⟩ : ∃ q : Nat,ta = (q : Int):=⟨ta.toNat,by omega⟩
      have hq4 : q ≤ 4:=by omega
      have HIQ:=hQ_ (fun w => k3_ q (by omega) w)
      have HTX : txC tc = txB false ts:=by unfold txC jp_; rw [HTS.out]; rfl
      obtain ⟨D,hD⟩ : ∃ D,D = decDigits q:=⟨_,rfl⟩
      obtain ⟨TX,hTX⟩ : ∃ D,D = txB false ts:=⟨_,rfl⟩
      have hDl : D.length ≤ 2:=by rw [hD]; exact vw_ _ (by omega)
      have hTl : TX.length ≤ 512:=by rw [hTX,← HTX]; exact HTL.out
      have HUE:=hQ_ (show utF ⟨tn,(q : Int),tc⟩ = encodeRune tn ++ ((D ++ [32] ++ TX) ++ [10]) from by
       unfold utF
       simp only
       rw [HTX,hD,hTX]
       simp)
      rw [← hD] at HIQ
      have HGX:=hQ_ (fun (w : World) (Aq : Option Addr) (nq cq : Nat) (hT : Tks w Aq nq cq ts) (hn : nq ≤ 1000) (hp : xu_ w.heap.size w) => zbN hT (qG_ HTS.out) hn hp)
      rw [← hTX] at HGX
      have hadd4:=fun W => z9_ D [32] (by simp; omega) W
      have hadd5:=fun W => z9_ (D ++ [32]) TX (by simp; omega) W
      rw [show zc_ [32] = ⟨#[32]⟩ from rfl] at hadd4
      have hlen3 : (D ++ [32] ++ TX).length ≤ 520:=by simp; omega
      obtain ⟨TA,hTA⟩ : ∃ X,X = D ++ [32] ++ TX:=⟨_,rfl⟩
      rw [← hTA] at hadd5 hlen3 HUE
      have HTA:=hQ_ (fun w => zdV w TA)
      obtain ⟨nt,hnt⟩ : ∃ q,q = TA.length:=⟨_,rfl⟩
      have HNT:=hQ_ hnt
      rw [← hnt] at hlen3 HTA
      generalize zc_ TA = ZA at hadd5 HTA
      generalize zc_ (D ++ [32]) = ZD at hadd4 hadd5
      generalize zc_ D = ZQ at hadd4 HIQ
      obtain ⟨ZT,hZT⟩ : ∃ Z,Z = zc_ TX:=⟨_,rfl⟩
      unfold x5_ at HGX
      rw [← hZT] at hadd5 HGX
      have HRN:=hQ_ (show no + 600 ≤ 30000 by omega)
      have HE4:=hQ_ (xe_ tn)
      clear hD hTX hDl hTl hTA hnt hZT HTX ha0 ha4
      go_upto_region 9 with fail
      have hX:=zb_.new wr 58 [.int .i32 tn,.int .i64 (q : Int),.string tc]
      have hc2:=(Chg.refl [] wr).alloc (.cells #[.int .i32 tn,.int .i64 (q : Int),.string tc] 58)
      have HX2:=hQ_ hX
      have HF6:=hQ_ (HF5.out.new hc2)
      have HO6:=hQ_ (HO5.out.keep hc2)
      have HB6:=hQ_ (show W.heap.size ≤ (wr.alloc (.cells #[.int .i32 tn,.int .i64 (q : Int),.string tc] 58)).heap.size from HF6.out.size)
      generalize wr.heap.size = gx at HX2 ⊢
      generalize wr.alloc (.cells #[.int .i32 tn,.int .i64 (q : Int),.string tc] 58) = w6 at HX2 HF6 HO6 HB6 ⊢
      clear hX e0 e1 e2 hfbl hc2
      have x2:=HX2.out.cell 2
      go_wp2_with (first
       | (go_at_call 58
          refine (u7_ tc HSZ.out).mono ?_
          intro e w7 hq
          obtain ⟨A7,c7,rfl,hl7,ho7,hc7⟩:=uO_ HTS.out hq
          have HT7:=hQ_ ho7
          have HL7:=hQ_ hl7
          have HF7:=hQ_ (HF6.out.new hc7)
          have HO7:=hQ_ (HO6.out.keep hc7)
          have HX7:=hQ_ (HX2.out.keep hc7)
          have y0:=HX7.out.cell 0
          clear hc7 hl7 ho7 hq)
       | (go_at_call 59
          refine (g3_ tn HNM.out HO7.out HF7.out.size (by omega)).mono ?_
          rintro e w8 ⟨v8,n8,rfl,hn8,ho8,hf8⟩
          have HF8:=hQ_ (HF7.out.trans hf8)
          have HO8:=hQ_ ho8
          have HX8:=hQ_ (hf8.whole HX7.out (by decide))
          have HT8:=hQ_ (Tks.own_at (hf8.own HT7.out (by decide)) (by have:=HL7.out; omega))
          have hn8b : n8 ≤ no + 4:=by rw [hn8,List.length_append,← HNO.out]; have:=HE4.out; omega
          have z1:=HX8.out.cell 1
          clear hn8 ho8 hf8)
       | (go_at_call 57
          refine (HIQ.out _).mono ?_
          rintro e w9 ⟨rfl,rfl⟩)
       | (go_at_call 60
          refine (HGX.out _ _ _ _ HT8.out (by have:=HL7.out; omega) (HP.out.here (HF8.out.chg (Nat.le_refl _)))).mono ?_
          rintro e w10 ⟨rfl,hc10⟩
          have HF10:=hQ_ (HF8.out.new hc10)
          have HO10:=hQ_ (HO8.out.keep hc10)
          clear hc10)
       | (at_builtin
          refine yd_ _ rfl _ _ _ rfl rfl HO10.out (.string ZA) nt TA rfl (HTA.out _) HF10.out.size (by have:=HRN.out; omega) ?_
          intro v11 w11 ho11 hg11
          have HF11:=hQ_ (HF10.out.trans (HO10.out.fr hg11))
          have HO11:=hQ_ ho11
          clear ho11 hg11)
       | (at_builtin
          refine yd_ _ rfl _ _ _ rfl rfl (HO11.out.keep ((Chg.refl [] w11).alloc (.cells #[.int .u8 10] 5))) (.slice (some ⟨w11.heap.size,0,none⟩) 1 1) 1 [10] rfl (vp_ w11 [.int .u8 10] 1 (by simp [Value.oneCell']) rfl) (by have:=HF11.out.size; simp; omega) (by have:=HRN.out; omega) ?_
          intro v12 w12 ho12 hg12
          have HF12:=hQ_ ((HF11.out.new ((Chg.refl [] w11).alloc (.cells #[.int .u8 10] 5))).trans ((HO11.out.keep ((Chg.refl [] w11).alloc (.cells #[.int .u8 10] 5))).fr hg12))
          have HO12:=hQ_ ho12
          clear ho12 hg12))
      go_roundw
      case rel =>
       refine ⟨k + 1,out ++ encodeRune tn ++ TA ++ [10],n8 + nt + 1,by go_num,by omega,hQ_ HO12.out.len.symm,by omega,HO12,hQ_ ?_,HF12⟩
       rw [← HSt.out,HUE.out]
       simp only [List.append_assoc]
      case measure => simp [intOf]; omega
    · have hkI : ¬ (k : Int) < (n : Int):=by omega
      have HXE:=hQ_ (show out = U from by
       have:=HX.out
       rw [List.drop_eq_nil_of_le (by rw [HLN.out]; omega),show qF_ [] = [] from rfl,List.append_nil] at this
       exact this)
      obtain ⟨gb,cb,rfl,hbs⟩:=HO5.out.bs
      have HSTR:=hQ_ (hbs.str 33 5 9 Tryz.underlying33 Tryz.underlying5 Tryz.underlying9)
      have hstr:=HSTR.out
      by_cases h2 : 2048 < no
      · have h2I : (2048 : Int) < (no : Int):=by omega
        have HQ:=hQ_ (show 2048 < U.length by rw [← HXE.out,← HNO.out]; exact h2)
        have HPP:=hQ_ (show zF_ O RO W (.returned (.tuple #[.string ⟨#[]⟩,.int .i64 3])) wr from by
         rw [HOO.out,HRO.out,if_pos HQ.out,if_pos HQ.out]; exact ⟨rfl,HF5.out.chg (Nat.le_refl _)⟩)
        clear h2
        go_wp2_with fail
        go_ret2
        exact HPP.out
      · have h2I : ¬ (2048 : Int) < (no : Int):=by omega
        have HQ:=hQ_ (show ¬ 2048 < U.length by rw [← HXE.out,← HNO.out]; exact h2)
        have HPP:=hQ_ (show zF_ O RO W (.returned (.tuple #[.string (zc_ out),.int .i64 0])) wr from by
         rw [HOO.out,HRO.out,if_neg HQ.out,if_neg HQ.out,HXE.out]; exact ⟨rfl,HF5.out.chg (Nat.le_refl _)⟩)
        clear h2
        go_wp2_with fail
        go_ret2
        exact HPP.out
 · obtain ⟨R,hRR⟩ : ∃ R,R = zJ_ pages most l:=⟨_,rfl⟩
   have hT : zM_ pages most l = ([],R):=by unfold zM_; rw [if_neg hR,hRR]
   rw [hT]
   rw [← hRR] at HRI hR
   have hd : (R == 0) = false:=by simpa using hR
   have HPO:=hQ_ (show ∀ w',Chg [] W w' → zF_ [] R W (.returned (.tuple #[.string ⟨#[]⟩,.int .i64 R])) w' from fun w' hc => ⟨rfl,hc⟩)
   clear h hsm hP hT hRR
   unfold z2_ at HRI ⊢
   simp only
   go_enter Tryz.func31,Tryz.ntmps31
   go_upto_region 1 with fail
   have hal : Chg [] W (W.alloc (.cells #[.int .i64 pages,.int .i64 most,.slice A n c] 24)):=(Chg.refl [] W).alloc _
   have HC:=hQ_ hal
   have hN:=zb_.new W 24 [.int .i64 pages,.int .i64 most,.slice A n c]
   obtain ⟨g,hg⟩ : ∃ g,g = W.heap.size:=⟨_,rfl⟩
   rw [← hg] at hN ⊢
   generalize W.alloc (.cells #[.int .i64 pages,.int .i64 most,.slice A n c] 24) = w1 at HC hN ⊢
   have u0:=hN.cell 0
   have u1:=hN.cell 1
   have u2:=hN.cell 2
   clear hal hN hg
   go_wp2_with (
    go_at_call 54
    refine (HRI.out _ HC.out).mono ?_
    rintro e w2 ⟨rfl,hc2⟩
    have HC2:=hQ_ (HC.out.trans hc2)
    clear hc2)
   go_ret2
   exact HPO.out _ HC2.out
end
end Go.Proofs.YtbkfhndmeljlcaaGreatDoor
namespace Go.Proofs.YtbkfhndmeljlcaaGreatDoor
open Go.RowKit
open Go.Lib (decDigits encodeRune)
theorem ux_ : ∀ (k n : Nat),n < 10 ^ (k + 1) → k ≤ 10 → ∀ w : World,Calls Tryz.prog 53 #[.int .i64 (n : Int)] w (x5_ (decDigits n) w)
  | k,n,hn,hk,w => by
    have hp : 10 ^ (k + 1) ≤ 10 ^ 11:=Nat.pow_le_pow_right (by omega) (by omega)
    have hn2 : n < 100000000000:=Nat.lt_of_lt_of_le hn hp
    clear hp
    by_cases h10 : 10 ≤ n
    · match k,hn,hk with
      | 0,hn,hk => omega
      | k + 1,hn,hk =>
        have IH:=hQ_ (fun W => ux_ k (n / 10) (by rw [Nat.pow_succ] at hn; omega) (by omega) W)
        have HE:=hQ_ (show decDigits n = decDigits (n / 10) ++ [UInt8.ofNat (48 + n % 10)] from by rw [decDigits,dif_neg (by omega)])
        have hq : (n : Int).tdiv 10 = ((n / 10 : Nat) : Int):=rfl
        have hr : (n : Int).tmod 10 = ((n % 10 : Nat) : Int):=rfl
        have hdl:=kb_ (n / 10) (by omega)
        generalize decDigits n = D at HE ⊢
        generalize hgr : n % 10 = r at hr HE
        have hr9 : r < 10:=by omega
        have hq9 : n / 10 < 100000000000:=by omega
        generalize n / 10 = q at *
        clear hn hgr
        generalize decDigits q = E at IH HE hdl
        have hadd:=y8_ E (48 + (r : Int)) (by omega)
        rw [qA_ r hr9,← HE.out] at hadd
        go_enter Tryz.func53,Tryz.ntmps53
        go_wp2_with fail
        refine (IH.out _).mono ?_
        rintro e w1 ⟨rfl,hc⟩
        have HC:=hQ_ hc
        clear hc
        go_wp2_with fail
        go_ret
        exact ⟨rfl,HC.out⟩
    · have HE:=hQ_ (show Utf8.encode (48 + (n : Int)) = zc_ (decDigits n) from by
       rw [zcb,qA_ n (by omega),Lib.decDigits_one (by omega)])
      unfold x5_
      generalize zc_ (decDigits n) = D at HE ⊢
      have hn9 : n < 10:=by omega
      have hd : decide ((10 : Int) ≤ (n : Int)) = false:=decide_eq_false (by omega)
      clear hn hk hn2
      go_enter Tryz.func53,Tryz.ntmps53
      go_wp2_with fail
      go_ret
      exact ⟨by simp; exact HE.out,Chg.refl _ _⟩
end Go.Proofs.YtbkfhndmeljlcaaGreatDoor
namespace Go.Proofs.YtbkfhndmeljlcaaGreatDoor
open Go.RowKit
abbrev zbG : List (String × DataW Unit) := [("math/bits.deBruijn32tab", Rows.laid_math_bits_deBruijn32tab), ("math/bits.deBruijn64tab", Rows.laid_math_bits_deBruijn64tab), ("internal/strconv.uint64pow10", Rows.laid_internal_strconv_uint64pow10)]
theorem zdn (os : Os) (args : Array Value) : laidMetH Tryz.prog zbG ((World.doorLaid Tryz.prog 400 os).forCall (fun _ _ => 0) ⟨#[],args,[]⟩).memory :=
 laidMetH_of_parts3 (fuel:=8) (laidMet_of_run' 8 (by kernel_rfl) (by kernel_rfl)) (by kernel_rfl) (by kernel_rfl)
theorem zcU : (Rows.laid_internal_strconv_uint64pow10 : DataW Unit) = Lib.tabData .u64 Lib.pow10Tab:=by rfl
theorem zfe {W : World} (h : laidMetH Tryz.prog zbG W) : xu_ W.heap.size W:=by
 rw [MakeChecks.laidMetH_plain _ _ _ (by kernel_rfl)] at h
 have h3:=laidMet.tail (laidMet.tail h)
 rw [zcU] at h3
 exact Lib.tabBelow_of_tabIs (Lib.tabIs_of_head (g:=1) (t:=175) (e:=122) (n:=20) (by kernel_rfl) (by kernel_rfl) Tryz.underlying175 Tryz.underlying122 (by kernel_rfl) (by kernel_rfl) h3)
end Go.Proofs.YtbkfhndmeljlcaaGreatDoor
