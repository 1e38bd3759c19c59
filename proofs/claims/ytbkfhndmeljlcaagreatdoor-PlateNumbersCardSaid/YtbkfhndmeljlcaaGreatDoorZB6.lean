import Derived.Test.YtbkfhndmeljlcaaGreatDoorZB5
set_option maxRecDepth 100000
set_option maxHeartbeats 16000000
namespace Go.Proofs.YtbkfhndmeljlcaaGreatDoor
open Go.RowKit
def vb : Nat → Nat
  | 0 => 60
  | d + 1 => 3 * vb d + 20
theorem vb_le (d : Nat) (h : d ≤ 4) : vb d ≤ 10000 ∧ 60 ≤ vb d:=by
 have : d = 0 ∨ d = 1 ∨ d = 2 ∨ d = 3 ∨ d = 4:=by omega
 rcases this with rfl | rfl | rfl | rfl | rfl <;> decide
def kg_ (m p : Nat) (A : Option Addr) (n c : Nat) (l : List Int) (w : World) (e : Ending) (w' : World) : Prop :=
 ∃ s : ByteArray,e = .returned (.string s) ∧ s.size ≤ m ∧ (∃ j,Tp w' p A n c l j) ∧ Chg [p] w w'
theorem kg_.more {m m' p : Nat} {A : Option Addr} {n c : Nat} {l : List Int} {w : World} {e : Ending} {w' : World} (h : kg_ m p A n c l w e w') (hm : m ≤ m') : kg_ m' p A n c l w e w':=by
 obtain ⟨s,h1,h2,h3⟩:=h
 exact ⟨s,h1,Nat.le_trans h2 hm,h3⟩
def opV : List Value:=[.string ⟨#[43]⟩,.string ⟨#[45]⟩,.string ⟨#[42]⟩,.string ⟨#[38]⟩,.string ⟨#[124]⟩,.string ⟨#[94]⟩,.string ⟨#[60]⟩,.string ⟨#[61]⟩,.string ⟨#[47]⟩,.string ⟨#[37]⟩,.string ⟨#[194,171]⟩,.string ⟨#[194,187]⟩]
def onV : List Value:=[.string ⟨#[33]⟩,.string ⟨#[46,43]⟩,.string ⟨#[194,169]⟩,.string ⟨#[64]⟩,.string ⟨#[207,128,113]⟩,.string ⟨#[46,44]⟩,.string ⟨#[194,164]⟩]
def zeU : List Value:=[.int .i64 0,.int .i64 1,.int .i64 2,.int .i64 3,.int .i64 8,.int .i64 60,.int .i64 64,.int .i64 255,.int .i64 1000,.int .i64 7]
theorem zen : ∀ x ∈ opV,zct 3 x:=by intro x h; simp only [opV,List.mem_cons,List.not_mem_nil,or_false] at h; rcases h with rfl | rfl | rfl | rfl | rfl | rfl | rfl | rfl | rfl | rfl | rfl | rfl <;> exact ⟨_,rfl,by decide⟩
theorem zep : ∀ x ∈ onV,zct 3 x:=by intro x h; simp only [onV,List.mem_cons,List.not_mem_nil,or_false] at h; rcases h with rfl | rfl | rfl | rfl | rfl | rfl | rfl <;> exact ⟨_,rfl,by decide⟩
theorem qV_ : ∀ x ∈ zeU,IsNum 10000 x:=by
 intro x h; simp only [zeU,List.mem_cons,List.not_mem_nil,or_false] at h
 rcases h with rfl | rfl | rfl | rfl | rfl | rfl | rfl | rfl | rfl | rfl
 · exact ⟨0,rfl,by decide⟩
 · exact ⟨1,rfl,by decide⟩
 · exact ⟨2,rfl,by decide⟩
 · exact ⟨3,rfl,by decide⟩
 · exact ⟨8,rfl,by decide⟩
 · exact ⟨60,rfl,by decide⟩
 · exact ⟨64,rfl,by decide⟩
 · exact ⟨255,rfl,by decide⟩
 · exact ⟨1000,rfl,by decide⟩
 · exact ⟨7,rfl,by decide⟩
theorem xs_ (a b : ByteArray) (m k : Nat) (ha : a.size ≤ m) (hb : b.size ≤ k) (h : m + k ≤ 1000000) : ∃ y : ByteArray,y.size ≤ m + k ∧ ∀ W,(Op.stringOp .add a b).run Tryz.prog W = .ok (.string y) W :=
 ⟨a ++ b,by rw [ByteArray.size_append']; omega,fun W => run_string_add_sum W a b (by omega)⟩
theorem vr_ {l : List Value} {φ : Value → Prop} (h : ∀ x ∈ l,φ x) (i : Nat) (hi : i < l.length) : ∃ u,l[i]? = some u ∧ φ u:=⟨l[i],by simp [hi],h _ (List.getElem_mem hi)⟩
section
variable {p n c : Nat} {A : Option Addr} {l : List Int} {FA : Option Addr} {fn fc : Nat} {fl : List FnV}
def zeP (p : Nat) (A : Option Addr) (n c : Nat) (l : List Int) (FA : Option Addr) (fn fc : Nat) (fl : List FnV) (d : Nat) : Prop :=
 ∀ (deep : Int) (W : World) (j : Nat),deep ≤ d → -10 ≤ deep → Tp W p A n c l j → Fns W p FA fn fc fl → Calls Tryz.prog 37 #[.pointer (some ⟨p,0,none⟩),.int .i64 deep,.slice FA fn fc] W (kg_ (vb d) p A n c l W)
theorem gD_ (d : Nat) (hd : d ≤ 4) (IH : ∀ d',d' < d → zeP p A n c l FA fn fc fl d') : zeP p A n c l FA fn fc fl d:=by
 intro deep w j hdd hd0 hT hF
 obtain ⟨hb1,hb2⟩:=vb_le d hd
 have HB2:=hQ_ hb2
 have HB1:=hQ_ hb1
 clear hb1 hb2
 have HF:=hQ_ hF
 have hmax:=hF.max
 clear hF
 go_enter Tryz.func37,Tryz.ntmps37
 go_wp2_with fail
 refine (zH_ hT 14 (by omega) (by omega)).mono ?_
 rintro e w1 ⟨r,a1,hr,rfl,hT1,hc1⟩
 have HC1:=hQ_ hc1
 have HF1:=hQ_ (HF.out.keep hc1)
 have HT1:=hQ_ hT1
 have hp1:=hT1.lt
 clear hc1 hT1 hT
 by_cases h0 : deep ≤ 0
 · have h17 : decide (deep ≤ 0) = true:=by simpa using h0
   clear IH
   · go_upto_region 3 with fail
     have hG:=zb_.new w1 3 zeU
     have hal : Chg [] w1 (w1.alloc (.cells zeU.toArray 3)):=(Chg.refl [] w1).alloc _
     have HT2:=hQ_ (HT1.out.keep hal)
     have HC2:=hQ_ (HC1.out.trans (hal.sub (T':=[p]) (by simp)))
     have hgp : w1.heap.size ≠ p:=by omega
     clear hal
     go_wp2_with fail
     refine (zH_ HT2.out 10 (by omega) (by omega)).mono ?_
     rintro e w3 ⟨r3,a3,hr3,rfl,hT3,hc3⟩
     have hG3:=hG.chg hc3 (by simpa using hgp)
     obtain ⟨u,hu,x,rfl,hx⟩:=vr_ qV_ r3 (by exact hr3)
     have c3:=(hG3.cell r3).trans hu
     have HT3:=hQ_ hT3
     have HC3:=hQ_ (HC2.out.trans hc3)
     clear hG hG3 hc3 hT3 hu
     go_wp2_with fail
     refine (xE_ 3 x (by omega) (by omega) w3).mono ?_
     rintro e w4 ⟨s,rfl,hs,hc4⟩
     have HT4:=hQ_ (HT3.out.keep hc4)
     have HC4:=hQ_ (HC3.out.trans (hc4.sub (T':=[p]) (by simp)))
     clear hc4 c3
     obtain ⟨y,hy,hadd⟩:=xs_ ⟨#[32]⟩ s 1 16 (by decide) hs (by omega)
     have hadd4:=hadd w4
     clear hadd
     go_wp2_with fail
     go_ret
     exact ⟨y,rfl,by have:=HB2.out; omega,⟨_,HT4.out⟩,HC4.out⟩
 · have h17 : decide (deep ≤ 0) = false:=by simpa using h0
   by_cases h3 : r < 3
   · have h19 : decide ((r : Int) < 3) = true:=by simp; omega
     clear IH
     go_upto_region 3 with fail
     have hG:=zb_.new w1 3 zeU
     have hal : Chg [] w1 (w1.alloc (.cells zeU.toArray 3)):=(Chg.refl [] w1).alloc _
     have HT2:=hQ_ (HT1.out.keep hal)
     have HC2:=hQ_ (HC1.out.trans (hal.sub (T':=[p]) (by simp)))
     have hgp : w1.heap.size ≠ p:=by omega
     clear hal
     go_wp2_with fail
     refine (zH_ HT2.out 10 (by omega) (by omega)).mono ?_
     rintro e w3 ⟨r3,a3,hr3,rfl,hT3,hc3⟩
     have hG3:=hG.chg hc3 (by simpa using hgp)
     obtain ⟨u,hu,x,rfl,hx⟩:=vr_ qV_ r3 (by exact hr3)
     have c3:=(hG3.cell r3).trans hu
     have HT3:=hQ_ hT3
     have HC3:=hQ_ (HC2.out.trans hc3)
     clear hG hG3 hc3 hT3 hu
     go_wp2_with fail
     refine (xE_ 3 x (by omega) (by omega) w3).mono ?_
     rintro e w4 ⟨s,rfl,hs,hc4⟩
     have HT4:=hQ_ (HT3.out.keep hc4)
     have HC4:=hQ_ (HC3.out.trans (hc4.sub (T':=[p]) (by simp)))
     clear hc4 c3
     obtain ⟨y,hy,hadd⟩:=xs_ ⟨#[32]⟩ s 1 16 (by decide) hs (by omega)
     have hadd4:=hadd w4
     clear hadd
     go_wp2_with fail
     go_ret
     exact ⟨y,rfl,by have:=HB2.out; omega,⟨_,HT4.out⟩,HC4.out⟩
   · have h19 : decide ((r : Int) < 3) = false:=by simp; omega
     obtain ⟨d,rfl⟩ : ∃ x,d = x + 1:=⟨d - 1,by omega⟩
     have HV:=hQ_ (IH d (by omega))
     have HB3:=hQ_ (show vb (d + 1) = 3 * vb d + 20 from rfl)
     have HW:=hQ_ (fun d' (h : d' < d + 1) => IH d' h)
     clear IH
     by_cases h6 : r < 6
     · have q30 : decide ((r : Int) < 6) = true:=by simp; omega
       go_wp2_with fail
       refine (zH_ HT1.out 4 (by omega) (by omega)).mono ?_
       rintro e w2 ⟨x,j2,hx,rfl,hT2,hc2⟩
       have HT2:=hQ_ hT2
       have HF2:=hQ_ (HF1.out.keep hc2)
       have HC2:=hQ_ (HC1.out.trans hc2)
       have hp2:=hT2.lt
       clear hT2 hc2
       go_wp2_with fail
       go_ret
       exact ⟨_,rfl,by have:=HB2.out; have:=z4_ (97 + (x : Int)); omega,⟨_,HT2.out⟩,HC2.out⟩
     · have q30 : decide ((r : Int) < 6) = false:=by simp; omega
       by_cases h9 : r < 9
       · have q38 : decide ((r : Int) < 9) = true:=by simp; omega
         go_upto_region 7 with fail
         have hG:=zb_.new w1 9 opV
         have hal : Chg [] w1 (w1.alloc (.cells opV.toArray 9)):=(Chg.refl [] w1).alloc _
         have HTa:=hQ_ (HT1.out.keep hal)
         have HCa:=hQ_ (HC1.out.trans (hal.sub (T':=[p]) (by simp)))
         have HFa:=hQ_ (HF1.out.keep (hal.sub (T':=[p]) (by simp)))
         have hgp : w1.heap.size ≠ p:=by omega
         clear hal
         go_wp2_with fail
         refine (zH_ HTa.out 12 (by omega) (by omega)).mono ?_
         rintro e w2 ⟨r3,j2,hr3,rfl,hT2,hc2⟩
         have hG3:=hG.chg hc2 (by simpa using hgp)
         obtain ⟨u,hu,s,rfl,hs⟩:=vr_ zen r3 (by exact hr3)
         have c3:=(hG3.cell r3).trans hu
         have HT2:=hQ_ hT2
         have HC2:=hQ_ (HCa.out.trans hc2)
         have HF2:=hQ_ (HFa.out.keep hc2)
         have hp2:=hT2.lt
         clear hG hG3 hc2 hT2 hu HTa HCa HFa
         go_wp2_with fail
         clear c3
         refine (HV.out (deep - 1) w2 _ (by omega) (by omega) HT2.out HF2.out).mono ?_
         rintro e w3 ⟨s1,rfl,hs1,⟨j3,hT3⟩,hc3⟩
         have HT3:=hQ_ hT3
         have HF3:=hQ_ (HF2.out.keep hc3)
         have HC3:=hQ_ (HC2.out.trans hc3)
         have hp3:=hT3.lt
         clear hT3 hc3
         go_wp2_with fail
         refine (HV.out (deep - 1) w3 _ (by omega) (by omega) HT3.out HF3.out).mono ?_
         rintro e w4 ⟨s2,rfl,hs2,⟨j4,hT4⟩,hc4⟩
         have HT4:=hQ_ hT4
         have HF4:=hQ_ (HF3.out.keep hc4)
         have HC4:=hQ_ (HC3.out.trans hc4)
         have hp4:=hT4.lt
         clear hT4 hc4
         obtain ⟨y1,hy1,haddy1⟩:=xs_ s1 s2 (vb d) (vb d) hs1 hs2 (by have:=HB1.out; have:=HB3.out; omega)
         have haddy1:=haddy1 w4
         obtain ⟨y2,hy2,haddy2⟩:=xs_ y1 s (vb d + vb d) 3 hy1 hs (by have:=HB1.out; have:=HB3.out; omega)
         have haddy2:=haddy2 w4
         go_wp2_with fail
         go_ret
         exact ⟨y2,rfl,by have:=HB2.out; have:=HB3.out; omega,⟨_,HT4.out⟩,HC4.out⟩
       · have q38 : decide ((r : Int) < 9) = false:=by simp; omega
         by_cases h9e : r = 9
         · have q59 : ((r : Int) == 9) = true:=by simp; omega
           go_wp2_with fail
           refine (HV.out (deep - 1) w1 _ (by omega) (by omega) HT1.out HF1.out).mono ?_
           rintro e w2 ⟨s1,rfl,hs1,⟨j2,hT2⟩,hc2⟩
           have HT2:=hQ_ hT2
           have HF2:=hQ_ (HF1.out.keep hc2)
           have HC2:=hQ_ (HC1.out.trans hc2)
           have hp2:=hT2.lt
           clear hT2 hc2
           have hG:=zb_.new w2 9 onV
           have hal : Chg [] w2 (w2.alloc (.cells onV.toArray 9)):=(Chg.refl [] w2).alloc _
           have HTa:=hQ_ (HT2.out.keep hal)
           have HCa:=hQ_ (HC2.out.trans (hal.sub (T':=[p]) (by simp)))
           have HFa:=hQ_ (HF2.out.keep (hal.sub (T':=[p]) (by simp)))
           have hgp : w2.heap.size ≠ p:=by omega
           clear hal
           go_wp2_with fail
           refine (zH_ HTa.out 7 (by omega) (by omega)).mono ?_
           rintro e w3 ⟨r3,j3,hr3,rfl,hT3,hc3⟩
           have hG3:=hG.chg hc3 (by simpa using hgp)
           obtain ⟨u,hu,s,rfl,hs⟩:=vr_ zep r3 (by exact hr3)
           have c3:=(hG3.cell r3).trans hu
           have HT3:=hQ_ hT3
           have HC3:=hQ_ (HCa.out.trans hc3)
           have HF3:=hQ_ (HFa.out.keep hc3)
           have hp3:=hT3.lt
           clear hG hG3 hc3 hT3 hu HTa HCa HFa
           obtain ⟨y1,hy1,haddy1⟩:=xs_ s1 s (vb d) 3 hs1 hs (by have:=HB1.out; have:=HB3.out; omega)
           have haddy1:=haddy1 w3
           go_wp2_with fail
           go_ret
           exact ⟨y1,rfl,by have:=HB2.out; have:=HB3.out; omega,⟨_,HT3.out⟩,HC3.out⟩
         · have q59 : ((r : Int) == 9) = false:=by simp; omega
           by_cases h10 : r = 10
           · have q73 : ((r : Int) == 10) = true:=by simp; omega
             go_wp2_with fail
             refine (HV.out (deep - 1) w1 _ (by omega) (by omega) HT1.out HF1.out).mono ?_
             rintro e w2 ⟨s1,rfl,hs1,⟨j2,hT2⟩,hc2⟩
             have HT2:=hQ_ hT2
             have HF2:=hQ_ (HF1.out.keep hc2)
             have HC2:=hQ_ (HC1.out.trans hc2)
             have hp2:=hT2.lt
             clear hT2 hc2
             obtain ⟨y1,hy1,haddy1⟩:=xs_ s1 ⟨#[63]⟩ (vb d) 1 hs1 (by decide) (by have:=HB1.out; have:=HB3.out; omega)
             have haddy1:=haddy1 w2
             go_wp2_with fail
             refine (HV.out (deep - 1) w2 _ (by omega) (by omega) HT2.out HF2.out).mono ?_
             rintro e w3 ⟨s2,rfl,hs2,⟨j3,hT3⟩,hc3⟩
             have HT3:=hQ_ hT3
             have HF3:=hQ_ (HF2.out.keep hc3)
             have HC3:=hQ_ (HC2.out.trans hc3)
             have hp3:=hT3.lt
             clear hT3 hc3
             obtain ⟨y2,hy2,haddy2⟩:=xs_ y1 s2 (vb d + 1) (vb d) hy1 hs2 (by have:=HB1.out; have:=HB3.out; omega)
             have haddy2:=haddy2 w3
             obtain ⟨y3,hy3,haddy3⟩:=xs_ y2 ⟨#[58]⟩ (vb d + 1 + vb d) 1 hy2 (by decide) (by have:=HB1.out; have:=HB3.out; omega)
             have haddy3:=haddy3 w3
             go_wp2_with fail
             refine (HV.out (deep - 1) w3 _ (by omega) (by omega) HT3.out HF3.out).mono ?_
             rintro e w4 ⟨s3,rfl,hs3,⟨j4,hT4⟩,hc4⟩
             have HT4:=hQ_ hT4
             have HF4:=hQ_ (HF3.out.keep hc4)
             have HC4:=hQ_ (HC3.out.trans hc4)
             have hp4:=hT4.lt
             clear hT4 hc4
             obtain ⟨y4,hy4,haddy4⟩:=xs_ y3 s3 (vb d + 1 + vb d + 1) (vb d) hy3 hs3 (by have:=HB1.out; have:=HB3.out; omega)
             have haddy4:=haddy4 w4
             obtain ⟨y5,hy5,haddy5⟩:=xs_ y4 ⟨#[59]⟩ (vb d + 1 + vb d + 1 + vb d) 1 hy4 (by decide) (by have:=HB1.out; have:=HB3.out; omega)
             have haddy5:=haddy5 w4
             go_wp2_with fail
             go_ret
             exact ⟨y5,rfl,by have:=HB2.out; have:=HB3.out; omega,⟨_,HT4.out⟩,HC4.out⟩
           · have q73 : ((r : Int) == 10) = false:=by simp; omega
             by_cases h11 : r = 11
             · have q96 : ((r : Int) == 11) = true:=by simp; omega
               go_wp2_with fail
               go_ret
               exact ⟨_,rfl,by have:=HB2.out; show 1 ≤ _; omega,⟨_,HT1.out⟩,HC1.out⟩
             · have q96 : ((r : Int) == 11) = false:=by simp; omega
               by_cases h12 : r = 12
               · have q99 : ((r : Int) == 12) = true:=by simp; omega
                 by_cases hfn : 0 < fn
                 · have q103 : decide ((0 : Int) < (fn : Int)) = true:=by simp; omega
                   have q103b : decide (0 < fn) = true:=by simp; omega
                   have hmaxI : (fn : Int) ≤ 1000:=by omega
                   go_upto_region 16 with fail
                   go_wp2_with fail
                   refine (zH_ HT1.out fn hfn (by omega)).mono ?_
                   rintro e w2 ⟨r3,j2,hr3,rfl,hT2,hc2⟩
                   have HT2:=hQ_ hT2
                   have HF2:=hQ_ (HF1.out.keep hc2)
                   have HC2:=hQ_ (HC1.out.trans hc2)
                   have hp2:=hT2.lt
                   clear hT2 hc2
                   obtain ⟨t,htk⟩ : ∃ t,fl[r3]? = some t:=⟨fl[r3]'(by rw [HF2.out.len]; exact hr3),by simp⟩
                   obtain ⟨fb,fo,rfl,hfb,hfbl,c0,c1,c2⟩:=HF2.out.cell htk
                   obtain ⟨ha0,ha2⟩:=HF2.out.args t (List.mem_of_getElem? htk)
                   have hr3I : (r3 : Int) < (fn : Int):=by omega
                   clear htk
                   go_upto_region 17 with fail
                   obtain ⟨q,hq⟩ : ∃ q : Nat,t.args = (q : Int):=⟨t.args.toNat,by omega⟩
                   have hq2 : q ≤ 2:=by omega
                   rw [hq] at c1 ⊢
                   obtain ⟨cx,hcx⟩ : ∃ cx : List Value,cx = [.int .i32 t.name,.int .i64 (q : Int),.string t.code]:=⟨_,rfl⟩
                   have hG:=zb_.new w2 58 [.int .i32 t.name,.int .i64 (q : Int),.string t.code]
                   have hal : Chg [] w2 (w2.alloc (.cells #[.int .i32 t.name,.int .i64 (q : Int),.string t.code] 58)):=(Chg.refl [] w2).alloc _
                   have HG3:=hQ_ hG
                   have HT3:=hQ_ (HT2.out.keep hal)
                   have HC3:=hQ_ (HC2.out.trans (hal.sub (T':=[p]) (by simp)))
                   have HF3:=hQ_ (HF2.out.keep (hal.sub (T':=[p]) (by simp)))
                   have hgp : w2.heap.size ≠ p:=by omega
                   obtain ⟨g,hg⟩ : ∃ g,g = w2.heap.size:=⟨_,rfl⟩
                   rw [← hg] at HG3 hgp ⊢
                   have HG3':=hQ_ (show zb_ (w2.alloc (.cells #[.int .i32 t.name,.int .i64 (q : Int),.string t.code] 58)) g 58 [.int .i32 t.name,.int .i64 (q : Int),.string t.code] from HG3.out)
                   generalize w2.alloc (.cells #[.int .i32 t.name,.int .i64 (q : Int),.string t.code] 58) = w3 at HT3 HC3 HF3 HG3' ⊢
                   clear hcx hal hG hg HG3 c0 c1 c2 hq ha0 ha2
                   go_wp2_with fail
                   go_loopw [10,11] (fun v i wr => ∃ k : Nat,i = .int .i64 (k : Int) ∧ k ≤ q ∧ (∃ s : ByteArray,v = .string s ∧ s.size ≤ k * vb d) ∧ Hid (∃ j,Tp wr p A n c l j) ∧ Hid (Chg [p] w3 wr)) (fun _ i _ => q - (intOf i).toNat)
                   case atStart => exact ⟨0,rfl,by omega,⟨⟨#[]⟩,rfl,Nat.zero_le _⟩,hQ_ ⟨_,HT3.out⟩,hQ_ (Chg.refl _ _)⟩
                   case round =>
                    obtain ⟨k,rfl,hk,⟨s,rfl,hs⟩,HTr,HCr⟩:=hrel
                    have hGr:=HG3'.out.chg HCr.out (by simpa using hgp)
                    have e0 : wr.cell? ⟨g,0,none⟩ = some (.int .i32 t.name):=(hGr.cell 0).trans rfl
                    have e1 : wr.cell? ⟨g,1,none⟩ = some (.int .i64 (q : Int)):=(hGr.cell 1).trans rfl
                    have HFr:=hQ_ (HF3.out.keep HCr.out)
                    clear hGr
                    by_cases hkq : k < q
                    · have hkI : (k : Int) < (q : Int):=by omega
                      have HKV:=hQ_ (show k * vb d + vb d = (k + 1) * vb d from (Nat.succ_mul k (vb d)).symm)
                      have HK2:=hQ_ (show k * vb d ≤ 2 * vb d from Nat.mul_le_mul_right _ (by omega))
                      go_wp2_with fail
                      obtain ⟨jr,hjr⟩:=HTr.out
                      refine (HV.out (deep - 2) wr _ (by omega) (by omega) hjr HFr.out).mono ?_
                      rintro e w5 ⟨s1,rfl,hs1,⟨j5,hT5⟩,hc5⟩
                      have HT5:=hQ_ hT5
                      have HC5:=hQ_ (HCr.out.trans hc5)
                      clear hT5 hc5 hjr
                      obtain ⟨y,hy,hadd⟩:=xs_ s s1 (k * vb d) (vb d) hs hs1 (by have:=HB1.out; have:=HB3.out; have:=HK2.out; omega)
                      have hadd5:=hadd w5
                      clear hadd
                      go_wp2_with fail
                      go_roundw
                      case rel => exact ⟨k + 1,by go_num,by omega,⟨y,rfl,by have:=HKV.out; omega⟩,hQ_ ⟨_,HT5.out⟩,HC5⟩
                      case measure => simp [intOf]; omega
                    · have hkI : (q : Int) ≤ (k : Int):=by omega
                      have HK2:=hQ_ (show k * vb d ≤ 2 * vb d from Nat.mul_le_mul_right _ (by omega))
                      obtain ⟨y1,hy1,hadd1⟩:=xs_ s ⟨#[206,187]⟩ (k * vb d) 2 hs (by decide) (by have:=HB1.out; have:=HB3.out; have:=HK2.out; omega)
                      have he1:=z4_ t.name
                      obtain ⟨y2,hy2,hadd2⟩:=xs_ y1 (Utf8.encode t.name) (k * vb d + 2) 4 hy1 he1 (by have:=HB1.out; have:=HB3.out; have:=HK2.out; omega)
                      have hadd1r:=hadd1 wr
                      have hadd2r:=hadd2 wr
                      clear hadd1 hadd2
                      have HCz:=hQ_ (HC3.out.trans HCr.out)
                      go_wp2_with fail
                      go_ret
                      exact ⟨y2,rfl,by have:=HB2.out; have:=HB3.out; have:=HK2.out; omega,HTr.out,HCz.out⟩
                 · have q103 : decide ((0 : Int) < (fn : Int)) = false:=by simp; omega
                   have q103b : decide (0 < fn) = false:=by simp; omega
                   go_upto_region 23 with fail
                   go_wp2_with fail
                   refine (HV.out (deep - 1) w1 _ (by omega) (by omega) HT1.out HF1.out).mono ?_
                   rintro e w2 ⟨s1,rfl,hs1,⟨j2,hT2⟩,hc2⟩
                   have HT2:=hQ_ hT2
                   have HF2:=hQ_ (HF1.out.keep hc2)
                   have HC2:=hQ_ (HC1.out.trans hc2)
                   have hp2:=hT2.lt
                   clear hT2 hc2
                   go_wp2_with fail
                   refine (zH_ HT2.out 4 (by omega) (by omega)).mono ?_
                   rintro e w3 ⟨x1,j3,hx1,rfl,hT3,hc3⟩
                   have HT3:=hQ_ hT3
                   have HF3:=hQ_ (HF2.out.keep hc3)
                   have HC3:=hQ_ (HC2.out.trans hc3)
                   have hp3:=hT3.lt
                   clear hT3 hc3
                   have he1:=z4_ (65 + (x1 : Int))
                   obtain ⟨y1,hy1,haddy1⟩:=xs_ s1 (Utf8.encode (65 + (x1 : Int))) (vb d) 4 hs1 he1 (by have:=HB1.out; have:=HB3.out; omega)
                   have haddy1:=haddy1 w3
                   go_wp2_with fail
                   refine (zH_ HT3.out 4 (by omega) (by omega)).mono ?_
                   rintro e w4 ⟨x2,j4,hx2,rfl,hT4,hc4⟩
                   have HT4:=hQ_ hT4
                   have HF4:=hQ_ (HF3.out.keep hc4)
                   have HC4:=hQ_ (HC3.out.trans hc4)
                   have hp4:=hT4.lt
                   clear hT4 hc4
                   have he2:=z4_ (97 + (x2 : Int))
                   obtain ⟨y2,hy2,haddy2⟩:=xs_ y1 (Utf8.encode (97 + (x2 : Int))) (vb d + 4) 4 hy1 he2 (by have:=HB1.out; have:=HB3.out; omega)
                   have haddy2:=haddy2 w4
                   go_wp2_with fail
                   go_ret
                   exact ⟨y2,rfl,by have:=HB2.out; have:=HB3.out; omega,⟨_,HT4.out⟩,HC4.out⟩
               · have q99 : ((r : Int) == 12) = false:=by simp; omega
                 go_upto_region 23 with fail
                 go_wp2_with fail
                 refine (HV.out (deep - 1) w1 _ (by omega) (by omega) HT1.out HF1.out).mono ?_
                 rintro e w2 ⟨s1,rfl,hs1,⟨j2,hT2⟩,hc2⟩
                 have HT2:=hQ_ hT2
                 have HF2:=hQ_ (HF1.out.keep hc2)
                 have HC2:=hQ_ (HC1.out.trans hc2)
                 have hp2:=hT2.lt
                 clear hT2 hc2
                 go_wp2_with fail
                 refine (zH_ HT2.out 4 (by omega) (by omega)).mono ?_
                 rintro e w3 ⟨x1,j3,hx1,rfl,hT3,hc3⟩
                 have HT3:=hQ_ hT3
                 have HF3:=hQ_ (HF2.out.keep hc3)
                 have HC3:=hQ_ (HC2.out.trans hc3)
                 have hp3:=hT3.lt
                 clear hT3 hc3
                 have he1:=z4_ (65 + (x1 : Int))
                 obtain ⟨y1,hy1,haddy1⟩:=xs_ s1 (Utf8.encode (65 + (x1 : Int))) (vb d) 4 hs1 he1 (by have:=HB1.out; have:=HB3.out; omega)
                 have haddy1:=haddy1 w3
                 go_wp2_with fail
                 refine (zH_ HT3.out 4 (by omega) (by omega)).mono ?_
                 rintro e w4 ⟨x2,j4,hx2,rfl,hT4,hc4⟩
                 have HT4:=hQ_ hT4
                 have HF4:=hQ_ (HF3.out.keep hc4)
                 have HC4:=hQ_ (HC3.out.trans hc4)
                 have hp4:=hT4.lt
                 clear hT4 hc4
                 have he2:=z4_ (97 + (x2 : Int))
                 obtain ⟨y2,hy2,haddy2⟩:=xs_ y1 (Utf8.encode (97 + (x2 : Int))) (vb d + 4) 4 hy1 he2 (by have:=HB1.out; have:=HB3.out; omega)
                 have haddy2:=haddy2 w4
                 go_wp2_with fail
                 go_ret
                 exact ⟨y2,rfl,by have:=HB2.out; have:=HB3.out; omega,⟨_,HT4.out⟩,HC4.out⟩
theorem uI_ : ∀ d : Nat,d ≤ 4 → zeP p A n c l FA fn fc fl d:=by
 intro d
 induction d using Nat.strongRecOn with
 | _ d ih => exact fun hd => gD_ d hd fun d' h => ih d' h (by omega)
end
theorem jL_ (W : World) (n : Nat) (hn : n ≤ 100000) : (Instr.makeSlice 26 (.int .i64 (n : Int)) (.int .i64 (n : Int))).run Tryz.prog W = .ok (.slice (some ⟨W.heap.size,0,none⟩) n n) (W.alloc (.cells (nms (List.replicate n 0)).toArray 3)):=by
 obtain ⟨i,hi,hz,hs1,hb⟩:=info_parts ve_
 have : nms (List.replicate n 0) = List.replicate n (.int .i64 0):=by simp [nms]
 rw [this]
 exact uW_ 26 3 i (.int .i64 0) rfl Tryz.underlying26 hi hz hs1 n (by rw [hb]; omega) (by omega) W
def ki_ (n : Nat) (r : Option (List Int × Nat)) (W : World) (e : Ending) (w' : World) : Prop :=
 Chg [] W w' ∧ ((∃ t d g,r = some (t,d) ∧ t.length = n ∧ e = .returned (.tuple #[.slice (some ⟨g,0,none⟩) n n,.int .i64 (d : Int),.bool true]) ∧ zb_ w' g 3 (nms t) ∧ d ≤ 16) ∨
   (r = none ∧ ∃ v d,e = .returned (.tuple #[v,.int .i64 d,.bool false])))
section
variable {W : World} {A : Option Addr} {n c : Nat} {l : List TkV}
theorem zbw (h : Tks W A n c l) : Calls Tryz.prog 118 #[.slice A n c] W (ki_ n (v0_ (zo_ l)) W):=by
 have hmax:=h.max
 have hmk:=fun W : World => jL_ W n hmax
 have H:=hQ_ h
 have hsl : (zo_ l).length = n:=by unfold zo_; rw [List.length_map]; exact h.len
 have HSL:=hQ_ hsl
 clear h hsl
 go_enter Tryz.func118,Tryz.ntmps118
 go_upto_region 2 with fail
 have hT:=zb_.new W 3 (nms (List.replicate n 0))
 have hc1 : Chg [] W (W.alloc (.cells (nms (List.replicate n 0)).toArray 3)):=(Chg.refl [] W).alloc _
 obtain ⟨gt,hgt⟩ : ∃ g,g = W.heap.size:=⟨_,rfl⟩
 rw [← hgt] at hT
 have hsz : (W.alloc (.cells (nms (List.replicate n 0)).toArray 3)).heap.size = gt + 1:=by rw [hgt]; simp
 have hM:=zb_.new (W.alloc (.cells (nms (List.replicate n 0)).toArray 3)) 168 [.slice (some ⟨gt,0,none⟩) n n,.int .i64 0,.slice none 0 0]
 rw [hsz] at hM
 have hal2 : Chg [] (W.alloc (.cells (nms (List.replicate n 0)).toArray 3)) ((W.alloc (.cells (nms (List.replicate n 0)).toArray 3)).alloc (.cells #[.slice (some ⟨gt,0,none⟩) n n,.int .i64 0,.slice none 0 0] 168)):=(Chg.refl [] _).alloc _
 have hT2:=hT.keep hal2
 have hc2:=hc1.new hal2
 have hsz2 : ((W.alloc (.cells (nms (List.replicate n 0)).toArray 3)).alloc (.cells #[.slice (some ⟨gt,0,none⟩) n n,.int .i64 0,.slice none 0 0] 168)).heap.size = gt + 2:=by rw [hgt]; simp
 rw [← hgt]
 generalize (W.alloc (.cells (nms (List.replicate n 0)).toArray 3)).alloc (.cells #[.slice (some ⟨gt,0,none⟩) n n,.int .i64 0,.slice none 0 0] 168) = w2 at hM hT2 hc2 hsz2 ⊢
 have HM0:=hQ_ (show Mt w2 (gt + 1) gt (gt + 2) n ⟨List.replicate (zo_ l).length 0,0,[]⟩ (.slice none 0 0) [] from
   ⟨hM,by rw [HSL.out]; exact hT2,by rw [List.length_replicate]; exact HSL.out,rfl,World.ownsRow_nil _ _ _ _,fun x hx => (by cases hx),List.Pairwise.nil,by omega,by simp,by simp,fun x hx => (by cases hx),hmax,by omega⟩)
 have HC2:=hQ_ hc2
 have HGT:=hQ_ hgt
 clear hT hc1 hsz hM hal2 hT2 hc2 hsz2 hgt hmk
 go_wp2_with fail
 go_loopw [6,7,14] (fun _ _ s wr => ∃ k : Nat,k ≤ n ∧ s = .int .i64 (k : Int) ∧ (∃ m vo xs,Hid (Mt wr (gt + 1) gt (gt + 2) n m vo xs) ∧ Few k m ∧ k2_ 0 (zo_ l) ⟨List.replicate (zo_ l).length 0,0,[]⟩ = k2_ k ((zo_ l).drop k) m) ∧ Hid (Chg [] W wr)) (fun _ _ s _ => n - (intOf s).toNat)
 case atStart => exact ⟨0,Nat.zero_le _,rfl,⟨_,_,_,HM0,fun p hp => (by cases hp),rfl⟩,HC2⟩
 case round =>
  obtain ⟨k,hk,rfl,⟨m,vo,xs,HM,hfew,hrun⟩,HCr⟩:=hrel
  have HF:=hQ_ hfew
  have HRUN:=hQ_ hrun
  clear hfew hrun
  by_cases hlt : k < n
  · have hltI : (k : Int) < (n : Int):=by omega
    have hk0 : (0 : Int) ≤ (k : Int):=by omega
    have hkl : k < l.length:=by rw [H.out.len]; exact hlt
    obtain ⟨b,o,rfl,hb,t0,t1,t2⟩:=(H.out.keep HCr.out).cell (List.getElem?_eq_getElem hkl)
    have HS:=hQ_ (show (zo_ l).drop k = (l[k]).sign :: (zo_ l).drop (k + 1) from by
     rw [List.drop_eq_getElem_cons (by rw [HSL.out]; exact hlt)]
     congr 1
     simp [zo_])
    generalize l[k] = t at t0 t1 t2 HS
    obtain ⟨ts,tn,tm⟩:=t
    simp only at t0 t1 t2 HS
    go_upto_region 5 with fail
    have hal : Chg [] wr (wr.alloc (.cells #[.int .i32 ts,.int .i64 tn,.int .i32 tm] 110)):=(Chg.refl [] wr).alloc _
    have hN : zb_ (wr.alloc (.cells #[.int .i32 ts,.int .i64 tn,.int .i32 tm] 110)) wr.heap.size 110 [.int .i32 ts,.int .i64 tn,.int .i32 tm]:=zb_.new wr 110 [.int .i32 ts,.int .i64 tn,.int .i32 tm]
    have hbt : gt < wr.heap.size:=HM.out.to_.lt
    obtain ⟨g7,hg7⟩ : ∃ g,g = wr.heap.size:=⟨_,rfl⟩
    rw [← hg7] at hN hbt ⊢
    generalize wr.alloc (.cells #[.int .i32 ts,.int .i64 tn,.int .i32 tm] 110) = w3 at hal hN ⊢
    have HM3:=hQ_ (HM.out.keep hal)
    have HC3:=hQ_ (HCr.out.new hal)
    have HN3:=hQ_ hN
    clear hal hN hg7 t0 t1 t2
    have c0:=HM3.out.rec_.cell 0
    have hkt : k < m.tO.length:=by rw [HM3.out.len]; exact hlt
    have t0 : w3.cell? ⟨gt,k,none⟩ = some (.int .i64 (m.tO[k]'hkt)):=(HM3.out.to_.cell k).trans (yX_ _ _ hkt)
    have f0:=HM3.out.to_.frozen k
    go_upto_region 6 with fail
    have HM4:=hQ_ (HM3.out.poke k (-1))
    have HL4:=hQ_ (show Lo (gt + 2) [gt + 1,gt] w3 (w3.setCell ⟨gt,k,none⟩ (.int .i64 (-1))) from Lo.of_chg ((Chg.refl [gt] w3).setCell (p:=⟨gt,k,none⟩) (by simp) _) (by simp))
    have HC4:=hQ_ (HL4.out.chg HC3.out (by have:=HGT.out; omega) (by have:=HGT.out; simp; omega))
    have HN4:=hQ_ (HN3.out.far (p:=⟨gt,k,none⟩) (by simp only; omega) (.int .i64 (-1)))
    generalize w3.setCell ⟨gt,k,none⟩ (.int .i64 (-1)) = w4 at HM4 HL4 HC4 HN4 ⊢
    clear c0 t0 f0
    have n0:=HN4.out.cell 0
    go_wp2_with fail
    refine (zcE HM4.out k hlt ts HF.out).mono ?_
    rintro e w5 (⟨m',ht,rfl,⟨vo',xs',hM5⟩,hL5⟩ | ⟨ht,rfl,hL5⟩)
    · have HM5:=hQ_ hM5
      have HF5:=hQ_ (zdk (m:=⟨m.tO.set k (-1),m.deep,m.op⟩) HF.out ht)
      have HR5:=hQ_ (show k2_ 0 (zo_ l) ⟨List.replicate (zo_ l).length 0,0,[]⟩ = k2_ (k + 1) ((zo_ l).drop (k + 1)) m' from by rw [HRUN.out,HS.out,k2_,ht]; rfl)
      have HC5:=hQ_ (hL5.chg HC4.out (by have:=HGT.out; omega) (by have:=HGT.out; simp; omega))
      clear hM5 hL5 ht n0
      go_wp2_with fail
      go_roundw
      case rel => exact ⟨k + 1,by omega,by go_num,⟨_,_,_,HM5,HF5.out,HR5.out⟩,HC5⟩
      case measure => simp [intOf]; omega
    · have HR5:=hQ_ (show v0_ (zo_ l) = none from by unfold v0_; rw [HRUN.out,HS.out,k2_,ht]; rfl)
      have HC5:=hQ_ (hL5.chg HC4.out (by have:=HGT.out; omega) (by have:=HGT.out; simp; omega))
      have HPO:=hQ_ (show ki_ n (v0_ (zo_ l)) W (.returned (.tuple #[.slice none 0 0,.int .i64 0,.bool false])) w5 from ⟨HC5.out,.inr ⟨HR5.out,_,_,rfl⟩⟩)
      clear hL5 ht n0
      go_wp2_with fail
      go_ret3
      exact HPO.out
  · have hltI : ¬ (k : Int) < (n : Int):=by omega
    have HR5:=hQ_ (show k2_ 0 (zo_ l) ⟨List.replicate (zo_ l).length 0,0,[]⟩ = some m from by rw [HRUN.out,List.drop_eq_nil_of_le (by rw [HSL.out]; omega)]; rfl)
    have c0:=HM.out.rec_.cell 0
    have c1:=HM.out.rec_.cell 1
    have c2:=HM.out.rec_.cell 2
    obtain ⟨Ao,co,rfl,_,_,_⟩:=zm_ HM.out.own
    have hop : m.op.length = xs.length:=by rw [HM.out.op]; simp
    obtain ⟨q,hq⟩ : ∃ q,q = xs.length:=⟨_,rfl⟩
    rw [← hq] at c2 hop
    have HOP:=hQ_ hop
    have hfq:=HM.out.few
    rw [← hq] at hfq
    clear hop hq
    have hdec : ((q : Int) == 0) = decide (q = 0):=by rw [Bool.eq_iff_iff]; simp
    go_wp2_with fail
    go_quiet (fail)
    have HPO:=hQ_ (show ki_ n (v0_ (zo_ l)) W (.returned (.tuple #[.slice (some ⟨gt,0,none⟩) n n,.int .i64 (m.deep : Int),.bool (decide (q = 0))])) (wr.drewN nq) from by
     refine ⟨HCr.out.drewN _,?_⟩
     by_cases h0 : q = 0
     · refine .inl ⟨m.tO,m.deep,gt,?_,HM.out.len,by simp [h0],(HM.out.to_.drewN _),HM.out.deep⟩
       unfold v0_
       have : m.op = []:=List.eq_nil_of_length_eq_zero (by rw [HOP.out]; exact h0)
       rw [HR5.out]; simp [this]
     · refine .inr ⟨?_,_,_,by simp [h0]; exact ⟨rfl,rfl⟩⟩
       unfold v0_
       have : m.op ≠ []:=fun e => h0 (by rw [← HOP.out,e]; rfl)
       rw [HR5.out]; simp [this])
    go_wp2_with fail
    go_ret3
    exact HPO.out
end
structure Rt (W : World) (gt B n : Nat) (m : RSt) (vo : Value) : Prop where
  to_ : zb_ W gt 3 (nms m.tO)
  len : m.tO.length = n
  own : W.ownsRow B 3 1 vo m.op.length (nts m.op.reverse)
  lo : gt < B
  few : m.op.length ≤ 16
  deep : m.deep ≤ 16
  wf : ∀ p ∈ m.op,p < n
  big : n ≤ 100000
  room : B ≤ W.heap.size
section
variable {W W' : World} {gt B n : Nat} {m : RSt} {vo : Value}
theorem Rt.keep (h : Rt W gt B n m vo) (hc : Chg [] W W') : Rt W' gt B n m vo :=
 { h with to_:=h.to_.keep hc,own:=zn_ h.own hc,room:=Nat.le_trans h.room hc.size }
theorem Rt.poke (h : Rt W gt B n m vo) (j : Nat) (x : Int) : Rt (W.setCell ⟨gt,j,none⟩ (.int .i64 x)) gt B n ⟨m.tO.set j x,m.deep,m.op⟩ vo:=by
 refine { h with to_:=?_,len:=by rw [List.length_set]; exact h.len,own:=zs_ h.own (fun hc => by have:=(h.own.lt gt hc).1; have:=h.lo; omega),room:=by rw [zG_]; exact h.room }
 have:=h.to_.set_ j (.int .i64 x)
 rwa [ql_] at this
theorem Rt.top {p : Nat} {r : List Nat} (h : Rt W gt B n m vo) (hm : m.op = p :: r) : ∃ g c,vo = .slice (some ⟨g,0,none⟩) (r.length + 1) c ∧ r.length + 1 ≤ c ∧ W.cell? ⟨g,r.length,none⟩ = some (.int .i64 (p : Int)) ∧ W.frozen? ⟨g,r.length,none⟩ = false ∧ B ≤ g ∧ g < W.heap.size ∧ p < n ∧ r.length < 16:=by
 have ho:=h.own
 have hf:=h.few
 rw [hm] at ho hf
 simp only [List.length_cons] at ho hf
 obtain ⟨A,c,rfl,h1,_,_⟩:=zm_ ho
 obtain ⟨g,rfl,hc⟩:=zA_ ho rfl (j:=r.length) (u:=.int .i64 (p : Int)) (by simp [nts])
 exact ⟨g,c,rfl,h1,hc,zZ_ ho,(ho.lt g rfl).1,(ho.lt g rfl).2,h.wf p (by rw [hm]; simp),by omega⟩
theorem Rt.waits {p : Nat} {r : List Nat} {g c : Nat} (h : Rt W gt B n m vo) (hm : m.op = p :: r) (hv : vo = .slice (some ⟨g,0,none⟩) (r.length + 1) c) (i : Nat) (hi : i < n) :
    Rt (W.setCell ⟨g,r.length,none⟩ (.int .i64 (i : Int))) gt B n ⟨m.tO,m.deep,i :: r⟩ vo:=by
 subst hv
 have ho:=h.own
 rw [hm] at ho
 simp only [List.length_cons] at ho
 have hB:=(ho.lt g rfl).1
 have hlo:=h.lo
 refine ⟨h.to_.far (by simp only; omega) _,h.len,?_,h.lo,by have:=h.few; rw [hm] at this; exact this,h.deep,fun q hq => ?_,h.big,by rw [zG_]; exact h.room⟩
 · have:=xl_ (j:=r.length) (u:=.int .i64 (i : Int)) ho
   have e : (nts (p :: r).reverse).set r.length (.int .i64 (i : Int)) = nts (i :: r).reverse:=by
    simp only [nts,List.reverse_cons,List.map_append,List.map_cons,List.map_nil]
    rw [List.set_append_right _ _ (by simp)]
    simp
   rw [e] at this
   exact this
 · rcases List.mem_cons.1 hq with rfl | hq
   · exact hi
   · exact h.wf q (by rw [hm]; simp [hq])
theorem Rt.drop {p : Nat} {r : List Nat} {g c : Nat} (h : Rt W gt B n m vo) (hm : m.op = p :: r) (hv : vo = .slice (some ⟨g,0,none⟩) (r.length + 1) c) : Rt W gt B n ⟨m.tO,m.deep,r⟩ (.slice (some ⟨g,0,none⟩) r.length c):=by
 subst hv
 have ho:=h.own
 rw [hm] at ho
 simp only [List.length_cons] at ho
 have ht:=vD_ (q':=r.length) ho (by omega) (by simp)
 refine { h with own:=?_,few:=by have:=h.few; rw [hm] at this; simp at this ⊢; omega,wf:=fun q hq => h.wf q (by rw [hm]; simp [show q ∈ r from hq]) }
 have e : (nts (p :: r).reverse).take (r.length * 1) = nts r.reverse:=by
  simp only [nts,List.reverse_cons,List.map_append,Nat.mul_one]
  rw [List.take_left' (by simp)]
 rw [e] at ht
 exact ht
theorem Rt.push {W1 w' : World} {v' : Value} {i : Nat} (h : Rt W gt B n m vo) (hc : Chg [] W W1) (hi : i < n) (hn : m.op.length < 16) (d : Nat) (hd : d ≤ 16)
    (ho : w'.ownsRow B 3 1 v' (m.op.length + 1) (nts m.op.reverse ++ [.int .i64 (i : Int)])) (hg : W1.grownBy w' vo.ownBlock) : Rt w' gt B n ⟨m.tO,d,i :: m.op⟩ v':=by
      have h1:=h.keep hc
      refine ⟨?_,h.len,?_,h.lo,by simp; omega,hd,fun q hq => ?_,h.big,Nat.le_trans h1.room hg.size⟩
      · unfold zb_
        rw [hg.block gt h1.to_.lt (fun hc => by have:=(h1.own.lt gt hc.symm).1; have:=h.lo; omega)]
        exact h1.to_
      · simp only [List.length_cons,List.reverse_cons,zbq]
        exact ho
      · rcases List.mem_cons.1 hq with rfl | hq
        · exact hi
        · exact h.wf q hq
end
section
variable {W : World} {A : Option Addr} {n c gt : Nat} {l : List TkV} {t : List Int}
theorem Tks.sign (h : Tks W A n c l) {k : Nat} {s : Int} (hk : (zo_ l)[k]? = some s) : ∃ b o,A = some ⟨b,o,none⟩ ∧ b < W.heap.size ∧ W.cell? ⟨b,o + k * 3,none⟩ = some (.int .i32 s):=by
 unfold zo_ at hk
 rw [List.getElem?_map] at hk
 cases hl : l[k]? with
 | none => rw [hl] at hk; cases hk
 | some t =>
   rw [hl] at hk
   injection hk with hk
   subst hk
   obtain ⟨b,o,e,hb,h0,_,_⟩:=h.cell hl
   exact ⟨b,o,e,hb,h0⟩
theorem g4_ (h : Tks W A n c l) (ht : zb_ W gt 3 (nms t)) (htl : t.length = n) (at_ : Nat) (hat : at_ < n) :
    Calls Tryz.prog 96 #[.slice A n c,.slice (some ⟨gt,0,none⟩) n n,.int .i64 (at_ : Int)] W fun e w' => e = .returned (.int .i64 (zX_ (zo_ l) t at_ (n - at_) at_)) ∧ W = w':=by
 have hmax:=h.max
 have hsl : (zo_ l).length = n:=by unfold zo_; rw [List.length_map]; exact h.len
 have H:=hQ_ h
 have HT:=hQ_ ht
 have HTL:=hQ_ htl
 have HSL:=hQ_ hsl
 clear h ht htl hsl
 go_enter Tryz.func96,Tryz.ntmps96
 go_wp2_with fail
 go_loop [7] (fun s => ∃ j : Nat,at_ ≤ j ∧ j ≤ n ∧ s = .int .i64 (j : Int) ∧ Hid (zX_ (zo_ l) t at_ (n - at_) at_ = zX_ (zo_ l) t at_ (n - j) j)) (fun s => n - (intOf s).toNat)
 case atStart => exact ⟨at_,Nat.le_refl _,by omega,rfl,hQ_ rfl⟩
 case round =>
  obtain ⟨j,h0,h1,rfl,HV⟩:=hrel
  by_cases hlt : j < n
  · have hltI : (j : Int) < (n : Int):=by omega
    have hj0 : (0 : Int) ≤ (j : Int):=by omega
    obtain ⟨s,hs⟩ : ∃ s,(zo_ l)[j]? = some s:=⟨_,List.getElem?_eq_getElem (by rw [HSL.out]; exact hlt)⟩
    obtain ⟨b,o,rfl,_,t0⟩:=H.out.sign hs
    have hjt : j < t.length:=by rw [HTL.out]; exact hlt
    have c1 : W.cell? ⟨gt,j,none⟩ = some (.int .i64 (t[j]'hjt)):=(HT.out.cell j).trans (yX_ _ _ hjt)
    have HS:=hQ_ hs
    have HG:=hQ_ (show t.getD j 0 = t[j]'hjt by rw [List.getD_eq_getElem?_getD,List.getElem?_eq_getElem hjt]; rfl)
    have HN:=hQ_ (show n - j = (n - (j + 1)) + 1 by omega)
    generalize t[j] = x at c1 HG
    clear hs hjt
    by_cases h93 : s = 93
    · subst h93
      by_cases hx : x < (at_ : Int)
      · have HR:=hQ_ (show zX_ (zo_ l) t at_ (n - at_) at_ = (j : Int) + 1 by rw [HV.out,HN.out,zX_,if_pos ⟨HS.out,by rw [HG.out]; exact hx⟩])
        go_wp2_with fail
        go_ret
        exact ⟨qL_ HR.out.symm,rfl⟩
      · have hxd : decide (x < (at_ : Int)) = false:=by simpa using hx
        have HR:=hQ_ (show zX_ (zo_ l) t at_ (n - at_) at_ = zX_ (zo_ l) t at_ (n - (j + 1)) (j + 1) by rw [HV.out,HN.out,zX_,if_neg (fun hc => hx (by rw [← HG.out]; exact hc.2))])
        go_wp2_with fail
        go_round
        case rel => exact ⟨j + 1,by omega,by omega,by go_num,HR⟩
        case measure => simp [intOf]; omega
    · have hsd : (s == 93) = false:=by simpa using h93
      have HR:=hQ_ (show zX_ (zo_ l) t at_ (n - at_) at_ = zX_ (zo_ l) t at_ (n - (j + 1)) (j + 1) by rw [HV.out,HN.out,zX_,if_neg (fun hc => h93 (by have:=hc.1; rw [HS.out] at this; injection this))])
      go_wp2_with fail
      go_round
      case rel => exact ⟨j + 1,by omega,by omega,by go_num,HR⟩
      case measure => simp [intOf]; omega
  · have hltI : ¬ (j : Int) < (n : Int):=by omega
    have HR:=hQ_ (show zX_ (zo_ l) t at_ (n - at_) at_ = -1 by rw [HV.out,show n - j = 0 by omega]; rfl)
    go_wp2_with fail
    go_ret
    exact ⟨qL_ HR.out.symm,rfl⟩
end
def db : Nat → Nat
  | 0 => 700
  | d + 1 => 2 * db d + 1000
theorem db_le (d : Nat) (h : d ≤ 3) : db d ≤ 20000 ∧ 700 ≤ db d:=by
 have : d = 0 ∨ d = 1 ∨ d = 2 ∨ d = 3:=by omega
 rcases this with rfl | rfl | rfl | rfl <;> decide
def thV : List Value:=[.string ⟨#[36]⟩,.string ⟨#[194,174]⟩]
def haV : List Value:=[.string ⟨#[]⟩,.string ⟨#[194,161]⟩]
theorem zdQ : ∀ x ∈ thV,zct 3 x:=by intro x h; simp only [thV,List.mem_cons,List.not_mem_nil,or_false] at h; rcases h with rfl | rfl <;> exact ⟨_,rfl,by decide⟩
theorem zeD : ∀ x ∈ haV,zct 3 x:=by intro x h; simp only [haV,List.mem_cons,List.not_mem_nil,or_false] at h; rcases h with rfl | rfl <;> exact ⟨_,rfl,by decide⟩
theorem zeG (y : ByteArray) (m : Nat) (hy : y.size ≤ m) (hm : 4 ≤ m) : ∀ x ∈ [Value.string ⟨#[59]⟩,.string y,.string ⟨#[58,194,161,59]⟩],zct m x:=by
 intro x h
 simp only [List.mem_cons,List.not_mem_nil,or_false] at h
 rcases h with rfl | rfl | rfl
 · exact ⟨_,rfl,by show 1 ≤ m; omega⟩
 · exact ⟨_,rfl,hy⟩
 · exact ⟨_,rfl,by show 4 ≤ m; omega⟩
theorem xyz (r : Nat) (h : r < 3) : ∃ b : UInt8,Utf8.encode (120 + (r : Int)) = ⟨#[b]⟩ ∧ 120 ≤ b.toNat ∧ b.toNat ≤ 122:=by
 have : r = 0 ∨ r = 1 ∨ r = 2:=by omega
 rcases this with rfl | rfl | rfl
 · exact ⟨120,by decide +kernel,by decide,by decide⟩
 · exact ⟨121,by decide +kernel,by decide,by decide⟩
 · exact ⟨122,by decide +kernel,by decide,by decide⟩
section
variable {p n c : Nat} {A : Option Addr} {l : List Int} {FA : Option Addr} {fn fc : Nat} {fl : List FnV}
def zcu (p : Nat) (A : Option Addr) (n c : Nat) (l : List Int) (FA : Option Addr) (fn fc : Nat) (fl : List FnV) (d : Nat) : Prop :=
 ∀ (deep : Int) (W : World) (j : Nat),deep ≤ d → -10 ≤ deep → Tp W p A n c l j → Fns W p FA fn fc fl → Calls Tryz.prog 35 #[.pointer (some ⟨p,0,none⟩),.int .i64 deep,.slice FA fn fc] W (kg_ (db d) p A n c l W)
theorem zcg (d : Nat) (hd : d ≤ 3) (IH : ∀ d',d' < d → zcu p A n c l FA fn fc fl d') : zcu p A n c l FA fn fc fl d:=by
 intro deep w j hdd hd0 hT hF
 obtain ⟨hb1,hb2⟩:=db_le d hd
 have HB2:=hQ_ hb2
 have HB1:=hQ_ hb1
 have HB3:=hQ_ (show (620 : Nat) = 620 from rfl)
 clear hb1 hb2
 have HF:=hQ_ hF
 have hmax:=hF.max
 clear hF
 have HV:=hQ_ (fun (W : World) (j : Nat) (hT : Tp W p A n c l j) (hF : Fns W p FA fn fc fl) => (uI_ (p:=p) (A:=A) (n:=n) (c:=c) (l:=l) (FA:=FA) (fn:=fn) (fc:=fc) (fl:=fl) 2 (by omega)) 2 W j (by omega) (by omega) hT hF)
 have HU:=hQ_ (fun (W : World) (j : Nat) (hT : Tp W p A n c l j) (hF : Fns W p FA fn fc fl) => (uI_ (p:=p) (A:=A) (n:=n) (c:=c) (l:=l) (FA:=FA) (fn:=fn) (fc:=fc) (fl:=fl) 1 (by omega)) 1 W j (by omega) (by omega) hT hF)
 go_enter Tryz.func35,Tryz.ntmps35
 go_wp2_with fail
 refine (zH_ hT 9 (by omega) (by omega)).mono ?_
 rintro e w1 ⟨r,a1,hr,rfl,hT1,hc1⟩
 have HC1:=hQ_ hc1
 have HF1:=hQ_ (HF.out.keep hc1)
 have HT1:=hQ_ hT1
 have hp1:=hT1.lt
 clear hc1 hT1 hT
 by_cases h3 : r < 3
 · have q14 : decide ((r : Int) < 3) = true:=by simp; omega
   go_wp2_with fail
   refine (HV.out w1 _ HT1.out HF1.out).mono ?_
   rintro e w2 ⟨s1,rfl,hs1,⟨j2,hT2⟩,hc2⟩
   replace hs1 : s1.size ≤ 620:=hs1
   have HT2:=hQ_ hT2
   have HF2:=hQ_ (HF1.out.keep hc2)
   have HC2:=hQ_ (HC1.out.trans hc2)
   have hp2:=hT2.lt
   clear hT2 hc2
   go_wp2_with fail
   refine (zH_ HT2.out 4 (by omega) (by omega)).mono ?_
   rintro e w3 ⟨x1,j3,hx1,rfl,hT3,hc3⟩
   have HT3:=hQ_ hT3
   have HF3:=hQ_ (HF2.out.keep hc3)
   have HC3:=hQ_ (HC2.out.trans hc3)
   have hp3:=hT3.lt
   clear hT3 hc3
   have he1:=z4_ (65 + (x1 : Int))
   obtain ⟨y1,hy1,haddy1⟩:=xs_ s1 (Utf8.encode (65 + (x1 : Int))) 620 4 hs1 he1 (by have:=HB1.out; have:=HB3.out; omega)
   have haddy1:=haddy1 w3
   go_wp2_with fail
   go_ret
   exact ⟨y1,rfl,by have:=HB2.out; have:=HB3.out; omega,⟨_,HT3.out⟩,HC3.out⟩
 · have q14 : decide ((r : Int) < 3) = false:=by simp; omega
   by_cases h5 : r < 5
   · have q26 : decide ((r : Int) < 5) = true:=by simp; omega
     go_wp2_with fail
     refine (zH_ HT1.out 190 (by omega) (by omega)).mono ?_
     rintro e w2 ⟨x1,j2,hx1,rfl,hT2,hc2⟩
     have HT2:=hQ_ hT2
     have HF2:=hQ_ (HF1.out.keep hc2)
     have HC2:=hQ_ (HC1.out.trans hc2)
     have hp2:=hT2.lt
     clear hT2 hc2
     go_wp2_with fail
     refine (xE_ 2 x1 (by omega) (by omega) w2).mono ?_
     rintro e w3 ⟨s1,rfl,hs1,hc3⟩
     replace hs1 : s1.size ≤ 12:=hs1
     have hT3:=HT2.out.keep hc3
     replace hc3:=hc3.sub (T':=[p]) (by simp)
     have HT3:=hQ_ hT3
     have HF3:=hQ_ (HF2.out.keep hc3)
     have HC3:=hQ_ (HC2.out.trans hc3)
     have hp3:=hT3.lt
     clear hT3 hc3
     obtain ⟨y1,hy1,haddy1⟩:=xs_ ⟨#[32]⟩ s1 1 12 (by decide) hs1 (by have:=HB1.out; have:=HB3.out; omega)
     have haddy1:=haddy1 w3
     go_wp2_with fail
     refine (HV.out w3 _ HT3.out HF3.out).mono ?_
     rintro e w4 ⟨s2,rfl,hs2,⟨j4,hT4⟩,hc4⟩
     replace hs2 : s2.size ≤ 620:=hs2
     have HT4:=hQ_ hT4
     have HF4:=hQ_ (HF3.out.keep hc4)
     have HC4:=hQ_ (HC3.out.trans hc4)
     have hp4:=hT4.lt
     clear hT4 hc4
     obtain ⟨y2,hy2,haddy2⟩:=xs_ y1 s2 13 620 hy1 hs2 (by have:=HB1.out; have:=HB3.out; omega)
     have haddy2:=haddy2 w4
     have hG:=zb_.new w4 9 thV
     have hal : Chg [] w4 (w4.alloc (.cells thV.toArray 9)):=(Chg.refl [] w4).alloc _
     have HTa:=hQ_ (HT4.out.keep hal)
     have HCa:=hQ_ (HC4.out.trans (hal.sub (T':=[p]) (by simp)))
     have HFa:=hQ_ (HF4.out.keep (hal.sub (T':=[p]) (by simp)))
     have hgp : w4.heap.size ≠ p:=by omega
     clear hal
     go_wp2_with fail
     refine (zH_ HTa.out 2 (by omega) (by omega)).mono ?_
     rintro e w5 ⟨r3,j5,hr3,rfl,hT5,hc5⟩
     have hG3:=hG.chg hc5 (by simpa using hgp)
     obtain ⟨u,hu,s,rfl,hs⟩:=vr_ zdQ r3 (by exact hr3)
     have c3:=(hG3.cell r3).trans hu
     have HT5:=hQ_ hT5
     have HC5:=hQ_ (HCa.out.trans hc5)
     have HF5:=hQ_ (HFa.out.keep hc5)
     have hp5:=hT5.lt
     clear hG hG3 hc5 hT5 hu HTa HCa HFa
     obtain ⟨y3,hy3,haddy3⟩:=xs_ y2 s 633 3 hy2 hs (by have:=HB1.out; have:=HB3.out; omega)
     have haddy3:=haddy3 w5
     go_wp2_with fail
     go_ret
     exact ⟨y3,rfl,by have:=HB2.out; have:=HB3.out; omega,⟨_,HT5.out⟩,HC5.out⟩
   · have q26 : decide ((r : Int) < 5) = false:=by simp; omega
     by_cases h7 : r = 7 ∨ r = 8 ∨ deep ≤ 0
     · by_cases hr7 : r = 7
       · have q43 : ((r : Int) == 5) = false:=by simp; omega
         have q74 : ((r : Int) == 6) = false:=by simp; omega
         have q115 : ((r : Int) == 7) = true:=by simp; omega
         go_upto_region 13 with fail
         go_wp2_with fail
         refine (HV.out w1 _ HT1.out HF1.out).mono ?_
         rintro e w2 ⟨s1,rfl,hs1,⟨j2,hT2⟩,hc2⟩
         replace hs1 : s1.size ≤ 620:=hs1
         have HT2:=hQ_ hT2
         have HF2:=hQ_ (HF1.out.keep hc2)
         have HC2:=hQ_ (HC1.out.trans hc2)
         have hp2:=hT2.lt
         clear hT2 hc2
         obtain ⟨y1,hy1,haddy1⟩:=xs_ s1 ⟨#[44]⟩ 620 1 hs1 (by decide) (by have:=HB1.out; have:=HB3.out; omega)
         have haddy1:=haddy1 w2
         have hG:=zb_.new w2 9 haV
         have hal : Chg [] w2 (w2.alloc (.cells haV.toArray 9)):=(Chg.refl [] w2).alloc _
         have HTa:=hQ_ (HT2.out.keep hal)
         have HCa:=hQ_ (HC2.out.trans (hal.sub (T':=[p]) (by simp)))
         have hgp : w2.heap.size ≠ p:=by omega
         clear hal
         go_wp2_with fail
         refine (zH_ HTa.out 9 (by omega) (by omega)).mono ?_
         rintro e w3 ⟨r3,j3,hr3,rfl,hT3,hc3⟩
         have hG3:=hG.chg hc3 (by simpa using hgp)
         obtain ⟨r4,hr4⟩ : ∃ r4,r4 = r3 / 8:=⟨_,rfl⟩
         have hr42 : r4 < 2:=by omega
         have hq8 : (r3 : Int).tdiv 8 = (r4 : Int):=by rw [hr4]; rfl
         obtain ⟨u,hu,s,rfl,hs⟩:=vr_ zeD r4 (by exact hr42)
         have c3:=(hG3.cell r4).trans hu
         have HT3:=hQ_ hT3
         have HC3:=hQ_ (HCa.out.trans hc3)
         clear hG hG3 hc3 hT3 hu HTa HCa hr4
         have hr4I : (r4 : Int) < 2:=by omega
         obtain ⟨y2,hy2,haddy2⟩:=xs_ y1 s 621 3 hy1 hs (by have:=HB1.out; have:=HB3.out; omega)
         have haddy2:=haddy2 w3
         go_wp2_with fail
         go_ret
         exact ⟨y2,rfl,by have:=HB2.out; have:=HB3.out; omega,⟨_,HT3.out⟩,HC3.out⟩
       · have q115 : ((r : Int) == 7) = false:=by simp; omega
         have qdp : ¬ r = 8 → decide ((0 : Int) < deep) = false:=fun h => by simp; omega
         by_cases h55 : r = 5
         · have q43 : ((r : Int) == 5) = true:=by simp; omega
           have q74 : ((r : Int) == 6) = false:=by simp; omega
           have qdq:=qdp (by omega)
           clear qdp h7
           go_upto_region 14 with fail
           go_wp2_with fail
           refine (HU.out w1 _ HT1.out HF1.out).mono ?_
           rintro e w2 ⟨s1,rfl,hs1,⟨j2,hT2⟩,hc2⟩
           replace hs1 : s1.size ≤ 200:=hs1
           have HT2:=hQ_ hT2
           have HF2:=hQ_ (HF1.out.keep hc2)
           have HC2:=hQ_ (HC1.out.trans hc2)
           have hp2:=hT2.lt
           clear hT2 hc2
           obtain ⟨y1,hy1,haddy1⟩:=xs_ s1 ⟨#[90]⟩ 200 1 hs1 (by decide) (by have:=HB1.out; have:=HB3.out; omega)
           have haddy1:=haddy1 w2
           go_wp2_with fail
           go_ret
           exact ⟨y1,rfl,by have:=HB2.out; have:=HB3.out; omega,⟨_,HT2.out⟩,HC2.out⟩
         · have q43 : ((r : Int) == 5) = false:=by simp; omega
           by_cases h66 : r = 6
           · have q74 : ((r : Int) == 6) = true:=by simp; omega
             have qdq:=qdp (by omega)
             clear qdp h7
             go_upto_region 14 with fail
             go_wp2_with fail
             refine (HU.out w1 _ HT1.out HF1.out).mono ?_
             rintro e w2 ⟨s1,rfl,hs1,⟨j2,hT2⟩,hc2⟩
             replace hs1 : s1.size ≤ 200:=hs1
             have HT2:=hQ_ hT2
             have HF2:=hQ_ (HF1.out.keep hc2)
             have HC2:=hQ_ (HC1.out.trans hc2)
             have hp2:=hT2.lt
             clear hT2 hc2
             obtain ⟨y1,hy1,haddy1⟩:=xs_ s1 ⟨#[90]⟩ 200 1 hs1 (by decide) (by have:=HB1.out; have:=HB3.out; omega)
             have haddy1:=haddy1 w2
             go_wp2_with fail
             go_ret
             exact ⟨y1,rfl,by have:=HB2.out; have:=HB3.out; omega,⟨_,HT2.out⟩,HC2.out⟩
           · have q74 : ((r : Int) == 6) = false:=by simp; omega
             clear qdp h7
             go_upto_region 14 with fail
             go_wp2_with fail
             refine (HU.out w1 _ HT1.out HF1.out).mono ?_
             rintro e w2 ⟨s1,rfl,hs1,⟨j2,hT2⟩,hc2⟩
             replace hs1 : s1.size ≤ 200:=hs1
             have HT2:=hQ_ hT2
             have HF2:=hQ_ (HF1.out.keep hc2)
             have HC2:=hQ_ (HC1.out.trans hc2)
             have hp2:=hT2.lt
             clear hT2 hc2
             obtain ⟨y1,hy1,haddy1⟩:=xs_ s1 ⟨#[90]⟩ 200 1 hs1 (by decide) (by have:=HB1.out; have:=HB3.out; omega)
             have haddy1:=haddy1 w2
             go_wp2_with fail
             go_ret
             exact ⟨y1,rfl,by have:=HB2.out; have:=HB3.out; omega,⟨_,HT2.out⟩,HC2.out⟩
     · obtain ⟨d,rfl⟩ : ∃ x,d = x + 1:=⟨d - 1,by omega⟩
       have HD:=hQ_ (IH d (by omega))
       have HB4:=hQ_ (show db (d + 1) = 2 * db d + 1000 from rfl)
       have HB3:=HB4
       clear IH
       have hdp : decide ((0 : Int) < deep) = true:=by simp; omega
       by_cases h55 : r = 5
       · have q43 : ((r : Int) == 5) = true:=by simp; omega
         go_wp2_with fail
         refine (HU.out w1 _ HT1.out HF1.out).mono ?_
         rintro e w2 ⟨s1,rfl,hs1,⟨j2,hT2⟩,hc2⟩
         replace hs1 : s1.size ≤ 200:=hs1
         have HT2:=hQ_ hT2
         have HF2:=hQ_ (HF1.out.keep hc2)
         have HC2:=hQ_ (HC1.out.trans hc2)
         have hp2:=hT2.lt
         clear hT2 hc2
         obtain ⟨y1,hy1,haddy1⟩:=xs_ s1 ⟨#[63]⟩ 200 1 hs1 (by decide) (by have:=HB1.out; have:=HB3.out; omega)
         have haddy1:=haddy1 w2
         go_wp2_with fail
         refine (HD.out (deep - 1) w2 _ (by omega) (by omega) HT2.out HF2.out).mono ?_
         rintro e w3 ⟨s2,rfl,hs2,⟨j3,hT3⟩,hc3⟩
         have HT3:=hQ_ hT3
         have HF3:=hQ_ (HF2.out.keep hc3)
         have HC3:=hQ_ (HC2.out.trans hc3)
         have hp3:=hT3.lt
         clear hT3 hc3
         go_wp2_with fail
         refine (q1_ s2 w3 (by have:=HB1.out; have:=HB3.out; omega)).mono ?_
         rintro e wl ⟨t2,rfl,ht2,hwl⟩
         subst hwl
         replace ht2 : t2.size ≤ db d:=Nat.le_trans ht2 hs2
         obtain ⟨y2,hy2,haddy2⟩:=xs_ y1 t2 201 (db d) hy1 ht2 (by have:=HB1.out; have:=HB3.out; omega)
         have haddy2:=haddy2 w3
         go_wp2_with fail
         refine (HD.out (deep - 1) w3 _ (by omega) (by omega) HT3.out HF3.out).mono ?_
         rintro e w4 ⟨s3,rfl,hs3,⟨j4,hT4⟩,hc4⟩
         have HT4:=hQ_ hT4
         have HF4:=hQ_ (HF3.out.keep hc4)
         have HC4:=hQ_ (HC3.out.trans hc4)
         have hp4:=hT4.lt
         clear hT4 hc4
         obtain ⟨y3,hy3,haddy3⟩:=xs_ ⟨#[58]⟩ s3 1 (db d) (by decide) hs3 (by have:=HB1.out; have:=HB3.out; omega)
         have haddy3:=haddy3 w4
         obtain ⟨y4,hy4,haddy4⟩:=xs_ y3 ⟨#[59]⟩ (1 + db d) 1 hy3 (by decide) (by have:=HB1.out; have:=HB3.out; omega)
         have haddy4:=haddy4 w4
         have hen:=zeG y4 (1 + db d + 1 + 2) (by omega) (by omega)
         have hG:=zb_.new w4 9 [.string ⟨#[59]⟩,.string y4,.string ⟨#[58,194,161,59]⟩]
         have hal : Chg [] w4 (w4.alloc (.cells [.string ⟨#[59]⟩,.string y4,.string ⟨#[58,194,161,59]⟩].toArray 9)):=(Chg.refl [] w4).alloc _
         have HTa:=hQ_ (HT4.out.keep hal)
         have HCa:=hQ_ (HC4.out.trans (hal.sub (T':=[p]) (by simp)))
         have HFa:=hQ_ (HF4.out.keep (hal.sub (T':=[p]) (by simp)))
         have hgp : w4.heap.size ≠ p:=by omega
         clear hal
         go_wp2_with fail
         refine (zH_ HTa.out 3 (by omega) (by omega)).mono ?_
         rintro e w5 ⟨r3,j5,hr3,rfl,hT5,hc5⟩
         have hG3:=hG.chg hc5 (by simpa using hgp)
         obtain ⟨u,hu,s,rfl,hs⟩:=vr_ hen r3 (by exact hr3)
         have c3:=(hG3.cell r3).trans hu
         have HT5:=hQ_ hT5
         have HC5:=hQ_ (HCa.out.trans hc5)
         have HF5:=hQ_ (HFa.out.keep hc5)
         have hp5:=hT5.lt
         clear hG hG3 hc5 hT5 hu HTa HCa HFa
         obtain ⟨y5,hy5,haddy5⟩:=xs_ y2 s (201 + db d) (1 + db d + 1 + 2) hy2 hs (by have:=HB1.out; have:=HB3.out; omega)
         have haddy5:=haddy5 w5
         go_wp2_with fail
         go_ret
         exact ⟨y5,rfl,by have:=HB4.out; omega,⟨_,HT5.out⟩,HC5.out⟩
       · have q43 : ((r : Int) == 5) = false:=by simp; omega
         have q74 : ((r : Int) == 6) = true:=by simp; omega
         go_upto_region 9 with fail
         go_wp2_with fail
         refine (zH_ HT1.out 3 (by omega) (by omega)).mono ?_
         rintro e w2 ⟨x1,j2,hx1,rfl,hT2,hc2⟩
         have HT2:=hQ_ hT2
         have HF2:=hQ_ (HF1.out.keep hc2)
         have HC2:=hQ_ (HC1.out.trans hc2)
         have hp2:=hT2.lt
         clear hT2 hc2
         obtain ⟨b,hb,hb1,hb2⟩:=xyz x1 hx1
         go_upto_region 10 with fail
         go_upto_region 11 with fail
         generalize hup : Utf8.encode (_ % 256) = up
         have hu4 : up.size ≤ 4:=by rw [← hup]; exact z4_ _
         clear hup hb
         go_wp2_with fail
         refine (zH_ HT2.out 5 (by omega) (by omega)).mono ?_
         rintro e w3 ⟨x2,j3,hx2,rfl,hT3,hc3⟩
         have HT3:=hQ_ hT3
         have HF3:=hQ_ (HF2.out.keep hc3)
         have HC3:=hQ_ (HC2.out.trans hc3)
         have hp3:=hT3.lt
         clear hT3 hc3
         go_wp2_with fail
         refine (xE_ 2 (1 + x2) (by omega) (by omega) w3).mono ?_
         rintro e w4 ⟨s1,rfl,hs1,hc4⟩
         replace hs1 : s1.size ≤ 12:=hs1
         have hT4:=HT3.out.keep hc4
         replace hc4:=hc4.sub (T':=[p]) (by simp)
         have HT4:=hQ_ hT4
         have HF4:=hQ_ (HF3.out.keep hc4)
         have HC4:=hQ_ (HC3.out.trans hc4)
         have hp4:=hT4.lt
         clear hT4 hc4
         obtain ⟨y1,hy1,haddy1⟩:=xs_ ⟨#[32]⟩ s1 1 12 (by decide) hs1 (by have:=HB1.out; have:=HB3.out; omega)
         have haddy1:=haddy1 w4
         obtain ⟨y2,hy2,haddy2⟩:=xs_ y1 up 13 4 hy1 hu4 (by have:=HB1.out; have:=HB3.out; omega)
         have haddy2:=haddy2 w4
         obtain ⟨y3,hy3,haddy3⟩:=xs_ y2 ⟨#[91]⟩ 17 1 hy2 (by decide) (by have:=HB1.out; have:=HB3.out; omega)
         have haddy3:=haddy3 w4
         obtain ⟨y4,hy4,haddy4⟩:=xs_ y3 ⟨#[b]⟩ 18 1 hy3 (Nat.le_refl 1) (by have:=HB1.out; have:=HB3.out; omega)
         have haddy4:=haddy4 w4
         obtain ⟨y5,hy5,haddy5⟩:=xs_ y4 ⟨#[33,63,126,59]⟩ 19 4 hy4 (by decide) (by have:=HB1.out; have:=HB3.out; omega)
         have haddy5:=haddy5 w4
         go_wp2_with fail
         refine (HD.out (deep - 1) w4 _ (by omega) (by omega) HT4.out HF4.out).mono ?_
         rintro e w5 ⟨s2,rfl,hs2,⟨j5,hT5⟩,hc5⟩
         have HT5:=hQ_ hT5
         have HF5:=hQ_ (HF4.out.keep hc5)
         have HC5:=hQ_ (HC4.out.trans hc5)
         have hp5:=hT5.lt
         clear hT5 hc5
         go_wp2_with fail
         refine (q1_ s2 w5 (by have:=HB1.out; have:=HB3.out; omega)).mono ?_
         rintro e wl ⟨t2,rfl,ht2,hwl⟩
         subst hwl
         replace ht2 : t2.size ≤ db d:=Nat.le_trans ht2 hs2
         obtain ⟨y6,hy6,haddy6⟩:=xs_ y5 t2 23 (db d) hy5 ht2 (by have:=HB1.out; have:=HB3.out; omega)
         have haddy6:=haddy6 w5
         obtain ⟨y7,hy7,haddy7⟩:=xs_ y6 ⟨#[b]⟩ (23 + db d) 1 hy6 (Nat.le_refl 1) (by have:=HB1.out; have:=HB3.out; omega)
         have haddy7:=haddy7 w5
         obtain ⟨y8,hy8,haddy8⟩:=xs_ y7 ⟨#[32,49,45]⟩ (24 + db d) 3 (by omega) (by decide) (by have:=HB1.out; have:=HB3.out; omega)
         have haddy8:=haddy8 w5
         obtain ⟨y9,hy9,haddy9⟩:=xs_ y8 up (27 + db d) 4 (by omega) hu4 (by have:=HB1.out; have:=HB3.out; omega)
         have haddy9:=haddy9 w5
         obtain ⟨ya,hya,haddya⟩:=xs_ y9 ⟨#[93]⟩ (31 + db d) 1 (by omega) (by decide) (by have:=HB1.out; have:=HB3.out; omega)
         have haddya:=haddya w5
         go_wp2_with fail
         go_ret
         exact ⟨ya,rfl,by have:=HB4.out; omega,⟨_,HT5.out⟩,HC5.out⟩
theorem zdp : ∀ d : Nat,d ≤ 3 → zcu p A n c l FA fn fc fl d:=by
 intro d
 induction d using Nat.strongRecOn with
 | _ d ih => exact fun hd => zcg d hd fun d' h => ih d' h (by omega)
end
end Go.Proofs.YtbkfhndmeljlcaaGreatDoor
