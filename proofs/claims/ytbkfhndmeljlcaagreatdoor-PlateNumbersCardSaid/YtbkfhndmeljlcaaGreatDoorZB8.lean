import Derived.Test.YtbkfhndmeljlcaaGreatDoorZB7
set_option maxRecDepth 100000
set_option maxHeartbeats 16000000
namespace Go.Proofs.YtbkfhndmeljlcaaGreatDoor
open Go.RowKit
section
variable {w : World} {A : Option Addr} {n c : Nat} {l : List FnV} {pages most : Int}
theorem j3_ (h : Fnr w A n c l) (name : Int) : Calls Tryz.prog 82 #[z2_ pages most A n c,.int .i32 name] w (vj_ (xC_ l name) w):=by
 unfold z2_
 have hmax:=h.max
 have H:=hQ_ h
 have HL:=hQ_ h.len
 have HI:=hQ_ (show yU_ name l 0 = yU_ name (l.drop 0) 0 from rfl)
 have HN:=hQ_ (show xC_ l name = match yU_ name l 0 with | some k => (k : Int) | none => -1 from rfl)
 generalize xC_ l name = fi at HN ⊢
 clear h
 go_enter Tryz.func82,Tryz.ntmps82
 go_upto_region 1 with fail
 have hN:=zb_.new w 24 [.int .i64 pages,.int .i64 most,.slice A n c]
 have hal : Chg [] w (w.alloc (.cells #[.int .i64 pages,.int .i64 most,.slice A n c] 24)):=(Chg.refl [] w).alloc _
 have c2:=hN.cell 2
 have HC:=hQ_ hal
 have HF:=hQ_ (H.out.keep hal)
 obtain ⟨g,hg⟩ : ∃ g,g = w.heap.size:=⟨_,rfl⟩
 rw [← hg] at c2 ⊢
 generalize w.alloc (.cells #[.int .i64 pages,.int .i64 most,.slice A n c] 24) = w1 at c2 HC HF ⊢
 clear hN hal hg
 go_wp2_with fail
 go_loopw [10] (fun i wr => ∃ k : Nat,i = .int .i64 (k : Int) ∧ k ≤ n ∧ Hid (yU_ name l 0 = yU_ name (l.drop k) k) ∧ Hid (Chg [] w1 wr)) (fun i _ => n - (intOf i).toNat)
 case atStart => exact ⟨0,rfl,by omega,HI,hQ_ (Chg.refl [] _)⟩
 case round =>
  obtain ⟨k,rfl,hk,HK,HCr⟩:=hrel
  by_cases hkn : k < n
  · have hkI : (k : Int) < (n : Int):=by omega
    obtain ⟨t,htk⟩ : ∃ t,l[k]? = some t:=⟨l[k]'(by rw [HF.out.len]; exact hkn),by simp⟩
    have HD:=hQ_ (show l.drop k = t :: l.drop (k + 1) from List.drop_eq_getElem?_toList_append.trans (by rw [htk]; rfl))
    obtain ⟨fb,fo,rfl,hfbl,e0,e1,e2⟩:=(HF.out.keep HCr.out).cell htk
    obtain ⟨tn,ta,tc⟩:=t
    simp only at e0 e1 e2
    clear htk
    go_upto_region 4 with fail
    have hX:=zb_.new wr 58 [.int .i32 tn,.int .i64 ta,.string tc]
    have x0:=hX.cell 0
    have HC2:=hQ_ (HCr.out.new ((Chg.refl [] wr).alloc (.cells #[.int .i32 tn,.int .i64 ta,.string tc] 58)))
    generalize wr.heap.size = gx at x0 ⊢
    generalize wr.alloc (.cells #[.int .i32 tn,.int .i64 ta,.string tc] 58) = w3 at x0 HC2 ⊢
    clear hX e0 e1 e2 hfbl HCr
    by_cases hnm : tn = name
    · have hq : (tn == name) = true:=by simpa using hnm
      have HP:=hQ_ (show vj_ fi w (.returned (.int .i64 (k : Int))) w3 from ⟨by rw [HN.out,HK.out,HD.out,yU_,if_pos hnm],HC.out.new HC2.out⟩)
      clear hnm
      go_wp2_with fail
      go_ret
      exact HP.out
    · have hq : (tn == name) = false:=by simpa using hnm
      have HK2:=hQ_ (show yU_ name l 0 = yU_ name (l.drop (k + 1)) (k + 1) from by rw [HK.out,HD.out,yU_,if_neg hnm])
      go_wp2_with fail
      go_roundw
      case rel => exact ⟨k + 1,by go_num,by omega,HK2,HC2⟩
      case measure => simp [intOf]; omega
  · have hkI : (n : Int) ≤ (k : Int):=by omega
    have HP:=hQ_ (show vj_ fi w (.returned (.int .i64 (-1))) wr from ⟨by rw [HN.out,HK.out,List.drop_eq_nil_of_le (by rw [HL.out]; omega)]; rfl,HC.out.new HCr.out⟩)
    go_wp2_with fail
    go_ret
    exact HP.out
theorem zak (h : Fnr w A n c l) (name : Int) : Calls Tryz.prog 133 #[z2_ pages most A n c,.int .i32 name] w (zj_ (xF_ l name) w):=by
 unfold z2_
 have hmax:=h.max
 have H:=hQ_ h
 clear h
 go_enter Tryz.func133,Tryz.ntmps133
 go_upto_region 1 with fail
 have hN:=zb_.new w 24 [.int .i64 pages,.int .i64 most,.slice A n c]
 have hal : Chg [] w (w.alloc (.cells #[.int .i64 pages,.int .i64 most,.slice A n c] 24)):=(Chg.refl [] w).alloc _
 obtain ⟨g,hg⟩ : ∃ g,g = w.heap.size:=⟨_,rfl⟩
 rw [← hg] at hN ⊢
 have HU:=hQ_ hN
 have HC:=hQ_ hal
 have HF:=hQ_ (H.out.keep hal)
 generalize w.alloc (.cells #[.int .i64 pages,.int .i64 most,.slice A n c] 24) = w1 at HU HC HF ⊢
 clear hN hal hg
 have c0:=HU.out.cell 0
 have c1:=HU.out.cell 1
 have c2:=HU.out.cell 2
 go_wp2_with fail
 refine (j3_ HF.out name).mono ?_
 rintro e w2 ⟨rfl,hc2⟩
 have HU2:=hQ_ (HU.out.keep hc2)
 have HF2:=hQ_ (HF.out.keep hc2)
 have HC2:=hQ_ (HC.out.new hc2)
 clear hc2 c0 c1 c2
 have c2:=HU2.out.cell 2
 cases hk : yU_ name l 0 with
 | none =>
   have HP:=hQ_ (show zj_ (xF_ l name) w (.returned (.tuple #[.int .i64 ((0 : Nat) : Int),.int .i64 ((0 : Nat) : Int),.bool false])) w2 from zk_ 0 0 false (by unfold xF_; rw [hk]; rfl) HC2.out)
   rw [show xC_ l name = -1 from by unfold xC_; rw [hk]]
   clear hk
   go_wp2_with fail
   go_ret3
   exact HP.out
 | some k =>
   rw [show xC_ l name = (k : Int) from by unfold xC_; rw [hk]]
   obtain ⟨f,_,hf,hfn⟩:=ja_ hk
   rw [Nat.sub_zero] at hf
   have hkn : k < n:=by have:=(List.getElem?_eq_some_iff.1 hf).1; have:=HF2.out.len; omega
   have hkI : (k : Int) < (n : Int):=by omega
   have hk0 : ¬ (k : Int) < 0:=by omega
   have hk0d : decide ((k : Int) < 0) = false:=by simp
   obtain ⟨fb,fo,rfl,hfbl,e0,e1,e2⟩:=HF2.out.cell hf
   obtain ⟨fn,fa,fc⟩:=f
   simp only at e0 e1 e2
   have HCA:=hQ_ (show xF_ l name = if 0 ≤ fa ∧ fa ≤ 4 then (fa,1,true) else (0,0,false) from by unfold xF_; rw [hk]; simp only; rw [hf])
   clear hk hf hfn e0 e2
   by_cases h0 : 0 ≤ fa
   · by_cases h4 : fa ≤ 4
     · obtain ⟨a,rfl⟩ : ∃ a : Nat,fa = (a : Int):=⟨fa.toNat,by omega⟩
       have d0 : decide ((a : Int) < 0) = false:=by simp
       have d4 : decide (4 < (a : Int)) = false:=by simp; omega
       have HP:=hQ_ (show zj_ (xF_ l name) w (.returned (.tuple #[.int .i64 ((a : Nat) : Int),.int .i64 ((1 : Nat) : Int),.bool true])) w2 from zk_ a 1 true (by rw [HCA.out,if_pos ⟨h0,h4⟩]; rfl) HC2.out)
       clear h0
       go_wp2_with fail
       go_ret3
       exact HP.out
     · have d0 : decide (fa < 0) = false:=by simp; omega
       have d4 : decide (4 < fa) = true:=by simp; omega
       have h4' : 4 < fa:=by omega
       have HP:=hQ_ (show zj_ (xF_ l name) w (.returned (.tuple #[.int .i64 ((0 : Nat) : Int),.int .i64 ((0 : Nat) : Int),.bool false])) w2 from zk_ 0 0 false (by rw [HCA.out,if_neg (fun h => h4 h.2)]; rfl) HC2.out)
       clear h4
       go_wp2_with fail
       go_ret3
       exact HP.out
   · have d0 : decide (fa < 0) = true:=by simp; omega
     have h0' : fa < 0:=by omega
     have HP:=hQ_ (show zj_ (xF_ l name) w (.returned (.tuple #[.int .i64 ((0 : Nat) : Int),.int .i64 ((0 : Nat) : Int),.bool false])) w2 from zk_ 0 0 false (by rw [HCA.out,if_neg (fun h => h0 h.1)]; rfl) HC2.out)
     clear h0
     go_wp2_with fail
     go_ret3
     exact HP.out
theorem qr_ {l : List Nat} {r : Int} (h : ∀ x ∈ l,r ≠ (x : Int)) : inL l r = false:=by
 unfold inL
 rw [Bool.eq_false_iff]
 intro ht
 obtain ⟨x,hx,e⟩:=List.any_eq_true.1 ht
 exact h x hx (by have:=of_decide_eq_true e; exact this.symm)
theorem zal (h : Fnr w A n c l) (t : TkV) : Calls Tryz.prog 120 #[z2_ pages most A n c,.agg (tkC t).toArray] w (zj_ (zV_ l t.sign t.name) w):=by
 unfold z2_
 obtain ⟨r,tn,nm⟩:=t
 simp only [tkC]
 have H:=hQ_ h
 clear h
 obtain ⟨R,hR⟩ : ∃ R,R = zV_ l r nm:=⟨_,rfl⟩
 rw [← hR]
 have HR:=hQ_ hR
 clear hR
 go_enter Tryz.func120,Tryz.ntmps120
 go_upto_region 1 with fail
 have hN:=zb_.new w 24 [.int .i64 pages,.int .i64 most,.slice A n c]
 have hal : Chg [] w (w.alloc (.cells #[.int .i64 pages,.int .i64 most,.slice A n c] 24)):=(Chg.refl [] w).alloc _
 have hsz : (w.alloc (.cells #[.int .i64 pages,.int .i64 most,.slice A n c] 24)).heap.size = w.heap.size + 1:=Array.size_push _
 obtain ⟨w1,hw1⟩ : ∃ w1,w1 = w.alloc (.cells #[.int .i64 pages,.int .i64 most,.slice A n c] 24):=⟨_,rfl⟩
 rw [← hw1] at hN hal hsz ⊢
 have hN2:=zb_.new w1 110 [.int .i32 r,.int .i64 tn,.int .i32 nm]
 have hal2 : Chg [] w1 (w1.alloc (.cells #[.int .i32 r,.int .i64 tn,.int .i32 nm] 110)):=(Chg.refl [] w1).alloc _
 rw [hsz] at hN2
 have hU2:=hN.keep hal2
 have hc:=hal.trans hal2
 generalize w1.alloc (.cells #[.int .i32 r,.int .i64 tn,.int .i32 nm] 110) = w2 at hN2 hU2 hc ⊢
 have HF2:=hQ_ (H.out.keep hc)
 generalize w.heap.size = g at hU2 hN2 ⊢
 have HU2:=hQ_ hU2
 have HT2:=hQ_ hN2
 have HC2:=hQ_ hc
 clear hN hal hsz hw1 hN2 hal2 hU2 hc
 have t0:=HT2.out.cell 0
 have t2:=HT2.out.cell 2
 have u0:=HU2.out.cell 0
 have u1:=HU2.out.cell 1
 have u2:=HU2.out.cell 2
 go_upto_region 2 with fail
 by_cases h33 : r = 33
 · subst h33
   have HP:=hQ_ (show zj_ R w (.returned (.tuple #[.int .i64 ((1 : Nat) : Int),.int .i64 ((1 : Nat) : Int),.bool true])) w2 from zk_ 1 1 true (by rw [HR.out]; rfl) HC2.out)
   go_wp2_with fail
   go_ret3
   exact HP.out
 have q33 : (r == 33) = false:=by simpa using h33
 by_cases h35 : r = 35
 · subst h35
   have HP:=hQ_ (show zj_ R w (.returned (.tuple #[.int .i64 ((0 : Nat) : Int),.int .i64 ((1 : Nat) : Int),.bool true])) w2 from zk_ 0 1 true (by rw [HR.out]; rfl) HC2.out)
   go_wp2_with fail
   go_ret3
   exact HP.out
 have q35 : (r == 35) = false:=by simpa using h35
 by_cases h36 : r = 36
 · subst h36
   have HP:=hQ_ (show zj_ R w (.returned (.tuple #[.int .i64 ((2 : Nat) : Int),.int .i64 ((0 : Nat) : Int),.bool true])) w2 from zk_ 2 0 true (by rw [HR.out]; rfl) HC2.out)
   go_wp2_with fail
   go_ret3
   exact HP.out
 have q36 : (r == 36) = false:=by simpa using h36
 by_cases h37 : r = 37
 · subst h37
   have HP:=hQ_ (show zj_ R w (.returned (.tuple #[.int .i64 ((2 : Nat) : Int),.int .i64 ((1 : Nat) : Int),.bool true])) w2 from zk_ 2 1 true (by rw [HR.out]; rfl) HC2.out)
   go_wp2_with fail
   go_ret3
   exact HP.out
 have q37 : (r == 37) = false:=by simpa using h37
 by_cases h38 : r = 38
 · subst h38
   have HP:=hQ_ (show zj_ R w (.returned (.tuple #[.int .i64 ((2 : Nat) : Int),.int .i64 ((1 : Nat) : Int),.bool true])) w2 from zk_ 2 1 true (by rw [HR.out]; rfl) HC2.out)
   go_wp2_with fail
   go_ret3
   exact HP.out
 have q38 : (r == 38) = false:=by simpa using h38
 by_cases h42 : r = 42
 · subst h42
   have HP:=hQ_ (show zj_ R w (.returned (.tuple #[.int .i64 ((2 : Nat) : Int),.int .i64 ((1 : Nat) : Int),.bool true])) w2 from zk_ 2 1 true (by rw [HR.out]; rfl) HC2.out)
   go_wp2_with fail
   go_ret3
   exact HP.out
 have q42 : (r == 42) = false:=by simpa using h42
 by_cases h43 : r = 43
 · subst h43
   have HP:=hQ_ (show zj_ R w (.returned (.tuple #[.int .i64 ((2 : Nat) : Int),.int .i64 ((1 : Nat) : Int),.bool true])) w2 from zk_ 2 1 true (by rw [HR.out]; rfl) HC2.out)
   go_wp2_with fail
   go_ret3
   exact HP.out
 have q43 : (r == 43) = false:=by simpa using h43
 by_cases h44 : r = 44
 · subst h44
   have HP:=hQ_ (show zj_ R w (.returned (.tuple #[.int .i64 ((1 : Nat) : Int),.int .i64 ((0 : Nat) : Int),.bool true])) w2 from zk_ 1 0 true (by rw [HR.out]; rfl) HC2.out)
   go_wp2_with fail
   go_ret3
   exact HP.out
 have q44 : (r == 44) = false:=by simpa using h44
 by_cases h45 : r = 45
 · subst h45
   have HP:=hQ_ (show zj_ R w (.returned (.tuple #[.int .i64 ((2 : Nat) : Int),.int .i64 ((1 : Nat) : Int),.bool true])) w2 from zk_ 2 1 true (by rw [HR.out]; rfl) HC2.out)
   go_wp2_with fail
   go_ret3
   exact HP.out
 have q45 : (r == 45) = false:=by simpa using h45
 by_cases h46 : r = 46
 · subst h46
   have HP:=hQ_ (show zj_ R w (.returned (.tuple #[.int .i64 ((1 : Nat) : Int),.int .i64 ((2 : Nat) : Int),.bool true])) w2 from zk_ 1 2 true (by rw [HR.out]; rfl) HC2.out)
   go_wp2_with fail
   go_ret3
   exact HP.out
 have q46 : (r == 46) = false:=by simpa using h46
 by_cases h47 : r = 47
 · subst h47
   have HP:=hQ_ (show zj_ R w (.returned (.tuple #[.int .i64 ((2 : Nat) : Int),.int .i64 ((1 : Nat) : Int),.bool true])) w2 from zk_ 2 1 true (by rw [HR.out]; rfl) HC2.out)
   go_wp2_with fail
   go_ret3
   exact HP.out
 have q47 : (r == 47) = false:=by simpa using h47
 by_cases h48 : r = 48
 · subst h48
   have HP:=hQ_ (show zj_ R w (.returned (.tuple #[.int .i64 ((0 : Nat) : Int),.int .i64 ((1 : Nat) : Int),.bool true])) w2 from zk_ 0 1 true (by rw [HR.out]; rfl) HC2.out)
   go_wp2_with fail
   go_ret3
   exact HP.out
 have q48 : (r == 48) = false:=by simpa using h48
 by_cases h58 : r = 58
 · subst h58
   have HP:=hQ_ (show zj_ R w (.returned (.tuple #[.int .i64 ((0 : Nat) : Int),.int .i64 ((0 : Nat) : Int),.bool true])) w2 from zk_ 0 0 true (by rw [HR.out]; rfl) HC2.out)
   go_wp2_with fail
   go_ret3
   exact HP.out
 have q58 : (r == 58) = false:=by simpa using h58
 by_cases h59 : r = 59
 · subst h59
   have HP:=hQ_ (show zj_ R w (.returned (.tuple #[.int .i64 ((0 : Nat) : Int),.int .i64 ((0 : Nat) : Int),.bool true])) w2 from zk_ 0 0 true (by rw [HR.out]; rfl) HC2.out)
   go_wp2_with fail
   go_ret3
   exact HP.out
 have q59 : (r == 59) = false:=by simpa using h59
 by_cases h60 : r = 60
 · subst h60
   have HP:=hQ_ (show zj_ R w (.returned (.tuple #[.int .i64 ((2 : Nat) : Int),.int .i64 ((1 : Nat) : Int),.bool true])) w2 from zk_ 2 1 true (by rw [HR.out]; rfl) HC2.out)
   go_wp2_with fail
   go_ret3
   exact HP.out
 have q60 : (r == 60) = false:=by simpa using h60
 by_cases h61 : r = 61
 · subst h61
   have HP:=hQ_ (show zj_ R w (.returned (.tuple #[.int .i64 ((2 : Nat) : Int),.int .i64 ((1 : Nat) : Int),.bool true])) w2 from zk_ 2 1 true (by rw [HR.out]; rfl) HC2.out)
   go_wp2_with fail
   go_ret3
   exact HP.out
 have q61 : (r == 61) = false:=by simpa using h61
 by_cases h63 : r = 63
 · subst h63
   have HP:=hQ_ (show zj_ R w (.returned (.tuple #[.int .i64 ((1 : Nat) : Int),.int .i64 ((0 : Nat) : Int),.bool true])) w2 from zk_ 1 0 true (by rw [HR.out]; rfl) HC2.out)
   go_wp2_with fail
   go_ret3
   exact HP.out
 have q63 : (r == 63) = false:=by simpa using h63
 by_cases h64 : r = 64
 · subst h64
   have HP:=hQ_ (show zj_ R w (.returned (.tuple #[.int .i64 ((1 : Nat) : Int),.int .i64 ((1 : Nat) : Int),.bool true])) w2 from zk_ 1 1 true (by rw [HR.out]; rfl) HC2.out)
   go_wp2_with fail
   go_ret3
   exact HP.out
 have q64 : (r == 64) = false:=by simpa using h64
 by_cases h91 : r = 91
 · subst h91
   have HP:=hQ_ (show zj_ R w (.returned (.tuple #[.int .i64 ((0 : Nat) : Int),.int .i64 ((0 : Nat) : Int),.bool true])) w2 from zk_ 0 0 true (by rw [HR.out]; rfl) HC2.out)
   go_wp2_with fail
   go_ret3
   exact HP.out
 have q91 : (r == 91) = false:=by simpa using h91
 by_cases h93 : r = 93
 · subst h93
   have HP:=hQ_ (show zj_ R w (.returned (.tuple #[.int .i64 ((0 : Nat) : Int),.int .i64 ((0 : Nat) : Int),.bool true])) w2 from zk_ 0 0 true (by rw [HR.out]; rfl) HC2.out)
   go_wp2_with fail
   go_ret3
   exact HP.out
 have q93 : (r == 93) = false:=by simpa using h93
 by_cases h94 : r = 94
 · subst h94
   have HP:=hQ_ (show zj_ R w (.returned (.tuple #[.int .i64 ((2 : Nat) : Int),.int .i64 ((1 : Nat) : Int),.bool true])) w2 from zk_ 2 1 true (by rw [HR.out]; rfl) HC2.out)
   go_wp2_with fail
   go_ret3
   exact HP.out
 have q94 : (r == 94) = false:=by simpa using h94
 by_cases h124 : r = 124
 · subst h124
   have HP:=hQ_ (show zj_ R w (.returned (.tuple #[.int .i64 ((2 : Nat) : Int),.int .i64 ((1 : Nat) : Int),.bool true])) w2 from zk_ 2 1 true (by rw [HR.out]; rfl) HC2.out)
   go_wp2_with fail
   go_ret3
   exact HP.out
 have q124 : (r == 124) = false:=by simpa using h124
 by_cases h126 : r = 126
 · subst h126
   have HP:=hQ_ (show zj_ R w (.returned (.tuple #[.int .i64 ((0 : Nat) : Int),.int .i64 ((0 : Nat) : Int),.bool true])) w2 from zk_ 0 0 true (by rw [HR.out]; rfl) HC2.out)
   go_wp2_with fail
   go_ret3
   exact HP.out
 have q126 : (r == 126) = false:=by simpa using h126
 by_cases h161 : r = 161
 · subst h161
   have HP:=hQ_ (show zj_ R w (.returned (.tuple #[.int .i64 ((0 : Nat) : Int),.int .i64 ((0 : Nat) : Int),.bool true])) w2 from zk_ 0 0 true (by rw [HR.out]; rfl) HC2.out)
   go_wp2_with fail
   go_ret3
   exact HP.out
 have q161 : (r == 161) = false:=by simpa using h161
 by_cases h164 : r = 164
 · subst h164
   have HP:=hQ_ (show zj_ R w (.returned (.tuple #[.int .i64 ((1 : Nat) : Int),.int .i64 ((1 : Nat) : Int),.bool true])) w2 from zk_ 1 1 true (by rw [HR.out]; rfl) HC2.out)
   go_wp2_with fail
   go_ret3
   exact HP.out
 have q164 : (r == 164) = false:=by simpa using h164
 by_cases h169 : r = 169
 · subst h169
   have HP:=hQ_ (show zj_ R w (.returned (.tuple #[.int .i64 ((1 : Nat) : Int),.int .i64 ((1 : Nat) : Int),.bool true])) w2 from zk_ 1 1 true (by rw [HR.out]; rfl) HC2.out)
   go_wp2_with fail
   go_ret3
   exact HP.out
 have q169 : (r == 169) = false:=by simpa using h169
 by_cases h171 : r = 171
 · subst h171
   have HP:=hQ_ (show zj_ R w (.returned (.tuple #[.int .i64 ((2 : Nat) : Int),.int .i64 ((1 : Nat) : Int),.bool true])) w2 from zk_ 2 1 true (by rw [HR.out]; rfl) HC2.out)
   go_wp2_with fail
   go_ret3
   exact HP.out
 have q171 : (r == 171) = false:=by simpa using h171
 by_cases h174 : r = 174
 · subst h174
   have HP:=hQ_ (show zj_ R w (.returned (.tuple #[.int .i64 ((2 : Nat) : Int),.int .i64 ((0 : Nat) : Int),.bool true])) w2 from zk_ 2 0 true (by rw [HR.out]; rfl) HC2.out)
   go_wp2_with fail
   go_ret3
   exact HP.out
 have q174 : (r == 174) = false:=by simpa using h174
 by_cases h187 : r = 187
 · subst h187
   have HP:=hQ_ (show zj_ R w (.returned (.tuple #[.int .i64 ((2 : Nat) : Int),.int .i64 ((1 : Nat) : Int),.bool true])) w2 from zk_ 2 1 true (by rw [HR.out]; rfl) HC2.out)
   go_wp2_with fail
   go_ret3
   exact HP.out
 have q187 : (r == 187) = false:=by simpa using h187
 by_cases h960 : r = 960
 · subst h960
   have HP:=hQ_ (show zj_ R w (.returned (.tuple #[.int .i64 ((1 : Nat) : Int),.int .i64 ((1 : Nat) : Int),.bool true])) w2 from zk_ 1 1 true (by rw [HR.out]; rfl) HC2.out)
   go_wp2_with fail
   go_ret3
   exact HP.out
 have q960 : (r == 960) = false:=by simpa using h960
 by_cases h955 : r = 955
 · subst h955
   have HE:=hQ_ (show R = xF_ l nm from by rw [HR.out]; rfl)
   go_wp2_with fail
   refine (zak HF2.out nm).mono ?_
   rw [← HE.out]
   obtain ⟨a,b,ok⟩:=R
   rintro e w3 ⟨rfl,hc3⟩
   have HP:=hQ_ (show zj_ (a,b,ok) w (.returned (.tuple #[.int .i64 a,.int .i64 b,.bool ok])) w3 from ⟨rfl,HC2.out.new hc3⟩)
   clear hc3
   go_wp2_with fail
   go_ret3
   exact HP.out
 have q955 : (r == 955) = false:=by simpa using h955
 have hb : inL zeV r = false:=qr_ (by intro x hx; simp [zeV] at hx; omega)
 have hu : inL unL r = false:=qr_ (by intro x hx; simp [unL] at hx; omega)
 have hz : inL zeL r = false:=qr_ (by intro x hx; simp [zeL] at hx; omega)
 have HE:=hQ_ (show R = if 97 ≤ r ∧ r ≤ 122 then (0,1,true) else if 65 ≤ r ∧ r ≤ 90 then (1,0,true) else (0,0,false) from by
  rw [HR.out]
  unfold zV_
  rw [hb,hu,hz]
  by_cases c1 : 97 ≤ r ∧ r ≤ 122
  · rw [if_pos (.inl (.inr c1)),if_pos c1]
  · rw [if_neg (by omega),if_neg c1]
    by_cases c2 : 65 ≤ r ∧ r ≤ 90
    · rw [if_pos (.inl c2),if_pos c2]
    · rw [if_neg (by omega),if_neg c2,if_neg (by omega),if_neg (by decide),if_neg (by decide),if_neg (by omega),if_neg (by omega),if_neg (by decide),if_neg (by omega)])
 clear hb hu hz
 clear h33 h35 h36 h37 h38 h42 h43 h44 h45 h46 h47 h48 h58 h59 h60 h61 h63 h64 h91 h93 h94 h124 h126 h161 h164 h169 h171 h174 h187 h960 h955
 by_cases a1 : 97 ≤ r
 · have d1 : decide (97 ≤ r) = true:=by simpa using a1
   by_cases a2 : r ≤ 122
   · have d2 : decide (r ≤ 122) = true:=by simpa using a2
     have HP:=hQ_ (show zj_ R w (.returned (.tuple #[.int .i64 ((0 : Nat) : Int),.int .i64 ((1 : Nat) : Int),.bool true])) w2 from zk_ 0 1 true (by rw [HE.out,if_pos ⟨a1,a2⟩]; rfl) HC2.out)
     go_wp2_with fail
     go_ret3
     exact HP.out
   · have d2 : decide (r ≤ 122) = false:=by simpa using a2
     have d3 : decide (65 ≤ r) = true:=by simp; omega
     have d4 : decide (r ≤ 90) = false:=by simp; omega
     have HP:=hQ_ (show zj_ R w (.returned (.tuple #[.int .i64 ((0 : Nat) : Int),.int .i64 ((0 : Nat) : Int),.bool false])) w2 from zk_ 0 0 false (by rw [HE.out,if_neg (by omega),if_neg (by omega)]; rfl) HC2.out)
     go_wp2_with fail
     go_ret3
     exact HP.out
 · have d1 : decide (97 ≤ r) = false:=by simpa using a1
   by_cases a3 : 65 ≤ r
   · have d3 : decide (65 ≤ r) = true:=by simpa using a3
     by_cases a4 : r ≤ 90
     · have d4 : decide (r ≤ 90) = true:=by simpa using a4
       have HP:=hQ_ (show zj_ R w (.returned (.tuple #[.int .i64 ((1 : Nat) : Int),.int .i64 ((0 : Nat) : Int),.bool true])) w2 from zk_ 1 0 true (by rw [HE.out,if_neg (by omega),if_pos ⟨a3,a4⟩]; rfl) HC2.out)
       go_wp2_with fail
       go_ret3
       exact HP.out
     · have d4 : decide (r ≤ 90) = false:=by simpa using a4
       have HP:=hQ_ (show zj_ R w (.returned (.tuple #[.int .i64 ((0 : Nat) : Int),.int .i64 ((0 : Nat) : Int),.bool false])) w2 from zk_ 0 0 false (by rw [HE.out,if_neg (by omega),if_neg (by omega)]; rfl) HC2.out)
       go_wp2_with fail
       go_ret3
       exact HP.out
   · have d3 : decide (65 ≤ r) = false:=by simpa using a3
     have HP:=hQ_ (show zj_ R w (.returned (.tuple #[.int .i64 ((0 : Nat) : Int),.int .i64 ((0 : Nat) : Int),.bool false])) w2 from zk_ 0 0 false (by rw [HE.out,if_neg (by omega),if_neg (by omega)]; rfl) HC2.out)
     go_wp2_with fail
     go_ret3
     exact HP.out
end
def bkC (x : BkV) : List Value:=[.int .i32 x.sign,.int .i64 x.base,.int .i64 x.other,.bool x.left]
def uk_ : List BkV → List Value
  | [] => []
  | x :: l => bkC x ++ uk_ l
theorem gm_ : ∀ l,(uk_ l).length = l.length * 4
  | [] => rfl
  | x :: l => by rw [uk_,List.length_append,gm_ l]; simp [bkC]; omega
theorem jh_ : ∀ l m,uk_ (l ++ m) = uk_ l ++ uk_ m
  | [],_ => rfl
  | x :: l,m => by rw [List.cons_append,uk_,uk_,jh_ l m,List.append_assoc]
theorem zdv (x : BkV) : uk_ [x] = bkC x:=by simp [uk_]
theorem vQ_ : ∀ (l : List BkV) (k : Nat) (x : BkV) (j : Nat),l[k]? = some x → j < 4 → (uk_ l)[k * 4 + j]? = (bkC x)[j]?
  | [],k,x,j,h,hj => by simp at h
  | y :: l,0,x,j,h,hj => by
    simp at h; subst h
    rw [uk_,List.getElem?_append_left (by simp [bkC]; omega)]
    congr 1; omega
  | y :: l,k + 1,x,j,h,hj => by
    simp at h
    rw [uk_,List.getElem?_append_right (by simp [bkC]; omega)]
    rw [← vQ_ l k x j h hj]
    congr 1; simp [bkC]; omega
theorem gl_ : ∀ (l : List BkV) (k : Nat) (x y : BkV) (j : Nat) (u : Value),l[k]? = some x → j < 4 → (bkC x).set j u = bkC y → (uk_ l).set (k * 4 + j) u = uk_ (l.set k y)
  | [],k,x,y,j,u,h,hj,hu => by simp at h
  | z :: l,0,x,y,j,u,h,hj,hu => by
    simp at h; subst h
    rw [uk_,List.set_append_left _ _ (by simp [bkC]; omega),List.set_cons_zero,uk_,← hu]
    congr 2; omega
  | z :: l,k + 1,x,y,j,u,h,hj,hu => by
    simp at h
    rw [uk_,List.set_append_right _ _ (by simp [bkC]; omega),List.set_cons_succ,uk_,← gl_ l k x y j u h hj hu]
    congr 2; simp [bkC]; omega
structure St (W : World) (gs B : Nat) (h : Int) (vo : Value) (bs : List BkV) : Prop where
  rec_ : zb_ W gs 108 [.int .i64 h,vo]
  own : W.ownsRow B 137 4 vo bs.length (uk_ bs)
  lo : gs < B
  few : bs.length ≤ 1000
  hr : -1 ≤ h ∧ h ≤ 64
  wf : ∀ b ∈ bs,0 ≤ b.base ∧ b.base ≤ 64 ∧ -1 ≤ b.other ∧ b.other ≤ 64
  room : B ≤ W.heap.size
def stT (gs : Nat) (vo : Value) : List Nat:=gs :: vo.ownBlock.toList
section
variable {W W' : World} {gs B : Nat} {h : Int} {vo : Value} {bs : List BkV}
theorem St.keep (s : St W gs B h vo bs) (hc : Chg [] W W') : St W' gs B h vo bs :=
 { s with rec_:=s.rec_.keep hc,own:=zg_ s.own hc,room:=Nat.le_trans s.room hc.size }
theorem St.away (s : St W gs B h vo bs) : vo.ownBlock ≠ some gs:=fun hc => by
 have:=(s.own.lt gs hc).1; have:=s.lo; omega
theorem St.high (s : St W gs B h vo bs) (h' : Int) (hr : -1 ≤ h' ∧ h' ≤ 64) : St (W.setCell ⟨gs,0,none⟩ (.int .i64 h')) gs B h' vo bs :=
 { s with rec_:=s.rec_.set_ 0 (.int .i64 h'),own:=zs_ s.own s.away,hr:=hr,room:=by rw [zG_]; exact s.room }
theorem St.slice (s : St W gs B h vo bs) : ∃ A c,vo = .slice A bs.length c ∧ bs.length ≤ c ∧ c ≤ 9223372036854775807 ∧ (∀ ad,A = some ad → ad.spot = none ∧ B ≤ ad.block ∧ ad.off = 0 ∧ ad.block < W.heap.size):=zm_ s.own
theorem St.poke {g c q i j : Nat} {x y : BkV} {u : Value} (s : St W gs B h vo bs) (hv : vo = .slice (some ⟨g,0,none⟩) q c) (hx : bs[i]? = some x) (hj : j < 4) (hu : (bkC x).set j u = bkC y) (hy : 0 ≤ y.base ∧ y.base ≤ 64 ∧ -1 ≤ y.other ∧ y.other ≤ 64) :
    St (W.setCell ⟨g,i * 4 + j,none⟩ u) gs B h vo (bs.set i y):=by
 subst hv
 have hq : q = bs.length:=by
  rcases s.own.2 with ⟨e,_⟩ | ⟨_,_,_,e,_⟩
  · cases e
  · injection e
 subst hq
 have hB:=(s.own.lt g rfl).1
 have hlo:=s.lo
 refine ⟨s.rec_.far (by simp only; omega) _,?_,s.lo,by rw [List.length_set]; exact s.few,s.hr,fun b hb => ?_,by rw [zG_]; exact s.room⟩
 · have ho:=xl_ (j:=i * 4 + j) (u:=u) s.own
   rw [gl_ bs i x y j u hx hj hu] at ho
   rw [List.length_set]
   exact ho
 · rcases List.mem_or_eq_of_mem_set hb with hb | rfl
   · exact s.wf b hb
   · exact hy
theorem St.drop {ys : List BkV} {x : BkV} {A : Option Addr} {c q : Nat} (s : St W gs B h vo (ys ++ [x])) (hv : vo = .slice A q c) :
    St (W.setCell ⟨gs,1,none⟩ (.slice A ys.length c)) gs B h (.slice A ys.length c) ys:=by
 subst hv
 have hq : q = (ys ++ [x]).length:=by
  rcases s.own.2 with ⟨e,e2⟩ | ⟨_,_,_,e,_⟩
  · injection e with _ e _; rw [e2,e]
  · injection e
 subst hq
 have hA : A ≠ none:=by
  rintro rfl
  rcases s.own.2 with ⟨e,_⟩ | ⟨_,_,_,e,_⟩
  · injection e with _ e _; simp at e
  · injection e with e _; cases e
 have ht:=vD_ (q':=ys.length) s.own (by simp) hA
 have e2 : (uk_ (ys ++ [x])).take (ys.length * 4) = uk_ ys:=by rw [jh_,← gm_,List.take_left]
 rw [e2] at ht
 have haw : (Value.slice A ys.length c).ownBlock ≠ some gs:=fun hc => by have:=(ht.lt gs hc).1; have:=s.lo; omega
 refine ⟨?_,zs_ ht haw,s.lo,by have:=s.few; simp at this; omega,s.hr,fun b hb => s.wf b (List.mem_append_left _ hb),by rw [zG_]; exact s.room⟩
 have:=s.rec_.set_ 1 (.slice A ys.length c)
 simpa using this
theorem St.cell (s : St W gs B h vo bs) {i : Nat} {x : BkV} (hx : bs[i]? = some x) : ∃ g c,vo = .slice (some ⟨g,0,none⟩) bs.length c ∧ B ≤ g ∧ W.cell? ⟨g,i * 4,none⟩ = some (.int .i32 x.sign) ∧ W.cell? ⟨g,i * 4 + 1,none⟩ = some (.int .i64 x.base) ∧ W.cell? ⟨g,i * 4 + 2,none⟩ = some (.int .i64 x.other) ∧ W.cell? ⟨g,i * 4 + 3,none⟩ = some (.bool x.left):=by
 obtain ⟨A,c,rfl,_,_,hA⟩:=s.slice
 obtain ⟨g,rfl,j0⟩:=zA_ s.own rfl ((vQ_ bs i x 0 hx (by omega)).trans rfl)
 obtain ⟨g',e,j1⟩:=zA_ s.own rfl ((vQ_ bs i x 1 hx (by omega)).trans rfl)
 injection e with e; injection e with e; subst e
 obtain ⟨g',e,j2⟩:=zA_ s.own rfl ((vQ_ bs i x 2 hx (by omega)).trans rfl)
 injection e with e; injection e with e; subst e
 obtain ⟨g',e,j3⟩:=zA_ s.own rfl ((vQ_ bs i x 3 hx (by omega)).trans rfl)
 injection e with e; injection e with e; subst e
 exact ⟨g,c,rfl,(hA _ rfl).2.1,j0,j1,j2,j3⟩
def xp_ (b : Int) (W : World) (e : Ending) (w' : World) : Prop:=e = .returned (.int .i64 b) ∧ Chg [] W w'
theorem zeO (s : St W gs B h vo bs) : 0 ≤ yc_ bs ∧ yc_ bs ≤ 64:=by
 unfold yc_
 split
 · omega
 · rename_i b hb
   have:=s.wf b (List.mem_of_getLast? hb)
   exact ⟨this.1,this.2.1⟩
theorem zdw (s : St W gs B h vo bs) : Calls Tryz.prog 99 #[.pointer (some ⟨gs,0,none⟩)] W (xp_ (yc_ bs) W):=by
 obtain ⟨b0,hb0⟩ : ∃ b,b = yc_ bs:=⟨_,rfl⟩
 rw [← hb0]
 rcases List.eq_nil_or_concat bs with rfl | ⟨ys,x,rfl⟩
 · obtain ⟨A,c,rfl,_,_,_⟩:=s.slice
   have c1:=s.rec_.cell 1
   simp only [List.length_nil] at c1
   have HC:=hQ_ (show xp_ b0 W (.returned (.int .i64 0)) W from ⟨by rw [hb0]; rfl,Chg.refl [] W⟩)
   clear s hb0
   go_enter Tryz.func99,Tryz.ntmps99
   go_wp2_with fail
   go_ret
   exact HC.out
 · rw [List.concat_eq_append] at s
   obtain ⟨g,c,hvo,hg,j0,j1,j2,j3⟩:=s.cell (i:=ys.length) (x:=x) (by simp)
   have hl : (ys ++ [x]).length = ys.length + 1:=by simp
   have c1:=s.rec_.cell 1
   rw [hvo,hl] at c1
   have hf:=s.few
   rw [hl] at hf
   have HB:=hQ_ (show b0 = x.base by rw [hb0]; simp [yc_])
   clear hvo s hl j0 j2 j3 hb0
   generalize ys.length = q at *
   have hsub : IntKind.i64.wrap (((q + 1 : Nat) : Int) - 1) = (q : Int):=by rw [IntWalk.i64_in _ (by omega)]; omega
   have hne : (((q + 1 : Nat) : Int) == 0) = false:=by simp; omega
   have hq0 : (0 : Int) ≤ (q : Int):=by omega
   have hq1 : (q : Int) < ((q + 1 : Nat) : Int):=by omega
   go_enter Tryz.func99,Tryz.ntmps99
   go_wp2_with fail
   go_quiet (fail)
   have HP:=hQ_ (show xp_ b0 W (.returned (.int .i64 x.base)) (W.drewN nq) from ⟨by rw [HB.out],(Chg.refl [] W).drewN nq⟩)
   go_wp2_with fail
   go_ret
   exact HP.out
end
def ptC (x : BkV) : List Value:=[.bool (x.sign == 91),.int .i64 x.base,.bool (x.sign == 58),.int .i64 x.other,.bool x.left]
def uo_ : List BkV → List Value
  | [] => []
  | x :: l => ptC x ++ uo_ l
theorem qO_ : ∀ l,(uo_ l).length = l.length * 5
  | [] => rfl
  | t :: l => by rw [uo_,List.length_append,qO_ l]; simp [ptC]; omega
theorem k0_ : ∀ l m,uo_ (l ++ m) = uo_ l ++ uo_ m
  | [],m => rfl
  | t :: l,m => by rw [List.cons_append,uo_,uo_,k0_ l m,List.append_assoc]
theorem zcT (x : BkV) : uo_ [x] = ptC x:=by simp [uo_]
theorem vG_ : ∀ (l : List BkV) (k : Nat) (t : BkV) (j : Nat),l[k]? = some t → j < 5 → (uo_ l)[k * 5 + j]? = (ptC t)[j]?
  | [],k,t,j,h,hj => by simp at h
  | u :: l,0,t,j,h,hj => by
    simp at h; subst h
    rw [uo_,List.getElem?_append_left (by simp [ptC]; omega)]
    congr 1; omega
  | u :: l,k + 1,t,j,h,hj => by
    simp at h
    rw [uo_,List.getElem?_append_right (by simp [ptC]; omega)]
    rw [← vG_ l k t j h hj]
    congr 1; simp [ptC]; omega
theorem qN_ : ∀ (l : List BkV) (k : Nat) (x y : BkV) (j : Nat) (u : Value),l[k]? = some x → j < 5 → (ptC x).set j u = ptC y → (uo_ l).set (k * 5 + j) u = uo_ (l.set k y)
  | [],k,x,y,j,u,h,hj,hu => by simp at h
  | z :: l,0,x,y,j,u,h,hj,hu => by
    simp at h; subst h
    rw [uo_,List.set_append_left _ _ (by simp [ptC]; omega),Nat.zero_mul,Nat.zero_add,hu]
    rfl
  | z :: l,k + 1,x,y,j,u,h,hj,hu => by
    simp at h
    rw [uo_,List.set_append_right _ _ (by simp [ptC]; omega)]
    rw [show (k + 1) * 5 + j - (ptC z).length = k * 5 + j from by simp [ptC]; omega,qN_ l k x y j u h hj hu]
    rfl
theorem v6_ : (Tryz.prog.info? 171).map (fun i => (i.zero,i.size,i.bytes)) = some (some (.agg #[.bool false,.int .i64 0,.bool false,.int .i64 0,.bool false]),5,40):=by kernel_rfl
abbrev wkT : List TypeId:=[171,145]
structure Wk (W : World) (g : Nat) (h : Int) (v : Value) (bs : List BkV) : Prop where
  rec_ : zb_ W g 145 [.int .i64 h,v]
  own : W.ownsRow (g + 1) 171 5 v bs.length (uo_ bs)
  few : bs.length ≤ 100
  hr : -1 ≤ h ∧ h ≤ 64
  rb : ∀ x ∈ bs,0 ≤ x.base ∧ x.base ≤ 64 ∧ -1 ≤ x.other ∧ x.other ≤ 64
def yk_ (W : World) (g : Nat) (R : Int × Int × List BkV) (e : Ending) (w' : World) : Prop :=
 Fr g wkT W w' ∧ e = .returned (.int .i64 R.1) ∧ (R.1 = 0 → ∃ v',Wk w' g R.2.1 v' R.2.2)
section
variable {W W' : World} {g : Nat} {h : Int} {v : Value} {bs ys : List BkV} {x : BkV}
theorem Wk.keep (s : Wk W g h v bs) (hc : Chg [] W W') : Wk W' g h v bs:=⟨s.rec_.keep hc,zg_ s.own hc,s.few,s.hr,s.rb⟩
theorem Wk.away (s : Wk W g h v bs) : v.ownBlock ≠ some g:=fun e => by have:=(s.own.lt g e).1; omega
theorem Wk.slice (s : Wk W g h v bs) : ∃ A n c,v = .slice A n c ∧ n = bs.length ∧ n ≤ c:=by
 obtain ⟨A,c,e,hc,_⟩:=zm_ s.own
 exact ⟨A,_,c,e,rfl,hc⟩
theorem Wk.high (s : Wk W g h v bs) (h' : Int) (hr : -1 ≤ h' ∧ h' ≤ 64) : Wk (W.setCell ⟨g,0,none⟩ (.int .i64 h')) g h' v bs ∧ Fr g wkT W (W.setCell ⟨g,0,none⟩ (.int .i64 h')) :=
 ⟨⟨s.rec_.set_ 0 _,zs_ s.own (fun e => s.away e),s.few,hr,s.rb⟩,(Fr.refl g wkT W).setw s.rec_ (Nat.le_refl _) (by simp [wkT]) _⟩
theorem Wk.last (s : Wk W g h v (ys ++ [x])) : ∃ gr c,v = .slice (some ⟨gr,0,none⟩) (ys.length + 1) c ∧ ys.length + 1 ≤ c ∧ g + 1 ≤ gr ∧ W.cell? ⟨gr,ys.length * 5,none⟩ = some (.bool (x.sign == 91)) ∧ W.cell? ⟨gr,ys.length * 5 + 1,none⟩ = some (.int .i64 x.base) ∧
    W.cell? ⟨gr,ys.length * 5 + 2,none⟩ = some (.bool (x.sign == 58)) ∧ W.cell? ⟨gr,ys.length * 5 + 3,none⟩ = some (.int .i64 x.other) ∧ W.cell? ⟨gr,ys.length * 5 + 4,none⟩ = some (.bool x.left):=by
 have hl : (ys ++ [x]).length = ys.length + 1:=by simp
 obtain ⟨A,n,c,rfl,hn,hc⟩:=s.slice
 rw [hl] at hn
 subst hn
 have hx : (ys ++ [x])[ys.length]? = some x:=by simp
 have k : ∀ j u,j < 5 → (ptC x)[j]? = some u → ∃ gr,A = some ⟨gr,0,none⟩ ∧ W.cell? ⟨gr,ys.length * 5 + j,none⟩ = some u:=fun j u hj hu => zA_ s.own (by rw [hl]) ((vG_ _ _ _ j hx hj).trans hu)
 obtain ⟨gr,rfl,c0⟩:=k 0 _ (by omega) rfl
 obtain ⟨_,e,c1⟩:=k 1 _ (by omega) rfl
 injection e with e; injection e with e; subst e
 obtain ⟨_,e,c2⟩:=k 2 _ (by omega) rfl
 injection e with e; injection e with e; subst e
 obtain ⟨_,e,c3⟩:=k 3 _ (by omega) rfl
 injection e with e; injection e with e; subst e
 obtain ⟨_,e,c4⟩:=k 4 _ (by omega) rfl
 injection e with e; injection e with e; subst e
 exact ⟨gr,c,rfl,hc,(s.own.lt gr rfl).1,c0,c1,c2,c3,c4⟩
theorem Wk.pop {gr c : Nat} (s : Wk W g h (.slice (some ⟨gr,0,none⟩) (ys.length + 1) c) (ys ++ [x])) {W1 : World} (hc : Chg [] W W1) :
    Wk (W1.setCell ⟨g,1,none⟩ (.slice (some ⟨gr,0,none⟩) ys.length c)) g h (.slice (some ⟨gr,0,none⟩) ys.length c) ys ∧ Fr g wkT W (W1.setCell ⟨g,1,none⟩ (.slice (some ⟨gr,0,none⟩) ys.length c)):=by
 have s1:=s.keep hc
 have hl : (ys ++ [x]).length = ys.length + 1:=by simp
 have ho:=s1.own
 rw [hl] at ho
 have h2:=vD_ (q':=ys.length) ho (by omega) (by simp)
 rw [k0_,List.take_left' (by rw [qO_])] at h2
 refine ⟨⟨s1.rec_.set_ 1 _,zs_ h2 (fun e => by have:=(h2.lt g e).1; omega),by have:=s.few; omega,s.hr,fun y hy => s.rb y (by simp [hy])⟩,(Fr.of_chg hc).setw s1.rec_ (Nat.le_refl _) (by simp [wkT]) _⟩
theorem Wk.push {W2 w3 : World} {v' : Value} {n1 : Nat} (s : Wk W g h v bs) (hc : Chg [] W W2) (hn1 : n1 = bs.length + 1) (ho : w3.ownsRow (g + 1) 171 5 v' n1 (uo_ bs ++ ptC x)) (hg : W2.grownBy w3 v.ownBlock) (hf : bs.length ≤ 99) (hx : 0 ≤ x.base ∧ x.base ≤ 64 ∧ -1 ≤ x.other ∧ x.other ≤ 64) :
    Wk (w3.setCell ⟨g,1,none⟩ v') g h v' (bs ++ [x]) ∧ Fr g wkT W (w3.setCell ⟨g,1,none⟩ v'):=by
 subst hn1
 have s2:=s.keep hc
 have hr3:=zi_ s2.rec_ s2.own (by decide) hg
 refine ⟨⟨hr3.set_ 1 _,?_,by simp; omega,s.hr,fun y hy => ?_⟩,((Fr.of_chg hc).grown s2.own (Nat.le_succ g) (by simp [wkT]) hg).setw hr3 (Nat.le_refl _) (by simp [wkT]) _⟩
 · rw [k0_,zcT,List.length_append,List.length_singleton]
   exact zs_ ho (fun e => by have:=(ho.lt g e).1; omega)
 · rcases List.mem_append.1 hy with hy | hy
   · exact s.rb y hy
   · rw [List.mem_singleton] at hy; subst hy; exact hx
theorem Wk.mark {gr c n k : Nat} {y : BkV} (s : Wk W g h (.slice (some ⟨gr,0,none⟩) n c) bs) (hn : n = bs.length) (hk : bs[k]? = some y) : Wk (W.setCell ⟨gr,k * 5 + 4,none⟩ (.bool true)) g h (.slice (some ⟨gr,0,none⟩) n c) (bs.set k ⟨y.sign,y.base,y.other,true⟩) ∧ Fr g wkT W (W.setCell ⟨gr,k * 5 + 4,none⟩ (.bool true)):=by
 subst hn
 have hgr:=(s.own.lt gr rfl).1
 refine ⟨⟨s.rec_.far (by simp only; omega) _,?_,by simpa using s.few,s.hr,fun z hz => ?_⟩,(Fr.refl g wkT W).seto s.own (Nat.le_succ g) (by simp [wkT]) _⟩
 · have:=xl_ (j:=k * 5 + 4) (u:=.bool true) s.own
   rw [qN_ bs k y ⟨y.sign,y.base,y.other,true⟩ 4 _ hk (by omega) rfl] at this
   rw [List.length_set]
   exact this
 · rcases List.mem_or_eq_of_mem_set hz with hz | rfl
   · exact s.rb z hz
   · exact s.rb y (List.mem_of_getElem? hk)
end
section
variable {W : World} {g : Nat} {h : Int} {v : Value} {bs ys : List BkV} {x : BkV}
theorem zau (s : Wk W g h v bs) : Calls Tryz.prog 121 #[.pointer (some ⟨g,0,none⟩)] W (xp_ (yc_ bs) W):=by
 obtain ⟨b0,hb0⟩ : ∃ b,b = yc_ bs:=⟨_,rfl⟩
 rw [← hb0]
 rcases List.eq_nil_or_concat bs with rfl | ⟨ys,x,rfl⟩
 · obtain ⟨A,n,c,rfl,hn,_⟩:=s.slice
   have hn0 : n = 0:=hn
   subst hn0
   have c1:=s.rec_.cell 1
   have HC:=hQ_ (show xp_ b0 W (.returned (.int .i64 0)) W from ⟨by rw [hb0]; rfl,Chg.refl [] W⟩)
   clear s hb0 hn
   go_enter Tryz.func121,Tryz.ntmps121
   go_wp2_with fail
   go_ret
   exact HC.out
 · rw [List.concat_eq_append] at s
   obtain ⟨gr,c,rfl,hc,hgr,j0,j1,j2,j3,j4⟩:=s.last
   have c1:=s.rec_.cell 1
   have hf:=s.few
   rw [List.length_append,List.length_singleton] at hf
   have HB:=hQ_ (show b0 = x.base by rw [hb0]; simp [yc_])
   clear s j0 j2 j3 j4 hb0
   generalize ys.length = q at *
   have hsub : IntKind.i64.wrap (((q + 1 : Nat) : Int) - 1) = (q : Int):=by rw [IntWalk.i64_in _ (by omega)]; omega
   have hne : (((q + 1 : Nat) : Int) == 0) = false:=by simp; omega
   have hq0 : (0 : Int) ≤ (q : Int):=by omega
   have hq1 : (q : Int) < ((q + 1 : Nat) : Int):=by omega
   go_enter Tryz.func121,Tryz.ntmps121
   go_wp2_with fail
   go_quiet (fail)
   have HP:=hQ_ (show xp_ b0 W (.returned (.int .i64 x.base)) (W.drewN nq) from ⟨by rw [HB.out],(Chg.refl [] W).drewN nq⟩)
   go_wp2_with fail
   go_ret
   exact HP.out
theorem Wk.far {W : World} {g : Nat} {h : Int} {v : Value} {bs : List BkV} (s : Wk W g h v bs) {p : Addr} (hp : g ≠ p.block) (hv : v.ownBlock ≠ some p.block) (u : Value) : Wk (W.setCell p u) g h v bs:=⟨s.rec_.far hp u,zs_ s.own hv,s.few,s.hr,s.rb⟩
theorem Wk.ret5 {W W3 : World} {g gR : Nat} {h : Int} {v : Value} {bs : List BkV} {z0 z1 z2 z3 z4 : Value} (s : Wk W3 g h v bs) (hf : Fr g wkT W W3) (hR : zb_ W3 gR 171 [z0,z1,z2,z3,z4]) (hg : g < gR) (hv : v.ownBlock ≠ some gR) (u0 u1 u2 u3 u4 : Value) :
    let w4:=((((W3.setCell ⟨gR,0,none⟩ u0).setCell ⟨gR,1,none⟩ u1).setCell ⟨gR,2,none⟩ u2).setCell ⟨gR,3,none⟩ u3).setCell ⟨gR,4,none⟩ u4
    Hid (Wk w4 g h v bs) ∧ Hid (Fr g wkT W w4) ∧ Hid (zb_ w4 gR 171 [u0,u1,u2,u3,u4]):=by
 have hne : g ≠ gR:=by omega
 have r1:=hR.set_ 0 u0
 have r2:=r1.set_ 1 u1
 have r3:=r2.set_ 2 u2
 have r4:=r3.set_ 3 u3
 have r5:=r4.set_ 4 u4
 refine ⟨hQ_ (((((s.far hne hv _).far hne hv _).far hne hv _).far hne hv _).far hne hv _),hQ_ (((((hf.setw hR (by omega) (by simp [wkT]) _).setw r1 (by omega) (by simp [wkT]) _).setw r2 (by omega) (by simp [wkT]) _).setw r3 (by omega) (by simp [wkT]) _).setw r4 (by omega) (by simp [wkT]) _),hQ_ ?_⟩
 simpa using r5
def gs_ (W : World) (g : Nat) (h : Int) (ys : List BkV) (x : BkV) (e : Ending) (w' : World) : Prop:=∃ v',e = .returned (.agg (ptC x).toArray) ∧ Wk w' g h v' ys ∧ Fr g wkT W w'
theorem kS_ (s : Wk W g h v (ys ++ [x])) : Calls Tryz.prog 144 #[.pointer (some ⟨g,0,none⟩)] W (gs_ W g h ys x):=by
 obtain ⟨gr,c,rfl,hc,hgr,j0,j1,j2,j3,j4⟩:=s.last
 have hf:=s.few
 rw [List.length_append,List.length_singleton] at hf
 have HS:=hQ_ s
 obtain ⟨q,hq⟩ : ∃ q,q = ys.length:=⟨_,rfl⟩
 rw [← hq] at hc j0 j1 j2 j3 j4 hf HS
 have HPOP:=hQ_ (fun (W1 : World) (hc : Chg [] W W1) => show Wk (W1.setCell ⟨g,1,none⟩ (.slice (some ⟨gr,0,none⟩) q c)) g h (.slice (some ⟨gr,0,none⟩) q c) ys ∧ Fr g wkT W (W1.setCell ⟨g,1,none⟩ (.slice (some ⟨gr,0,none⟩) q c)) from by rw [hq]; exact s.pop hc)
 clear s hq
 generalize hb91 : (x.sign == 91) = b91 at j0
 generalize hb58 : (x.sign == 58) = b58 at j2
 have HPX:=hQ_ (show ptC x = [.bool b91,.int .i64 x.base,.bool b58,.int .i64 x.other,.bool x.left] from by unfold ptC; rw [hb91,hb58])
 clear hb91 hb58
 generalize x.base = xb at j1 HPX
 generalize x.other = xo at j3 HPX
 generalize x.left = xl at j4 HPX
 go_enter Tryz.func144,Tryz.ntmps144
 go_upto_region 1 with fail
 have hN:=zb_.new W 171 [.bool false,.int .i64 0,.bool false,.int .i64 0,.bool false]
 have hal:=(Chg.refl [] W).alloc (.cells #[.bool false,.int .i64 0,.bool false,.int .i64 0,.bool false] 171)
 have hz1 : (W.alloc (.cells #[.bool false,.int .i64 0,.bool false,.int .i64 0,.bool false] 171)).heap.size = W.heap.size + 1:=Array.size_push _
 have HW1:=hQ_ (HS.out.keep hal)
 have HC1:=hQ_ hal
 have HR1:=hQ_ hN
 have HZ1:=hQ_ hz1
 obtain ⟨gR,hgR⟩ : ∃ gR,gR = W.heap.size:=⟨_,rfl⟩
 have HGR:=hQ_ (show W.heap.size ≤ gR from by omega)
 have HGG:=hQ_ (show gr < gR ∧ g < gR from by
  have h1:=HS.out.rec_.lt
  have h2:=block_lt_of_cell j0
  simp only at h2
  omega)
 rw [← hgR] at HR1 HZ1 ⊢
 have k0:=zf_ j0 hal
 have k1:=zf_ j1 hal
 have k2:=zf_ j2 hal
 have k3:=zf_ j3 hal
 have k4:=zf_ j4 hal
 generalize W.alloc (.cells #[.bool false,.int .i64 0,.bool false,.int .i64 0,.bool false] 171) = w1 at HW1 HC1 HR1 HZ1 k0 k1 k2 k3 k4 ⊢
 clear hN hal hz1 hgR j0 j1 j2 j3 j4
 have c1:=HW1.out.rec_.cell 1
 have hq0 : (0 : Int) ≤ (q : Int):=by omega
 have hq1 : (q : Int) < ((q + 1 : Nat) : Int):=by omega
 go_upto_region 3 with fail
 have hX:=zb_.new w1 171 [.bool b91,.int .i64 xb,.bool b58,.int .i64 xo,.bool xl]
 have hal:=(Chg.refl [] w1).alloc (.cells #[.bool b91,.int .i64 xb,.bool b58,.int .i64 xo,.bool xl] 171)
 obtain ⟨gX,hgX⟩ : ∃ gX,gX = w1.heap.size:=⟨_,rfl⟩
 have HGX:=hQ_ (show gR < gX from by have:=HZ1.out; omega)
 rw [← hgX] at hX ⊢
 have HX:=hQ_ hX
 have HW2:=hQ_ (HW1.out.keep hal)
 have HC2:=hQ_ (HC1.out.new hal)
 have HR2:=hQ_ (HR1.out.keep hal)
 generalize w1.alloc (.cells #[.bool b91,.int .i64 xb,.bool b58,.int .i64 xo,.bool xl] 171) = w2 at HX HW2 HC2 HR2 ⊢
 clear hX hal hgX k0 k1 k2 k3 k4 c1 HW1 HC1 HR1 HZ1
 have c1:=HW2.out.rec_.cell 1
 have f1:=HW2.out.rec_.frozen 1
 have hqc : q ≤ c:=by omega
 go_upto_region 4 with fail
 obtain ⟨hw3,hf3⟩:=HPOP.out w2 HC2.out
 have hX3:=HX.out.far (p:=⟨g,1,none⟩) (by have:=HGX.out; have:=HGG.out; simp only; omega) (.slice (some ⟨gr,0,none⟩) q c)
 have hR3:=HR2.out.far (p:=⟨g,1,none⟩) (by have:=HGG.out; simp only; omega) (.slice (some ⟨gr,0,none⟩) q c)
 obtain ⟨HW4,HF4,HR4⟩:=hw3.ret5 hf3 hR3 HGG.out.2 (by have:=HGG.out.1; simp [Value.ownBlock]; omega) (.bool b91) (.int .i64 xb) (.bool b58) (.int .i64 xo) (.bool xl)
 have HP:=hQ_ (show gs_ W g h ys x (.returned (.agg #[.bool b91,.int .i64 xb,.bool b58,.int .i64 xo,.bool xl])) _ from ⟨_,by rw [HPX.out],HW4.out,HF4.out⟩)
 generalize w2.setCell ⟨g,1,none⟩ (.slice (some ⟨gr,0,none⟩) q c) = w3 at hX3 hR3 HR4 HP ⊢
 have x0:=hX3.cell 0
 have x1:=hX3.cell 1
 have x2:=hX3.cell 2
 have x3:=hX3.cell 3
 have x4:=hX3.cell 4
 have y0:=hR3.cell 0
 have y1:=hR3.cell 1
 have y2:=hR3.cell 2
 have y3:=hR3.cell 3
 have y4:=hR3.cell 4
 have f0:=hR3.frozen 0
 have f1:=hR3.frozen 1
 have f2:=hR3.frozen 2
 have f3:=hR3.frozen 3
 have f4:=hR3.frozen 4
 clear hX3 hR3 hw3 hf3 HW4 HF4
 go_wp2_with fail
 have e0:=HR4.out.cell 0
 have e1:=HR4.out.cell 1
 have e2:=HR4.out.cell 2
 have e3:=HR4.out.cell 3
 have e4:=HR4.out.cell 4
 generalize ((((w3.setCell ⟨gR,0,none⟩ (.bool b91)).setCell ⟨gR,1,none⟩ (.int .i64 xb)).setCell ⟨gR,2,none⟩ (.bool b58)).setCell ⟨gR,3,none⟩ (.int .i64 xo)).setCell ⟨gR,4,none⟩ (.bool xl) = wf at HP e0 e1 e2 e3 e4 ⊢
 simp only [List.getElem?_cons_zero,List.getElem?_cons_succ] at e0 e1 e2 e3 e4
 refine bodyPost_ret (v:=.agg #[.bool b91,.int .i64 xb,.bool b58,.int .i64 xo,.bool xl]) (by simp [results,Tryz.results144,go_sem,e0,e1,e2,e3,e4]) rfl HP.out
end
section
variable {W W' : World} {gs B : Nat} {h : Int} {vo : Value} {bs : List BkV}
def y1_ (gs B : Nat) (vo : Value) (R : Bool × Int × List BkV) (W : World) (e : Ending) (w' : World) : Prop :=
 ∃ vo',e = .returned (.bool R.1) ∧ St w' gs B R.2.1 vo' R.2.2 ∧ Chg (stT gs vo) W w' ∧ (vo'.ownBlock = vo.ownBlock ∨ ∃ g,vo'.ownBlock = some g ∧ W.heap.size ≤ g)
theorem ul_ {w' : World} {R : Bool × Int × List BkV} (b : Bool) (h' : Int) (vo' : Value) (bs' : List BkV) (hR : R = (b,h',bs')) (hS : St w' gs B h' vo' bs') (hC : Chg (stT gs vo) W w') (hO : vo'.ownBlock = vo.ownBlock ∨ ∃ g,vo'.ownBlock = some g ∧ W.heap.size ≤ g) : y1_ gs B vo R W (.returned (.bool b)) w':=by subst hR; exact ⟨vo',rfl,hS,hC,hO⟩
theorem vB_ (gs : Nat) (vo : Value) : gs ∈ stT gs vo:=List.mem_cons_self ..
theorem zdB (gs g c q : Nat) : g ∈ stT gs (.slice (some ⟨g,0,none⟩) q c):=by simp [stT,Value.ownBlock]
theorem zbE (s : St W gs B h vo bs) : Calls Tryz.prog 100 #[.pointer (some ⟨gs,0,none⟩)] W (y1_ gs B vo (z7_ h bs bs.length) W):=by
 obtain ⟨A,c,hvo,_,_,_⟩:=s.slice
 have S:=hQ_ s
 have hf:=s.few
 have c0:=s.rec_.cell 0
 have c1:=s.rec_.cell 1
 rw [hvo] at c1
 have HV:=hQ_ hvo
 obtain ⟨m,hm⟩ : ∃ m,m = bs.length:=⟨_,rfl⟩
 obtain ⟨R,hR⟩ : ∃ R,R = z7_ h bs bs.length:=⟨_,rfl⟩
 rw [← hR]
 rw [← hm] at c1 hf hR
 have HM:=hQ_ hm
 have HR0:=hQ_ hR
 clear hR
 obtain ⟨i0,hsub,hi0,hi1⟩ : ∃ i0 : Int,IntKind.i64.wrap ((m : Int) - 1) = i0 ∧ -1 ≤ i0 ∧ i0 < (m : Int):=⟨(m : Int) - 1,IntWalk.i64_in _ (by omega),by omega,by omega⟩
 have HI0:=hQ_ (show R = z7_ h bs (i0 + 1).toNat from by rw [HR0.out]; congr 1; have : IntKind.i64.wrap ((m : Int) - 1) = (m : Int) - 1:=IntWalk.i64_in _ (by omega); omega)
 clear s hvo hm
 go_enter Tryz.func100,Tryz.ntmps100
 go_wp2_with fail
 go_loopw [3] (fun i wr => ∃ k : Int,i = .int .i64 k ∧ -1 ≤ k ∧ k < (m : Int) ∧ Hid (R = z7_ h bs (k + 1).toNat) ∧ wr = W) (fun i _ => ((intOf i) + 1).toNat)
 case atStart => exact ⟨i0,rfl,hi0,hi1,HI0,rfl⟩
 case round =>
  obtain ⟨k,rfl,hk0,hk1,HRK,hwr⟩:=hrel
  subst hwr
  by_cases hk : 0 ≤ k
  · obtain ⟨q,rfl⟩ : ∃ q : Nat,k = (q : Int):=⟨k.toNat,by omega⟩
    have hqm : q < m:=by omega
    obtain ⟨x,hx⟩ : ∃ x,bs[q]? = some x:=⟨bs[q]'(by rw [← HM.out]; exact hqm),by simp⟩
    have HRQ:=hQ_ (show R = if x.sign = 91 then (h == x.base,-1,bs.set q ⟨x.sign,x.base,x.other,true⟩) else z7_ h bs q from by rw [HRK.out,show ((q : Int) + 1).toNat = q + 1 from by omega,z7_,hx])
    obtain ⟨g,c',hvo,hg,j0,j1,j2,j3⟩:=S.out.cell hx
    have hvo2:=HV.out
    rw [hvo] at hvo2
    injection hvo2 with e1 e2 e3
    subst e1; subst e3
    clear hvo e2 j1 j2
    by_cases h91 : x.sign = 91
    · have q1 : (x.sign == 91) = true:=by simpa using h91
      have f3 : wr.frozen? ⟨g,q * 4 + 3,none⟩ = false:=zZ_ (by have:=S.out.own; rw [HV.out] at this; rw [← HM.out] at this; exact this)
      have HRE:=hQ_ (show R = (h == x.base,-1,bs.set q ⟨x.sign,x.base,x.other,true⟩) from by rw [HRQ.out,if_pos h91])
      clear h91
      go_upto_region 6 with fail
      have S5:=hQ_ (S.out.poke (i:=q) (j:=3) (x:=x) (y:=⟨x.sign,x.base,x.other,true⟩) (u:=.bool true) HV.out hx (by omega) rfl (S.out.wf x (List.mem_of_getElem? hx)))
      have hx5 : (bs.set q ⟨x.sign,x.base,x.other,true⟩)[q]? = some ⟨x.sign,x.base,x.other,true⟩:=by
       rw [List.getElem?_set_self (by rw [← HM.out]; exact hqm)]
      have HM5:=hQ_ (show (bs.set q ⟨x.sign,x.base,x.other,true⟩).length = m by rw [List.length_set]; exact HM.out.symm)
      have HC5:=hQ_ (show Chg (stT gs vo) wr (wr.setCell ⟨g,q * 4 + 3,none⟩ (.bool true)) from ((Chg.refl [] wr).sub (by simp)).setCell (fun _ => by rw [HV.out]; exact zdB gs g _ _) _)
      clear hx j0 j3 c0 c1 f3
      generalize bs.set q ⟨x.sign,x.base,x.other,true⟩ = bs5 at S5 hx5 HM5 HRE
      generalize wr.setCell ⟨g,q * 4 + 3,none⟩ (.bool true) = w5 at S5 HC5 ⊢
      have c0:=S5.out.rec_.cell 0
      have c1:=S5.out.rec_.cell 1
      rw [HV.out,← HM.out] at c1
      have f0:=S5.out.rec_.frozen 0
      obtain ⟨g',c',hvo,hg,j0,j1,j2,j3⟩:=S5.out.cell hx5
      have hvo2:=HV.out
      rw [hvo] at hvo2
      injection hvo2 with e1 e2 e3
      injection e1 with e1; injection e1 with e1
      subst e1; subst e3
      clear hvo e2 hx5 j0 j2 j3
      go_quiet (fail)
      have S6:=hQ_ (S5.out.keep ((Chg.refl [] w5).drewN nq))
      have HC6:=hQ_ (HC5.out.drewN nq)
      have S7:=hQ_ (S6.out.high (-1) (by omega))
      have HC7:=hQ_ (HC6.out.setCell (p:=⟨gs,0,none⟩) (fun _ => vB_ gs vo) (.int .i64 (-1)))
      clear c0 c1 f0 j1
      have c0:=S6.out.rec_.cell 0
      have f0:=S6.out.rec_.frozen 0
      have HP:=hQ_ (show y1_ gs B vo R wr (.returned (.bool (h == x.base))) ((w5.drewN nq).setCell ⟨gs,0,none⟩ (.int .i64 (-1))) from ul_ _ _ vo bs5 HRE.out S7.out HC7.out (.inl rfl))
      go_wp2_with fail
      go_ret
      exact HP.out
    · have q1 : (x.sign == 91) = false:=by simpa using h91
      have HRE:=hQ_ (show R = z7_ h bs ((q : Int) - 1 + 1).toNat from by rw [HRQ.out,if_neg h91]; congr 1; omega)
      clear h91
      go_wp2_with fail
      go_roundw
      case rel => exact ⟨(q : Int) - 1,by go_num,by omega,by omega,HRE,by first | rfl | trivial⟩
      case measure => simp [intOf]
  · obtain rfl : k = -1:=by omega
    have HP:=hQ_ (show y1_ gs B vo R wr (.returned (.bool false)) wr from ul_ false h vo bs (HRK.out.trans rfl) S.out ((Chg.refl [] wr).sub (by simp)) (.inl rfl))
    go_wp2_with fail
    go_ret
    exact HP.out
end
end Go.Proofs.YtbkfhndmeljlcaaGreatDoor
