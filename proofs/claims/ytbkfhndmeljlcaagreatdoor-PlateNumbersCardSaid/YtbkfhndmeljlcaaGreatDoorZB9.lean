import Derived.Test.YtbkfhndmeljlcaaGreatDoorZB8
set_option maxRecDepth 100000
set_option maxHeartbeats 16000000
namespace Go.Proofs.YtbkfhndmeljlcaaGreatDoor
open Go.RowKit
theorem zb_.grownNe {w w' : World} {g t : Nat} {cs : List Value} {row : Option Nat} (h : zb_ w g t cs) (hg : w.grownBy w' row) (hne : row ≠ some g) : zb_ w' g t cs:=(hg.block g h.lt (fun e => hne e.symm)).trans h
section
variable {W : World} {g : Nat} {h : Int} {v : Value} {bs ys : List BkV} {x : BkV}
def zfA (W : World) (g : Nat) (h : Int) (bs : List BkV) (e : Ending) (w' : World) : Prop:=e = .returned (.tuple #[]) ∧ ∃ v',Wk w' g h v' bs ∧ Fr g wkT W w'
theorem gB_ (s : Wk W g h v (ys ++ [x])) (hx : x.sign = 63) : Calls Tryz.prog 129 #[.pointer (some ⟨g,0,none⟩)] W (zfA W g x.base (ys ++ [⟨58,x.base,h,x.left⟩])):=by
 obtain ⟨i0,hi0,hz0,hz1,hz2⟩:=info_parts v6_
 have HRB:=hQ_ (s.rb x (by simp))
 have HSH:=hQ_ (kS_ s)
 have hf : ys.length ≤ 99:=by have:=s.few; rw [List.length_append,List.length_singleton] at this; omega
 have HHR:=hQ_ s.hr
 obtain ⟨sg,xb,xo,xl⟩:=x
 simp only at hx HRB
 subst hx
 simp only
 clear s
 go_enter Tryz.func129,Tryz.ntmps129
 go_wp2_with fail
 refine HSH.out.mono ?_
 rintro e w1 ⟨v1,rfl,hw1,hf1⟩
 have HW1:=hQ_ hw1
 have HF1:=hQ_ hf1
 have c0:=hw1.rec_.cell 0
 clear hw1 hf1
 have e1 : (ptC ⟨63,xb,xo,xl⟩).toArray = #[.bool false,.int .i64 xb,.bool false,.int .i64 xo,.bool xl]:=rfl
 rw [e1]
 clear e1
 go_upto_region 1 with fail
 have hX:=zb_.new w1 171 [.bool false,.int .i64 xb,.bool false,.int .i64 xo,.bool xl]
 have hal:=(Chg.refl [] w1).alloc (.cells #[.bool false,.int .i64 xb,.bool false,.int .i64 xo,.bool xl] 171)
 obtain ⟨gX,hgX⟩ : ∃ gX,gX = w1.heap.size:=⟨_,rfl⟩
 have HGX:=hQ_ (show g < gX ∧ ∀ b,v1.ownBlock = some b → b < gX from ⟨by have:=HW1.out.rec_.lt; omega,fun b hb => by have:=(HW1.out.own.lt b hb).2; omega⟩)
 rw [← hgX] at hX ⊢
 have HX:=hQ_ hX
 have HW2:=hQ_ (HW1.out.keep hal)
 have HF2:=hQ_ (HF1.out.new hal)
 generalize w1.alloc (.cells #[.bool false,.int .i64 xb,.bool false,.int .i64 xo,.bool xl] 171) = w2 at HX HW2 HF2 ⊢
 clear hX hal hgX c0 HW1 HF1
 have c0:=HW2.out.rec_.cell 0
 have x2:=HX.out.cell 2
 have x3:=HX.out.cell 3
 have f2:=HX.out.frozen 2
 have f3:=HX.out.frozen 3
 go_upto_region 3 with fail
 have hne : g ≠ gX:=by have:=HGX.out.1; omega
 have hnv : v1.ownBlock ≠ some gX:=fun e => by have:=HGX.out.2 gX e; omega
 have HX3:=hQ_ (show zb_ ((w2.setCell ⟨gX,2,none⟩ (.bool true)).setCell ⟨gX,3,none⟩ (.int .i64 h)) gX 171 [.bool false,.int .i64 xb,.bool true,.int .i64 h,.bool xl] from by have:=(HX.out.set_ 2 (.bool true)).set_ 3 (.int .i64 h); simpa using this)
 have HW3:=hQ_ ((HW2.out.far (p:=⟨gX,2,none⟩) hne hnv (.bool true)).far (p:=⟨gX,3,none⟩) hne hnv (.int .i64 h))
 have HF3:=hQ_ ((HF2.out.setw HX.out (j:=2) (by have:=HGX.out.1; omega) (by simp [wkT]) (.bool true)).setw (HX.out.set_ 2 (.bool true)) (j:=3) (by have:=HGX.out.1; omega) (by simp [wkT]) (.int .i64 h))
 generalize (w2.setCell ⟨gX,2,none⟩ (.bool true)).setCell ⟨gX,3,none⟩ (.int .i64 h) = w3 at HX3 HW3 HF3 ⊢
 clear c0 x2 x3 f2 f3 hne hnv HX HW2 HF2
 have x0:=HX3.out.cell 0
 have x1:=HX3.out.cell 1
 have x2:=HX3.out.cell 2
 have x3:=HX3.out.cell 3
 have x4:=HX3.out.cell 4
 obtain ⟨A3,n3,c3,hv1,hn3,hc3⟩:=HW3.out.slice
 subst hv1
 have k1:=HW3.out.rec_.cell 1
 have hal : Chg [] w3 (w3.alloc (.cells #[.bool false,.int .i64 xb,.bool true,.int .i64 h,.bool xl] 171)):=(Chg.refl [] w3).alloc _
 have q1 : (w3.alloc (.cells #[.bool false,.int .i64 xb,.bool true,.int .i64 h,.bool xl] 171)).cell? ⟨g,1,none⟩ = some (.slice A3 n3 c3):=zf_ (by simpa using k1) hal
 have HOW:=hQ_ (show w3.ownsRow (g + 1) 171 5 (.slice A3 n3 c3) n3 (uo_ ys) from by have:=HW3.out.own; rw [← hn3] at this; exact this)
 have hBW : g + 1 ≤ w3.heap.size:=HW3.out.rec_.lt
 have HN:=hQ_ hn3
 have hn99 : n3 ≤ 99:=by omega
 clear hn3 hal
 go_region_law (
   (refine yD_ rfl (.tmp 15) (.tmp 17) 143 rfl (g + 1) 171 i0 _ 5 40 Tryz.underlying143 hi0 hz0 hz1 hz2 rfl (by decide) (.slice A3 n3 c3) n3 (uo_ ys) rfl (zg_ HOW.out (((Chg.refl [] w3).alloc _).drew)) ⟨w3.heap.size,0,none⟩ 1 1 [.bool false,.int .i64 xb,.bool true,.int .i64 h,.bool xl] rfl rfl (zq_ w3 _ _) (by simp [Value.oneCell']) (by unfold maxLen; omega) (by omega) (by simp; omega) ?_
    intro v' w' ho hg
    obtain ⟨A6,k6,rfl,_⟩:=zm_ ho
    have HO:=hQ_ ho
    have HG:=hQ_ hg
    have HR6:=hQ_ (zi_ (HW3.out.rec_.keep (((Chg.refl [] w3).alloc (.cells #[.bool false,.int .i64 xb,.bool true,.int .i64 h,.bool xl] 171)).drew)) (zg_ HW3.out.own (((Chg.refl [] w3).alloc (.cells #[.bool false,.int .i64 xb,.bool true,.int .i64 h,.bool xl] 171)).drew)) (by decide) hg)
    have f1:=HR6.out.frozen 1
    have k1:=HR6.out.cell 1
    clear ho hg))
 all_goals
   obtain ⟨hP,hF⟩:=HW3.out.push (x:=⟨58,xb,h,xl⟩) (((Chg.refl [] w3).alloc (.cells #[.bool false,.int .i64 xb,.bool true,.int .i64 h,.bool xl] 171)).drew) (by have:=HN.out; omega) HO.out HG.out hf (by have:=HRB.out; have:=HHR.out; simp only; omega)
   have HP:=hQ_ hP
   have HFF:=hQ_ (HF3.out.trans hF)
   have HXw:=hQ_ ((HX3.out.keep (((Chg.refl [] w3).alloc (.cells #[.bool false,.int .i64 xb,.bool true,.int .i64 h,.bool xl] 171)).drew)).grownNe HG.out (fun e => by have:=HGX.out.2 gX e; omega))
   have HXv:=hQ_ (HXw.out.far (p:=⟨g,1,none⟩) (by have:=HGX.out.1; simp only; omega) (.slice A6 (n3 + 1) k6))
   clear hP hF
   go_upto_region 4 with fail
   generalize hw5 : w'.setCell ⟨g,1,none⟩ (.slice A6 (n3 + 1) k6) = w5 at HP HFF HXv ⊢
   clear hw5 f1 k1 HXw HO HG HR6
   have c0:=HP.out.rec_.cell 0
   have f0:=HP.out.rec_.frozen 0
   have x1:=HXv.out.cell 1
   go_wp2_with fail
   obtain ⟨hP2,hF2⟩:=HP.out.high xb (by have:=HRB.out; omega)
   have HQ:=hQ_ (show zfA W g xb (ys ++ [⟨58,xb,h,xl⟩]) (.returned (.tuple #[])) _ from ⟨rfl,_,hP2,HFF.out.trans hF2⟩)
   go_end0
   exact HQ.out
end
def jc_ (h : Int) (ys : List BkV) (x : BkV) (r : Int) : Int × Int × List BkV:=match yA_ h ys x r with | (true,h',bs') => (0,h',bs') | (false,h',bs') => (14,h',bs')
theorem zfw {h : Int} {ys : List BkV} {x : BkV} (hx : x.sign = 58) (ho : -1 ≤ x.other) (hh : -1 ≤ h) : jc_ h ys x 59 = if h = -1 then (0,x.other,ys) else if x.other ≠ -1 ∧ x.other ≠ h then (14,h,ys) else (0,h,ys):=by
 unfold jc_ yA_
 rw [if_neg (by omega),if_pos hx]
 by_cases h1 : h = -1
 · rw [if_pos h1,if_neg (by omega)]
   simp only
   rw [show max h x.other = x.other from by omega]
 · rw [if_neg h1]
   by_cases h2 : x.other ≠ -1 ∧ x.other ≠ h
   · rw [if_pos h2,if_pos (by omega)]
   · rw [if_neg h2,if_neg (by omega)]
     simp only
     rw [show max h x.other = h from by omega]
theorem zfv {h : Int} {ys : List BkV} {x : BkV} (hx : x.sign ≠ 58) (hx2 : x.sign ≠ 91) (ho : 0 ≤ x.base) (hh : -1 ≤ h) : jc_ h ys x 59 = if h = -1 then (0,x.base,ys) else if x.base ≠ -1 ∧ x.base ≠ h then (14,h,ys) else (0,h,ys):=by
 unfold jc_ yA_
 rw [if_neg (by omega),if_neg hx]
 by_cases h1 : h = -1
 · rw [if_pos h1,if_neg (by omega)]
   simp only
   rw [if_neg (fun hc => hx2 hc.1)]
 · rw [if_neg h1]
   by_cases h2 : x.base ≠ -1 ∧ x.base ≠ h
   · rw [if_pos h2,if_pos (by omega)]
   · rw [if_neg h2,if_neg (by omega)]
     simp only
     rw [if_neg (fun hc => hx2 hc.1),show x.base = h from by omega]
theorem zfu {h : Int} {ys : List BkV} {x : BkV} (hx : x.sign = 91) (hh : -1 ≤ h) : jc_ h ys x 93 = if h ≠ -1 ∧ h ≠ x.base then (14,h,ys) else if x.left = true then (0,x.base,ys) else (0,-1,ys):=by
 unfold jc_ yA_
 rw [if_neg (by omega),if_neg (by omega)]
 by_cases h1 : h ≠ -1 ∧ h ≠ x.base
 · rw [if_pos h1,if_pos (by omega)]
 · rw [if_neg h1,if_neg (by omega)]
   simp only
   cases hl : x.left with
   | true => rw [if_neg (by simp),if_pos rfl]
   | false => rw [if_pos ⟨hx,rfl⟩,if_neg (by simp)]
section
variable {W : World} {g : Nat} {h : Int} {v : Value} {bs ys : List BkV} {x : BkV}
theorem gC_ (s : Wk W g h v (ys ++ [x])) (hx : x.sign ≠ 91) : Calls Tryz.prog 130 #[.pointer (some ⟨g,0,none⟩)] W (yk_ W g (jc_ h ys x 59)):=by
 have HRB:=hQ_ (s.rb x (by simp))
 have HSH:=hQ_ (kS_ s)
 have HHR:=hQ_ s.hr
 generalize hb91 : (x.sign == 91) = b91
 generalize hb58 : (x.sign == 58) = b58
 have HPX:=hQ_ (show (ptC x).toArray = #[.bool b91,.int .i64 x.base,.bool b58,.int .i64 x.other,.bool x.left] from by unfold ptC; rw [hb91,hb58])
 have HE:=hQ_ (show b58 = true → jc_ h ys x 59 = if h = -1 then (0,x.other,ys) else if x.other ≠ -1 ∧ x.other ≠ h then (14,h,ys) else (0,h,ys) from fun hb => zfw (by rw [hb] at hb58; simpa using hb58) HRB.out.2.2.1 HHR.out.1)
 have HE2:=hQ_ (show b58 = false → jc_ h ys x 59 = if h = -1 then (0,x.base,ys) else if x.base ≠ -1 ∧ x.base ≠ h then (14,h,ys) else (0,h,ys) from fun hb => zfv (by rw [hb] at hb58; simpa using hb58) hx HRB.out.1 HHR.out.1)
 generalize jc_ h ys x 59 = R at HE HE2 ⊢
 clear s hb91 hb58 hx
 generalize x.base = xb at *
 generalize x.other = xo at *
 generalize x.left = xl at *
 go_enter Tryz.func130,Tryz.ntmps130
 go_wp2_with fail
 refine HSH.out.mono ?_
 rintro e w1 ⟨v1,rfl,hw1,hf1⟩
 rw [HPX.out]
 have HW1:=hQ_ hw1
 have HF1:=hQ_ hf1
 clear hw1 hf1
 go_upto_region 2 with fail
 have hX:=zb_.new w1 171 [.bool b91,.int .i64 xb,.bool b58,.int .i64 xo,.bool xl]
 have hal:=(Chg.refl [] w1).alloc (.cells #[.bool b91,.int .i64 xb,.bool b58,.int .i64 xo,.bool xl] 171)
 obtain ⟨gX,hgX⟩ : ∃ gX,gX = w1.heap.size:=⟨_,rfl⟩
 have hgg : g < gX:=by have:=HW1.out.rec_.lt; omega
 have hgv : ∀ b,v1.ownBlock = some b → b < gX:=fun b hb => by have:=(HW1.out.own.lt b hb).2; omega
 have HGX:=hQ_ (And.intro hgg hgv)
 clear hgg hgv
 rw [← hgX] at hX ⊢
 have HX:=hQ_ hX
 have HW2:=hQ_ (HW1.out.keep hal)
 have HF2:=hQ_ (HF1.out.new hal)
 generalize w1.alloc (.cells #[.bool b91,.int .i64 xb,.bool b58,.int .i64 xo,.bool xl] 171) = w2 at HX HW2 HF2 ⊢
 clear hX hal hgX HW1 HF1
 have c0:=HW2.out.rec_.cell 0
 have g0:=HW2.out.rec_.frozen 0
 have x1:=HX.out.cell 1
 have x2:=HX.out.cell 2
 have x3:=HX.out.cell 3
 have x4:=HX.out.cell 4
 have f3:=HX.out.frozen 3
 have hne : g ≠ gX:=by have:=HGX.out.1; omega
 have hnv : v1.ownBlock ≠ some gX:=fun e => by have:=HGX.out.2 gX e; omega
 have HHI:=hQ_ (show -1 ≤ xo ∧ xo ≤ 64 ∧ 0 ≤ xb ∧ xb ≤ 64 from ⟨HRB.out.2.2.1,HRB.out.2.2.2,HRB.out.1,HRB.out.2.1⟩)
 go_upto_if 8 with fail
 go_cut [] (fun wx => ∃ t : Int,Hid (R = if h = -1 then (0,t,ys) else if t ≠ -1 ∧ t ≠ h then (14,h,ys) else (0,h,ys)) ∧ Hid (-1 ≤ t ∧ t ≤ 64) ∧ Hid (zb_ wx gX 171 [.bool b91,.int .i64 xb,.bool b58,.int .i64 t,.bool xl]) ∧ Hid (Wk wx g h v1 ys) ∧ Hid (Fr g wkT W wx))
 case first =>
  cases b58 with
  | true =>
    go_wp2_with fail
    go_meet
    exact ⟨xo,hQ_ (HE.out (by first | rfl | trivial)),hQ_ ⟨HHI.out.1,HHI.out.2.1⟩,HX,HW2,HF2⟩
  | false =>
    have hX3:=HX.out.set_ 3 (.int .i64 xb)
    have hW3:=HW2.out.far (p:=⟨gX,3,none⟩) hne hnv (.int .i64 xb)
    have hF3:=HF2.out.setw HX.out (j:=3) (by have:=HGX.out.1; omega) (by simp [wkT]) (.int .i64 xb)
    go_wp2_with fail
    go_meet
    exact ⟨xb,hQ_ (HE2.out (by first | rfl | trivial)),hQ_ ⟨by have:=HHI.out.2.2.1; omega,HHI.out.2.2.2⟩,hQ_ (by simpa using hX3),hQ_ hW3,hQ_ hF3⟩
 case rest =>
  obtain ⟨t,HR,HT,HXt,HWt,HFt⟩:=hcut
  obtain ⟨w3,rfl⟩ : ∃ w3 : World,w3 = wc:=⟨_,rfl⟩
  clear c0 g0 x1 x2 x3 x4 f3 HX HW2 HF2
  have c0:=HWt.out.rec_.cell 0
  have g0:=HWt.out.rec_.frozen 0
  have x3:=HXt.out.cell 3
  by_cases h1 : h = -1
  · subst h1
    obtain ⟨hP2,hF2⟩:=HWt.out.high t HT.out
    have HQ:=hQ_ (show yk_ W g R (.returned (.int .i64 0)) _ from ⟨HFt.out.trans hF2,by rw [HR.out,if_pos rfl],fun _ => by rw [HR.out,if_pos rfl]; exact ⟨_,hP2⟩⟩)
    clear hP2 hF2
    go_wp2_with fail
    go_ret
    exact HQ.out
  · have q1 : (h == -1) = false:=by simpa using h1
    by_cases ht : t = -1
    · have qt : (t != -1) = false:=by simpa using ht
      have HQ:=hQ_ (fun (W' : World) (hc : Chg [] w3 W') => show yk_ W g R (.returned (.int .i64 0)) W' from ⟨HFt.out.new hc,by rw [HR.out,if_neg h1,if_neg (fun hh => hh.1 ht)],fun _ => by rw [HR.out,if_neg h1,if_neg (fun hh => hh.1 ht)]; exact ⟨_,HWt.out.keep hc⟩⟩)
      have qt2 : (t == -1) = true:=by simpa using ht
      clear ht h1
      go_upto_region 6 with fail
      go_quiet (fail)
      have HQ2:=hQ_ (HQ.out _ ((Chg.refl [] w3).drewN nq))
      go_wp2_with fail
      go_ret
      exact HQ2.out
    · have qt : (t != -1) = true:=by simpa using ht
      have qt2 : (t == -1) = false:=by simpa using ht
      by_cases hth : t = h
      · have qh : (t != h) = false:=by simpa using hth
        have qh2 : (t == h) = true:=by simpa using hth
        have HQ:=hQ_ (fun (W' : World) (hc : Chg [] w3 W') => show yk_ W g R (.returned (.int .i64 0)) W' from ⟨HFt.out.new hc,by rw [HR.out,if_neg h1,if_neg (fun hh => hh.2 hth)],fun _ => by rw [HR.out,if_neg h1,if_neg (fun hh => hh.2 hth)]; exact ⟨_,HWt.out.keep hc⟩⟩)
        clear ht h1 hth
        go_upto_region 6 with fail
        go_quiet (fail)
        have HQ2:=hQ_ (HQ.out _ ((Chg.refl [] w3).drewN nq))
        go_wp2_with fail
        go_ret
        exact HQ2.out
      · have qh : (t != h) = true:=by simpa using hth
        have qh2 : (t == h) = false:=by simpa using hth
        have HQ:=hQ_ (fun (W' : World) (hc : Chg [] w3 W') => show yk_ W g R (.returned (.int .i64 14)) W' from ⟨HFt.out.new hc,by rw [HR.out,if_neg h1,if_pos ⟨ht,hth⟩],fun hh => by rw [HR.out,if_neg h1,if_pos ⟨ht,hth⟩] at hh; exact absurd hh (by simp)⟩)
        clear ht h1 hth
        go_upto_region 6 with fail
        go_quiet (fail)
        have HQ2:=hQ_ (HQ.out _ ((Chg.refl [] w3).drewN nq))
        go_wp2_with fail
        go_ret
        exact HQ2.out
theorem jn_ (s : Wk W g h v (ys ++ [x])) (hx : x.sign = 91) : Calls Tryz.prog 131 #[.pointer (some ⟨g,0,none⟩)] W (yk_ W g (jc_ h ys x 93)):=by
 have HRB:=hQ_ (s.rb x (by simp))
 have HSH:=hQ_ (kS_ s)
 have HHR:=hQ_ s.hr
 generalize hb91 : (x.sign == 91) = b91
 generalize hb58 : (x.sign == 58) = b58
 have HPX:=hQ_ (show (ptC x).toArray = #[.bool b91,.int .i64 x.base,.bool b58,.int .i64 x.other,.bool x.left] from by unfold ptC; rw [hb91,hb58])
 have HR:=hQ_ (zfu (ys:=ys) hx HHR.out.1)
 generalize jc_ h ys x 93 = R at HR ⊢
 clear s hb91 hb58 hx
 generalize x.base = xb at *
 generalize x.other = xo at *
 generalize x.left = xl at *
 go_enter Tryz.func131,Tryz.ntmps131
 go_wp2_with fail
 refine HSH.out.mono ?_
 rintro e w1 ⟨v1,rfl,hw1,hf1⟩
 rw [HPX.out]
 have HW1:=hQ_ hw1
 have HF1:=hQ_ hf1
 clear hw1 hf1
 go_upto_region 2 with fail
 have hX:=zb_.new w1 171 [.bool b91,.int .i64 xb,.bool b58,.int .i64 xo,.bool xl]
 have hal:=(Chg.refl [] w1).alloc (.cells #[.bool b91,.int .i64 xb,.bool b58,.int .i64 xo,.bool xl] 171)
 obtain ⟨gX,hgX⟩ : ∃ gX,gX = w1.heap.size:=⟨_,rfl⟩
 have hgg : g < gX:=by have:=HW1.out.rec_.lt; omega
 have hgv : ∀ b,v1.ownBlock = some b → b < gX:=fun b hb => by have:=(HW1.out.own.lt b hb).2; omega
 have HGX:=hQ_ (And.intro hgg hgv)
 clear hgg hgv
 rw [← hgX] at hX ⊢
 have HX:=hQ_ hX
 have HW2:=hQ_ (HW1.out.keep hal)
 have HF2:=hQ_ (HF1.out.new hal)
 generalize w1.alloc (.cells #[.bool b91,.int .i64 xb,.bool b58,.int .i64 xo,.bool xl] 171) = w2 at HX HW2 HF2 ⊢
 clear hX hal hgX HW1 HF1
 have c0:=HW2.out.rec_.cell 0
 have g0:=HW2.out.rec_.frozen 0
 have x1:=HX.out.cell 1
 have x2:=HX.out.cell 2
 have x3:=HX.out.cell 3
 have x4:=HX.out.cell 4
 have f3:=HX.out.frozen 3
 have HHI:=hQ_ (show 0 ≤ xb ∧ xb ≤ 64 from ⟨HRB.out.1,HRB.out.2.1⟩)
 by_cases hbad : h ≠ -1 ∧ h ≠ xb
 · have HQ:=hQ_ (fun (W' : World) (hc : Chg [] w2 W') => show yk_ W g R (.returned (.int .i64 14)) W' from ⟨HF2.out.new hc,by rw [HR.out,if_pos hbad],fun hh => by rw [HR.out,if_pos hbad] at hh; exact absurd hh (by simp)⟩)
   have q1 : (h != -1) = true:=by simpa using hbad.1
   have q2 : (h != xb) = true:=by simpa using hbad.2
   have q3 : (h == -1) = false:=by simpa using hbad.1
   have q4 : (h == xb) = false:=by simpa using hbad.2
   clear hbad
   go_quiet (fail)
   have HQ2:=hQ_ (HQ.out _ ((Chg.refl [] w2).drewN nq))
   go_wp2_with fail
   go_ret
   exact HQ2.out
 · have hR2:=HR.out
   rw [if_neg hbad] at hR2
   have HR2:=hQ_ hR2
   have hcase : h = -1 ∨ (h ≠ -1 ∧ h = xb):=by omega
   clear hR2 hbad
   have HCX:=hQ_ (fun (W' : World) (hc : Chg [] w2 W') => show Wk W' g h v1 ys ∧ Fr g wkT W W' ∧ zb_ W' gX 171 [.bool b91,.int .i64 xb,.bool b58,.int .i64 xo,.bool xl] from ⟨HW2.out.keep hc,HF2.out.new hc,HX.out.keep hc⟩)
   rcases hcase with h1 | ⟨h1,h2⟩
   · have q1 : (h != -1) = false:=by simpa using h1
     have q3 : (h == -1) = true:=by simpa using h1
     clear h1
     go_quiet (fail)
     obtain ⟨hwA,hfA,hxA⟩:=HCX.out _ ((Chg.refl [] w2).drewN nq)
     generalize w2.drewN nq = w3 at hwA hfA hxA ⊢
     have HWA:=hQ_ hwA
     have HFA:=hQ_ hfA
     have HXA:=hQ_ hxA
     clear hwA hfA hxA c0 g0 x1 x2 x3 x4 f3
     have c0:=HWA.out.rec_.cell 0
     have g0:=HWA.out.rec_.frozen 0
     go_upto_region 5 with fail
     have HWB:=hQ_ (HWA.out.high (-1) (by omega))
     have HXB:=hQ_ (HXA.out.far (p:=⟨g,0,none⟩) (by have:=HGX.out.1; simp only; omega) (.int .i64 (-1)))
     generalize w3.setCell ⟨g,0,none⟩ (.int .i64 (-1)) = w4 at HWB HXB ⊢
     clear c0 g0
     have c0:=HWB.out.1.rec_.cell 0
     have g0:=HWB.out.1.rec_.frozen 0
     have x1:=HXB.out.cell 1
     have x4:=HXB.out.cell 4
     cases xl with
     | true =>
       have HWC:=hQ_ (HWB.out.1.high xb (by have:=HHI.out; omega))
       have HQ:=hQ_ (show yk_ W g R (.returned (.int .i64 0)) _ from ⟨(HFA.out.trans HWB.out.2).trans HWC.out.2,by rw [HR2.out,if_pos (by first | rfl | trivial)],fun _ => by rw [HR2.out,if_pos (by first | rfl | trivial)]; exact ⟨_,HWC.out.1⟩⟩)
       go_wp2_with fail
       go_ret
       exact HQ.out
     | false =>
       have HQ:=hQ_ (show yk_ W g R (.returned (.int .i64 0)) _ from ⟨HFA.out.trans HWB.out.2,by rw [HR2.out,if_neg (by simp)],fun _ => by rw [HR2.out,if_neg (by simp)]; exact ⟨_,HWB.out.1⟩⟩)
       go_wp2_with fail
       go_ret
       exact HQ.out
   · have q1 : (h != -1) = true:=by simpa using h1
     have q3 : (h == -1) = false:=by simpa using h1
     have q2 : (h != xb) = false:=by simpa using h2
     have q4 : (h == xb) = true:=by simpa using h2
     clear h1 h2
     go_quiet (fail)
     obtain ⟨hwA,hfA,hxA⟩:=HCX.out _ ((Chg.refl [] w2).drewN nq)
     generalize w2.drewN nq = w3 at hwA hfA hxA ⊢
     have HWA:=hQ_ hwA
     have HFA:=hQ_ hfA
     have HXA:=hQ_ hxA
     clear hwA hfA hxA c0 g0 x1 x2 x3 x4 f3
     have c0:=HWA.out.rec_.cell 0
     have g0:=HWA.out.rec_.frozen 0
     go_upto_region 5 with fail
     have HWB:=hQ_ (HWA.out.high (-1) (by omega))
     have HXB:=hQ_ (HXA.out.far (p:=⟨g,0,none⟩) (by have:=HGX.out.1; simp only; omega) (.int .i64 (-1)))
     generalize w3.setCell ⟨g,0,none⟩ (.int .i64 (-1)) = w4 at HWB HXB ⊢
     clear c0 g0
     have c0:=HWB.out.1.rec_.cell 0
     have g0:=HWB.out.1.rec_.frozen 0
     have x1:=HXB.out.cell 1
     have x4:=HXB.out.cell 4
     cases xl with
     | true =>
       have HWC:=hQ_ (HWB.out.1.high xb (by have:=HHI.out; omega))
       have HQ:=hQ_ (show yk_ W g R (.returned (.int .i64 0)) _ from ⟨(HFA.out.trans HWB.out.2).trans HWC.out.2,by rw [HR2.out,if_pos (by first | rfl | trivial)],fun _ => by rw [HR2.out,if_pos (by first | rfl | trivial)]; exact ⟨_,HWC.out.1⟩⟩)
       go_wp2_with fail
       go_ret
       exact HQ.out
     | false =>
       have HQ:=hQ_ (show yk_ W g R (.returned (.int .i64 0)) _ from ⟨HFA.out.trans HWB.out.2,by rw [HR2.out,if_neg (by simp)],fun _ => by rw [HR2.out,if_neg (by simp)]; exact ⟨_,HWB.out.1⟩⟩)
       go_wp2_with fail
       go_ret
       exact HQ.out
end
section
variable {W W' : World} {gs B : Nat} {h : Int} {vo : Value} {ys : List BkV} {x : BkV}
theorem St.poke_last {y : BkV} {u : Value} {g c m q j : Nat} (s : St W gs B h vo (ys ++ [x])) (hv : vo = .slice (some ⟨g,0,none⟩) m c) (hq : ys.length = q) (hj : j < 4) (hu : (bkC x).set j u = bkC y) (hy : 0 ≤ y.base ∧ y.base ≤ 64 ∧ -1 ≤ y.other ∧ y.other ≤ 64) :
    St (W.setCell ⟨g,q * 4 + j,none⟩ u) gs B h vo (ys ++ [y]):=by
 have h1:=s.poke (i:=ys.length) (x:=x) hv (by simp) hj hu hy
 rw [hq] at h1
 have e : (ys ++ [x]).set q y = ys ++ [y]:=by rw [← hq]; simp
 rwa [e] at h1
theorem zdA {g c m : Nat} (hv : vo = .slice (some ⟨g,0,none⟩) m c) : g ∈ stT gs vo:=by rw [hv]; exact zdB gs g c m
theorem gW_ (h : Int) (ys : List BkV) (x : BkV) : yA_ h ys x 58 = (true,x.base,ys ++ [⟨58,x.base,h,x.left⟩]):=rfl
theorem zbd {r : Int} (hr : r ≠ 58) (h : Int) (ys : List BkV) (x : BkV) : yA_ h ys x r = if x.sign = 58 then (if 0 ≤ x.other ∧ 0 ≤ h ∧ x.other ≠ h then (false,h,ys) else (true,max h x.other,ys))
  else if 0 ≤ h ∧ h ≠ x.base then (false,h,ys) else (true,(if x.sign = 91 ∧ x.left = false then -1 else x.base),ys):=by unfold yA_; rw [if_neg hr]
theorem jY_ (s : St W gs B h vo (ys ++ [x])) : Calls Tryz.prog 98 #[.pointer (some ⟨gs,0,none⟩),.int .i32 58] W (y1_ gs B vo (yA_ h ys x 58) W):=by
 obtain ⟨g,c,hvo,hg,j0,j1,j2,j3⟩:=s.cell (i:=ys.length) (x:=x) (by simp)
 have hl : (ys ++ [x]).length = ys.length + 1:=by simp
 have S:=hQ_ s
 have HV:=hQ_ hvo
 have c0:=s.rec_.cell 0
 have c1:=s.rec_.cell 1
 rw [hvo,hl] at c1
 have f0:=s.rec_.frozen 0
 have hwf:=s.wf x (by simp)
 have hf:=s.few
 rw [hl] at hf
 have hF : ∀ j,W.frozen? ⟨g,j,none⟩ = false:=fun j => zZ_ (by have:=s.own; rw [hvo] at this; exact this)
 have g0:=hF (ys.length * 4)
 have g2:=hF (ys.length * 4 + 2)
 have hlt : gs ≠ g:=by have:=s.lo; omega
 clear hvo s hF
 obtain ⟨hw0,hw1,hw2,hw3⟩:=hwf
 clear hl
 generalize hq : ys.length = q at *
 have HQ:=hQ_ hq
 clear hq
 have hsub : IntKind.i64.wrap (((q + 1 : Nat) : Int) - 1) = (q : Int):=by rw [IntWalk.i64_in _ (by omega)]; omega
 have hq0 : (0 : Int) ≤ (q : Int):=by omega
 have hq1 : (q : Int) < ((q + 1 : Nat) : Int):=by omega
 go_enter Tryz.func98,Tryz.ntmps98
 go_wp2_with fail
 go_quiet (fail)
 have HD:=hQ_ ((Chg.refl [] W).drewN nq)
 have S1:=hQ_ (S.out.keep HD.out)
 have j0':=zf_ j0 HD.out
 have j1':=zf_ j1 HD.out
 have j2':=zf_ j2 HD.out
 have c0':=zf_ c0 HD.out
 clear j0 j1 j2 j3 c0 c1 f0 g0 g2
 have f0:=S1.out.rec_.frozen 0
 have hF : ∀ j,(W.drewN nq).frozen? ⟨g,j,none⟩ = false:=fun j => zZ_ (by have:=S1.out.own; rw [HV.out] at this; exact this)
 have g0:=hF (q * 4)
 have g2:=hF (q * 4 + 2)
 clear hF
 generalize W.drewN nq = w1 at HD S1 j0' j1' j2' c0' f0 g0 g2 ⊢
 go_wp2_with fail
 go_region
 have hst:=S1.out.hr
 have S2:=S1.out.poke_last (j:=0) (y:=⟨58,x.base,x.other,x.left⟩) (u:=.int .i32 58) HV.out HQ.out (by omega) rfl ⟨hw0,hw1,hw2,hw3⟩
 have S3:=S2.poke_last (j:=2) (y:=⟨58,x.base,h,x.left⟩) (u:=.int .i64 h) HV.out HQ.out (by omega) rfl ⟨hw0,hw1,hst⟩
 have S4:=(S3.high x.base ⟨by omega,hw1⟩).keep ((Chg.refl [] _).drew)
 have HC4:=((((HD.out.sub (T':=stT gs vo) (by simp)).setCell (p:=⟨g,q * 4,none⟩) (fun _ => zdA HV.out) (.int .i32 58)).setCell (p:=⟨g,q * 4 + 2,none⟩) (fun _ => zdA HV.out) (.int .i64 h)).setCell (p:=⟨gs,0,none⟩) (fun _ => vB_ gs vo) (.int .i64 x.base)).drew
 have HP:=hQ_ (show y1_ gs B vo (yA_ h ys x 58) W (.returned (.bool true)) _ from ul_ true _ vo _ (gW_ h ys x) S4 HC4 (.inl rfl))
 clear S2 S3 S4 HC4
 go_wp2_with fail
 go_ret
 exact HP.out
theorem uC_ (s : St W gs B h vo (ys ++ [x])) (r : Int) (hr : r ≠ 58) : Calls Tryz.prog 98 #[.pointer (some ⟨gs,0,none⟩),.int .i32 r] W (y1_ gs B vo (yA_ h ys x r) W):=by
 obtain ⟨R,hR⟩ : ∃ R,R = yA_ h ys x r:=⟨_,rfl⟩
 rw [← hR]
 rw [zbd hr] at hR
 have HR:=hQ_ hR
 clear hR
 obtain ⟨g,c,hvo,hg,j0,j1,j2,j3⟩:=s.cell (i:=ys.length) (x:=x) (by simp)
 have hl : (ys ++ [x]).length = ys.length + 1:=by simp
 have S:=hQ_ s
 have HV:=hQ_ hvo
 have c0:=s.rec_.cell 0
 have c1:=s.rec_.cell 1
 rw [hvo,hl] at c1
 have hwf:=s.wf x (by simp)
 have hf:=s.few
 rw [hl] at hf
 have hlt : gs ≠ g:=by have:=s.lo; omega
 have hst:=s.hr
 have hcap : ys.length + 1 ≤ c ∧ c ≤ 9223372036854775807:=by
  obtain ⟨A',c',e,h1,h2,_⟩:=s.slice
  rw [hvo] at e
  injection e with _ _ e
  subst e
  rw [hl] at h1
  exact ⟨h1,h2⟩
 clear hvo s
 obtain ⟨hw0,hw1,hw2,hw3⟩:=hwf
 obtain ⟨hc1,hc2⟩:=hcap
 clear hl
 generalize hq : ys.length = q at *
 have HQ:=hQ_ hq
 clear hq
 have hsub : IntKind.i64.wrap (((q + 1 : Nat) : Int) - 1) = (q : Int):=by rw [IntWalk.i64_in _ (by omega)]; omega
 have hq0 : (0 : Int) ≤ (q : Int):=by omega
 have hq1 : (q : Int) < ((q + 1 : Nat) : Int):=by omega
 have hqc : (q : Int) ≤ (c : Int):=by omega
 have hrb : (r == 58) = false:=by simpa using hr
 go_enter Tryz.func98,Tryz.ntmps98
 go_wp2_with fail
 go_quiet (fail)
 have HD:=hQ_ ((Chg.refl [] W).drewN nq)
 have S1:=hQ_ (S.out.keep HD.out)
 have c1':=zf_ c1 HD.out
 clear j0 j1 j2 j3 c0 c1
 have f1:=S1.out.rec_.frozen 1
 generalize W.drewN nq = w1 at HD S1 c1' f1 ⊢
 go_upto_region 5 with fail
 go_region
 obtain ⟨l0,l1,l2,l3⟩ : w1.cell? ⟨g,q * 4,none⟩ = some (.int .i32 x.sign) ∧ w1.cell? ⟨g,q * 4 + 1,none⟩ = some (.int .i64 x.base) ∧ w1.cell? ⟨g,q * 4 + 2,none⟩ = some (.int .i64 x.other) ∧ w1.cell? ⟨g,q * 4 + 3,none⟩ = some (.bool x.left):=by
  obtain ⟨g',c',e,_,l0,l1,l2,l3⟩:=S1.out.cell (i:=ys.length) (x:=x) (by simp)
  rw [HV.out] at e
  injection e with e; injection e with e; injection e with e
  subst e
  rw [HQ.out] at l0 l1 l2 l3
  exact ⟨l0,l1,l2,l3⟩
 have S5':=(S1.out.drop HV.out).keep ((Chg.refl [] _).drew)
 rw [HQ.out] at S5'
 have hc5 : Chg [gs] w1 (w1.setCell ⟨gs,1,none⟩ (.slice (some ⟨g,0,none⟩) q c)).drew:=((Chg.refl [gs] w1).setCell (p:=⟨gs,1,none⟩) (by simp) _).drew
 have S5:=hQ_ S5'
 have HC5:=hQ_ (show Chg (stT gs vo) W _ from (HD.out.sub (T':=stT gs vo) (by simp)).trans (hc5.sub (by intro i hi; simp only [List.mem_cons,List.not_mem_nil,or_false] at hi; subst hi; exact vB_ _ vo)))
 generalize (w1.setCell ⟨gs,1,none⟩ (.slice (some ⟨g,0,none⟩) q c)).drew = w5 at S5 S5' HC5 hc5 ⊢
 have hgl : g < w1.heap.size:=block_lt_of_cell l0
 have k0 : w5.cell? ⟨g,q * 4,none⟩ = some (.int .i32 x.sign):=by rw [← l0]; exact World.cell?_of_block (w:=w1) (hc5.block g hgl (by simp; omega))
 have k1 : w5.cell? ⟨g,q * 4 + 1,none⟩ = some (.int .i64 x.base):=by rw [← l1]; exact World.cell?_of_block (w:=w1) (hc5.block g hgl (by simp; omega))
 have k2 : w5.cell? ⟨g,q * 4 + 2,none⟩ = some (.int .i64 x.other):=by rw [← l2]; exact World.cell?_of_block (w:=w1) (hc5.block g hgl (by simp; omega))
 have k3 : w5.cell? ⟨g,q * 4 + 3,none⟩ = some (.bool x.left):=by rw [← l3]; exact World.cell?_of_block (w:=w1) (hc5.block g hgl (by simp; omega))
 have c0:=S5'.rec_.cell 0
 have f0:=S5'.rec_.frozen 0
 have HOB:=hQ_ (show (Value.slice (some ⟨g,0,none⟩) q c).ownBlock = vo.ownBlock by rw [HV.out]; rfl)
 clear S5' hc5 l0 l1 l2 l3 c1' f1 hgl
 generalize hvo5 : Value.slice (some ⟨g,0,none⟩) q c = vo5 at S5 HOB
 clear hvo5
 by_cases h58 : x.sign = 58
 · have q58 : (x.sign == 58) = true:=by simpa using h58
   have HR1:=hQ_ (show R = if 0 ≤ x.other ∧ 0 ≤ h ∧ x.other ≠ h then (false,h,ys) else (true,max h x.other,ys) from by rw [HR.out,if_pos h58])
   clear h58
   go_upto_region 7 with fail
   by_cases ho : 0 ≤ x.other
   · have qo : decide (0 ≤ x.other) = true:=by simpa using ho
     by_cases hh : 0 ≤ h
     · have qh : decide (0 ≤ h) = true:=by simpa using hh
       by_cases hne : x.other = h
       · have HRM:=hQ_ (show R = (true,h,ys) from by rw [HR1.out,if_neg (by omega)]; congr 2; omega)
         have qn : (x.other != h) = false:=by simpa using hne
         have qn2 : (x.other == h) = true:=by simpa using hne
         go_quiet (fail)
         have S6:=hQ_ (S5.out.keep ((Chg.refl [] w5).drewN nq))
         have HC6:=hQ_ (HC5.out.drewN nq)
         have k0':=zf_ k0 ((Chg.refl [] w5).drewN nq)
         have k1':=zf_ k1 ((Chg.refl [] w5).drewN nq)
         have k2':=zf_ k2 ((Chg.refl [] w5).drewN nq)
         have k3':=zf_ k3 ((Chg.refl [] w5).drewN nq)
         clear k0 k1 k2 k3 c0 f0
         have c0:=S6.out.rec_.cell 0
         have f0:=S6.out.rec_.frozen 0
         generalize w5.drewN nq = w6 at S6 HC6 k0' k1' k2' k3' c0 f0 ⊢
         go_upto_region 9 with fail
         go_region
         have S7:=(S6.out.high h (by have:=S6.out.hr; omega)).keep ((Chg.refl [] _).drew)
         have HC7:=(HC6.out.setCell (p:=⟨gs,0,none⟩) (fun _ => vB_ gs vo) (.int .i64 h)).drew
         have HP:=hQ_ (show y1_ gs B vo R W (.returned (.bool true)) _ from ul_ true _ vo5 ys (HRM.out) S7 HC7 (.inl HOB.out))
         clear S7 HC7
         go_wp2_with fail
         go_ret
         exact HP.out
       · have HRM:=hQ_ (show R = (false,h,ys) from by rw [HR1.out,if_pos ⟨ho,hh,hne⟩])
         have qn : (x.other != h) = true:=by simpa using hne
         have qn2 : (x.other == h) = false:=by simpa using hne
         go_quiet (fail)
         have S6:=hQ_ (S5.out.keep ((Chg.refl [] w5).drewN nq))
         have HC6:=hQ_ (HC5.out.drewN nq)
         have k0':=zf_ k0 ((Chg.refl [] w5).drewN nq)
         have k1':=zf_ k1 ((Chg.refl [] w5).drewN nq)
         have k2':=zf_ k2 ((Chg.refl [] w5).drewN nq)
         have k3':=zf_ k3 ((Chg.refl [] w5).drewN nq)
         clear k0 k1 k2 k3 c0 f0
         have c0:=S6.out.rec_.cell 0
         have f0:=S6.out.rec_.frozen 0
         generalize w5.drewN nq = w6 at S6 HC6 k0' k1' k2' k3' c0 f0 ⊢
         have HP:=hQ_ (show y1_ gs B vo R W (.returned (.bool false)) w6 from ul_ false h vo5 ys HRM.out S6.out HC6.out (.inl HOB.out))
         go_wp2_with fail
         go_ret
         exact HP.out
     · have qh : decide (0 ≤ h) = false:=by simpa using hh
       have HRM:=hQ_ (show R = (true,max h x.other,ys) from by rw [HR1.out,if_neg (by omega)])
       go_quiet (fail)
       have S6:=hQ_ (S5.out.keep ((Chg.refl [] w5).drewN nq))
       have HC6:=hQ_ (HC5.out.drewN nq)
       have k0':=zf_ k0 ((Chg.refl [] w5).drewN nq)
       have k1':=zf_ k1 ((Chg.refl [] w5).drewN nq)
       have k2':=zf_ k2 ((Chg.refl [] w5).drewN nq)
       have k3':=zf_ k3 ((Chg.refl [] w5).drewN nq)
       clear k0 k1 k2 k3 c0 f0
       have c0:=S6.out.rec_.cell 0
       have f0:=S6.out.rec_.frozen 0
       generalize w5.drewN nq = w6 at S6 HC6 k0' k1' k2' k3' c0 f0 ⊢
       go_upto_region 9 with fail
       go_region
       have S7:=(S6.out.high (max h x.other) (by have:=S6.out.hr; omega)).keep ((Chg.refl [] _).drew)
       have HC7:=(HC6.out.setCell (p:=⟨gs,0,none⟩) (fun _ => vB_ gs vo) (.int .i64 (max h x.other))).drew
       have HP:=hQ_ (show y1_ gs B vo R W (.returned (.bool true)) _ from ul_ true _ vo5 ys (HRM.out) S7 HC7 (.inl HOB.out))
       clear S7 HC7
       go_wp2_with fail
       go_ret
       exact HP.out
   · have qo : decide (0 ≤ x.other) = false:=by simpa using ho
     have HRM:=hQ_ (show R = (true,max h x.other,ys) from by rw [HR1.out,if_neg (by omega)])
     go_quiet (fail)
     have S6:=hQ_ (S5.out.keep ((Chg.refl [] w5).drewN nq))
     have HC6:=hQ_ (HC5.out.drewN nq)
     have k0':=zf_ k0 ((Chg.refl [] w5).drewN nq)
     have k1':=zf_ k1 ((Chg.refl [] w5).drewN nq)
     have k2':=zf_ k2 ((Chg.refl [] w5).drewN nq)
     have k3':=zf_ k3 ((Chg.refl [] w5).drewN nq)
     clear k0 k1 k2 k3 c0 f0
     have c0:=S6.out.rec_.cell 0
     have f0:=S6.out.rec_.frozen 0
     generalize w5.drewN nq = w6 at S6 HC6 k0' k1' k2' k3' c0 f0 ⊢
     go_upto_region 9 with fail
     go_region
     have S7:=(S6.out.high (max h x.other) (by have:=S6.out.hr; omega)).keep ((Chg.refl [] _).drew)
     have HC7:=(HC6.out.setCell (p:=⟨gs,0,none⟩) (fun _ => vB_ gs vo) (.int .i64 (max h x.other))).drew
     have HP:=hQ_ (show y1_ gs B vo R W (.returned (.bool true)) _ from ul_ true _ vo5 ys (HRM.out) S7 HC7 (.inl HOB.out))
     clear S7 HC7
     go_wp2_with fail
     go_ret
     exact HP.out
 · have q58 : (x.sign == 58) = false:=by simpa using h58
   have HR1:=hQ_ (show R = if 0 ≤ h ∧ h ≠ x.base then (false,h,ys) else (true,(if x.sign = 91 ∧ x.left = false then -1 else x.base),ys) from by rw [HR.out,if_neg h58])
   clear h58
   go_upto_region 11 with fail
   by_cases hh : 0 ≤ h
   · have qh : decide (0 ≤ h) = true:=by simpa using hh
     by_cases hne : h = x.base
     · have HRN:=hQ_ (show R = (true,(if x.sign = 91 ∧ x.left = false then -1 else x.base),ys) from by rw [HR1.out,if_neg (by omega)])
       have qn : (h != x.base) = false:=by simpa using hne
       have qn2 : (h == x.base) = true:=by simpa using hne
       go_quiet (fail)
       have S6:=hQ_ (S5.out.keep ((Chg.refl [] w5).drewN nq))
       have HC6:=hQ_ (HC5.out.drewN nq)
       have k0':=zf_ k0 ((Chg.refl [] w5).drewN nq)
       have k1':=zf_ k1 ((Chg.refl [] w5).drewN nq)
       have k2':=zf_ k2 ((Chg.refl [] w5).drewN nq)
       have k3':=zf_ k3 ((Chg.refl [] w5).drewN nq)
       clear k0 k1 k2 k3 c0 f0
       have c0:=S6.out.rec_.cell 0
       have f0:=S6.out.rec_.frozen 0
       generalize w5.drewN nq = w6 at S6 HC6 k0' k1' k2' k3' c0 f0 ⊢
       go_upto_region 14 with fail
       have S7:=hQ_ (S6.out.high x.base ⟨by omega,hw1⟩)
       have HC7:=hQ_ (HC6.out.setCell (p:=⟨gs,0,none⟩) (fun _ => vB_ gs vo) (.int .i64 x.base))
       have m0 : (w6.setCell ⟨gs,0,none⟩ (.int .i64 x.base)).cell? ⟨g,q * 4,none⟩ = some (.int .i32 x.sign):=by rw [← k0']; exact World.cell?_of_block (w:=w6) (Below.heap_setCell w6 ⟨gs,0,none⟩ _ g (Ne.symm hlt))
       have m3 : (w6.setCell ⟨gs,0,none⟩ (.int .i64 x.base)).cell? ⟨g,q * 4 + 3,none⟩ = some (.bool x.left):=by rw [← k3']; exact World.cell?_of_block (w:=w6) (Below.heap_setCell w6 ⟨gs,0,none⟩ _ g (Ne.symm hlt))
       clear k0' k1' k2' k3' c0 f0
       generalize w6.setCell ⟨gs,0,none⟩ (.int .i64 x.base) = w7 at S7 HC7 m0 m3 ⊢
       have f0:=S7.out.rec_.frozen 0
       have c0:=S7.out.rec_.cell 0
       have S8:=hQ_ (S7.out.high (-1) (by omega))
       have HC8:=hQ_ (HC7.out.setCell (p:=⟨gs,0,none⟩) (fun _ => vB_ gs vo) (.int .i64 (-1)))
       have HP1:=hQ_ (fun (hn : ¬ (x.sign = 91 ∧ x.left = false)) => show y1_ gs B vo R W (.returned (.bool true)) w7 from ul_ true _ vo5 ys (by rw [HRN.out,if_neg hn]) S7.out HC7.out (.inl HOB.out))
       have HP2:=hQ_ (fun (hn : x.sign = 91 ∧ x.left = false) => show y1_ gs B vo R W (.returned (.bool true)) (w7.setCell ⟨gs,0,none⟩ (.int .i64 (-1))) from ul_ true _ vo5 ys (by rw [HRN.out,if_pos hn]) S8.out HC8.out (.inl HOB.out))
       by_cases h91 : x.sign = 91
       · have q91 : (x.sign == 91) = true:=by simpa using h91
         cases hlf : x.left
         · have HPP:=hQ_ (HP2.out ⟨h91,hlf⟩)
           rw [hlf] at m3
           clear h91 hlf
           go_wp2_with fail
           go_ret
           exact HPP.out
         · have HPP:=hQ_ (HP1.out (by rw [hlf]; simp))
           rw [hlf] at m3
           clear h91 hlf
           go_wp2_with fail
           go_ret
           exact HPP.out
       · have q91 : (x.sign == 91) = false:=by simpa using h91
         have HPP:=hQ_ (HP1.out (fun hn => h91 hn.1))
         clear h91
         go_wp2_with fail
         go_ret
         exact HPP.out
     · have HRM:=hQ_ (show R = (false,h,ys) from by rw [HR1.out,if_pos ⟨hh,hne⟩])
       have qn : (h != x.base) = true:=by simpa using hne
       have qn2 : (h == x.base) = false:=by simpa using hne
       go_quiet (fail)
       have S6:=hQ_ (S5.out.keep ((Chg.refl [] w5).drewN nq))
       have HC6:=hQ_ (HC5.out.drewN nq)
       have k0':=zf_ k0 ((Chg.refl [] w5).drewN nq)
       have k1':=zf_ k1 ((Chg.refl [] w5).drewN nq)
       have k2':=zf_ k2 ((Chg.refl [] w5).drewN nq)
       have k3':=zf_ k3 ((Chg.refl [] w5).drewN nq)
       clear k0 k1 k2 k3 c0 f0
       have c0:=S6.out.rec_.cell 0
       have f0:=S6.out.rec_.frozen 0
       generalize w5.drewN nq = w6 at S6 HC6 k0' k1' k2' k3' c0 f0 ⊢
       have HP:=hQ_ (show y1_ gs B vo R W (.returned (.bool false)) w6 from ul_ false h vo5 ys HRM.out S6.out HC6.out (.inl HOB.out))
       go_wp2_with fail
       go_ret
       exact HP.out
   · have qh : decide (0 ≤ h) = false:=by simpa using hh
     have HRN:=hQ_ (show R = (true,(if x.sign = 91 ∧ x.left = false then -1 else x.base),ys) from by rw [HR1.out,if_neg (by omega)])
     go_quiet (fail)
     have S6:=hQ_ (S5.out.keep ((Chg.refl [] w5).drewN nq))
     have HC6:=hQ_ (HC5.out.drewN nq)
     have k0':=zf_ k0 ((Chg.refl [] w5).drewN nq)
     have k1':=zf_ k1 ((Chg.refl [] w5).drewN nq)
     have k2':=zf_ k2 ((Chg.refl [] w5).drewN nq)
     have k3':=zf_ k3 ((Chg.refl [] w5).drewN nq)
     clear k0 k1 k2 k3 c0 f0
     have c0:=S6.out.rec_.cell 0
     have f0:=S6.out.rec_.frozen 0
     generalize w5.drewN nq = w6 at S6 HC6 k0' k1' k2' k3' c0 f0 ⊢
     go_upto_region 14 with fail
     have S7:=hQ_ (S6.out.high x.base ⟨by omega,hw1⟩)
     have HC7:=hQ_ (HC6.out.setCell (p:=⟨gs,0,none⟩) (fun _ => vB_ gs vo) (.int .i64 x.base))
     have m0 : (w6.setCell ⟨gs,0,none⟩ (.int .i64 x.base)).cell? ⟨g,q * 4,none⟩ = some (.int .i32 x.sign):=by rw [← k0']; exact World.cell?_of_block (w:=w6) (Below.heap_setCell w6 ⟨gs,0,none⟩ _ g (Ne.symm hlt))
     have m3 : (w6.setCell ⟨gs,0,none⟩ (.int .i64 x.base)).cell? ⟨g,q * 4 + 3,none⟩ = some (.bool x.left):=by rw [← k3']; exact World.cell?_of_block (w:=w6) (Below.heap_setCell w6 ⟨gs,0,none⟩ _ g (Ne.symm hlt))
     clear k0' k1' k2' k3' c0 f0
     generalize w6.setCell ⟨gs,0,none⟩ (.int .i64 x.base) = w7 at S7 HC7 m0 m3 ⊢
     have f0:=S7.out.rec_.frozen 0
     have c0:=S7.out.rec_.cell 0
     have S8:=hQ_ (S7.out.high (-1) (by omega))
     have HC8:=hQ_ (HC7.out.setCell (p:=⟨gs,0,none⟩) (fun _ => vB_ gs vo) (.int .i64 (-1)))
     have HP1:=hQ_ (fun (hn : ¬ (x.sign = 91 ∧ x.left = false)) => show y1_ gs B vo R W (.returned (.bool true)) w7 from ul_ true _ vo5 ys (by rw [HRN.out,if_neg hn]) S7.out HC7.out (.inl HOB.out))
     have HP2:=hQ_ (fun (hn : x.sign = 91 ∧ x.left = false) => show y1_ gs B vo R W (.returned (.bool true)) (w7.setCell ⟨gs,0,none⟩ (.int .i64 (-1))) from ul_ true _ vo5 ys (by rw [HRN.out,if_pos hn]) S8.out HC8.out (.inl HOB.out))
     by_cases h91 : x.sign = 91
     · have q91 : (x.sign == 91) = true:=by simpa using h91
       cases hlf : x.left
       · have HPP:=hQ_ (HP2.out ⟨h91,hlf⟩)
         rw [hlf] at m3
         clear h91 hlf
         go_wp2_with fail
         go_ret
         exact HPP.out
       · have HPP:=hQ_ (HP1.out (by rw [hlf]; simp))
         rw [hlf] at m3
         clear h91 hlf
         go_wp2_with fail
         go_ret
         exact HPP.out
     · have q91 : (x.sign == 91) = false:=by simpa using h91
       have HPP:=hQ_ (HP1.out (fun hn => h91 hn.1))
       clear h91
       go_wp2_with fail
       go_ret
       exact HPP.out
end
def z5_ (gs B : Nat) (vo : Value) (R : Int × Int × List BkV) (W : World) (e : Ending) (w' : World) : Prop :=
 e = .returned (.int .i64 R.1) ∧ (R.1 = 0 → ∃ vo' : Value,St w' gs B R.2.1 vo' R.2.2) ∧ Chg (stT gs vo) W w'
section
variable {W W' W1 w' : World} {gs B : Nat} {h : Int} {vo : Value} {ys bs : List BkV} {x : BkV} {A : Option Addr} {n c : Nat} {l : List FnV} {pages most : Int}
theorem uQ_ {R : Int × Int × List BkV} (er : Int) (hne : er ≠ 0) (hR : R.1 = er) (hC : Chg (stT gs vo) W W') : z5_ gs B vo R W (.returned (.int .i64 er)) W':=by
 subst hR
 exact ⟨rfl,fun h => absurd h hne,hC⟩
theorem uP_ {R : Int × Int × List BkV} (h' : Int) (vo' : Value) (bs' : List BkV) (hR : R = (0,h',bs')) (hS : St W' gs B h' vo' bs') (hC : Chg (stT gs vo) W W') : z5_ gs B vo R W (.returned (.int .i64 0)) W':=by
 subst hR
 exact ⟨rfl,fun _ => ⟨vo',hS⟩,hC⟩
theorem zcR {s name : Int} (hs : yv_ s) : x8_ l h (ys ++ [x]) s name = match yA_ h ys x s with | (true,h',bs') => (0,h',bs') | (false,h',bs') => (14,h',bs'):=by
 unfold x8_
 rw [if_pos hs]
 simp only [List.getLast?_append,List.getLast?_singleton,Option.some_or,List.dropLast_concat] <;> rfl
theorem zaD {s : Int} (hs : yv_ s) (name : Int) : zV_ l s name = (0,0,true):=by
 rcases hs with rfl | rfl | rfl <;> rfl
theorem St.push {v' : Value} (s : St W gs B h vo bs) (hc : Chg [] W W1) (ho : w'.ownsRow B 137 4 v' (bs.length + 1) (uk_ bs ++ bkC x)) (hg : W1.grownBy w' vo.ownBlock)
    (hx : 0 ≤ x.base ∧ x.base ≤ 64 ∧ -1 ≤ x.other ∧ x.other ≤ 64) (hf : bs.length + 1 ≤ 1000) : St (w'.setCell ⟨gs,1,none⟩ v') gs B h v' (bs ++ [x]):=by
      have h1:=s.keep hc
      have hr:=zi_ h1.rec_ h1.own (by decide) hg
      have haw : v'.ownBlock ≠ some gs:=fun hcc => by have:=(ho.lt gs hcc).1; have:=s.lo; omega
      refine ⟨?_,?_,s.lo,by simpa using hf,s.hr,fun b hb => ?_,by rw [zG_]; exact Nat.le_trans h1.room hg.size⟩
      · have:=hr.set_ 1 v'
        simpa using this
      · rw [jh_,zdv,List.length_append,List.length_singleton]
        exact zs_ ho haw
      · rcases List.mem_append.1 hb with hb | hb
        · exact s.wf b hb
        · rw [List.mem_singleton] at hb; subst hb; exact hx
theorem Chg.of_push {A5 : Option Addr} {m k5 : Nat} {o : Obj} (hc : Chg (stT gs vo) W W1) (s : St W1 gs B h vo bs) (hv : vo = .slice A5 m k5) (hg : (W1.alloc o).drew.grownBy w' (Value.slice A5 m k5).ownBlock) : Chg (stT gs vo) W w':=by
 subst hv
 refine (hc.trans (((Chg.refl [] W1).alloc o).drew.sub (T':=stT gs (.slice A5 m k5)) (by simp))).trans (Chg.of_grown hg fun g hgg _ => ?_)
 simp [stT,hgg]
theorem g6_ : (Tryz.prog.info? 137).map (fun i => (i.zero,i.size,i.bytes)) = some (some (.agg #[.int .i32 0,.int .i64 0,.int .i64 0,.bool false]),4,32):=by kernel_rfl
theorem gI_ (s : St W gs B h vo (ys ++ [x])) (hF : Fnr W A n c l) (t : TkV) (hr : yv_ t.sign) : Calls Tryz.prog 65 #[.pointer (some ⟨gs,0,none⟩),z2_ pages most A n c,.agg (tkC t).toArray] W (z5_ gs B vo (x8_ l h (ys ++ [x]) t.sign t.name) W):=by
 unfold z2_
 obtain ⟨r,tn,nm⟩:=t
 simp only [tkC] at hr ⊢
 obtain ⟨R,hR⟩ : ∃ R,R = x8_ l h (ys ++ [x]) r nm:=⟨_,rfl⟩
 rw [← hR]
 rw [zcR hr] at hR
 have HR:=hQ_ hR
 have HTE:=hQ_ (zaD (l:=l) hr nm)
 have S:=hQ_ s
 have HF:=hQ_ hF
 have hgs:=s.rec_.lt
 clear s hF hR
 rcases hr with rfl | rfl | rfl
 · go_enter Tryz.func65,Tryz.ntmps65
   go_upto_region 1 with fail
   have hN:=zb_.new W 24 [.int .i64 pages,.int .i64 most,.slice A n c]
   have hal : Chg [] W (W.alloc (.cells #[.int .i64 pages,.int .i64 most,.slice A n c] 24)):=(Chg.refl [] W).alloc _
   have hsz : (W.alloc (.cells #[.int .i64 pages,.int .i64 most,.slice A n c] 24)).heap.size = W.heap.size + 1:=Array.size_push _
   obtain ⟨w1,hw1⟩ : ∃ w1,w1 = W.alloc (.cells #[.int .i64 pages,.int .i64 most,.slice A n c] 24):=⟨_,rfl⟩
   rw [← hw1] at hN hal hsz ⊢
   have hN2:=zb_.new w1 110 [.int .i32 58,.int .i64 tn,.int .i32 nm]
   have hal2 : Chg [] w1 (w1.alloc (.cells #[.int .i32 58,.int .i64 tn,.int .i32 nm] 110)):=(Chg.refl [] w1).alloc _
   rw [hsz] at hN2
   have hU2:=hN.keep hal2
   have hc:=hal.trans hal2
   generalize w1.alloc (.cells #[.int .i32 58,.int .i64 tn,.int .i32 nm] 110) = w2 at hN2 hU2 hc ⊢
   have HF2:=hQ_ (HF.out.keep hc)
   have S2:=hQ_ (S.out.keep hc)
   skip
   generalize W.heap.size = g at hU2 hN2 ⊢
   have HC2:=hQ_ (hc.sub (T':=stT gs vo) (by simp))
   have u0:=hU2.cell 0
   have u1:=hU2.cell 1
   have u2:=hU2.cell 2
   have t0:=hN2.cell 0
   have t1:=hN2.cell 1
   have t2:=hN2.cell 2
   have HT2:=hQ_ hN2
   have c0:=S2.out.rec_.cell 0
   clear hN hal hsz hw1 hN2 hal2 hU2 hc
   by_cases hh : h < 0
   · have qh : decide (h < 0) = true:=by simpa using hh
     clear hh
     go_wp2_with fail
     refine (y7_ HF2.out ⟨58,tn,nm⟩).mono ?_
     rintro e w3 ⟨he3,hc3⟩
     rw [HTE.out] at he3
     subst he3
     have S3:=hQ_ (S2.out.keep hc3)
     have HC3:=hQ_ (HC2.out.trans (hc3.sub (T':=stT gs vo) (by simp)))
     have t0':=(HT2.out.keep hc3).cell 0
     clear hc3 t0 t1 t2 u0 u1 u2 c0
     go_wp2_with fail
     refine (jY_ S3.out).mono ?_
     rintro e w4 ⟨vo4,rfl,hS4,hc4,_⟩
     have HSZ:=hQ_ HC3.out.size
     have HR1:=hQ_ HR.out
     rcases hE : yA_ h ys x 58 with ⟨b4,h4,bs4⟩
     rw [hE] at hS4
     have HE:=hQ_ hE
     clear hE
     cases b4
     · have HP:=hQ_ (show z5_ gs B vo R W (.returned (.int .i64 14)) w4 from uQ_ 14 (by decide) (by rw [HR.out,HE.out]) (HC3.out.trans hc4))
       clear hS4 hc4 t0'
       go_wp2_with fail
       go_ret
       exact HP.out
     · have HP:=hQ_ (show z5_ gs B vo R W (.returned (.int .i64 0)) w4 from uP_ h4 vo4 bs4 (by rw [HR.out,HE.out]) hS4 (HC3.out.trans hc4))
       clear hS4 hc4 t0'
       go_wp2_with fail
       go_ret
       exact HP.out
   · have qh : decide (h < 0) = false:=by simpa using hh
     clear hh
     go_wp2_with fail
     refine (y7_ HF2.out ⟨58,tn,nm⟩).mono ?_
     rintro e w3 ⟨he3,hc3⟩
     rw [HTE.out] at he3
     subst he3
     have S3:=hQ_ (S2.out.keep hc3)
     have HC3:=hQ_ (HC2.out.trans (hc3.sub (T':=stT gs vo) (by simp)))
     have t0':=(HT2.out.keep hc3).cell 0
     clear hc3 t0 t1 t2 u0 u1 u2 c0
     go_wp2_with fail
     refine (jY_ S3.out).mono ?_
     rintro e w4 ⟨vo4,rfl,hS4,hc4,_⟩
     have HSZ:=hQ_ HC3.out.size
     have HR1:=hQ_ HR.out
     rcases hE : yA_ h ys x 58 with ⟨b4,h4,bs4⟩
     rw [hE] at hS4
     have HE:=hQ_ hE
     clear hE
     cases b4
     · have HP:=hQ_ (show z5_ gs B vo R W (.returned (.int .i64 14)) w4 from uQ_ 14 (by decide) (by rw [HR.out,HE.out]) (HC3.out.trans hc4))
       clear hS4 hc4 t0'
       go_wp2_with fail
       go_ret
       exact HP.out
     · have HP:=hQ_ (show z5_ gs B vo R W (.returned (.int .i64 0)) w4 from uP_ h4 vo4 bs4 (by rw [HR.out,HE.out]) hS4 (HC3.out.trans hc4))
       clear hS4 hc4 t0'
       go_wp2_with fail
       go_ret
       exact HP.out
 · go_enter Tryz.func65,Tryz.ntmps65
   go_upto_region 1 with fail
   have hN:=zb_.new W 24 [.int .i64 pages,.int .i64 most,.slice A n c]
   have hal : Chg [] W (W.alloc (.cells #[.int .i64 pages,.int .i64 most,.slice A n c] 24)):=(Chg.refl [] W).alloc _
   have hsz : (W.alloc (.cells #[.int .i64 pages,.int .i64 most,.slice A n c] 24)).heap.size = W.heap.size + 1:=Array.size_push _
   obtain ⟨w1,hw1⟩ : ∃ w1,w1 = W.alloc (.cells #[.int .i64 pages,.int .i64 most,.slice A n c] 24):=⟨_,rfl⟩
   rw [← hw1] at hN hal hsz ⊢
   have hN2:=zb_.new w1 110 [.int .i32 59,.int .i64 tn,.int .i32 nm]
   have hal2 : Chg [] w1 (w1.alloc (.cells #[.int .i32 59,.int .i64 tn,.int .i32 nm] 110)):=(Chg.refl [] w1).alloc _
   rw [hsz] at hN2
   have hU2:=hN.keep hal2
   have hc:=hal.trans hal2
   generalize w1.alloc (.cells #[.int .i32 59,.int .i64 tn,.int .i32 nm] 110) = w2 at hN2 hU2 hc ⊢
   have HF2:=hQ_ (HF.out.keep hc)
   have S2:=hQ_ (S.out.keep hc)
   skip
   generalize W.heap.size = g at hU2 hN2 ⊢
   have HC2:=hQ_ (hc.sub (T':=stT gs vo) (by simp))
   have u0:=hU2.cell 0
   have u1:=hU2.cell 1
   have u2:=hU2.cell 2
   have t0:=hN2.cell 0
   have t1:=hN2.cell 1
   have t2:=hN2.cell 2
   have HT2:=hQ_ hN2
   have c0:=S2.out.rec_.cell 0
   clear hN hal hsz hw1 hN2 hal2 hU2 hc
   by_cases hh : h < 0
   · have qh : decide (h < 0) = true:=by simpa using hh
     clear hh
     go_wp2_with fail
     refine (y7_ HF2.out ⟨59,tn,nm⟩).mono ?_
     rintro e w3 ⟨he3,hc3⟩
     rw [HTE.out] at he3
     subst he3
     have S3:=hQ_ (S2.out.keep hc3)
     have HC3:=hQ_ (HC2.out.trans (hc3.sub (T':=stT gs vo) (by simp)))
     have t0':=(HT2.out.keep hc3).cell 0
     clear hc3 t0 t1 t2 u0 u1 u2 c0
     go_wp2_with fail
     refine (uC_ S3.out 59 (by decide)).mono ?_
     rintro e w4 ⟨vo4,rfl,hS4,hc4,_⟩
     have HSZ:=hQ_ HC3.out.size
     have HR1:=hQ_ HR.out
     rcases hE : yA_ h ys x 59 with ⟨b4,h4,bs4⟩
     rw [hE] at hS4
     have HE:=hQ_ hE
     clear hE
     cases b4
     · have HP:=hQ_ (show z5_ gs B vo R W (.returned (.int .i64 14)) w4 from uQ_ 14 (by decide) (by rw [HR.out,HE.out]) (HC3.out.trans hc4))
       clear hS4 hc4 t0'
       go_wp2_with fail
       go_ret
       exact HP.out
     · have HP:=hQ_ (show z5_ gs B vo R W (.returned (.int .i64 0)) w4 from uP_ h4 vo4 bs4 (by rw [HR.out,HE.out]) hS4 (HC3.out.trans hc4))
       clear hS4 hc4 t0'
       go_wp2_with fail
       go_ret
       exact HP.out
   · have qh : decide (h < 0) = false:=by simpa using hh
     clear hh
     go_wp2_with fail
     refine (y7_ HF2.out ⟨59,tn,nm⟩).mono ?_
     rintro e w3 ⟨he3,hc3⟩
     rw [HTE.out] at he3
     subst he3
     have S3:=hQ_ (S2.out.keep hc3)
     have HC3:=hQ_ (HC2.out.trans (hc3.sub (T':=stT gs vo) (by simp)))
     have t0':=(HT2.out.keep hc3).cell 0
     clear hc3 t0 t1 t2 u0 u1 u2 c0
     go_wp2_with fail
     refine (uC_ S3.out 59 (by decide)).mono ?_
     rintro e w4 ⟨vo4,rfl,hS4,hc4,_⟩
     have HSZ:=hQ_ HC3.out.size
     have HR1:=hQ_ HR.out
     rcases hE : yA_ h ys x 59 with ⟨b4,h4,bs4⟩
     rw [hE] at hS4
     have HE:=hQ_ hE
     clear hE
     cases b4
     · have HP:=hQ_ (show z5_ gs B vo R W (.returned (.int .i64 14)) w4 from uQ_ 14 (by decide) (by rw [HR.out,HE.out]) (HC3.out.trans hc4))
       clear hS4 hc4 t0'
       go_wp2_with fail
       go_ret
       exact HP.out
     · have HP:=hQ_ (show z5_ gs B vo R W (.returned (.int .i64 0)) w4 from uP_ h4 vo4 bs4 (by rw [HR.out,HE.out]) hS4 (HC3.out.trans hc4))
       clear hS4 hc4 t0'
       go_wp2_with fail
       go_ret
       exact HP.out
 · go_enter Tryz.func65,Tryz.ntmps65
   go_upto_region 1 with fail
   have hN:=zb_.new W 24 [.int .i64 pages,.int .i64 most,.slice A n c]
   have hal : Chg [] W (W.alloc (.cells #[.int .i64 pages,.int .i64 most,.slice A n c] 24)):=(Chg.refl [] W).alloc _
   have hsz : (W.alloc (.cells #[.int .i64 pages,.int .i64 most,.slice A n c] 24)).heap.size = W.heap.size + 1:=Array.size_push _
   obtain ⟨w1,hw1⟩ : ∃ w1,w1 = W.alloc (.cells #[.int .i64 pages,.int .i64 most,.slice A n c] 24):=⟨_,rfl⟩
   rw [← hw1] at hN hal hsz ⊢
   have hN2:=zb_.new w1 110 [.int .i32 93,.int .i64 tn,.int .i32 nm]
   have hal2 : Chg [] w1 (w1.alloc (.cells #[.int .i32 93,.int .i64 tn,.int .i32 nm] 110)):=(Chg.refl [] w1).alloc _
   rw [hsz] at hN2
   have hU2:=hN.keep hal2
   have hc:=hal.trans hal2
   generalize w1.alloc (.cells #[.int .i32 93,.int .i64 tn,.int .i32 nm] 110) = w2 at hN2 hU2 hc ⊢
   have HF2:=hQ_ (HF.out.keep hc)
   have S2:=hQ_ (S.out.keep hc)
   skip
   generalize W.heap.size = g at hU2 hN2 ⊢
   have HC2:=hQ_ (hc.sub (T':=stT gs vo) (by simp))
   have u0:=hU2.cell 0
   have u1:=hU2.cell 1
   have u2:=hU2.cell 2
   have t0:=hN2.cell 0
   have t1:=hN2.cell 1
   have t2:=hN2.cell 2
   have HT2:=hQ_ hN2
   have c0:=S2.out.rec_.cell 0
   clear hN hal hsz hw1 hN2 hal2 hU2 hc
   by_cases hh : h < 0
   · have qh : decide (h < 0) = true:=by simpa using hh
     clear hh
     go_wp2_with fail
     refine (y7_ HF2.out ⟨93,tn,nm⟩).mono ?_
     rintro e w3 ⟨he3,hc3⟩
     rw [HTE.out] at he3
     subst he3
     have S3:=hQ_ (S2.out.keep hc3)
     have HC3:=hQ_ (HC2.out.trans (hc3.sub (T':=stT gs vo) (by simp)))
     have t0':=(HT2.out.keep hc3).cell 0
     clear hc3 t0 t1 t2 u0 u1 u2 c0
     go_wp2_with fail
     refine (uC_ S3.out 93 (by decide)).mono ?_
     rintro e w4 ⟨vo4,rfl,hS4,hc4,_⟩
     have HSZ:=hQ_ HC3.out.size
     have HR1:=hQ_ HR.out
     rcases hE : yA_ h ys x 93 with ⟨b4,h4,bs4⟩
     rw [hE] at hS4
     have HE:=hQ_ hE
     clear hE
     cases b4
     · have HP:=hQ_ (show z5_ gs B vo R W (.returned (.int .i64 14)) w4 from uQ_ 14 (by decide) (by rw [HR.out,HE.out]) (HC3.out.trans hc4))
       clear hS4 hc4 t0'
       go_wp2_with fail
       go_ret
       exact HP.out
     · have HP:=hQ_ (show z5_ gs B vo R W (.returned (.int .i64 0)) w4 from uP_ h4 vo4 bs4 (by rw [HR.out,HE.out]) hS4 (HC3.out.trans hc4))
       clear hS4 hc4 t0'
       go_wp2_with fail
       go_ret
       exact HP.out
   · have qh : decide (h < 0) = false:=by simpa using hh
     clear hh
     go_wp2_with fail
     refine (y7_ HF2.out ⟨93,tn,nm⟩).mono ?_
     rintro e w3 ⟨he3,hc3⟩
     rw [HTE.out] at he3
     subst he3
     have S3:=hQ_ (S2.out.keep hc3)
     have HC3:=hQ_ (HC2.out.trans (hc3.sub (T':=stT gs vo) (by simp)))
     have t0':=(HT2.out.keep hc3).cell 0
     clear hc3 t0 t1 t2 u0 u1 u2 c0
     go_wp2_with fail
     refine (uC_ S3.out 93 (by decide)).mono ?_
     rintro e w4 ⟨vo4,rfl,hS4,hc4,_⟩
     have HSZ:=hQ_ HC3.out.size
     have HR1:=hQ_ HR.out
     rcases hE : yA_ h ys x 93 with ⟨b4,h4,bs4⟩
     rw [hE] at hS4
     have HE:=hQ_ hE
     clear hE
     cases b4
     · have HP:=hQ_ (show z5_ gs B vo R W (.returned (.int .i64 14)) w4 from uQ_ 14 (by decide) (by rw [HR.out,HE.out]) (HC3.out.trans hc4))
       clear hS4 hc4 t0'
       go_wp2_with fail
       go_ret
       exact HP.out
     · have HP:=hQ_ (show z5_ gs B vo R W (.returned (.int .i64 0)) w4 from uP_ h4 vo4 bs4 (by rw [HR.out,HE.out]) hS4 (HC3.out.trans hc4))
       clear hS4 hc4 t0'
       go_wp2_with fail
       go_ret
       exact HP.out
end
section
variable {W W' : World} {gs B : Nat} {h : Int} {vo : Value} {bs : List BkV} {A : Option Addr} {n c : Nat} {l : List FnV} {pages most : Int}
theorem qe_ (s : St W gs B h vo bs) (hF : Fnr W A n c l) (t : TkV) (hne : ¬ yv_ t.sign) (hfew : bs.length < 1000) : Calls Tryz.prog 65 #[.pointer (some ⟨gs,0,none⟩),z2_ pages most A n c,.agg (tkC t).toArray] W (z5_ gs B vo (x8_ l h bs t.sign t.name) W):=by
 unfold z2_
 obtain ⟨r,tn,nm⟩:=t
 simp only [tkC] at hne ⊢
 obtain ⟨R,hR⟩ : ∃ R,R = x8_ l h bs r nm:=⟨_,rfl⟩
 rw [← hR]
 unfold x8_ at hR
 rw [if_neg hne] at hR
 have HR:=hQ_ hR
 have S:=hQ_ s
 have HF:=hQ_ hF
 have hgs:=s.rec_.lt
 obtain ⟨hh0,hh1⟩:=s.hr
 obtain ⟨hb0,hb1⟩:=zeO s
 generalize hbo : yc_ bs = b0 at hb0 hb1
 have HBO:=hQ_ hbo
 have q58 : (r == 58) = false:=by simp; intro e; exact hne (.inl e)
 have q59 : (r == 59) = false:=by simp; intro e; exact hne (.inr (.inl e))
 have q93 : (r == 93) = false:=by simp; intro e; exact hne (.inr (.inr e))
 clear s hF hbo hne hR
 go_enter Tryz.func65,Tryz.ntmps65
 go_upto_region 1 with fail
 have hN:=zb_.new W 24 [.int .i64 pages,.int .i64 most,.slice A n c]
 have hal : Chg [] W (W.alloc (.cells #[.int .i64 pages,.int .i64 most,.slice A n c] 24)):=(Chg.refl [] W).alloc _
 have hsz : (W.alloc (.cells #[.int .i64 pages,.int .i64 most,.slice A n c] 24)).heap.size = W.heap.size + 1:=Array.size_push _
 obtain ⟨w1,hw1⟩ : ∃ w1,w1 = W.alloc (.cells #[.int .i64 pages,.int .i64 most,.slice A n c] 24):=⟨_,rfl⟩
 rw [← hw1] at hN hal hsz ⊢
 have hN2:=zb_.new w1 110 [.int .i32 r,.int .i64 tn,.int .i32 nm]
 have hal2 : Chg [] w1 (w1.alloc (.cells #[.int .i32 r,.int .i64 tn,.int .i32 nm] 110)):=(Chg.refl [] w1).alloc _
 rw [hsz] at hN2
 have hU2:=hN.keep hal2
 have hc:=hal.trans hal2
 generalize w1.alloc (.cells #[.int .i32 r,.int .i64 tn,.int .i32 nm] 110) = w2 at hN2 hU2 hc ⊢
 have HF2:=hQ_ (HF.out.keep hc)
 have S2:=hQ_ (S.out.keep hc)
 have hgg:=hgs
 generalize W.heap.size = g at hU2 hN2 hgg ⊢
 have HC2:=hQ_ (hc.sub (T':=stT gs vo) (by simp))
 have u0:=hU2.cell 0
 have u1:=hU2.cell 1
 have u2:=hU2.cell 2
 have t0:=hN2.cell 0
 have t1:=hN2.cell 1
 have t2:=hN2.cell 2
 have HT2:=hQ_ hN2
 have c0:=S2.out.rec_.cell 0
 clear hN hal hsz hw1 hN2 hal2 hU2 hc
 by_cases hh : h < 0
 · have qh : decide (h < 0) = true:=by simpa using hh
   have HH:=hQ_ hh
   clear hh
   have HP:=hQ_ (show z5_ gs B vo R W (.returned (.int .i64 15)) w2 from uQ_ 15 (by decide) (by rw [HR.out,if_pos HH.out]) HC2.out)
   go_wp2_with fail
   go_ret
   exact HP.out
 · have qh : decide (h < 0) = false:=by simpa using hh
   have HR1:=hQ_ (HR.out.trans (if_neg hh))
   rcases hT : zV_ l r nm with ⟨p,g,ok⟩
   have hin:=uY_ l r nm
   rw [hT] at hin
   obtain ⟨hp0,hp1,hg0,hg1⟩:=hin
   simp only at hp0 hp1 hg0 hg1
   have HT:=hQ_ hT
   clear hT
   go_wp2_with fail
   refine (y7_ HF2.out ⟨r,tn,nm⟩).mono ?_
   rintro e w3 ⟨he3,hc3⟩
   rw [show zV_ l (TkV.mk r tn nm).sign (TkV.mk r tn nm).name = (p,g,ok) from HT.out] at he3
   subst he3
   have S3:=hQ_ (S2.out.keep hc3)
   have HF3:=hQ_ (HF2.out.keep hc3)
   have HC3:=hQ_ (HC2.out.trans (hc3.sub (T':=stT gs vo) (by simp)))
   have HT3:=hQ_ (HT2.out.keep hc3)
   clear hc3 t0 t1 t2 u0 u1 u2 c0
   cases ok
   · skip
     have HP:=hQ_ (show z5_ gs B vo R W (.returned (.int .i64 22)) w3 from uQ_ 22 (by decide) (by rw [HR1.out,HT.out]) HC3.out)
     go_wp2_with fail
     go_ret
     exact HP.out
   · have HR2:=hQ_ (show R = (if h - b0 < p ∨ 64 < h - p + g then ((14,h,bs) : Int × Int × List BkV)
         else if r = 63 ∨ r = 91 then (0,h - p + g,bs ++ [⟨r,h - p + g,0,false⟩])
         else if r = 126 then (match z7_ (h - p + g) bs bs.length with | (true,h',bs') => (0,h',bs') | (false,h',bs') => (14,h',bs'))
         else if r = 161 then (0,-1,bs)
         else (0,h - p + g,bs)) from by rw [HR1.out,HT.out,← HBO.out] <;> rfl)
     go_upto_region 11 with fail
     have c3:=S3.out.rec_.cell 0
     have HDR:=hQ_ ((Chg.refl [] w3).drew)
     have HCB:=hQ_ (fun (V : World) (hV : Chg [] w3 V) => show Calls Tryz.prog 99 #[.pointer (some ⟨gs,0,none⟩)] V (xp_ b0 V) from by rw [← HBO.out]; exact zdw (S3.out.keep hV))
     by_cases hlow : h - b0 < p
     · have qlow : decide (h - b0 < p) = true:=by simpa using hlow
       have HRE:=hQ_ (HR2.out.trans (if_pos (.inl hlow)))
       clear hlow
       refine wp_flow (by kernel_rfl) yp_ za_ (by kernel_rfl) ?_
       refine flow_move_out za_ rfl rfl rfl ?_
       refine flow1 (r:=.pointer (some ⟨gs,0,none⟩)) za_ rfl (.inn rfl) rfl (fun ev W he e1 => by go_simp) ?_
       refine flow1 (r:=.pointer (some ⟨gs,0,none⟩)) za_ rfl (.inn rfl) rfl (fun ev W he e1 => by go_simp) ?_
       refine flow1h (r:=.int .i64 h) za_ rfl (.inn rfl) rfl (fun ev W he hW e1 => by have c0:=zf_ (by simpa using c3 : w3.cell? ⟨gs,0,none⟩ = some (.int .i64 h)) (HDR.out.trans (show Chg [] w3.drew _ from hW)); go_simp) ?_
       refine flow_move_out za_ rfl rfl rfl ?_
       refine zE_ (.int .i64 b0) (by kernel_rfl) rfl (.cons (.inn rfl) .nil) (fun V hV => (HCB.out V (HDR.out.trans (show Chg [] w3.drew _ from hV))).mono fun e w' hb => ⟨hb.1,by rw [zD_]; exact hb.2⟩) ?_
       refine flow2 (r:=.int .i64 (h - b0)) za_ rfl (.inn rfl) (.inn rfl) rfl (fun ev W he e1 e2 => by have hw : IntKind.i64.wrap (h - b0) = h - b0:=IntWalk.i64_in _ (by omega); go_simp) ?_
       refine flow_move_out za_ rfl rfl rfl ?_
       refine flow2 (r:=.bool true) za_ rfl (.inn rfl) (.inn rfl) rfl (fun ev W he e1 e2 => by go_simp) ?_
       refine zL_ za_ rfl (zd_ _) (.inr (zd_ _)) rfl ?_
       refine zh_ rfl ?_
       refine zh_ rfl ?_
       refine zh_ rfl ?_
       refine zh_ rfl ?_
       refine zh_ rfl ?_
       refine zh_ rfl ?_
       refine zh_ rfl ?_
       refine zh_ rfl ?_
       refine zh_ rfl ?_
       refine yx_ za_ rfl rfl rfl ?_
       intro vs V hV hG
       obtain e67 : vs 67 = .bool true:=hG 67 _ rfl (by kernel_rfl)
       have hV' : Chg [] w3 V:=HDR.out.trans (show Chg [] w3.drew _ from hV)
       have S4:=hQ_ (S3.out.keep hV')
       have HF4:=hQ_ (HF3.out.keep hV')
       have HC4:=hQ_ (HC3.out.trans (hV'.sub (T':=stT gs vo) (by simp)))
       have HT4:=hQ_ (HT3.out.keep hV')
       simp only [zY_,Act.put,List.setIfInBounds_toArray,List.set_cons_zero,List.set_cons_succ,e67]
       clear hG hV hV' e67 c3 HCB
       have HP:=hQ_ (show z5_ gs B vo R W (.returned (.int .i64 14)) V from uQ_ 14 (by decide) (by rw [HRE.out]) HC4.out)
       go_wp2_with fail
       go_ret
       exact HP.out
     · have qlow : decide (h - b0 < p) = false:=by simpa using hlow
       by_cases hbig : 64 < h - p + g
       · have qbig : decide (64 < h - p + g) = true:=by simpa using hbig
         have HRE:=hQ_ (HR2.out.trans (if_pos (.inr hbig)))
         refine wp_flow (by kernel_rfl) yp_ za_ (by kernel_rfl) ?_
         refine flow_move_out za_ rfl rfl rfl ?_
         refine flow1 (r:=.pointer (some ⟨gs,0,none⟩)) za_ rfl (.inn rfl) rfl (fun ev W he e1 => by go_simp) ?_
         refine flow1 (r:=.pointer (some ⟨gs,0,none⟩)) za_ rfl (.inn rfl) rfl (fun ev W he e1 => by go_simp) ?_
         refine flow1h (r:=.int .i64 h) za_ rfl (.inn rfl) rfl (fun ev W he hW e1 => by have c0:=zf_ (by simpa using c3 : w3.cell? ⟨gs,0,none⟩ = some (.int .i64 h)) (HDR.out.trans (show Chg [] w3.drew _ from hW)); go_simp) ?_
         refine flow_move_out za_ rfl rfl rfl ?_
         refine zE_ (.int .i64 b0) (by kernel_rfl) rfl (.cons (.inn rfl) .nil) (fun V hV => (HCB.out V (HDR.out.trans (show Chg [] w3.drew _ from hV))).mono fun e w' hb => ⟨hb.1,by rw [zD_]; exact hb.2⟩) ?_
         refine flow2 (r:=.int .i64 (h - b0)) za_ rfl (.inn rfl) (.inn rfl) rfl (fun ev W he e1 e2 => by have hw : IntKind.i64.wrap (h - b0) = h - b0:=IntWalk.i64_in _ (by omega); go_simp) ?_
         refine flow_move_out za_ rfl rfl rfl ?_
         refine flow2 (r:=.bool false) za_ rfl (.inn rfl) (.inn rfl) rfl (fun ev W he e1 e2 => by go_simp) ?_
         refine zL_ za_ rfl (zd_ _) (.inr (zd_ _)) rfl ?_
         refine flow_move_out za_ rfl rfl rfl ?_
         refine flow1 (r:=.pointer (some ⟨gs,0,none⟩)) za_ rfl (.inn rfl) rfl (fun ev W he e1 => by go_simp) ?_
         refine flow1 (r:=.pointer (some ⟨gs,0,none⟩)) za_ rfl (.inn rfl) rfl (fun ev W he e1 => by go_simp) ?_
         refine flow1h (r:=.int .i64 h) za_ rfl (.inn rfl) rfl (fun ev W he hW e1 => by have c0:=zf_ (by simpa using c3 : w3.cell? ⟨gs,0,none⟩ = some (.int .i64 h)) (HDR.out.trans (show Chg [] w3.drew _ from hW)); go_simp) ?_
         refine flow_move_out za_ rfl rfl rfl ?_
         refine flow2 (r:=.int .i64 (h - p)) za_ rfl (.inn rfl) (.inn rfl) rfl (fun ev W he e1 e2 => by have hw : IntKind.i64.wrap (h - p) = h - p:=IntWalk.i64_in _ (by omega); go_simp) ?_
         refine flow_move_out za_ rfl rfl rfl ?_
         refine flow2 (r:=.int .i64 (h - p + g)) za_ rfl (.inn rfl) (.inn rfl) rfl (fun ev W he e1 e2 => by have hw : IntKind.i64.wrap (h - p + g) = h - p + g:=IntWalk.i64_in _ (by omega); go_simp) ?_
         refine flow2 (r:=.bool true) za_ rfl (.inn rfl) (.const _) rfl (fun ev W he e1 e2 => by go_simp) ?_
         refine zO_ za_ rfl rfl rfl ?_
         intro vs V hV hG
         obtain e67 : vs 67 = .bool true:=hG 67 _ rfl (by kernel_rfl)
         have hV' : Chg [] w3 V:=HDR.out.trans (show Chg [] w3.drew _ from hV)
         have S4:=hQ_ (S3.out.keep hV')
         have HF4:=hQ_ (HF3.out.keep hV')
         have HC4:=hQ_ (HC3.out.trans (hV'.sub (T':=stT gs vo) (by simp)))
         have HT4:=hQ_ (HT3.out.keep hV')
         simp only [zY_,Act.put,List.setIfInBounds_toArray,List.set_cons_zero,List.set_cons_succ,e67]
         clear hG hV hV' e67 c3 HCB
         have HP:=hQ_ (show z5_ gs B vo R W (.returned (.int .i64 14)) V from uQ_ 14 (by decide) (by rw [HRE.out]) HC4.out)
         go_wp2_with fail
         go_ret
         exact HP.out
       · have qbig : decide (64 < h - p + g) = false:=by simpa using hbig
         have HR3:=hQ_ (HR2.out.trans (if_neg (by omega)))
         have hlo : 0 ≤ h - p + g:=by omega
         have hhi : h - p + g ≤ 64:=by omega
         have hwa : IntKind.i64.wrap (h - p) = h - p:=IntWalk.i64_in _ (by omega)
         have hwb : IntKind.i64.wrap (h - p + g) = h - p + g:=IntWalk.i64_in _ (by omega)
         refine wp_flow (by kernel_rfl) yp_ za_ (by kernel_rfl) ?_
         refine flow_move_out za_ rfl rfl rfl ?_
         refine flow1 (r:=.pointer (some ⟨gs,0,none⟩)) za_ rfl (.inn rfl) rfl (fun ev W he e1 => by go_simp) ?_
         refine flow1 (r:=.pointer (some ⟨gs,0,none⟩)) za_ rfl (.inn rfl) rfl (fun ev W he e1 => by go_simp) ?_
         refine flow1h (r:=.int .i64 h) za_ rfl (.inn rfl) rfl (fun ev W he hW e1 => by have c0:=zf_ (by simpa using c3 : w3.cell? ⟨gs,0,none⟩ = some (.int .i64 h)) (HDR.out.trans (show Chg [] w3.drew _ from hW)); go_simp) ?_
         refine flow_move_out za_ rfl rfl rfl ?_
         refine zE_ (.int .i64 b0) (by kernel_rfl) rfl (.cons (.inn rfl) .nil) (fun V hV => (HCB.out V (HDR.out.trans (show Chg [] w3.drew _ from hV))).mono fun e w' hb => ⟨hb.1,by rw [zD_]; exact hb.2⟩) ?_
         refine flow2 (r:=.int .i64 (h - b0)) za_ rfl (.inn rfl) (.inn rfl) rfl (fun ev W he e1 e2 => by have hw : IntKind.i64.wrap (h - b0) = h - b0:=IntWalk.i64_in _ (by omega); go_simp) ?_
         refine flow_move_out za_ rfl rfl rfl ?_
         refine flow2 (r:=.bool false) za_ rfl (.inn rfl) (.inn rfl) rfl (fun ev W he e1 e2 => by go_simp) ?_
         refine zL_ za_ rfl (zd_ _) (.inr (zd_ _)) rfl ?_
         refine flow_move_out za_ rfl rfl rfl ?_
         refine flow1 (r:=.pointer (some ⟨gs,0,none⟩)) za_ rfl (.inn rfl) rfl (fun ev W he e1 => by go_simp) ?_
         refine flow1 (r:=.pointer (some ⟨gs,0,none⟩)) za_ rfl (.inn rfl) rfl (fun ev W he e1 => by go_simp) ?_
         refine flow1h (r:=.int .i64 h) za_ rfl (.inn rfl) rfl (fun ev W he hW e1 => by have c0:=zf_ (by simpa using c3 : w3.cell? ⟨gs,0,none⟩ = some (.int .i64 h)) (HDR.out.trans (show Chg [] w3.drew _ from hW)); go_simp) ?_
         refine flow_move_out za_ rfl rfl rfl ?_
         refine flow2 (r:=.int .i64 (h - p)) za_ rfl (.inn rfl) (.inn rfl) rfl (fun ev W he e1 e2 => by have hw : IntKind.i64.wrap (h - p) = h - p:=IntWalk.i64_in _ (by omega); go_simp) ?_
         refine flow_move_out za_ rfl rfl rfl ?_
         refine flow2 (r:=.int .i64 (h - p + g)) za_ rfl (.inn rfl) (.inn rfl) rfl (fun ev W he e1 e2 => by have hw : IntKind.i64.wrap (h - p + g) = h - p + g:=IntWalk.i64_in _ (by omega); go_simp) ?_
         refine flow2 (r:=.bool false) za_ rfl (.inn rfl) (.const _) rfl (fun ev W he e1 e2 => by go_simp) ?_
         refine zO_ za_ rfl rfl rfl ?_
         intro vs V hV hG
         obtain e67 : vs 67 = .bool false:=hG 67 _ rfl (by kernel_rfl)
         have hV' : Chg [] w3 V:=HDR.out.trans (show Chg [] w3.drew _ from hV)
         have S4:=hQ_ (S3.out.keep hV')
         have HF4:=hQ_ (HF3.out.keep hV')
         have HC4:=hQ_ (HC3.out.trans (hV'.sub (T':=stT gs vo) (by simp)))
         have HT4:=hQ_ (HT3.out.keep hV')
         simp only [zY_,Act.put,List.setIfInBounds_toArray,List.set_cons_zero,List.set_cons_succ,e67]
         clear hG hV hV' e67 c3 HCB
         have c0:=S4.out.rec_.cell 0
         have f0:=S4.out.rec_.frozen 0
         go_upto_region 14 with fail
         generalize h - p + g = h5 at *
         have S5:=hQ_ (S4.out.high h5 (by omega))
         have HC5:=hQ_ (HC4.out.setCell (p:=⟨gs,0,none⟩) (fun _ => vB_ gs vo) (.int .i64 h5))
         have HT5:=hQ_ (HT4.out.far (p:=⟨gs,0,none⟩) (by simp only; omega) (.int .i64 h5))
         generalize V.setCell ⟨gs,0,none⟩ (.int .i64 h5) = w5 at S5 HC5 HT5 ⊢
         clear c0 f0 hlow hbig hwa hwb qlow qbig HR2 HR1
         have t0:=HT5.out.cell 0
         have c0:=S5.out.rec_.cell 0
         have f0:=S5.out.rec_.frozen 0
         by_cases hop : r = 63 ∨ r = 91
         · have HRE:=hQ_ (HR3.out.trans (if_pos hop))
           obtain ⟨i0,hi0,hz0,hz1,hz2⟩:=info_parts g6_
           obtain ⟨A5,k5,hvo,hle,hcm,_⟩:=S5.out.slice
           have c1:=S5.out.rec_.cell 1
           rw [hvo] at c1
           have HV:=hQ_ hvo
           have hBW : B ≤ w5.heap.size:=S5.out.room
           have HOW:=hQ_ (show w5.ownsRow B 137 4 (.slice A5 bs.length k5) bs.length (uk_ bs) from by rw [← hvo]; exact S5.out.own)
           have HBL:=hQ_ (show bs.length + 1 ≤ 1000 from hfew)
           clear hvo
           obtain ⟨m,hm⟩ : ∃ m,m = bs.length:=⟨_,rfl⟩
           rw [← hm] at c1 hle hfew HOW HV
           have HM:=hQ_ hm
           clear hm
           rcases hop with rfl | rfl
           · have q1 : (w5.alloc (.cells #[.int .i32 63,.int .i64 h5,.int .i64 0,.bool false] 137)).cell? ⟨gs,1,none⟩ = some (.slice A5 m k5):=zf_ (by simpa using c1) ((Chg.refl [] w5).alloc _)
             go_upto_region 17 with fail
             go_region_law (
               (refine yD_ rfl (.tmp 88) (.tmp 96) 106 rfl B 137 i0 _ 4 32 Tryz.underlying106 hi0 hz0 hz1 hz2 rfl (by decide) (.slice A5 m k5) m (uk_ bs) rfl (zg_ HOW.out (((Chg.refl [] w5).alloc _).drew)) ⟨w5.heap.size,0,none⟩ 1 1 [.int .i32 63,.int .i64 h5,.int .i64 0,.bool false] rfl rfl (zq_ w5 _ _) (by simp [Value.oneCell']) (by unfold maxLen; omega) (by omega) (by simp; omega) ?_
                intro v' w' ho hg
                obtain ⟨A6,k6,rfl,_⟩:=zm_ ho
                have HO:=hQ_ ho
                have HG:=hQ_ hg
                have HR6:=hQ_ (zi_ (S5.out.rec_.keep (((Chg.refl [] w5).alloc (.cells #[.int .i32 63,.int .i64 h5,.int .i64 0,.bool false] 137)).drew)) (zg_ S5.out.own (((Chg.refl [] w5).alloc (.cells #[.int .i32 63,.int .i64 h5,.int .i64 0,.bool false] 137)).drew)) (by decide) (by rw [HV.out]; exact hg))
                have f1:=HR6.out.frozen 1
                have k1:=HR6.out.cell 1
                clear ho hg))
             all_goals
               have S6:=hQ_ (S5.out.push (x:=⟨63,h5,0,false⟩) (((Chg.refl [] w5).alloc (.cells #[.int .i32 63,.int .i64 h5,.int .i64 0,.bool false] 137)).drew) (by rw [← HM.out]; exact HO.out) (by rw [HV.out]; exact HG.out) ⟨by omega,by omega,by simp,by simp⟩ HBL.out)
               have HC6:=hQ_ ((show Chg (stT gs vo) W _ from Chg.of_push HC5.out S5.out HV.out HG.out).setCell (p:=⟨gs,1,none⟩) (fun _ => vB_ gs vo) (.slice A6 (m + 1) k6))
               have HP:=hQ_ (show z5_ gs B vo R W (.returned (.int .i64 0)) _ from uP_ h5 (.slice A6 (m + 1) k6) _ (HRE.out) S6.out HC6.out)
               go_wp2_with fail
               go_ret
               exact HP.out
           · have q1 : (w5.alloc (.cells #[.int .i32 91,.int .i64 h5,.int .i64 0,.bool false] 137)).cell? ⟨gs,1,none⟩ = some (.slice A5 m k5):=zf_ (by simpa using c1) ((Chg.refl [] w5).alloc _)
             go_upto_region 17 with fail
             go_region_law (
               (refine yD_ rfl (.tmp 88) (.tmp 96) 106 rfl B 137 i0 _ 4 32 Tryz.underlying106 hi0 hz0 hz1 hz2 rfl (by decide) (.slice A5 m k5) m (uk_ bs) rfl (zg_ HOW.out (((Chg.refl [] w5).alloc _).drew)) ⟨w5.heap.size,0,none⟩ 1 1 [.int .i32 91,.int .i64 h5,.int .i64 0,.bool false] rfl rfl (zq_ w5 _ _) (by simp [Value.oneCell']) (by unfold maxLen; omega) (by omega) (by simp; omega) ?_
                intro v' w' ho hg
                obtain ⟨A6,k6,rfl,_⟩:=zm_ ho
                have HO:=hQ_ ho
                have HG:=hQ_ hg
                have HR6:=hQ_ (zi_ (S5.out.rec_.keep (((Chg.refl [] w5).alloc (.cells #[.int .i32 91,.int .i64 h5,.int .i64 0,.bool false] 137)).drew)) (zg_ S5.out.own (((Chg.refl [] w5).alloc (.cells #[.int .i32 91,.int .i64 h5,.int .i64 0,.bool false] 137)).drew)) (by decide) (by rw [HV.out]; exact hg))
                have f1:=HR6.out.frozen 1
                have k1:=HR6.out.cell 1
                clear ho hg))
             all_goals
               have S6:=hQ_ (S5.out.push (x:=⟨91,h5,0,false⟩) (((Chg.refl [] w5).alloc (.cells #[.int .i32 91,.int .i64 h5,.int .i64 0,.bool false] 137)).drew) (by rw [← HM.out]; exact HO.out) (by rw [HV.out]; exact HG.out) ⟨by omega,by omega,by simp,by simp⟩ HBL.out)
               have HC6:=hQ_ ((show Chg (stT gs vo) W _ from Chg.of_push HC5.out S5.out HV.out HG.out).setCell (p:=⟨gs,1,none⟩) (fun _ => vB_ gs vo) (.slice A6 (m + 1) k6))
               have HP:=hQ_ (show z5_ gs B vo R W (.returned (.int .i64 0)) _ from uP_ h5 (.slice A6 (m + 1) k6) _ (HRE.out) S6.out HC6.out)
               go_wp2_with fail
               go_ret
               exact HP.out
         · have HR4:=hQ_ (HR3.out.trans (if_neg hop))
           have q63 : (r == 63) = false:=by simp; intro e; exact hop (.inl e)
           have q91 : (r == 91) = false:=by simp; intro e; exact hop (.inr e)
           clear hop
           by_cases h126 : r = 126
           · have q126 : (r == 126) = true:=by simpa using h126
             have HRE:=hQ_ (HR4.out.trans (if_pos h126))
             clear h126
             go_wp2_with fail
             refine (zbE S5.out).mono ?_
             rintro e w6 ⟨vo6,rfl,hS6,hc6,_⟩
             rcases hE : z7_ h5 bs bs.length with ⟨b6,h6,bs6⟩
             rw [hE] at hS6
             have HE:=hQ_ hE
             clear hE c0 f0 t0
             cases b6
             · have HP:=hQ_ (show z5_ gs B vo R W (.returned (.int .i64 14)) w6 from uQ_ 14 (by decide) (by rw [HRE.out,HE.out]) (HC5.out.trans hc6))
               clear hS6 hc6
               go_wp2_with fail
               go_ret
               exact HP.out
             · have HP:=hQ_ (show z5_ gs B vo R W (.returned (.int .i64 0)) w6 from uP_ h6 vo6 bs6 (by rw [HRE.out,HE.out]) hS6 (HC5.out.trans hc6))
               clear hS6 hc6
               go_wp2_with fail
               go_ret
               exact HP.out
           · have q126 : (r == 126) = false:=by simpa using h126
             have HR5:=hQ_ (HR4.out.trans (if_neg h126))
             clear h126
             by_cases h161 : r = 161
             · have q161 : (r == 161) = true:=by simpa using h161
               have S6:=hQ_ (S5.out.high (-1) (by omega))
               have HC6:=hQ_ (HC5.out.setCell (p:=⟨gs,0,none⟩) (fun _ => vB_ gs vo) (.int .i64 (-1)))
               have HP:=hQ_ (show z5_ gs B vo R W (.returned (.int .i64 0)) _ from uP_ (-1) vo bs (HR5.out.trans (if_pos h161)) S6.out HC6.out)
               clear h161
               go_wp2_with fail
               go_ret
               exact HP.out
             · have q161 : (r == 161) = false:=by simpa using h161
               have HP:=hQ_ (show z5_ gs B vo R W (.returned (.int .i64 0)) w5 from uP_ h5 vo bs (HR5.out.trans (if_neg h161)) S5.out HC5.out)
               clear h161
               go_wp2_with fail
               go_ret
               exact HP.out
end
end Go.Proofs.YtbkfhndmeljlcaaGreatDoor
