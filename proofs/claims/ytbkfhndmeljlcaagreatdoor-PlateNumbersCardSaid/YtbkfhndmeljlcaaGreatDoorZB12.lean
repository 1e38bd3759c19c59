import Derived.Test.YtbkfhndmeljlcaaGreatDoorZB11
set_option maxRecDepth 100000
set_option maxHeartbeats 16000000
namespace Go.Proofs.YtbkfhndmeljlcaaGreatDoor
open Go.RowKit
open Go.Lib (decodeN decode_at decodeN_shape decodeN_le_n')
theorem uD_ (l : List UInt8) (p : Nat) (h : p < l.length) :
    ((l.getD p 0).toNat < 128 ∧ Utf8.decode (zc_ l) p = ((l.getD p 0).toNat,1)) ∨
    (128 ≤ (l.getD p 0).toNat ∧ 128 ≤ (Utf8.decode (zc_ l) p).1 ∧ 1 ≤ (Utf8.decode (zc_ l) p).2 ∧ p + (Utf8.decode (zc_ l) p).2 ≤ l.length ∧ ∀ j,p ≤ j → j < p + (Utf8.decode (zc_ l) p).2 → 128 ≤ (l.getD j 0).toNat):=by
      have hg : ∀ i,(zc_ l).get! i = l.getD i 0:=fun i => yy_ l i
      have hs : (zc_ l).size = l.length:=zw_ l
      have hw:=y6_ (zc_ l) p (by rw [hs]; exact h)
      rw [decode_at,hg,hg,hg,hg,hs] at hw ⊢
      have hle:=decodeN_le_n' (l.length - p) (l.getD p 0).toNat (l.getD (p + 1) 0).toNat (l.getD (p + 2) 0).toNat (l.getD (p + 3) 0).toNat (by omega)
      rcases decodeN_shape (l.length - p) (l.getD p 0).toNat (l.getD (p + 1) 0).toNat (l.getD (p + 2) 0).toNat (l.getD (p + 3) 0).toNat with ⟨c,e⟩ | ⟨c1,c2,c3,cv,e⟩ | ⟨c1,c2,c3,c4,cv,cs,e⟩ | ⟨c1,c2,c3,c4,c5,cv,cw,e⟩ | e
      · exact .inl ⟨c,e⟩
      · rw [e] at hle ⊢
        simp only at hle ⊢
        refine .inr ⟨by omega,by omega,by omega,by omega,fun j h1 h2 => ?_⟩
        have : j = p ∨ j = p + 1:=by omega
        rcases this with rfl | rfl <;> omega
      · rw [e] at hle ⊢
        simp only at hle ⊢
        refine .inr ⟨by omega,by omega,by omega,by omega,fun j h1 h2 => ?_⟩
        have : j = p ∨ j = p + 1 ∨ j = p + 2:=by omega
        rcases this with rfl | rfl | rfl <;> omega
      · rw [e] at hle ⊢
        simp only at hle ⊢
        refine .inr ⟨by omega,by omega,by omega,by omega,fun j h1 h2 => ?_⟩
        have : j = p ∨ j = p + 1 ∨ j = p + 2 ∨ j = p + 3:=by omega
        rcases this with rfl | rfl | rfl | rfl <;> omega
      · by_cases hb : (l.getD p 0).toNat < 128
        · left
          refine ⟨hb,?_⟩
          unfold decodeN
          rw [if_pos hb]
        · rw [e] at hle ⊢
          simp only at hle ⊢
          refine .inr ⟨by omega,by omega,by omega,by omega,fun j h1 h2 => ?_⟩
          have : j = p:=by omega
          subst this
          omega
theorem xD_ {l : List UInt8} {p : Nat} (h : p < l.length) : l.drop p = l.getD p 0 :: l.drop (p + 1):=by
 rw [List.drop_eq_getElem_cons h]
 congr 1
 simp [List.getD,List.getElem?_eq_getElem h]
def zcB (l : List UInt8) : Value:=match us_ l with
  | some n => .tuple #[.int .i64 (n : Int),.bool true]
  | none => .tuple #[.int .i64 0,.bool false]
def jj_ (l : List UInt8) (w : World) (e : Ending) (w' : World) : Prop:=e = .returned (zcB l) ∧ Chg [] w w'
theorem zav : ∀ (l : List UInt8) {n m : Nat},n ≤ 9223372036854775807 → ue_ l n = some m → m ≤ 9223372036854775807
  | [],n,m,h,e => by rw [ue_] at e; injection e with e; omega
  | b :: l,n,m,h,e => by
    rw [ue_] at e
    split at e
    · split at e
      · cases e
      · exact zav l (by omega) e
    · cases e
theorem zdO {l : List UInt8} {m : Nat} (e : us_ l = some m) : m ≤ 9223372036854775807:=by
 unfold us_ at e
 split at e
 · cases e
 · exact zav l (by omega) e
section
variable {w : World}
theorem uL_ (l : List UInt8) (hl : l.length ≤ 1000000) : Calls Tryz.prog 116 #[.string (zc_ l)] w (jj_ l w):=by
 obtain ⟨V,hV⟩ : ∃ V,V = zcB l:=⟨_,rfl⟩
 unfold jj_
 rw [← hV]
 unfold zcB us_ at hV
 have hsz:=zw_ l
 by_cases h0 : l = []
 · subst h0
   rw [if_pos (.inl rfl)] at hV
   have HV:=hQ_ hV
   clear hV
   have e0 : zc_ [] = ⟨#[]⟩:=rfl
   rw [e0]
   go_enter Tryz.func116,Tryz.ntmps116
   go_wp2_with fail
   go_ret2
   exact ⟨by rw [HV.out]; rfl,Chg.refl _ _⟩
 have hlen : 0 < l.length:=List.length_pos_iff.2 h0
 have hne : (zc_ l).toList.isEmpty = false:=by
  rw [ByteArray.toList_eq,ye_]
  cases l with
  | nil => exact absurd rfl h0
  | cons => rfl
 have hlJ : (0 : Int) < ((zc_ l).size : Int):=by omega
 have hg0 : ∀ h : 0 < (zc_ l).size,((zc_ l)[0]'h).toNat = (l.getD 0 0).toNat:=by
  intro h
  have e1:=get_at (zc_ l) 0 h
  rw [Nat.add_zero,show (zc_ l).get! 0 = l.getD 0 0 from yy_ l 0] at e1
  rw [← e1]
 by_cases hz : 1 < l.length ∧ l.getD 0 0 = 48
 · rw [if_pos (.inr hz)] at hV
   have HV:=hQ_ hV
   have hlI : (1 : Int) < (l.length : Int):=by omega
   rw [hz.2] at hg0
   have hg1 : ∀ h : 0 < (zc_ l).size,((zc_ l)[0]'h).toNat = 48:=hg0
   clear hV h0 hz hg0
   generalize zc_ l = S at *
   go_enter Tryz.func116,Tryz.ntmps116
   go_wp2_with fail
   go_ret2
   exact ⟨by rw [HV.out]; rfl,Chg.refl _ _⟩
 · have hVV : V = (match ue_ (l.drop 0) 0 with | some n => Value.tuple #[.int .i64 (n : Int),.bool true] | none => .tuple #[.int .i64 0,.bool false]):=by
    rw [hV,if_neg (fun h => h.elim h0 hz)]
    rfl
   have HVV:=hQ_ hVV
   have hspl : ((1 : Int) < (l.length : Int) ∧ ∀ h : 0 < (zc_ l).size,(((((zc_ l)[0]'h).toNat : Int) == 48) = false)) ∨ decide ((1 : Int) < (l.length : Int)) = false:=by
    by_cases h1 : 1 < l.length
    · left
      refine ⟨by omega,fun h => ?_⟩
      rw [hg0 h]
      have h2 : l.getD 0 0 ≠ 48:=fun h => hz ⟨h1,h⟩
      have h3 : (l.getD 0 0).toNat ≠ 48:=fun h => h2 (UInt8.toNat_inj.1 (by rw [h]; rfl))
      generalize (l.getD 0 0).toNat = q at h3
      simp
      omega
    · right; simp; omega
   clear hV hVV hz h0 hg0
   obtain ⟨S,hS⟩ : ∃ S,S = zc_ l:=⟨_,rfl⟩
   have HS:=hQ_ hS
   have HLN:=hQ_ hsz
   have hszS : S.size = l.length:=by rw [hS]; exact hsz
   rw [← hS] at hne hlJ
   rw [← hS] at hspl
   have hspl2:=hspl
   rw [← hS]
   clear hspl hS hsz
   obtain ⟨n,hn⟩ : ∃ n,n = l.length:=⟨_,rfl⟩
   rw [← hn] at hszS hspl2 hlen hl
   have HNL:=hQ_ hn
   clear hn
   have HSN:=hQ_ hszS
   rcases hspl2 with ⟨hA,hB⟩ | hA
   all_goals
     go_enter Tryz.func116,Tryz.ntmps116
     go_upto_region 5 with fail
     clear hne hlJ
     have hI : (w.iter S 0).heap[w.heap.size]? = some (.stringIter S 0):=World.iter_heap w S 0
     have hc0 : Chg [] w (w.iter S 0):=(Chg.refl [] w).alloc _
     obtain ⟨kI,hkI⟩ : ∃ k,k = w.heap.size:=⟨_,rfl⟩
     rw [← hkI] at hI ⊢
     generalize w.iter S 0 = w1 at hI hc0 ⊢
     have HI:=hQ_ hI
     have HC0:=hQ_ hc0
     have HK:=hQ_ hkI
     clear hI hc0 hkI
     have HCZ:=hQ_ (fun (W : World) (hW : Chg [kI] w1 W) => show Chg [] w W from HC0.out.then_ hW (fun i hi hl => by have:=HK.out; simp only [List.mem_cons,List.not_mem_nil,or_false] at hi; omega))
     go_loopw [4] (fun v wr => ∃ m : Nat,v = .int .i64 (m : Int) ∧ m ≤ 9223372036854775807 ∧ (∃ pos,Hid (wr.heap[kI]? = some (.stringIter S pos)) ∧ pos ≤ n ∧ Hid (V = (match ue_ (l.drop pos) m with | some n => Value.tuple #[.int .i64 (n : Int),.bool true] | none => .tuple #[.int .i64 0,.bool false]))) ∧ Hid (Chg [kI] w1 wr)) (fun _ wr => n - wr.iterPos kI)
     case atStart => exact ⟨0,rfl,by omega,⟨0,HI,by omega,HVV⟩,hQ_ (Chg.refl _ _)⟩
     case round =>
      obtain ⟨m,rfl,hm,⟨pos,HIr,hpos,HR⟩,HCr⟩:=hrel
      by_cases hlt : pos < n
      · have hltS : pos < S.size:=by omega
        have hnx:=fun ty => Lib.run_next_any_at (P:=Tryz.prog) wr kI S pos ty HIr.out hltS
        go_upto_region 7 with fail
        have hdb:=uD_ l pos (by rw [← HNL.out]; exact hlt)
        rw [← HS.out] at hdb
        have hdr:=xD_ (l:=l) (p:=pos) (by rw [← HNL.out]; exact hlt)
        obtain ⟨d,hd⟩ : ∃ d,d = (Utf8.decode S pos).2:=⟨_,rfl⟩
        obtain ⟨x,hx⟩ : ∃ r,r = (Utf8.decode S pos).1:=⟨_,rfl⟩
        have hx2 : x ≤ 2147483647:=by rw [hx]; exact decode_le S pos
        have HI2:=hQ_ (Lib.iterAt_heap wr kI S pos (pos + d) HIr.out)
        have HC2:=hQ_ (show Chg [kI] w1 (wr.iterAt kI S (pos + d)) from HCr.out.trans ⟨rfl,rfl,rfl,by rw [Lib.iterAt_size]; exact Nat.le_refl _,fun i _ hn => Lib.iterAt_other wr kI i S (pos + d) (by simpa using hn)⟩)
        rw [← hd,← hx]
        have HMP:=hQ_ (show wr.iterPos kI = pos from by unfold World.iterPos; rw [HIr.out])
        have HP2:=hQ_ (show (wr.iterAt kI S (pos + d)).iterPos kI = pos + d from by unfold World.iterPos; rw [HI2.out])
        generalize wr.iterAt kI S (pos + d) = w3 at HI2 HC2 HP2 ⊢
        obtain ⟨c,hc⟩ : ∃ c,c = l.getD pos 0:=⟨_,rfl⟩
        rw [← hc] at hdb hdr
        have HRR:=hQ_ (show V = (match ue_ (c :: l.drop (pos + 1)) m with | some n => Value.tuple #[.int .i64 (n : Int),.bool true] | none => .tuple #[.int .i64 0,.bool false]) from by rw [← hdr]; exact HR.out)
        have hdb2 : (c.toNat < 128 ∧ x = c.toNat ∧ d = 1) ∨ (128 ≤ c.toNat ∧ 128 ≤ x):=by
         rcases hdb with ⟨h1,h2⟩ | ⟨h1,h2,_⟩
         · exact .inl ⟨h1,by rw [hx,h2],by rw [hd,h2]⟩
         · exact .inr ⟨h1,by rw [hx]; exact h2⟩
        clear hdb hx hd hnx hdr hc
        have hwx : IntKind.i32.wrap ((x : Int) - 48) = (x : Int) - 48:=by rw [IntKind.wrap_i32]; omega
        have hno : ¬ (48 ≤ x ∧ x ≤ 57) → V = .tuple #[.int .i64 0,.bool false]:=fun h => by
         rw [HRR.out,ue_,if_neg]
         rcases hdb2 with ⟨_,h2,_⟩ | ⟨h1,h2⟩ <;> omega
        by_cases hd48 : 48 ≤ x
        · by_cases hd57 : x ≤ 57
          · obtain ⟨hcx,hd1⟩ : c.toNat = x ∧ d = 1:=by
             rcases hdb2 with ⟨_,h2,h3⟩ | ⟨h1,h2⟩
             · exact ⟨h2.symm,h3⟩
             · omega
            subst hd1
            have hq : ((9223372036854775807 : Int) - ((x : Int) - 48)).tdiv 10 = (((9223372036854775807 - (x - 48)) / 10 : Nat) : Int):=by
             rw [Int.tdiv_eq_ediv_of_nonneg (by omega)]; omega
            obtain ⟨q,hqe⟩ : ∃ q,q = (9223372036854775807 - (x - 48)) / 10:=⟨_,rfl⟩
            rw [← hqe] at hq
            have hqB : (q : Int) ≤ 922337203685477580:=by omega
            have hqC : (0 : Int) ≤ (q : Int):=by omega
            have b1 : decide ((x : Int) - 48 < 0) = false:=by simp; omega
            have b2 : decide (9 < (x : Int) - 48) = false:=by simp; omega
            by_cases hov : q < m
            · have HV:=hQ_ (show V = .tuple #[.int .i64 0,.bool false] from by
               rw [HRR.out,ue_,if_pos (by omega),if_pos (by rw [hcx,← hqe]; exact hov)])
              have hovI : (q : Int) < (m : Int):=by omega
              have hovD : decide ((q : Int) < (m : Int)) = true:=by simpa using hov
              clear hov hdb2 hno hqe hcx
              go_wp2_with fail
              go_ret2
              exact ⟨by rw [HV.out]; rfl,HCZ.out _ HC2.out⟩
            · have HV:=hQ_ (show V = (match ue_ (l.drop (pos + 1)) (m * 10 + (x - 48)) with | some n => Value.tuple #[.int .i64 (n : Int),.bool true] | none => .tuple #[.int .i64 0,.bool false]) from by
               rw [HRR.out,ue_,if_pos (by omega),if_neg (by rw [hcx,← hqe]; exact hov),hcx])
              have hovI : ¬ (q : Int) < (m : Int):=by omega
              have hovD : decide ((q : Int) < (m : Int)) = false:=by simpa using hov
              have hovJ : (m : Int) ≤ (q : Int):=by omega
              clear hovI hovD
              have hm2 : m * 10 + (x - 48) ≤ 9223372036854775807:=by omega
              have HMM:=hQ_ (show ((m * 10 + (x - 48) : Nat) : Int) = (m : Int) * 10 + ((x : Int) - 48) from by omega)
              clear hov hdb2 hno hqe hcx
              go_wp2_with fail
              go_roundw
              case rel => exact ⟨m * 10 + (x - 48),by rw [HMM.out],hm2,⟨pos + 1,HI2,by omega,HV⟩,HC2⟩
              case measure => rw [HP2.out,HMP.out]; omega
          · have HV:=hQ_ (hno (by omega))
            have b1 : decide ((x : Int) - 48 < 0) = false:=by simp; omega
            have b2 : decide (9 < (x : Int) - 48) = true:=by simp; omega
            clear hdb2 hno hd48 hd57
            go_wp2_with fail
            go_ret2
            exact ⟨by rw [HV.out]; rfl,HCZ.out _ HC2.out⟩
        · have HV:=hQ_ (hno (by omega))
          have b1 : decide ((x : Int) - 48 < 0) = true:=by simp; omega
          clear hdb2 hno hd48
          go_wp2_with fail
          go_ret2
          exact ⟨by rw [HV.out]; rfl,HCZ.out _ HC2.out⟩
      · have hnx:=fun ty => Lib.run_next_end_at (P:=Tryz.prog) wr kI S pos ty HIr.out (by omega)
        have HV:=hQ_ (show V = .tuple #[.int .i64 (m : Int),.bool true] from by
         rw [HR.out,List.drop_eq_nil_of_le (by rw [← HNL.out]; omega),ue_])
        go_wp2_with fail
        go_ret2
        exact ⟨by rw [HV.out]; rfl,HCZ.out _ HCr.out⟩
end
end Go.Proofs.YtbkfhndmeljlcaaGreatDoor
namespace Go.Proofs.YtbkfhndmeljlcaaGreatDoor
open Go.RowKit
def kk_ (L : List (List UInt8)) : List Value:=L.map fun x => .string (zc_ x)
theorem qH_ (L M : List (List UInt8)) : kk_ (L ++ M) = kk_ L ++ kk_ M:=by simp [kk_]
theorem q5_ : (Tryz.prog.info? 9).map (fun i => (i.zero,i.size,i.bytes)) = some (some (.string ⟨#[]⟩),1,16):=by kernel_rfl
theorem kr_ : ∀ (a t acc : List UInt8),(∀ b ∈ a,b ≠ 10) → zz_ (a ++ t) acc = zz_ t (acc ++ a)
  | [],t,acc,_ => by simp
  | b :: a,t,acc,h => by
    rw [List.cons_append,zz_,if_neg (h b (by simp)),kr_ a t (acc ++ [b]) (fun c hc => h c (by simp [hc]))]
    simp
theorem xw_ : ∀ (t acc : List UInt8),(zz_ t acc).2.length + ((zz_ t acc).1.map List.length).sum + (zz_ t acc).1.length = t.length + acc.length
  | [],acc => by simp [zz_]
  | b :: t,acc => by
    rw [zz_]
    split
    · have:=xw_ t []
      simp only [List.length_cons,List.map_cons,List.sum_cons,List.length_nil] at this ⊢
      omega
    · have:=xw_ t (acc ++ [b])
      simp only [List.length_append,List.length_cons,List.length_nil] at this ⊢
      omega
def vv_ (l : List UInt8) : Bool:=decide (0 < (zz_ l []).1.length) && decide ((zz_ l []).2 = [])
def yH_ (l : List UInt8) (ok : Bool) (w : World) (e : Ending) (w' : World) : Prop :=
 ∃ v,e = .returned (.tuple #[v,.bool ok]) ∧ w'.ownsRow w.heap.size 9 1 v (zz_ l []).1.length (kk_ (zz_ l []).1) ∧ Chg [] w w'
section
variable {w : World}
theorem gG_ (l : List UInt8) (hl : l.length ≤ 1000000) : Calls Tryz.prog 93 #[.string (zc_ l)] w (yH_ l (vv_ l) w):=by
 obtain ⟨i0,hi0,hz0,hz1,hz2⟩:=info_parts q5_
 obtain ⟨X,hX⟩ : ∃ X,X = zz_ l []:=⟨_,rfl⟩
 obtain ⟨B,hB⟩ : ∃ B,B = vv_ l:=⟨_,rfl⟩
 rw [← hB]
 have HPP:=hQ_ (show ∀ (v : Value) (wr : World),wr.ownsRow w.heap.size 9 1 v X.1.length (kk_ X.1) → Chg [] w wr → yH_ l B w (.returned (.tuple #[v,.bool B])) wr from fun v wr h1 h2 => ⟨v,rfl,by rw [← hX]; exact h1,h2⟩)
 unfold vv_ at hB
 rw [← hX] at hB
 have HB0:=hQ_ hB
 clear hB
 have HSP:=hQ_ (show X.2.length + (X.1.map List.length).sum + X.1.length = l.length from by rw [hX]; simpa using xw_ l [])
 have HX0:=hQ_ (show X = (([] : List (List UInt8)) ++ (zz_ (l.drop 0) []).1,(zz_ (l.drop 0) []).2) from by rw [hX]; rfl)
 clear hX
 obtain ⟨S,hS⟩ : ∃ S,S = zc_ l:=⟨_,rfl⟩
 have HS:=hQ_ hS
 have hszS : S.size = l.length:=by rw [hS]; exact zw_ l
 rw [← hS]
 clear hS
 obtain ⟨n,hn⟩ : ∃ n,n = l.length:=⟨_,rfl⟩
 rw [← hn] at hszS hl
 have HNL:=hQ_ hn
 clear hn
 have HSZ:=hQ_ hszS
 go_enter Tryz.func93,Tryz.ntmps93
 go_upto_region 4 with fail
 have hI : (w.iter S 0).heap[w.heap.size]? = some (.stringIter S 0):=World.iter_heap w S 0
 have hc0 : Chg [] w (w.iter S 0):=(Chg.refl [] w).alloc _
 obtain ⟨kI,hkI⟩ : ∃ k,k = w.heap.size:=⟨_,rfl⟩
 have hsz : (w.iter S 0).heap.size = kI + 1:=by rw [hkI]; simp [World.iter]
 rw [← hkI] at hI ⊢
 generalize w.iter S 0 = w1 at hI hc0 hsz ⊢
 have HI:=hQ_ hI
 have HC0:=hQ_ hc0
 have HK:=hQ_ hkI
 have HSZ1:=hQ_ hsz
 clear hI hc0 hkI hsz hszS
 have HCZ:=hQ_ (fun (W : World) (hW : Chg [kI] w1 W) => show Chg [] w W from HC0.out.then_ hW (fun i hi hl => by have:=HK.out; simp only [List.mem_cons,List.not_mem_nil,or_false] at hi; omega))
 go_loopw [4,5] (fun v f wr => ∃ (q pos k : Nat) (L : List (List UInt8)),f = .int .i64 (q : Int) ∧ q ≤ pos ∧ pos ≤ n ∧ k ≤ pos ∧ Hid (k = L.length) ∧ Hid (wr.ownsRow (kI + 1) 9 1 v k (kk_ L)) ∧ Hid (wr.heap[kI]? = some (.stringIter S pos)) ∧ Hid (X = (L ++ (zz_ (l.drop pos) ((l.drop q).take (pos - q))).1,(zz_ (l.drop pos) ((l.drop q).take (pos - q))).2)) ∧ Hid (Chg [kI] w1 wr)) (fun _ _ wr => n - wr.iterPos kI)
 case atStart => exact ⟨0,0,0,[],rfl,by omega,by omega,by omega,hQ_ rfl,hQ_ (World.ownsRow_nil _ _ _ _),HI,HX0,hQ_ (Chg.refl _ _)⟩
 case round =>
  obtain ⟨q,pos,k,L,rfl,hqp,hpn,hkp,HKL,HO,HIr,HX,HCr⟩:=hrel
  by_cases hlt : pos < n
  · have hltS : pos < S.size:=by rw [HSZ.out]; exact hlt
    have hnx:=fun ty => Lib.run_next_any_at (P:=Tryz.prog) wr kI S pos ty HIr.out hltS
    go_upto_region 6 with fail
    have hdb:=uD_ l pos (by rw [← HNL.out]; exact hlt)
    rw [← HS.out] at hdb
    obtain ⟨d,hd⟩ : ∃ d,d = (Utf8.decode S pos).2:=⟨_,rfl⟩
    obtain ⟨x,hx⟩ : ∃ r,r = (Utf8.decode S pos).1:=⟨_,rfl⟩
    have hx2 : x ≤ 2147483647:=by rw [hx]; exact decode_le S pos
    have HI2:=hQ_ (Lib.iterAt_heap wr kI S pos (pos + d) HIr.out)
    have hcI : Chg [kI] wr (wr.iterAt kI S (pos + d)):=⟨rfl,rfl,rfl,by rw [Lib.iterAt_size]; exact Nat.le_refl _,fun i _ hn => Lib.iterAt_other wr kI i S (pos + d) (by simpa using hn)⟩
    have HC2:=hQ_ (HCr.out.trans hcI)
    have HO2:=hQ_ (z0_ HO.out hcI (by simp))
    rw [← hd,← hx]
    have hdb2 : (x = (l.getD pos 0).toNat ∧ d = 1) ∨ (128 ≤ x ∧ 1 ≤ d ∧ pos + d ≤ n ∧ ∀ j,pos ≤ j → j < pos + d → 128 ≤ (l.getD j 0).toNat):=by
     rcases hdb with ⟨h1,h2⟩ | ⟨h1,h2,h3,h4,h5⟩
     · exact .inl ⟨by rw [hx,h2],by rw [hd,h2]⟩
     · exact .inr ⟨by rw [hx]; exact h2,by rw [hd]; exact h3,by rw [hd,HNL.out]; exact h4,by rw [hd]; exact h5⟩
    have HMP:=hQ_ (show wr.iterPos kI = pos from by unfold World.iterPos; rw [HIr.out])
    have HP2:=hQ_ (show (wr.iterAt kI S (pos + d)).iterPos kI = pos + d from by unfold World.iterPos; rw [HI2.out])
    have hdr:=xD_ (l:=l) (p:=pos) (by rw [← HNL.out]; exact hlt)
    generalize wr.iterAt kI S (pos + d) = w3 at HI2 HC2 HO2 HP2 hcI ⊢
    clear hx hd hnx hdb hcI
    by_cases h10 : x = 10
    · subst h10
      obtain ⟨hb,rfl⟩ : (l.getD pos 0) = 10 ∧ d = 1:=by
       rcases hdb2 with ⟨h1,h2⟩ | ⟨h1,_⟩
       · exact ⟨UInt8.toNat_inj.1 (by rw [← h1]; rfl),h2⟩
       · omega
      have HX2:=hQ_ (show X = ((L ++ [(l.drop q).take (pos - q)]) ++ (zz_ (l.drop (pos + 1)) ((l.drop (pos + 1)).take (pos + 1 - (pos + 1)))).1,(zz_ (l.drop (pos + 1)) ((l.drop (pos + 1)).take (pos + 1 - (pos + 1)))).2) from by
       rw [HX.out,hdr,hb,zz_,if_pos rfl,Nat.sub_self,List.take_zero]
       simp)
      have hqI : (0 : Int) ≤ (q : Int):=by omega
      have hpI : (q : Int) ≤ (pos : Int):=by omega
      have hpS : (pos : Int) ≤ (S.size : Int):=by omega
      have hpT : (pos : Int) ≤ (n : Int):=by omega
      have HEX:=hQ_ (show S.extract q pos = zc_ ((l.drop q).take (pos - q)) from by rw [HS.out]; exact yo_ l q pos)
      have HB3:=hQ_ (show kI + 1 ≤ w3.heap.size from by rw [← HSZ1.out]; exact HC2.out.size)
      clear hdb2 hdr hb hx2
      go_wp2_with (
       at_builtin
       refine wpList_append_own _ rfl (.tmp 16) (.tmp 21) _ rfl (kI + 1) 9 i0 _ 1 16 Tryz.underlying59 hi0 hz0 hz1 hz2 rfl (by decide) u4 k (kk_ L) rfl (zn_ HO2.out ((Chg.refl [] w3).alloc _)) ⟨w3.heap.size,0,none⟩ 1 1 [.string (S.extract q pos)] rfl rfl (zq_ _ _ _) (by simp [Value.oneCell']) (by simp only [maxLen]; omega) (by omega) (by have:=HB3.out; simp; omega) ?_
       intro v6 w6 ho6 hg6 _
       have HO6:=hQ_ ho6
       have HG6:=hQ_ hg6
       clear ho6 hg6)
      have HO7:=hQ_ (show w6.ownsRow (kI + 1) 9 1 v6 (k + 1) (kk_ (L ++ [(l.drop q).take (pos - q)])) from by
       rw [qH_]
       show w6.ownsRow _ _ _ _ _ (kk_ L ++ [.string (zc_ ((l.drop q).take (pos - q)))])
       rw [← HEX.out]
       exact HO6.out)
      have HOW:=hQ_ (zn_ HO2.out ((Chg.refl [] w3).alloc (.cells #[.string (S.extract q pos)] 9)))
      have hkw : kI < w3.heap.size:=by have:=HB3.out; omega
      have HI6:=hQ_ (show w6.heap[kI]? = some (.stringIter S (pos + 1)) from by
       rw [HG6.out.block kI (by simp; omega) (fun hc => by have:=(HOW.out.lt kI hc.symm).1; omega)]
       exact (((Chg.refl [] w3).alloc (.cells #[.string (S.extract q pos)] 9)).block kI hkw (by simp)).trans HI2.out)
      have HC6:=hQ_ (show Chg [kI] w1 w6 from zQ_ (HC2.out.alloc _) HG6.out (fun g hg => by have:=(HOW.out.lt g hg).1; have:=HSZ1.out; omega))
      have HP6:=hQ_ (show w6.iterPos kI = pos + 1 from by unfold World.iterPos; rw [HI6.out])
      go_roundw
      case rel => exact ⟨pos + 1,pos + 1,k + 1,_,by go_num,by omega,by omega,by omega,hQ_ (by rw [HKL.out]; simp),HO7,HI6,HX2,HC6⟩
      case measure => rw [HP6.out,HMP.out]; omega
    · have h10d : ((x : Int) == 10) = false:=by simp; omega
      have hd1 : 1 ≤ d:=by rcases hdb2 with ⟨_,h⟩ | ⟨_,h,_⟩ <;> omega
      have hdn : pos + d ≤ n:=by rcases hdb2 with ⟨_,h⟩ | ⟨_,_,h,_⟩ <;> omega
      have HX2:=hQ_ (show X = (L ++ (zz_ (l.drop (pos + d)) ((l.drop q).take (pos + d - q))).1,(zz_ (l.drop (pos + d)) ((l.drop q).take (pos + d - q))).2) from by
       have hsk : l.drop pos = (l.drop pos).take d ++ l.drop (pos + d):=by
        rw [← List.drop_drop,List.take_append_drop]
       have hne : ∀ b ∈ (l.drop pos).take d,b ≠ 10:=by
        intro b hb
        obtain ⟨j,hj,rfl⟩:=List.getElem_of_mem hb
        have hjd : j < d:=by rw [List.length_take] at hj; omega
        have hjl : pos + j < l.length:=by rw [List.length_take,List.length_drop] at hj; omega
        have e1 : ((l.drop pos).take d)[j] = l.getD (pos + j) 0:=by
         rw [List.getElem_take,List.getElem_drop]
         simp [List.getD,List.getElem?_eq_getElem hjl]
        rw [e1]
        rcases hdb2 with ⟨h1,h2⟩ | ⟨_,_,_,h4⟩
        · obtain rfl : j = 0:=by omega
          rw [Nat.add_zero]
          intro hh
          rw [hh] at h1
          exact h10 h1
        · have:=h4 (pos + j) (by omega) (by omega)
          exact u8_ne (by show _ ≠ 10; omega)
       have htk : (l.drop q).take (pos + d - q) = (l.drop q).take (pos - q) ++ (l.drop pos).take d:=by
        rw [show pos + d - q = (pos - q) + d from by omega,List.take_add,List.drop_drop,show q + (pos - q) = pos from by omega]
       rw [htk,← kr_ _ _ _ hne,← hsk]
       exact HX.out)
      clear hdb2 hdr h10
      go_wp2_with fail
      go_roundw
      case rel => exact ⟨q,pos + d,k,L,rfl,by omega,by omega,by omega,HKL,HO2,HI2,HX2,HC2⟩
      case measure => rw [HP2.out,HMP.out]; omega
  · have hnx:=fun ty => Lib.run_next_end_at (P:=Tryz.prog) wr kI S pos ty HIr.out (by rw [HSZ.out]; exact hlt)
    obtain rfl : pos = n:=by omega
    have HXE:=hQ_ (show X = (L,l.drop q) from by
     rw [HX.out,HNL.out,List.drop_length,zz_,List.append_nil,List.take_of_length_le (by rw [List.length_drop]; exact Nat.le_refl _)])
    have hX1 : X.1 = L:=by rw [HXE.out]
    have hX2 : X.2 = l.drop q:=by rw [HXE.out]
    have HCf:=hQ_ (HCZ.out _ HCr.out)
    have hOf:=(show wr.ownsRow w.heap.size 9 1 u4 X.1.length (kk_ X.1) from by rw [hX1,← HKL.out]; exact vH_ HO.out (by have:=HK.out; omega))
    have HPO:=hQ_ (HPP.out _ _ hOf HCf.out)
    clear hOf
    have HKf:=hQ_ (show k = X.1.length from by rw [hX1]; exact HKL.out)
    obtain ⟨A4,c4,rfl,_⟩:=zp_ HO.out
    have hq2 : (X.2 = []) = (q = pos):=by
     rw [hX2,HNL.out]
     apply propext
     constructor
     · intro h
       have:=congrArg List.length h
       rw [List.length_drop,List.length_nil] at this
       have:=HNL.out
       omega
     · intro h
       rw [h,List.drop_length]
    have HB:=hQ_ (show B = (decide (0 < k) && decide (q = pos)) from by
     rw [HB0.out,← HKf.out]
     congr 1
     rw [decide_eq_decide,hq2])
    have hnS:=HSZ.out
    clear hX1 hX2 hq2
    by_cases hk0 : 0 < k
    · have hkI : (0 : Int) < (k : Int):=by omega
      by_cases hqn : q = pos
      · subst hqn
        have HBT:=hQ_ (show B = true from by rw [HB.out,decide_eq_true hk0]; simp)
        clear hk0
        go_wp2_with fail
        go_ret2
        have:=HPO.out
        rw [HBT.out] at this ⊢
        exact this
      · have hqd : ((q : Int) == (pos : Int)) = false:=by simp; omega
        have HBT:=hQ_ (show B = false from by rw [HB.out,decide_eq_false hqn]; simp)
        clear hk0 hqn
        go_wp2_with fail
        go_ret2
        have:=HPO.out
        rw [HBT.out] at this ⊢
        exact this
    · have hkI : ¬ (0 : Int) < (k : Int):=by omega
      have HBT:=hQ_ (show B = false from by rw [HB.out,decide_eq_false hk0]; rfl)
      clear hk0
      go_wp2_with fail
      go_ret2
      have:=HPO.out
      rw [HBT.out] at this ⊢
      exact this
end
end Go.Proofs.YtbkfhndmeljlcaaGreatDoor
namespace Go.Proofs.YtbkfhndmeljlcaaGreatDoor
open Go.RowKit
theorem uv_ (l : List UInt8) (p : Nat) (h : p < (zc_ l).size) : ((zc_ l)[p]'h) = l.getD p 0:=by
 have h2 : p < l.length:=by rw [zw_] at h; exact h
 show (l.toArray)[p]'(by simpa using h2) = _
 simp [List.getD,List.getElem?_eq_getElem h2]
section
variable {w : World}
theorem gV_ (l : List UInt8) (hl : l.length ≤ 1000000) : Calls Tryz.prog 84 #[.string (zc_ l)] w (yH_ l (decide ((zz_ l []).2 = [])) w):=by
 obtain ⟨i0,hi0,hz0,hz1,hz2⟩:=info_parts q5_
 obtain ⟨X,hX⟩ : ∃ X,X = zz_ l []:=⟨_,rfl⟩
 rw [← hX]
 have HPP:=hQ_ (show ∀ (b : Bool) (v : Value) (wr : World),b = decide (X.2 = []) → wr.ownsRow w.heap.size 9 1 v X.1.length (kk_ X.1) → Chg [] w wr → yH_ l (decide (X.2 = [])) w (.returned (.tuple #[v,.bool b])) wr from fun b v wr h0 h1 h2 => ⟨v,by rw [h0],by rw [← hX]; exact h1,h2⟩)
 generalize yH_ l (decide (X.2 = [])) w = PO at HPP ⊢
 have HX0:=hQ_ (show X = (([] : List (List UInt8)) ++ (zz_ (l.drop 0) ((l.drop 0).take (0 - 0))).1,(zz_ (l.drop 0) ((l.drop 0).take (0 - 0))).2) from by rw [hX]; rfl)
 clear hX
 obtain ⟨S,hS⟩ : ∃ S,S = zc_ l:=⟨_,rfl⟩
 have HS:=hQ_ hS
 have hszS : S.size = l.length:=by rw [hS]; exact zw_ l
 have HAT:=hQ_ (fun (p : Nat) => show ∀ h : p < S.size,((S[p]'h).toNat : Nat) = (l.getD p 0).toNat from by
  intro h
  subst hS
  rw [uv_])
 rw [← hS]
 clear hS
 obtain ⟨n,hn⟩ : ∃ n,n = l.length:=⟨_,rfl⟩
 rw [← hn] at hszS hl
 have HNL:=hQ_ hn
 clear hn
 have HSZ:=hQ_ hszS
 go_enter Tryz.func84,Tryz.ntmps84
 go_wp2_with fail
 go_loopw [4,5,6] (fun v f i wr => ∃ (q pos k : Nat) (L : List (List UInt8)),f = .int .i64 (q : Int) ∧ i = .int .i64 (pos : Int) ∧ q ≤ pos ∧ pos ≤ n ∧ k ≤ pos ∧ Hid (k = L.length) ∧ Hid (wr.ownsRow w.heap.size 9 1 v k (kk_ L)) ∧ Hid (X = (L ++ (zz_ (l.drop pos) ((l.drop q).take (pos - q))).1,(zz_ (l.drop pos) ((l.drop q).take (pos - q))).2)) ∧ Hid (Chg [] w wr)) (fun _ _ i _ => n - (intOf i).toNat)
 case atStart => exact ⟨0,0,0,[],rfl,rfl,by omega,by omega,by omega,hQ_ rfl,hQ_ (World.ownsRow_nil _ _ _ _),HX0,hQ_ (Chg.refl _ _)⟩
 case round =>
  obtain ⟨q,pos,k,L,rfl,rfl,hqp,hpn,hkp,HKL,HO,HX,HCr⟩:=hrel
  by_cases hlt : pos < n
  · have hltS : pos < S.size:=by rw [HSZ.out]; exact hlt
    have hltI : (pos : Int) < (S.size : Int):=by omega
    have hat:=HAT.out pos
    have hdr:=xD_ (l:=l) (p:=pos) (by rw [← HNL.out]; exact hlt)
    by_cases h10 : l.getD pos 0 = 10
    · rw [h10] at hat hdr
      have hat2 : ∀ h : pos < S.size,(S[pos]'h).toNat = 10:=hat
      have HX2:=hQ_ (show X = ((L ++ [(l.drop q).take (pos - q)]) ++ (zz_ (l.drop (pos + 1)) ((l.drop (pos + 1)).take (pos + 1 - (pos + 1)))).1,(zz_ (l.drop (pos + 1)) ((l.drop (pos + 1)).take (pos + 1 - (pos + 1)))).2) from by
       rw [HX.out,hdr,zz_,if_pos rfl,Nat.sub_self,List.take_zero]
       simp)
      have hqI : (0 : Int) ≤ (q : Int):=by omega
      have hpI : (q : Int) ≤ (pos : Int):=by omega
      have hpS : (pos : Int) ≤ (S.size : Int):=by omega
      have hpT : (pos : Int) ≤ (n : Int):=by omega
      have HEX:=hQ_ (show S.extract q pos = zc_ ((l.drop q).take (pos - q)) from by rw [HS.out]; exact yo_ l q pos)
      have HB3:=hQ_ (show w.heap.size ≤ wr.heap.size from HCr.out.size)
      clear hdr hat h10
      go_wp2_with (
       at_builtin
       refine wpList_append_own _ rfl (.tmp 17) (.tmp 22) _ rfl w.heap.size 9 i0 _ 1 16 Tryz.underlying59 hi0 hz0 hz1 hz2 rfl (by decide) u4 k (kk_ L) rfl (zn_ HO.out ((Chg.refl [] wr).alloc _)) ⟨wr.heap.size,0,none⟩ 1 1 [.string (S.extract q pos)] rfl rfl (zq_ _ _ _) (by simp [Value.oneCell']) (by simp only [maxLen]; omega) (by omega) (by have:=HB3.out; simp; omega) ?_
       intro v6 w6 ho6 hg6 _
       have HO6:=hQ_ ho6
       have HC6:=hQ_ (zQ_ (HCr.out.alloc _) hg6 (fun g hg => by have:=((zn_ HO.out ((Chg.refl [] wr).alloc (.cells #[.string (S.extract q pos)] 9))).lt g hg).1; omega))
       clear ho6 hg6)
      have HO7:=hQ_ (show w6.ownsRow w.heap.size 9 1 v6 (k + 1) (kk_ (L ++ [(l.drop q).take (pos - q)])) from by
       rw [qH_]
       show w6.ownsRow _ _ _ _ _ (kk_ L ++ [.string (zc_ ((l.drop q).take (pos - q)))])
       rw [← HEX.out]
       exact HO6.out)
      go_roundw
      case rel => exact ⟨pos + 1,pos + 1,k + 1,_,by go_num,by go_num,by omega,by omega,by omega,hQ_ (by rw [HKL.out]; simp),HO7,HX2,HC6⟩
      case measure => simp [intOf]; omega
    · have hxn : (l.getD pos 0).toNat ≠ 10:=fun h => h10 (UInt8.toNat_inj.1 (by rw [h]; rfl))
      generalize (l.getD pos 0).toNat = x at hat hxn
      have h10d : ((x : Int) == 10) = false:=by simp; omega
      have HX2:=hQ_ (show X = (L ++ (zz_ (l.drop (pos + 1)) ((l.drop q).take (pos + 1 - q))).1,(zz_ (l.drop (pos + 1)) ((l.drop q).take (pos + 1 - q))).2) from by
       have htk : (l.drop q).take (pos + 1 - q) = (l.drop q).take (pos - q) ++ [l.getD pos 0]:=by
        rw [show pos + 1 - q = (pos - q) + 1 from by omega,List.take_add,List.drop_drop,show q + (pos - q) = pos from by omega,hdr]
        rfl
       rw [htk,HX.out,hdr,zz_,if_neg h10])
      clear hdr h10 hxn
      go_wp2_with fail
      go_roundw
      case rel => exact ⟨q,pos + 1,k,L,rfl,by go_num,by omega,by omega,by omega,HKL,HO,HX2,HCr⟩
      case measure => simp [intOf]; omega
  · have hltI : ¬ (pos : Int) < (S.size : Int):=by omega
    obtain rfl : pos = n:=by omega
    have HXE:=hQ_ (show X = (L,l.drop q) from by
     rw [HX.out,HNL.out,List.drop_length,zz_,List.append_nil,List.take_of_length_le (by rw [List.length_drop]; exact Nat.le_refl _)])
    have hX1 : X.1 = L:=by rw [HXE.out]
    have hX2 : X.2 = l.drop q:=by rw [HXE.out]
    have hOf:=(show wr.ownsRow w.heap.size 9 1 u4 X.1.length (kk_ X.1) from by rw [hX1,← HKL.out]; exact HO.out)
    have hdec : ∀ b : Bool,b = ((q : Int) == (pos : Int)) → b = decide (X.2 = []):=by
     intro b hb
     rw [hb,hX2]
     by_cases hq : q = pos
     · subst hq
       rw [List.drop_eq_nil_of_le (by rw [← HNL.out]; exact Nat.le_refl _)]
       simp
     · have h1 : ((q : Int) == (pos : Int)) = false:=by simp; omega
       have h2 : ¬ l.drop q = []:=by
        intro h
        have:=congrArg List.length h
        rw [List.length_drop,← HNL.out] at this
        simp at this
        omega
       rw [h1,decide_eq_false h2]
    have HDE:=hQ_ hdec
    have HOF:=hQ_ hOf
    have hszI : (S.size : Int) = (pos : Int):=by omega
    clear hdec hOf hX1 hX2
    go_wp2_with fail
    exact HPP.out _ _ _ (HDE.out _ rfl) HOF.out HCr.out
end
end Go.Proofs.YtbkfhndmeljlcaaGreatDoor
namespace Go.Proofs.YtbkfhndmeljlcaaGreatDoor
open Go.RowKit
def zcq (l : List UInt8) (w : World) (e : Ending) (w' : World) : Prop :=
 ∃ (n : Nat) (b : Bool),e = .returned (.tuple #[.int .i64 (n : Int),.bool b]) ∧ (b = true → us_ l = some n) ∧ (b = false → us_ l = none) ∧ Chg [] w w'
section
variable {w : World}
theorem kw_ (l : List UInt8) (hl : l.length ≤ 1000000) : Calls Tryz.prog 110 #[.string (zc_ l)] w (zcq l w):=by
 have HPO:=hQ_ (show ∀ (n : Nat) (b : Bool) (wr : World),(b = true → us_ l = some n) → (b = false → us_ l = none) → Chg [] w wr → zcq l w (.returned (.tuple #[.int .i64 (n : Int),.bool b])) wr from fun n b wr h1 h2 h3 => ⟨n,b,rfl,h1,h2,h3⟩)
 generalize zcq l w = PO at HPO ⊢
 have hVP : ∀ o,ue_ l 0 = o → us_ l = if l = [] ∨ (1 < l.length ∧ l.getD 0 0 = 48) then none else o:=fun o h => by unfold us_; rw [h]
 have HVP:=hQ_ hVP
 clear hVP
 obtain ⟨S,hS⟩ : ∃ S,S = zc_ l:=⟨_,rfl⟩
 have hszS : S.size = l.length:=by rw [hS]; exact zw_ l
 have HAT:=hQ_ (fun (p : Nat) => show ∀ h : p < S.size,((S[p]'h).toNat : Nat) = (l.getD p 0).toNat from by
  intro h
  subst hS
  rw [uv_])
 rw [← hS]
 clear hS
 obtain ⟨n,hn⟩ : ∃ n,n = l.length:=⟨_,rfl⟩
 rw [← hn] at hszS hl
 have HNL:=hQ_ hn
 clear hn
 have HSZ:=hQ_ hszS
 go_enter Tryz.func110,Tryz.ntmps110
 go_wp2_with fail
 go_loopw [4,5] (fun v i wr => ∃ (m pos : Nat),v = .int .i64 (m : Int) ∧ i = .int .i64 (pos : Int) ∧ m ≤ 9223372036854775807 ∧ pos ≤ n ∧ Hid (ue_ l 0 = ue_ (l.drop pos) m) ∧ Hid (Chg [] w wr)) (fun _ i _ => n - (intOf i).toNat)
 case atStart => exact ⟨0,0,rfl,rfl,by omega,by omega,hQ_ rfl,hQ_ (Chg.refl _ _)⟩
 case round =>
  obtain ⟨m,pos,rfl,rfl,hm,hpn,HV,HCr⟩:=hrel
  by_cases hlt : pos < n
  · have hltS : pos < S.size:=by rw [HSZ.out]; exact hlt
    have hltI : (pos : Int) < (S.size : Int):=by omega
    have hat:=HAT.out pos
    have hdr:=xD_ (l:=l) (p:=pos) (by rw [← HNL.out]; exact hlt)
    have hx255 : (l.getD pos 0).toNat < 256:=UInt8.toNat_lt _
    have HVD:=hQ_ (show ue_ l 0 = ue_ (l.getD pos 0 :: l.drop (pos + 1)) m from by rw [← hdr]; exact HV.out)
    have HNO:=hQ_ (show ue_ l 0 = none → us_ l = none from fun h => by rw [HVP.out _ h]; split <;> rfl)
    clear hdr
    generalize l.getD pos 0 = c at hat hx255 HVD
    obtain ⟨x,hx⟩ : ∃ x,x = c.toNat:=⟨_,rfl⟩
    rw [← hx] at hat hx255
    have HX:=hQ_ hx
    clear hx
    by_cases hd48 : x < 48
    · have HZ:=hQ_ (HNO.out (by rw [HVD.out,ue_,if_neg (by rw [← HX.out]; omega)]))
      have b1 : decide ((x : Int) < 48) = true:=by simp; omega
      go_wp2_with fail
      exact HPO.out 0 false _ (fun h => by cases h) (fun _ => HZ.out) HCr.out
    · have b1 : decide ((x : Int) < 48) = false:=by simp; omega
      by_cases hd57 : 57 < x
      · have HZ:=hQ_ (HNO.out (by rw [HVD.out,ue_,if_neg (by rw [← HX.out]; omega)]))
        have b2 : decide ((57 : Int) < (x : Int)) = true:=by simp; omega
        go_wp2_with fail
        exact HPO.out 0 false _ (fun h => by cases h) (fun _ => HZ.out) HCr.out
      · have b2 : decide ((57 : Int) < (x : Int)) = false:=by simp; omega
        have hwx : IntKind.u8.wrap ((x : Int) - 48) = (x : Int) - 48:=by rw [IntKind.wrap_u8]; omega
        have hq : ((9223372036854775807 : Int) - ((x : Int) - 48)).tdiv 10 = (((9223372036854775807 - (x - 48)) / 10 : Nat) : Int):=by
         rw [Int.tdiv_eq_ediv_of_nonneg (by omega)]; omega
        obtain ⟨q,hqe⟩ : ∃ q,q = (9223372036854775807 - (x - 48)) / 10:=⟨_,rfl⟩
        rw [← hqe] at hq
        have hqB : (q : Int) ≤ 922337203685477580:=by omega
        have hqC : (0 : Int) ≤ (q : Int):=by omega
        by_cases hov : q < m
        · have HZ:=hQ_ (HNO.out (by rw [HVD.out,ue_,if_pos (by rw [← HX.out]; omega),if_pos (by rw [← HX.out,← hqe]; exact hov)]))
          have hovD : decide ((q : Int) < (m : Int)) = true:=by simpa using hov
          have hovI : (q : Int) < (m : Int):=by omega
          clear hov hqe
          go_wp2_with fail
          exact HPO.out 0 false _ (fun h => by cases h) (fun _ => HZ.out) HCr.out
        · have HV2:=hQ_ (show ue_ l 0 = ue_ (l.drop (pos + 1)) (m * 10 + (x - 48)) from by
           rw [HVD.out,ue_,if_pos (by rw [← HX.out]; omega),if_neg (by rw [← HX.out,← hqe]; exact hov),← HX.out])
          have hovJ : (m : Int) ≤ (q : Int):=by omega
          have hovD : decide ((q : Int) < (m : Int)) = false:=by simpa using hov
          have hm2 : m * 10 + (x - 48) ≤ 9223372036854775807:=by omega
          have HMM:=hQ_ (show ((m * 10 + (x - 48) : Nat) : Int) = (m : Int) * 10 + ((x : Int) - 48) from by omega)
          clear hov hqe
          go_wp2_with fail
          go_roundw
          case rel => exact ⟨m * 10 + (x - 48),pos + 1,by rw [HMM.out],by go_num,hm2,by omega,HV2,HCr⟩
          case measure => simp [intOf]; omega
  · have hltI : ¬ (pos : Int) < (S.size : Int):=by omega
    have HVS:=hQ_ (HVP.out (some m) (by rw [HV.out,List.drop_eq_nil_of_le (by rw [← HNL.out]; omega),ue_]))
    have hat0:=HAT.out 0
    by_cases hn0 : n = 0
    · have HL:=hQ_ (show l = [] from List.eq_nil_of_length_eq_zero (by rw [← HNL.out]; exact hn0))
      have b0 : decide (0 < n) = false:=decide_eq_false (by omega)
      have b00 : decide ((0 : Int) < (n : Int)) = false:=decide_eq_false (by omega)
      go_upto_region 8 with fail
      go_region
      go_wp2_with fail
      exact HPO.out m false _ (fun h => by cases h) (fun _ => by rw [HVS.out,if_pos (.inl HL.out)]) HCr.out.drew
    · have b0 : decide (0 < n) = true:=decide_eq_true (by omega)
      have b00 : decide ((0 : Int) < (n : Int)) = true:=decide_eq_true (by omega)
      have hn0p : 0 < n:=by omega
      have HL:=hQ_ (show l ≠ [] from fun h => hn0 (by rw [HNL.out,h]; rfl))
      by_cases hn1 : n = 1
      · subst hn1
        go_upto_region 8 with fail
        go_region
        go_wp2_with fail
        exact HPO.out m true _ (fun _ => by rw [HVS.out,if_neg (fun h => h.elim HL.out (fun h => by have:=HNL.out; omega))]) (fun h => by cases h) HCr.out.drew
      · have b1 : ((n : Int) == 1) = false:=by simp; omega
        have b11 : (n == 1) = false:=by simpa using hn1
        have hS0 : 0 < S.size:=by omega
        have hS0I : (0 : Int) < (S.size : Int):=by omega
        generalize hc : l.getD 0 0 = c0 at hat0
        by_cases h48 : c0.toNat = 48
        · rw [h48] at hat0
          have hat1 : ∀ h : 0 < S.size,(S[0]'h).toNat = 48:=hat0
          have HZ:=hQ_ (show l.getD 0 0 = 48 from by rw [hc]; exact UInt8.toNat_inj.1 (by rw [h48]; rfl))
          clear hat0 hc
          go_upto_region 8 with fail
          go_region
          go_wp2_with fail
          exact HPO.out m false _ (fun h => by cases h) (fun _ => by rw [HVS.out,if_pos (.inr ⟨by have:=HNL.out; omega,HZ.out⟩)]) HCr.out.drew
        · have HZ:=hQ_ (show l.getD 0 0 ≠ 48 from fun h => h48 (by rw [← hc,h]; rfl))
          generalize c0.toNat = x0 at hat0 h48
          have h48d : ((x0 : Int) == 48) = false:=by simp; omega
          have h48e : ((x0 : Int) != 48) = true:=by simp; omega
          clear hc
          go_upto_region 8 with fail
          go_region
          go_wp2_with fail
          exact HPO.out m true _ (fun _ => by rw [HVS.out,if_neg (fun h => h.elim HL.out (fun h => HZ.out h.2))]) (fun h => by cases h) HCr.out.drew
end
end Go.Proofs.YtbkfhndmeljlcaaGreatDoor
namespace Go.Proofs.YtbkfhndmeljlcaaGreatDoor
open Go.RowKit
def gt_ (l : List UInt8) (w : World) (e : Ending) (w' : World) : Prop :=
 ∃ (x y : Nat) (b : Bool),e = .returned (.tuple #[.int .i64 (x : Int),.int .i64 (y : Int),.bool b]) ∧ (b = true → xO_ l = some (x,y)) ∧ (b = false → xO_ l = none) ∧ Chg [] w w'
def zdP : List UInt8:=[117,110,105,116,32]
theorem zcl : ∀ (a : List UInt8) (p : Nat),p < a.length → (∀ j,j < p → a.getD j 0 ≠ 32) → a.getD p 0 = 32 → xv_ a = some (a.take p,a.drop (p + 1))
  | [],p,h,_,_ => by simp at h
  | b :: a,0,_,_,h => by
    simp at h
    rw [xv_,if_pos h]
    rfl
  | b :: a,p + 1,hl,hn,h => by
    have h0:=hn 0 (by omega)
    simp at h0
    rw [xv_,if_neg h0,zcl a p (by simpa using hl) (fun j hj => by have:=hn (j + 1) (by omega); simpa using this) (by simpa using h)]
    rfl
theorem j2_ : ∀ (a : List UInt8),(∀ j,j < a.length → a.getD j 0 ≠ 32) → xv_ a = none
  | [],_ => rfl
  | b :: a,h => by
    have h0:=h 0 (by simp)
    simp at h0
    rw [xv_,if_neg h0,j2_ a (fun j hj => by have:=h (j + 1) (by simpa using hj); simpa using this)]
    rfl
section
variable {w : World}
theorem zaY (l : List UInt8) (hl : l.length ≤ 1000000) : Calls Tryz.prog 85 #[.string (zc_ l)] w (gt_ l w):=by
 have HPO:=hQ_ (show ∀ (x y : Nat) (b : Bool) (wr : World),(b = true → xO_ l = some (x,y)) → (b = false → xO_ l = none) → Chg [] w wr → gt_ l w (.returned (.tuple #[.int .i64 (x : Int),.int .i64 (y : Int),.bool b])) wr from fun x y b wr h1 h2 h3 => ⟨x,y,b,rfl,h1,h2,h3⟩)
 generalize gt_ l w = PO at HPO ⊢
 have hsz:=zw_ l
 have hex:=yo_ l 0 5
 by_cases h5 : l.take 5 = zdP
 · have hlen5 : 5 ≤ l.length:=by
    have:=congrArg List.length h5
    rw [List.length_take] at this
    simp [zdP] at this
    omega
   have HHP:=hQ_ (show xO_ l = (match xv_ (l.drop 5) with
     | none => none
     | some (a,b) => match us_ a,us_ b with
       | some x,some y => some (x,y)
       | _,_ => none) from by unfold xO_; rw [if_pos (show l.take 5 = [117,110,105,116,32] from h5)]; rfl)
   have hex2 : (zc_ l).extract 0 5 = ⟨#[117,110,105,116,32]⟩:=by
    rw [hex,List.drop_zero,Nat.sub_zero,h5]
    rfl
   have hexR : (zc_ l).extract 5 l.length = zc_ (l.drop 5):=by
    rw [yo_]
    congr 1
    exact List.take_of_length_le (by rw [List.length_drop]; exact Nat.le_refl _)
   have hsI : decide ((l.length : Int) < 5) = false:=decide_eq_false (by omega)
   have hne : ((zc_ zdP).toList == [117,110,105,116,32]) = true:=by rw [ByteArray.toList_eq,ye_]; decide
   have h5I : (5 : Int) ≤ (l.length : Int):=by omega
   obtain ⟨r,hr⟩ : ∃ r,r = l.drop 5:=⟨_,rfl⟩
   rw [← hr] at HHP
   have hrl : r.length ≤ 1000000:=by rw [hr,List.length_drop]; omega
   have HR:=hQ_ hr
   clear hex2
   go_enter Tryz.func85,Tryz.ntmps85
   go_wp2_with fail
   rw [← HR.out]
   have hszS : (zc_ r).size = r.length:=zw_ r
   have HAT:=hQ_ (fun (p : Nat) => show ∀ h : p < (zc_ r).size,(((zc_ r)[p]'h).toNat : Nat) = (r.getD p 0).toNat from by
    intro h
    rw [uv_])
   have HEA:=hQ_ (fun (p : Nat) => show (zc_ r).extract 0 p = zc_ (r.take p) from by rw [yo_,List.drop_zero,Nat.sub_zero])
   have HEB:=hQ_ (fun (p : Nat) => show (zc_ r).extract p r.length = zc_ (r.drop p) from by
    rw [yo_]
    congr 1
    exact List.take_of_length_le (by rw [List.length_drop]; exact Nat.le_refl _))
   generalize zc_ r = S at *
   obtain ⟨n,hn⟩ : ∃ n,n = r.length:=⟨_,rfl⟩
   rw [← hn] at hszS hrl HEB
   have HNL:=hQ_ hn
   clear hn hr hex hexR hsI hne h5I hlen5 h5 hsz
   go_loopw [5] (fun i wr => ∃ (pos : Nat),i = .int .i64 (pos : Int) ∧ pos ≤ n ∧ Hid (∀ j,j < pos → r.getD j 0 ≠ 32) ∧ Hid (Chg [] w wr)) (fun i _ => n - (intOf i).toNat)
   case atStart => exact ⟨0,rfl,by omega,hQ_ (fun j hj => by omega),hQ_ (Chg.refl _ _)⟩
   case round =>
    obtain ⟨pos,rfl,hpn,HNB,HCr⟩:=hrel
    by_cases hlt : pos < n
    · have hltS : pos < S.size:=by omega
      have hltI : (pos : Int) < (S.size : Int):=by omega
      have hltN : (pos : Int) < (n : Int):=by omega
      have hat:=HAT.out pos
      by_cases h32 : r.getD pos 0 = 32
      · rw [h32] at hat
        have hat1 : ∀ h : pos < S.size,(S[pos]'h).toNat = 32:=hat
        have HC:=hQ_ (zcl r pos (by rw [← HNL.out]; exact hlt) HNB.out h32)
        have hea:=HEA.out pos
        have heb:=HEB.out (pos + 1)
        have HV1:=hQ_ (fun (W : World) => kw_ (w:=W) (r.take pos) (by rw [List.length_take]; omega))
        have HV2:=hQ_ (fun (W : World) => kw_ (w:=W) (r.drop (pos + 1)) (by rw [List.length_drop,← HNL.out]; omega))
        have HHQ:=hQ_ (show xO_ l = (match us_ (r.take pos),us_ (r.drop (pos + 1)) with
          | some x,some y => some (x,y)
          | _,_ => none) from by rw [HHP.out,HC.out])
        have hpS : (pos : Int) ≤ (S.size : Int):=by omega
        have hpT : (pos : Int) ≤ (n : Int):=by omega
        have hp1 : (pos : Int) + 1 ≤ (n : Int):=by omega
        have hp0 : (0 : Int) ≤ (pos : Int) + 1:=by omega
        clear hat h32
        generalize zc_ (r.take pos) = ZA at hea HV1
        generalize zc_ (r.drop (pos + 1)) = ZB at heb HV2
        go_wp2_with (first
         | (go_at_call 110
            with_reducible refine (HV1.out _).mono ?_
            rintro e w1 ⟨x,b1,rfl,hx1,hx2,hc1⟩
            have HX1:=hQ_ hx1
            have HX2:=hQ_ hx2
            have HC1:=hQ_ (HCr.out.trans hc1)
            clear hx1 hx2 hc1)
         | (go_at_call 110
            with_reducible refine (HV2.out _).mono ?_
            rintro e w2 ⟨y,b2,rfl,hy1,hy2,hc2⟩
            have HY1:=hQ_ hy1
            have HY2:=hQ_ hy2
            have HC2:=hQ_ (HC1.out.trans hc2)
            clear hy1 hy2 hc2))
        · go_ret3
          exact HPO.out x y b2 _ (fun hb => by rw [HHQ.out,HX1.out (by assumption),HY1.out hb]) (fun hb => by rw [HHQ.out,HX1.out (by assumption),HY2.out hb]) HC2.out
        · go_ret3
          exact HPO.out x y false _ (fun h => by cases h) (fun _ => by rw [HHQ.out,HX2.out (Bool.eq_false_iff.2 (by assumption))]) HC2.out
      · have hxn : (r.getD pos 0).toNat ≠ 32:=fun h => h32 (UInt8.toNat_inj.1 (by rw [h]; rfl))
        generalize (r.getD pos 0).toNat = x at hat hxn
        have h32d : ((x : Int) == 32) = false:=by simp; omega
        have HNB2:=hQ_ (show ∀ j,j < pos + 1 → r.getD j 0 ≠ 32 from fun j hj => by
         by_cases hjp : j < pos
         · exact HNB.out j hjp
         · obtain rfl : j = pos:=by omega
           exact h32)
        clear h32 hxn
        go_wp2_with fail
        go_roundw
        case rel => exact ⟨pos + 1,by go_num,by omega,HNB2,HCr⟩
        case measure => simp [intOf]; omega
    · have hltI : ¬ (pos : Int) < (S.size : Int):=by omega
      have hltN : ¬ (pos : Int) < (n : Int):=by omega
      have HZ:=hQ_ (show xO_ l = none from by
       rw [HHP.out,j2_ r (fun j hj => HNB.out j (by rw [← HNL.out] at hj; omega))])
      go_wp2_with fail
      go_ret3
      exact HPO.out 0 0 false _ (fun h => by cases h) (fun _ => HZ.out) HCr.out
 · have HZ:=hQ_ (show xO_ l = none from by unfold xO_; rw [if_neg (show ¬ l.take 5 = [117,110,105,116,32] from h5)])
   by_cases hlen5 : l.length < 5
   · have hsI : decide ((l.length : Int) < 5) = true:=decide_eq_true (by omega)
     clear hex h5
     go_enter Tryz.func85,Tryz.ntmps85
     go_wp2_with fail
     go_ret3
     exact HPO.out 0 0 false _ (fun h => by cases h) (fun _ => HZ.out) (Chg.refl _ _)
   · have hsI : decide ((l.length : Int) < 5) = false:=decide_eq_false (by omega)
     have h5I : (5 : Int) ≤ (l.length : Int):=by omega
     rw [List.drop_zero,Nat.sub_zero] at hex
     have hne : ((zc_ (l.take 5)).toList == [117,110,105,116,32]) = false:=by
      rw [ByteArray.toList_eq,ye_,beq_eq_false_iff_ne]
      exact h5
     clear h5 hlen5
     go_enter Tryz.func85,Tryz.ntmps85
     go_wp2_with fail
     go_ret3
     exact HPO.out 0 0 false _ (fun h => by cases h) (fun _ => HZ.out) (Chg.refl _ _)
end
end Go.Proofs.YtbkfhndmeljlcaaGreatDoor
