import Derived.Test.YtbkfhndmeljlcaaGreatDoorZB4
set_option maxRecDepth 100000
set_option maxHeartbeats 16000000
namespace Go.Proofs.YtbkfhndmeljlcaaGreatDoor
open Go.RowKit
def zeQ (m : Nat) (w : World) (e : Ending) (w' : World) : Prop:=∃ s : ByteArray,e = .returned (.string s) ∧ s.size ≤ m ∧ Chg [] w w'
theorem z4_ (i : Int) : (Utf8.encode i).size ≤ 4:=encode_size_le i
theorem xE_ : ∀ (k n : Nat),n < 10 ^ (k + 1) → k ≤ 10 → ∀ w : World,Calls Tryz.prog 62 #[.int .i64 (n : Int)] w (zeQ (4 * (k + 1)) w)
  | k,n,hn,hk,w => by
    have hp : 10 ^ (k + 1) ≤ 10 ^ 11:=Nat.pow_le_pow_right (by omega) (by omega)
    have hn2 : n < 100000000000:=Nat.lt_of_lt_of_le hn hp
    clear hp
    by_cases h10 : 10 ≤ n
    · match k,hn,hk with
      | 0,hn,hk => omega
      | k + 1,hn,hk =>
        have IH:=hQ_ (fun W => xE_ k (n / 10) (by rw [Nat.pow_succ] at hn; omega) (by omega) W)
        have hq : (n : Int).tdiv 10 = ((n / 10 : Nat) : Int):=rfl
        have hr : (n : Int).tmod 10 = ((n % 10 : Nat) : Int):=rfl
        generalize hgr : n % 10 = r at hr
        have hr9 : r < 10:=by omega
        have hq9 : n / 10 < 100000000000:=by omega
        generalize n / 10 = q at *
        clear hn hgr
        go_enter Tryz.func62,Tryz.ntmps62
        go_wp2_with fail
        refine (IH.out _).mono ?_
        rintro e w1 ⟨s,rfl,hs,hc⟩
        obtain ⟨y,hy⟩ : ∃ y,s ++ Utf8.encode (48 + (r : Int)) = y:=⟨_,rfl⟩
        have hys : y.size ≤ 4 * (k + 1 + 1):=by rw [← hy,ByteArray.size_append']; have:=z4_ (48 + (r : Int)); omega
        have hadd : (Op.stringOp .add s (Utf8.encode (48 + (r : Int)))).run Tryz.prog w1 = .ok (.string y) w1:=by
         rw [← hy]; exact run_string_add_sum _ _ _ (by have:=z4_ (48 + (r : Int)); omega)
        clear hy
        go_wp2_with fail
        go_ret
        exact ⟨y,rfl,hys,hc⟩
    · go_enter Tryz.func62,Tryz.ntmps62
      go_wp2_with fail
      go_ret
      exact ⟨_,rfl,by have:=z4_ (48 + (n : Int)); omega,Chg.refl _ _⟩
def AnyB (w : World) (e : Ending) (w' : World) : Prop:=∃ b : Bool,e = .returned (.bool b) ∧ w = w'
theorem jU_ (s : ByteArray) (w : World) (hs : s.size ≤ 1000000) : Calls Tryz.prog 36 #[.string s] w (AnyB w):=by
 by_cases h : 2 < s.size
 · have hd : decide (2 < s.size) = true:=by simpa using h
   go_enter Tryz.func36,Tryz.ntmps36
   go_wp2_with fail
   go_ret
   exact ⟨_,rfl,rfl⟩
 · have hd : decide (2 < s.size) = false:=by simpa using h
   go_enter Tryz.func36,Tryz.ntmps36
   go_wp2_with fail
   go_ret
   exact ⟨_,rfl,rfl⟩
theorem q1_ (s : ByteArray) (w : World) (hs : s.size ≤ 1000000) : Calls Tryz.prog 63 #[.string s] w fun e w' => ∃ t : ByteArray,e = .returned (.string t) ∧ t.size ≤ s.size ∧ w = w':=by
 have HH:=hQ_ (jU_ s w hs)
 go_enter Tryz.func63,Tryz.ntmps63
 go_wp2_with fail
 refine HH.out.mono ?_
 rintro e w1 ⟨b,rfl,hw⟩
 cases b
 · go_wp2_with fail
   go_ret
   exact ⟨_,rfl,by first | exact Nat.le_refl _ | exact Nat.zero_le _,hw⟩
 · go_wp2_with fail
   go_ret
   exact ⟨_,rfl,by first | exact Nat.le_refl _ | exact Nat.zero_le _,hw⟩
def zfg : List UInt8:=[110,111,32,99,104,97,110,103,101,115]
structure TapeR (p B : Nat) (A : Option Addr) (n c : Nat) (l : List Int) (a b : World) : Prop where
  os : b.os = a.os
  tape : b.tape = a.tape
  output : b.output = a.output
  size : a.heap.size ≤ b.heap.size
  block : ∀ k,k < a.heap.size → k ≠ p → b.heap[k]? = a.heap[k]? ∨ (B ≤ k ∧ ∃ fz fz',a.heap[k]? = some (.cells (bts zfg).toArray 5 fz) ∧ b.heap[k]? = some (.cells (bts zfg).toArray 5 fz'))
  tp : ∀ i,Tp a p A n c l i → ∃ j,Tp b p A n c l j
structure TapeH (p B : Nat) (A : Option Addr) (n c : Nat) (l : List Int) (a b : World) : Prop where
  os : b.os = a.os
  tape : b.tape = a.tape
  output : b.output = a.output
  size : a.heap.size ≤ b.heap.size
  block : ∀ k,k < B → k < a.heap.size → k ≠ p → b.heap[k]? = a.heap[k]?
  tp : ∀ i,Tp a p A n c l i → ∃ j,Tp b p A n c l j
section
variable {p B B3 n c : Nat} {A : Option Addr} {l : List Int}
theorem zdR {W : World} {g : Nat} {o : Obj} (h : W.heap[g]? = some o) : g < W.heap.size:=by
 rcases Nat.lt_or_ge g W.heap.size with hlt | hge
 · exact hlt
 · rw [Array.getElem?_eq_none hge] at h; cases h
end
structure TapeQ (p : Nat) (A : Option Addr) (n c : Nat) (l : List Int) (a b : World) : Prop where
  chg : Chg [p] a b
  tp : ∀ i,Tp a p A n c l i → ∃ j,Tp b p A n c l j
section
variable {p n c : Nat} {A : Option Addr} {l : List Int}
def zct (m : Nat) (v : Value) : Prop:=∃ s : ByteArray,v = .string s ∧ s.size ≤ m
def IsNum (m : Nat) (v : Value) : Prop:=∃ r : Nat,v = .int .i64 (r : Int) ∧ r < m
end
structure FnV where
  name : Int
  args : Int
  code : ByteArray
def fnC (t : FnV) : List Value:=[.int .i32 t.name,.int .i64 t.args,.string t.code]
def y3_ : List FnV → List Value
  | [] => []
  | t :: l => fnC t ++ y3_ l
theorem yt_ : ∀ l,(y3_ l).length = l.length * 3
  | [] => rfl
  | t :: l => by rw [y3_,List.length_append,yt_ l]; simp [fnC]; omega
theorem vg_ : ∀ l m,y3_ (l ++ m) = y3_ l ++ y3_ m
  | [],_ => rfl
  | t :: l,m => by rw [List.cons_append,y3_,y3_,vg_ l m,List.append_assoc]
theorem zdj (t : FnV) : y3_ [t] = fnC t:=by simp [y3_]
theorem xn_ : ∀ (l : List FnV) (k : Nat) (t : FnV) (j : Nat),l[k]? = some t → j < 3 → (y3_ l)[k * 3 + j]? = (fnC t)[j]?
  | [],k,t,j,h,hj => by simp at h
  | u :: l,0,t,j,h,hj => by
    simp at h; subst h
    rw [y3_,List.getElem?_append_left (by simp [fnC]; omega)]
    congr 1; omega
  | u :: l,k + 1,t,j,h,hj => by
    simp at h
    rw [y3_,List.getElem?_append_right (by simp [fnC]; omega)]
    rw [← xn_ l k t j h hj]
    congr 1; simp [fnC]; omega
theorem zbK : (Tryz.prog.info? 58).map (fun i => (i.zero,i.size,i.bytes)) = some (some (.agg #[.int .i32 0,.int .i64 0,.string ⟨#[]⟩]),3,32):=by kernel_rfl
structure Fns (W : World) (p : Nat) (A : Option Addr) (n c : Nat) (l : List FnV) : Prop where
  len : l.length = n
  src : Src W A (y3_ l)
  cap : n ≤ c
  max : n ≤ 1000
  spot : 0 < n → ∀ ad,A = some ad → ad.spot = none ∧ ad.block ≠ p
  args : ∀ f ∈ l,0 ≤ f.args ∧ f.args ≤ 2
section
variable {W W' : World} {p : Nat} {A : Option Addr} {n c : Nat} {l : List FnV}
theorem Fns.keep (h : Fns W p A n c l) (hc : Chg [p] W W') : Fns W' p A n c l:=by
 refine ⟨h.len,fun hp => ?_,h.cap,h.max,h.spot,h.args⟩
 obtain ⟨ad,e,hb,hx⟩:=h.src hp
 have hn : 0 < n:=by have:=h.len; rw [yt_] at hp; omega
 refine ⟨ad,e,Nat.lt_of_lt_of_le hb hc.size,fun j v hj => ?_⟩
 have h1:=hx j v hj
 rw [← h1]
 have e2 : (ad.add j).block = ad.block:=by unfold Addr.add; split <;> rfl
 refine World.cell?_of_block (w:=W) (hc.block _ (by rw [e2]; exact hb) ?_)
 rw [e2]
 have:=(h.spot hn ad e).2
 simpa using this
theorem Fns.cell (h : Fns W p A n c l) {k : Nat} {t : FnV} (hk : l[k]? = some t) : ∃ b o,A = some ⟨b,o,none⟩ ∧ b ≠ p ∧ b < W.heap.size ∧ W.cell? ⟨b,o + k * 3,none⟩ = some (.int .i32 t.name) ∧ W.cell? ⟨b,o + k * 3 + 1,none⟩ = some (.int .i64 t.args) ∧ W.cell? ⟨b,o + k * 3 + 2,none⟩ = some (.string t.code):=by
 have hkl:=(List.getElem?_eq_some_iff.1 hk).1
 obtain ⟨⟨b,o,s⟩,e,hb,hx⟩:=h.src (by rw [yt_]; omega)
 obtain ⟨hs,hbp⟩:=h.spot (by have:=h.len; omega) _ e
 simp only at hs hbp
 subst hs
 refine ⟨b,o,e,hbp,hb,?_,?_,?_⟩
 · have:=hx _ _ ((xn_ l k t 0 hk (by omega)).trans rfl); rwa [zl_] at this
 · have:=hx _ _ ((xn_ l k t 1 hk (by omega)).trans rfl); rwa [zl_] at this
 · have:=hx _ _ ((xn_ l k t 2 hk (by omega)).trans rfl); rwa [zl_] at this
end
def xz_ (L : List Nat) : Nat → Nat → Nat → Option (Nat × Nat)
  | 0,j,m => some (m,j)
  | f + 1,j,m => match L[j]? with
    | some x => if 48 ≤ x ∧ x ≤ 57 then (if (9223372036854775807 - (x - 48)) / 10 < m then none else xz_ L f (j + 1) (m * 10 + (x - 48))) else some (m,j)
    | none => some (m,j)
def xX_ (L : List Nat) : Nat → Nat → List TkV → Option (List TkV)
  | 0,_,ts => some ts
  | f + 1,i,ts => match L[i]? with
    | none => some ts
    | some r => if r = 32 then xX_ L f (i + 1) ts
      else if 48 ≤ r ∧ r ≤ 57 then (match xz_ L L.length i 0 with
        | none => none
        | some (m,j) => xX_ L f j (ts ++ [⟨48,(m : Int),0⟩]))
      else if r = 955 ∨ r = 960 then (match L[i + 1]? with
        | none => none
        | some x => if zU_ (x : Int) = true then xX_ L f (i + 2) (ts ++ [⟨(r : Int),0,(x : Int)⟩]) else none)
      else if zP_ (r : Int) = true then xX_ L f (i + 1) (ts ++ [⟨(r : Int),0,0⟩]) else none
def xU_ (s : ByteArray) : Option (List TkV):=if 512 < s.size then none else xX_ (z6_ s) ((z6_ s).length + 1) 0 []
def kO_ (s : ByteArray) : Int:=if 512 < s.size then 3 else 12
def xt_ (s : ByteArray) (w : World) (e : Ending) (w' : World) : Prop :=
 Chg [] w w' ∧ ((∃ ts v,xU_ s = some ts ∧ ts.length ≤ 512 ∧ e = .returned (.tuple #[v,.int .i64 0]) ∧ w'.ownsRow w.heap.size 110 3 v ts.length (xI_ ts)) ∨
   (xU_ s = none ∧ e = .returned (.tuple #[.slice none 0 0,.int .i64 (kO_ s)])))
theorem gR_ (s : ByteArray) : (z6_ s).length ≤ s.size:=uV_ s s.size 0
theorem z8_ {w : World} {B B' e k n : Nat} {v : Value} {xs : List Value} (h : w.ownsRow B e k v n xs) (hB : B' ≤ B) : w.ownsRow B' e k v n xs:=by
 refine ⟨h.1,h.2.imp id ?_⟩
 rintro ⟨g,cap,cur,rfl,hb,r⟩
 exact ⟨g,cap,cur,rfl,Nat.le_trans hB hb,r⟩
section
variable {w : World}
theorem kn_ (s : ByteArray) (hs : s.size ≤ 9223372036854775807) : Calls Tryz.prog 50 #[.string s] w (xt_ s w):=by
 obtain ⟨i0,hi0,hz0,hz1,hz2⟩:=info_parts v5_
 by_cases hlong : 512 < s.size
 · have hlI : (512 : Int) < (s.size : Int):=by omega
   have HPO:=hQ_ (show xt_ s w (.returned (.tuple #[.slice none 0 0,.int .i64 3])) w from ⟨Chg.refl _ _,.inr ⟨by unfold xU_; rw [if_pos hlong],by unfold kO_; rw [if_pos hlong]⟩⟩)
   go_enter Tryz.func50,Tryz.ntmps50
   go_wp2_with fail
   go_ret2
   exact HPO.out
 have hlI : ¬ (512 : Int) < (s.size : Int):=by omega
 have HT:=hQ_ (show xU_ s = xX_ (z6_ s) ((z6_ s).length + 1) 0 [] from by unfold xU_; rw [if_neg hlong])
 have HE:=hQ_ (show kO_ s = 12 from by unfold kO_; rw [if_neg hlong])
 have HRUN:=hQ_ (zaT s w (by omega))
 have hLs:=gR_ s
 have hLr:=kx_ s s.size 0
 go_enter Tryz.func50,Tryz.ntmps50
 go_wp2_with fail
 refine HRUN.out.mono ?_
 rintro e w1 ⟨v1,rfl,ho1,hc1⟩
 obtain ⟨L,hL⟩ : ∃ L,L = z6_ s:=⟨_,rfl⟩
 have hLr' : ∀ r ∈ L,r ≤ 2147483647:=by rw [hL]; exact hLr
 rw [← hL] at ho1 hLs HT
 have HLR:=hQ_ hLr'
 have HC1:=hQ_ hc1
 obtain ⟨A1,c1,rfl,hl1,_,hs1,hp1⟩:=zp_ ho1
 obtain ⟨n,hn⟩ : ∃ n,n = L.length:=⟨_,rfl⟩
 rw [← hn] at hLs HT ⊢
 have HN:=hQ_ hn
 have hn512 : n ≤ 512:=by omega
 have HS1:=hQ_ (show ∀ (W : World),Chg [] w1 W → ∀ (j : Nat) (r : Nat),L[j]? = some r → ∃ g,A1 = some ⟨g,0,none⟩ ∧ W.cell? ⟨g,j,none⟩ = some (.int .i32 (r : Int)) from fun W hW j r hj => by
  obtain ⟨⟨g,o,sp⟩,e,hb,hx⟩:=(hs1.keep hW) (by rw [zed]; have:=(List.getElem?_eq_some_iff.1 hj).1; omega)
  obtain ⟨h1,_,h3,_⟩:=hp1 _ e
  simp only at h1 h3
  subst h1 h3
  refine ⟨g,e,?_⟩
  have:=hx j (.int .i32 (r : Int)) (by simp [r32,hj])
  rwa [zl_,Nat.zero_add] at this)
 obtain ⟨B,hB⟩ : ∃ b,b = w1.heap.size:=⟨_,rfl⟩
 have HB:=hQ_ hB
 clear ho1 hc1 hl1 hs1 hp1 hL hLr hLr' hn hB hlong hLs HRUN
 go_wp2_with fail
 go_loopw [5,6,7,8] (fun v x _ _ wr => ∃ i : Nat,i ≤ n ∧ x = .int .i64 (i : Int) ∧ (∃ ts f,wr.ownsRow B 110 3 v ts.length (xI_ ts) ∧ ts.length ≤ i ∧ n < i + f ∧ Hid (xU_ s = xX_ L f i ts)) ∧ Hid (Chg [] w1 wr)) (fun _ x _ _ _ => n - (intOf x).toNat)
 case atStart => exact ⟨0,Nat.zero_le _,rfl,⟨[],n + 1,World.ownsRow_nil _ _ _ _,by simp,by omega,HT⟩,hQ_ (Chg.refl _ _)⟩
 case round =>
  obtain ⟨i,hin,rfl,⟨ts,f,ho,htl,hf,HTi⟩,HCr⟩:=hrel
  have HO:=hQ_ ho
  clear ho
  have HCW:=hQ_ (show Chg [] w wr from HC1.out.new HCr.out)
  have HNO:=hQ_ (show ∀ W,Chg [] w W → xU_ s = none → xt_ s w (.returned (.tuple #[.slice none 0 0,.int .i64 12])) W from fun W hW h => ⟨hW,.inr ⟨h,by rw [HE.out]⟩⟩)
  by_cases hlt : i < n
  · have hltI : (i : Int) < (n : Int):=by omega
    have hi0' : (0 : Int) ≤ (i : Int):=by omega
    have hil : i < L.length:=by rw [← HN.out]; exact hlt
    obtain ⟨f',rfl⟩ : ∃ f',f = f' + 1:=⟨f - 1,by omega⟩
    obtain ⟨r,hr⟩ : ∃ r,L[i]? = some r:=⟨_,List.getElem?_eq_getElem hil⟩
    obtain ⟨g4,rfl,t0⟩:=HS1.out wr HCr.out i r hr
    have hr2:=HLR.out r (List.mem_of_getElem? hr)
    have HR:=hQ_ hr
    have HU:=hQ_ (show xU_ s = _ from HTi.out.trans (by rw [xX_,hr]))
    clear hr
    by_cases h32 : r = 32
    · subst h32
      have HT2:=hQ_ (show xU_ s = xX_ L f' (i + 1) ts from by rw [HU.out]; simp)
      go_wp2_with fail
      go_roundw
      case rel => exact ⟨i + 1,by omega,by go_num,⟨ts,f',HO.out,by omega,by omega,HT2⟩,HCr⟩
      case measure => simp [intOf]; omega
    have h32d : ((r : Int) == 32) = false:=by simp; omega
    by_cases hdg : 48 ≤ r ∧ r ≤ 57
    · obtain ⟨h48,h57⟩:=hdg
      have h48I : (48 : Int) ≤ (r : Int):=by omega
      have h57I : (r : Int) ≤ 57:=by omega
      have HU2:=hQ_ (show xU_ s = (match xz_ L L.length i 0 with
        | none => none
        | some (m,j) => xX_ L f' j (ts ++ [⟨48,(m : Int),0⟩])) from by rw [HU.out]; simp only [h32,h48,h57,if_false,if_true,and_self])
      have HRD:=hQ_ (And.intro h48 h57)
      have HBW:=hQ_ (show B ≤ wr.heap.size from by rw [HB.out]; exact HCr.out.size)
      clear HU h48 h57 h32
      go_wp2_with fail
      go_loop [6,8] (fun x y => ∃ j m f2 : Nat,i ≤ j ∧ j ≤ n ∧ x = .int .i64 (j : Int) ∧ y = .int .u64 (m : Int) ∧ m ≤ 9223372036854775807 ∧ n ≤ j + f2 ∧ (i < j ∨ j = i) ∧ Hid (xz_ L L.length i 0 = xz_ L f2 j m)) (fun x _ => n - (intOf x).toNat)
      case atStart => exact ⟨i,0,L.length,Nat.le_refl _,by omega,rfl,rfl,by omega,by have:=HN.out; omega,.inr rfl,hQ_ rfl⟩
      case round =>
       obtain ⟨j,m,f2,hij,hjn,rfl,rfl,hm,hf2,hdis,HQ⟩:=hrel
       have hj0 : (0 : Int) ≤ (j : Int):=by omega
       have hm0 : (0 : Int) ≤ (m : Int):=by omega
       have hstop : ∀ _ : xz_ L L.length i 0 = some (m,j),i < j → xU_ s = xX_ L f' j (ts ++ [⟨48,(m : Int),0⟩]):=fun h _ => by rw [HU2.out,h]
       have HST:=hQ_ hstop
       clear hstop
       by_cases hltj : j < n
       · have hltjI : (j : Int) < (n : Int):=by omega
         obtain ⟨f3,rfl⟩ : ∃ f3,f2 = f3 + 1:=⟨f2 - 1,by omega⟩
         obtain ⟨x,hx⟩ : ∃ x,L[j]? = some x:=⟨_,List.getElem?_eq_getElem (by rw [← HN.out]; exact hltj)⟩
         obtain ⟨g4',e,t1⟩:=HS1.out wr HCr.out j x hx
         injection e with e
         injection e with e
         subst e
         have hx2:=HLR.out x (List.mem_of_getElem? hx)
         have HX:=hQ_ hx
         clear hx
         by_cases hxd : 48 ≤ x ∧ x ≤ 57
         · have HXD:=hQ_ hxd
           have hx1 : (48 : Int) ≤ (x : Int):=by omega
           have hx3 : (x : Int) ≤ 57:=by omega
           have HHM:=hQ_ (And.intro hm (And.intro hdis hf2))
           have HHI:=hQ_ hij
           clear hxd hm hdis hf2 hij
           by_cases hov : (9223372036854775807 - ((x : Int) - 48)) / 10 < (m : Int)
           · have hnum : xz_ L (f3 + 1) j m = none:=by
              rw [xz_,HX.out]
              show (if 48 ≤ x ∧ x ≤ 57 then _ else _) = none
              rw [if_pos HXD.out,if_pos (by have:=HXD.out; omega)]
             have HPO:=hQ_ (HNO.out wr HCW.out (by rw [HU2.out,HQ.out,hnum]))
             clear hnum
             go_wp2_with fail
             go_ret2
             exact HPO.out
           · have hovJ : (m : Int) ≤ (9223372036854775807 - ((x : Int) - 48)) / 10:=by omega
             have HQ2:=hQ_ (show xz_ L L.length i 0 = xz_ L f3 (j + 1) (m * 10 + (x - 48)) from HQ.out.trans (by
              rw [xz_,HX.out]
              show (if 48 ≤ x ∧ x ≤ 57 then _ else _) = _
              rw [if_pos HXD.out,if_neg (by have:=HXD.out; omega)]))
             clear hov
             go_wp2_with fail
             go_round
             case rel => exact ⟨j + 1,m * 10 + (x - 48),f3,by have:=HHI.out; omega,by omega,by go_num,by rw [show ((m * 10 + (x - 48) : Nat) : Int) = (m : Int) * 10 + ((x : Int) - 48) by have:=HXD.out; omega],by have:=HXD.out; omega,by have:=HHM.out.2.2; omega,.inl (by have:=HHI.out; omega),HQ2⟩
             case measure => simp [intOf]; omega
         · have HSS:=hQ_ (HST.out (by rw [HQ.out,xz_,HX.out]; simp only; rw [if_neg hxd]) (by
            rcases hdis with h | h
            · exact h
            · exfalso
              subst h
              have:=HX.out
              rw [HR.out] at this
              injection this with this
              subst this
              exact hxd HRD.out))
           have hij1 : i < j:=by
            rcases hdis with h | h
            · exact h
            · exfalso
              subst h
              have:=HX.out
              rw [HR.out] at this
              injection this with this
              subst this
              exact hxd HRD.out
           have hnd : ((48 : Int) ≤ (x : Int) ∧ decide ((x : Int) ≤ 57) = false) ∨ decide ((48 : Int) ≤ (x : Int)) = false:=by
            by_cases h : 48 ≤ x
            · exact .inl ⟨by omega,by simp; omega⟩
            · exact .inr (by simp; omega)
           have HHM:=hQ_ (And.intro hm hij)
           clear hxd hdis hf2 hm hij
           rcases hnd with ⟨hx48,hx57⟩ | hx48
           all_goals
             have hjm : (j : Int) - 1 + 1 = ((j : Nat) : Int):=by omega
             have HJM:=hQ_ hjm
             have hm64 : (m : Int) ≤ 9223372036854775807:=by have:=HHM.out.1; omega
             clear hjm
             go_wp2_with (
              at_builtin
              refine wpList_append_own _ rfl (.tmp 75) (.tmp 79) _ rfl B 110 i0 _ 3 24 Tryz.underlying90 hi0 hz0 hz1 hz2 rfl (by decide) _ ts.length (xI_ ts) rfl (zg_ HO.out ((Chg.refl [] wr).alloc _)) ⟨wr.heap.size,0,none⟩ 1 1 [.int .i32 48,.int .i64 (m : Int),.int .i32 0] rfl rfl (zq_ _ _ _) (by simp [Value.oneCell']) (by simp only [maxLen]; omega) (by omega) (by have:=HBW.out; simp; omega) ?_
              intro v' w6 ho6 hg6 _
              have HO6:=hQ_ ho6
              have HG6:=hQ_ hg6
              clear ho6 hg6)
             have HC6:=hQ_ (show Chg [] w1 w6 from zQ_ (HCr.out.alloc _) HG6.out (fun g hg => by have:=((zg_ HO.out ((Chg.refl [] wr).alloc (.cells #[] 110))).lt g hg).1; have:=HB.out; omega))
             go_roundw
             case rel => exact ⟨j,hjn,by rw [← HJM.out],⟨ts ++ [⟨48,(m : Int),0⟩],f',by rw [List.length_append,ya_,ut_]; exact HO6.out,by simp; omega,by omega,HSS⟩,HC6⟩
             case measure => simp [intOf]; omega
       · have hltjI : ¬ (j : Int) < (n : Int):=by omega
         have HSS:=hQ_ (HST.out (by rw [HQ.out]; cases f2 with
           | zero => rfl
           | succ f2 => rw [xz_,List.getElem?_eq_none (by rw [← HN.out]; omega)]) (by omega))
         have hij1 : i < j:=by omega
         have HHM:=hQ_ (And.intro hm hij)
         clear hdis hf2 hm hij
         have hjm : (j : Int) - 1 + 1 = ((j : Nat) : Int):=by omega
         have HJM:=hQ_ hjm
         have hm64 : (m : Int) ≤ 9223372036854775807:=by have:=HHM.out.1; omega
         clear hjm
         go_wp2_with (
          at_builtin
          refine wpList_append_own _ rfl (.tmp 75) (.tmp 79) _ rfl B 110 i0 _ 3 24 Tryz.underlying90 hi0 hz0 hz1 hz2 rfl (by decide) _ ts.length (xI_ ts) rfl (zg_ HO.out ((Chg.refl [] wr).alloc _)) ⟨wr.heap.size,0,none⟩ 1 1 [.int .i32 48,.int .i64 (m : Int),.int .i32 0] rfl rfl (zq_ _ _ _) (by simp [Value.oneCell']) (by simp only [maxLen]; omega) (by omega) (by have:=HBW.out; simp; omega) ?_
          intro v' w6 ho6 hg6 _
          have HO6:=hQ_ ho6
          have HG6:=hQ_ hg6
          clear ho6 hg6)
         have HC6:=hQ_ (show Chg [] w1 w6 from zQ_ (HCr.out.alloc _) HG6.out (fun g hg => by have:=((zg_ HO.out ((Chg.refl [] wr).alloc (.cells #[] 110))).lt g hg).1; have:=HB.out; omega))
         go_roundw
         case rel => exact ⟨j,hjn,by rw [← HJM.out],⟨ts ++ [⟨48,(m : Int),0⟩],f',by rw [List.length_append,ya_,ut_]; exact HO6.out,by simp; omega,by omega,HSS⟩,HC6⟩
         case measure => simp [intOf]; omega
    · by_cases hnm : r = 955 ∨ r = 960
      · by_cases hi1 : i + 1 < n
        · obtain ⟨x,hx⟩ : ∃ x,L[i + 1]? = some x:=⟨_,List.getElem?_eq_getElem (by rw [← HN.out]; exact hi1)⟩
          obtain ⟨g4',e,t1⟩:=HS1.out wr HCr.out (i + 1) x hx
          injection e with e
          injection e with e
          subst e
          have hx2:=HLR.out x (List.mem_of_getElem? hx)
          have HU2:=hQ_ (show xU_ s = (if zU_ (x : Int) = true then xX_ L f' (i + 2) (ts ++ [⟨(r : Int),0,(x : Int)⟩]) else none) from by rw [HU.out]; simp only [h32,hdg,hnm,if_false,if_true,hx])
          have hi1I : ¬ (n : Int) ≤ (i : Int) + 1:=by omega
          have hi1J : (i : Int) + 1 < (n : Int):=by omega
          have hi1K : (0 : Int) ≤ (i : Int) + 1:=by omega
          have hi1d : decide ((n : Int) ≤ (i : Int) + 1) = false:=by simp; omega
          have HBW:=hQ_ (show B ≤ wr.heap.size from by rw [HB.out]; exact HCr.out.size)
          clear HU hdg hx
          rcases hnm with rfl | rfl
          all_goals
            by_cases hk : zU_ (x : Int) = true
            · have HT2:=hQ_ (HU2.out.trans (if_pos hk))
              have HKK:=hQ_ hk
              clear hk h32
              go_wp2_with (first
               | (go_at_call 77; refine (uz_ (x : Int) _).mono ?_; rintro e w' ⟨rfl,rfl⟩; rw [HKK.out])
               | (at_builtin
                  refine wpList_append_own _ rfl (.tmp 102) (.tmp 110) _ rfl B 110 i0 _ 3 24 Tryz.underlying90 hi0 hz0 hz1 hz2 rfl (by decide) _ ts.length (xI_ ts) rfl (zg_ HO.out ((Chg.refl [] wr).alloc _)) ⟨wr.heap.size,0,none⟩ 1 1 [.int .i32 _,.int .i64 0,.int .i32 (x : Int)] rfl rfl (zq_ _ _ _) (by simp [Value.oneCell']) (by simp only [maxLen]; omega) (by omega) (by have:=HBW.out; simp; omega) ?_
                  intro v' w6 ho6 hg6 _
                  have HO6:=hQ_ ho6
                  have HG6:=hQ_ hg6
                  clear ho6 hg6))
              have HC6:=hQ_ (show Chg [] w1 w6 from zQ_ (HCr.out.alloc _) HG6.out (fun g hg => by have:=((zg_ HO.out ((Chg.refl [] wr).alloc (.cells #[] 110))).lt g hg).1; have:=HB.out; omega))
              go_roundw
              case rel => exact ⟨i + 2,by omega,by go_num,⟨ts ++ [⟨_,0,(x : Int)⟩],f',by rw [List.length_append,ya_,ut_]; exact HO6.out,by simp; omega,by omega,HT2⟩,HC6⟩
              case measure => simp [intOf]; omega
            · have hkf : zU_ (x : Int) = false:=by simpa using hk
              have HKK:=hQ_ hkf
              have HPO:=hQ_ (HNO.out wr HCW.out (HU2.out.trans (if_neg hk)))
              clear hk hkf h32
              go_wp2_with (go_at_call 77; refine (uz_ (x : Int) _).mono ?_; rintro e w' ⟨rfl,rfl⟩; rw [HKK.out])
              go_ret2
              exact HPO.out
        · have hi1I : (n : Int) ≤ (i : Int) + 1:=by omega
          have HPO:=hQ_ (HNO.out wr HCW.out (by rw [HU.out]; simp only [h32,hdg,hnm,if_false,if_true]; rw [List.getElem?_eq_none (by rw [← HN.out]; omega)]))
          clear HU hdg
          rcases hnm with rfl | rfl
          all_goals
            clear h32
            go_wp2_with fail
            go_ret2
            exact HPO.out
      · have h955 : ((r : Int) == 955) = false:=by simp; omega
        have h960 : ((r : Int) == 960) = false:=by simp; omega
        have HU2:=hQ_ (show xU_ s = (if zP_ (r : Int) = true then xX_ L f' (i + 1) (ts ++ [⟨(r : Int),0,0⟩]) else none) from by rw [HU.out]; simp only [h32,hdg,hnm,if_false])
        have hnd : ((48 : Int) ≤ (r : Int) ∧ decide ((r : Int) ≤ 57) = false) ∨ decide ((48 : Int) ≤ (r : Int)) = false:=by
         by_cases h : 48 ≤ r
         · exact .inl ⟨by omega,by simp; omega⟩
         · exact .inr (by simp; omega)
        clear HU hdg hnm h32
        rcases hnd with ⟨h48,h57⟩ | h48
        all_goals
          go_wp2_with fail
          refine (jO_ (r : Int) wr).mono ?_
          rintro e w3 ⟨rfl,hc3⟩
          have HC3:=hQ_ (HCr.out.new hc3)
          have HO3:=hQ_ (zg_ HO.out hc3)
          have HB3:=hQ_ (show B ≤ w3.heap.size from by rw [HB.out]; exact HC3.out.size)
          clear hc3
          by_cases hk : zP_ (r : Int) = true
          · have HT2:=hQ_ (show xU_ s = xX_ L f' (i + 1) (ts ++ [⟨(r : Int),0,0⟩]) from by rw [HU2.out,if_pos hk])
            rw [hk]
            clear hk
            go_wp2_with (
             at_builtin
             refine wpList_append_own _ rfl (.tmp 117) (.tmp 120) _ rfl B 110 i0 _ 3 24 Tryz.underlying90 hi0 hz0 hz1 hz2 rfl (by decide) _ ts.length (xI_ ts) rfl (zg_ HO3.out ((Chg.refl [] w3).alloc _)) ⟨w3.heap.size,0,none⟩ 1 1 [.int .i32 (r : Int),.int .i64 0,.int .i32 0] rfl rfl (zq_ _ _ _) (by simp [Value.oneCell']) (by simp only [maxLen]; omega) (by omega) (by have:=HB3.out; simp; omega) ?_
             intro v' w6 ho6 hg6 _
             have HO6:=hQ_ ho6
             have HG6:=hQ_ hg6
             clear ho6 hg6)
            have HC6:=hQ_ (show Chg [] w1 w6 from zQ_ (HC3.out.alloc _) HG6.out (fun g hg => by have:=((zg_ HO3.out ((Chg.refl [] w3).alloc (.cells #[.int .i32 (r : Int),.int .i64 0,.int .i32 0] 110))).lt g hg).1; have:=HB.out; omega))
            go_roundw
            case rel => exact ⟨i + 1,by omega,by go_num,⟨ts ++ [⟨(r : Int),0,0⟩],f',by rw [List.length_append,ya_,ut_]; exact HO6.out,by simp; omega,by omega,HT2⟩,HC6⟩
            case measure => simp [intOf]; omega
          · have hkf : zP_ (r : Int) = false:=by simpa using hk
            have HPO:=hQ_ (HNO.out w3 (HC1.out.new HC3.out) (by rw [HU2.out,if_neg hk]))
            rw [hkf]
            clear hk hkf
            go_wp2_with fail
            go_ret2
            exact HPO.out
  · have hltI : ¬ (i : Int) < (n : Int):=by omega
    have HZ:=hQ_ (show xU_ s = some ts from by
     rw [HTi.out]
     cases f with
     | zero => rfl
     | succ f => rw [xX_,List.getElem?_eq_none (by rw [← HN.out]; omega)])
    obtain ⟨B0,hB0⟩ : ∃ b,b = w.heap.size:=⟨_,rfl⟩
    have HOW:=hQ_ (z8_ HO.out (show w.heap.size ≤ B from by rw [HB.out]; exact HC1.out.size))
    have HPO:=hQ_ (show xt_ s w (.returned (.tuple #[u5,.int .i64 0])) wr from ⟨HCW.out,.inl ⟨ts,_,HZ.out,by omega,rfl,HOW.out⟩⟩)
    clear hB0
    go_wp2_with fail
    go_ret2
    exact HPO.out
end
structure BkV where
  sign : Int
  base : Int
  other : Int
  left : Bool
def yU_ (name : Int) : List FnV → Nat → Option Nat
  | [],_ => none
  | f :: l,k => if f.name = name then some k else yU_ name l (k + 1)
def xC_ (l : List FnV) (name : Int) : Int:=match yU_ name l 0 with | some k => (k : Int) | none => -1
theorem ja_ {name : Int} : ∀ {l : List FnV} {k j : Nat},yU_ name l k = some j → ∃ f,k ≤ j ∧ l[j - k]? = some f ∧ f.name = name
  | [],k,j,h => by simp [yU_] at h
  | f :: l,k,j,h => by
    rw [yU_] at h
    by_cases hn : f.name = name
    · rw [if_pos hn] at h; injection h with h; subst h; exact ⟨f,Nat.le_refl _,by simp,hn⟩
    · rw [if_neg hn] at h
      obtain ⟨g,h1,h2,h3⟩:=ja_ h
      refine ⟨g,by omega,?_,h3⟩
      rw [show j - k = (j - (k + 1)) + 1 from by omega]
      simpa using h2
def zeV : List Nat:=[43,45,42,47,37,38,124,94,60,61,171,187]
def unL : List Nat:=[33,64,169,164,960]
def zeL : List Nat:=[58,59,91,93,126,161]
def inL (l : List Nat) (r : Int) : Bool:=l.any fun x => (x : Int) == r
def xF_ (l : List FnV) (name : Int) : Int × Int × Bool :=
 match yU_ name l 0 with
 | none => (0,0,false)
 | some k => match l[k]? with
   | none => (0,0,false)
   | some f => if 0 ≤ f.args ∧ f.args ≤ 4 then (f.args,1,true) else (0,0,false)
def zV_ (l : List FnV) (s name : Int) : Int × Int × Bool :=
 if (s = 48 ∨ (97 ≤ s ∧ s ≤ 122)) ∨ s = 35 then (0,1,true)
 else if (65 ≤ s ∧ s ≤ 90) ∨ s = 44 then (1,0,true)
 else if s = 46 then (1,2,true)
 else if inL zeV s = true then (2,1,true)
 else if inL unL s = true then (1,1,true)
 else if s = 36 ∨ s = 174 then (2,0,true)
 else if s = 63 then (1,0,true)
 else if inL zeL s = true then (0,0,true)
 else if s = 955 then xF_ l name
 else (0,0,false)
theorem zds (l : List FnV) (name : Int) : 0 ≤ (xF_ l name).1 ∧ (xF_ l name).1 ≤ 4 ∧ 0 ≤ (xF_ l name).2.1 ∧ (xF_ l name).2.1 ≤ 2:=by
 unfold xF_
 split
 · simp
 · split
   · simp
   · split
     · rename_i h; simp; omega
     · simp
theorem uY_ (l : List FnV) (s name : Int) : 0 ≤ (zV_ l s name).1 ∧ (zV_ l s name).1 ≤ 4 ∧ 0 ≤ (zV_ l s name).2.1 ∧ (zV_ l s name).2.1 ≤ 2:=by
 unfold zV_
 repeat' split
 all_goals first | exact zds l name | simp
def yc_ (bs : List BkV) : Int:=match bs.getLast? with | none => 0 | some b => b.base
def yA_ (h : Int) (ys : List BkV) (x : BkV) (r : Int) : Bool × Int × List BkV :=
 if r = 58 then (true,x.base,ys ++ [⟨58,x.base,h,x.left⟩])
 else if x.sign = 58 then (if 0 ≤ x.other ∧ 0 ≤ h ∧ x.other ≠ h then (false,h,ys) else (true,max h x.other,ys))
 else if 0 ≤ h ∧ h ≠ x.base then (false,h,ys)
 else (true,(if x.sign = 91 ∧ x.left = false then -1 else x.base),ys)
def z7_ (h : Int) (bs : List BkV) : Nat → Bool × Int × List BkV
  | 0 => (false,h,bs)
  | k + 1 => match bs[k]? with
    | none => (false,h,bs)
    | some x => if x.sign = 91 then (h == x.base,-1,bs.set k ⟨x.sign,x.base,x.other,true⟩) else z7_ h bs k
def yv_ (s : Int) : Prop:=s = 58 ∨ s = 59 ∨ s = 93
instance (s : Int) : Decidable (yv_ s):=by unfold yv_; exact inferInstance
def x8_ (l : List FnV) (h : Int) (bs : List BkV) (s name : Int) : Int × Int × List BkV :=
 if yv_ s then (match bs.getLast? with
   | none => (14,h,bs)
   | some x => match yA_ h bs.dropLast x s with | (true,h',bs') => (0,h',bs') | (false,h',bs') => (14,h',bs'))
 else if h < 0 then (15,h,bs)
 else match zV_ l s name with
   | (_,_,false) => (22,h,bs)
   | (p,g,true) =>
     if h - yc_ bs < p ∨ 64 < h - p + g then (14,h,bs)
     else if s = 63 ∨ s = 91 then (0,h - p + g,bs ++ [⟨s,h - p + g,0,false⟩])
     else if s = 126 then (match z7_ (h - p + g) bs bs.length with | (true,h',bs') => (0,h',bs') | (false,h',bs') => (14,h',bs'))
     else if s = 161 then (0,-1,bs)
     else (0,h - p + g,bs)
def vs_ (l : List FnV) : List TkV → Int → List BkV → List Int → Int × List Int
  | [],h,_,out => if h ≠ 1 ∧ 0 ≤ h then (14,[]) else (0,out)
  | t :: ts,h,bs,out => match x8_ l h bs t.sign t.name with
    | (e,h',bs') => if e = 0 then vs_ l ts h' bs' (out ++ [h]) else (e,[])
def vt_ (l : List FnV) (code : ByteArray) : Int × List Int :=
 match xU_ code with
 | none => (kO_ code,[])
 | some ts => match yR_ (zo_ ts) with
   | none => (13,[])
   | some _ => vs_ l ts 0 [] []
def xR_ (s : Int) (n : Nat) : Nat:=if s = 63 ∨ s = 91 then n + 1 else if s = 59 ∨ s = 93 then n - 1 else n
theorem kA_ (h : Int) (bs : List BkV) : ∀ k,(z7_ h bs k).2.2.length = bs.length
  | 0 => rfl
  | k + 1 => by
    rw [z7_]
    split
    · rfl
    · split
      · simp
      · exact kA_ h bs k
theorem zcQ {l : List FnV} {h : Int} {bs : List BkV} {s name : Int} (he : (x8_ l h bs s name).1 = 0) : (x8_ l h bs s name).2.2.length = xR_ s bs.length:=by
 unfold x8_ at he ⊢
 by_cases hs : yv_ s
 · rw [if_pos hs] at he ⊢
   rcases List.eq_nil_or_concat bs with rfl | ⟨ys,x,rfl⟩
   · simp at he
   · rw [List.concat_eq_append] at he ⊢
     simp only [List.getLast?_append,List.getLast?_singleton,Option.some_or,List.dropLast_concat,List.length_append,List.length_singleton] at he ⊢
     unfold yA_ at he ⊢
     rcases hs with rfl | rfl | rfl
     · simp [xR_]
     · simp only [xR_] at he ⊢
       split <;> simp_all
       all_goals (repeat' split at *) <;> simp_all
     · simp only [xR_] at he ⊢
       split <;> simp_all
       all_goals (repeat' split at *) <;> simp_all
 · rw [if_neg hs] at he ⊢
   have hn : ¬ s = 59 ∧ ¬ s = 93:=by unfold yv_ at hs; omega
   by_cases hh : h < 0
   · rw [if_pos hh] at he; simp at he
   · rw [if_neg hh] at he ⊢
     rcases hT : zV_ l s name with ⟨p,g,ok⟩
     rw [hT] at he
     cases ok
     · simp at he
     · simp only at he ⊢
       by_cases hb : h - yc_ bs < p ∨ 64 < h - p + g
       · rw [if_pos hb] at he; simp at he
       · rw [if_neg hb] at he ⊢
         by_cases h6 : s = 63 ∨ s = 91
         · rw [if_pos h6]; simp [xR_,h6]
         · rw [if_neg h6] at he ⊢
           have e : xR_ s bs.length = bs.length:=by unfold xR_; rw [if_neg h6,if_neg (by omega)]
           rw [e]
           by_cases h7 : s = 126
           · rw [if_pos h7] at he ⊢
             have:=kA_ (h - p + g) bs bs.length
             rcases hR : z7_ (h - p + g) bs bs.length with ⟨b,h',bs'⟩
             rw [hR] at this
             cases b <;> exact this
           · rw [if_neg h7]
             split <;> rfl
def z2_ (pages most : Int) (A : Option Addr) (n c : Nat) : Value:=.agg #[.int .i64 pages,.int .i64 most,.slice A n c]
structure Fnr (W : World) (A : Option Addr) (n c : Nat) (l : List FnV) : Prop where
  len : l.length = n
  src : Src W A (y3_ l)
  cap : n ≤ c
  max : n ≤ 1000
  spot : 0 < n → ∀ ad,A = some ad → ad.spot = none
  args : ∀ f ∈ l,-9223372036854775808 ≤ f.args ∧ f.args ≤ 9223372036854775807
section
variable {W W' : World} {p : Nat} {A : Option Addr} {n c : Nat} {l : List FnV}
theorem Fnr.keep (h : Fnr W A n c l) (hc : Chg [] W W') : Fnr W' A n c l:=⟨h.len,h.src.keep hc,h.cap,h.max,h.spot,h.args⟩
theorem Fnr.cell (h : Fnr W A n c l) {k : Nat} {t : FnV} (hk : l[k]? = some t) : ∃ b o,A = some ⟨b,o,none⟩ ∧ b < W.heap.size ∧ W.cell? ⟨b,o + k * 3,none⟩ = some (.int .i32 t.name) ∧ W.cell? ⟨b,o + k * 3 + 1,none⟩ = some (.int .i64 t.args) ∧ W.cell? ⟨b,o + k * 3 + 2,none⟩ = some (.string t.code):=by
 have hkl:=(List.getElem?_eq_some_iff.1 hk).1
 obtain ⟨⟨b,o,s⟩,e,hb,hx⟩:=h.src (by rw [yt_]; omega)
 obtain rfl : s = none:=h.spot (by have:=h.len; omega) _ e
 refine ⟨b,o,e,hb,?_,?_,?_⟩
 · have:=hx _ _ ((xn_ l k t 0 hk (by omega)).trans rfl); rwa [zl_] at this
 · have:=hx _ _ ((xn_ l k t 1 hk (by omega)).trans rfl); rwa [zl_] at this
 · have:=hx _ _ ((xn_ l k t 2 hk (by omega)).trans rfl); rwa [zl_] at this
end
section
variable {w : World} {A : Option Addr} {n c : Nat} {l : List FnV} {pages most : Int}
def vj_ (i : Int) (w : World) (e : Ending) (w' : World) : Prop:=e = .returned (.int .i64 i) ∧ Chg [] w w'
theorem ge_ (h : Fnr w A n c l) (name : Int) : Calls Tryz.prog 80 #[z2_ pages most A n c,.int .i32 name] w (vj_ (xC_ l name) w):=by
 unfold z2_
 have hmax:=h.max
 have H:=hQ_ h
 have HL:=hQ_ h.len
 have HI:=hQ_ (show yU_ name l 0 = yU_ name (l.drop 0) 0 from rfl)
 have HN:=hQ_ (show xC_ l name = match yU_ name l 0 with | some k => (k : Int) | none => -1 from rfl)
 generalize xC_ l name = fi at HN ⊢
 clear h
 go_enter Tryz.func80,Tryz.ntmps80
 go_upto_region 1 with fail
 have hN:=zb_.new w 24 [.int .i64 pages,.int .i64 most,.slice A n c]
 have hal : Chg [] w (w.alloc (.cells #[.int .i64 pages,.int .i64 most,.slice A n c] 24)):=(Chg.refl [] w).alloc _
 have c2:=hN.cell 2
 have HN:=hQ_ hN
 have HC:=hQ_ hal
 have HF:=hQ_ (H.out.keep hal)
 obtain ⟨g,hg⟩ : ∃ g,g = w.heap.size:=⟨_,rfl⟩
 rw [← hg] at c2 ⊢
 generalize w.alloc (.cells #[.int .i64 pages,.int .i64 most,.slice A n c] 24) = w1 at c2 HC HF ⊢
 clear hN hal hg HN
 go_wp2_with fail
 go_loopw [9] (fun i wr => ∃ k : Nat,i = .int .i64 (k : Int) ∧ k ≤ n ∧ Hid (yU_ name l 0 = yU_ name (l.drop k) k) ∧ wr = w1) (fun i _ => n - (intOf i).toNat)
 case atStart => exact ⟨0,rfl,by omega,HI,rfl⟩
 case round =>
  obtain ⟨k,rfl,hk,HK,hwr⟩:=hrel
  subst hwr
  by_cases hkn : k < n
  · have hkI : (k : Int) < (n : Int):=by omega
    obtain ⟨t,htk⟩ : ∃ t,l[k]? = some t:=⟨l[k]'(by rw [HF.out.len]; exact hkn),by simp⟩
    have HD:=hQ_ (show l.drop k = t :: l.drop (k + 1) from List.drop_eq_getElem?_toList_append.trans (by rw [htk]; rfl))
    obtain ⟨fb,fo,rfl,hfbl,e0,e1,e2⟩:=HF.out.cell htk
    clear htk e1 e2
    by_cases hnm : t.name = name
    · have hq : (t.name == name) = true:=by simpa using hnm
      have HP:=hQ_ (show vj_ fi w (.returned (.int .i64 (k : Int))) wr from ⟨by rw [HN.out,HK.out,HD.out,yU_,if_pos hnm],HC.out⟩)
      clear hnm
      go_wp2_with fail
      go_ret
      exact HP.out
    · have hq : (t.name == name) = false:=by simpa using hnm
      have HK2:=hQ_ (show yU_ name l 0 = yU_ name (l.drop (k + 1)) (k + 1) from by rw [HK.out,HD.out,yU_,if_neg hnm])
      go_wp2_with fail
      go_roundw
      case rel => exact ⟨k + 1,by go_num,by omega,HK2,by first | rfl | trivial⟩
      case measure => simp [intOf]; omega
  · have hkI : (n : Int) ≤ (k : Int):=by omega
    have HP:=hQ_ (show vj_ fi w (.returned (.int .i64 (-1))) wr from ⟨by rw [HN.out,HK.out,List.drop_eq_nil_of_le (by rw [HL.out]; omega)]; rfl,HC.out⟩)
    go_wp2_with fail
    go_ret
    exact HP.out
end
section
variable {w : World} {A : Option Addr} {n c : Nat} {l : List FnV} {pages most : Int}
def zj_ (r : Int × Int × Bool) (w : World) (e : Ending) (w' : World) : Prop:=e = .returned (.tuple #[.int .i64 r.1,.int .i64 r.2.1,.bool r.2.2]) ∧ Chg [] w w'
theorem zk_ {R : Int × Int × Bool} {w' : World} (a b : Nat) (ok : Bool) (hR : R = ((a : Int),(b : Int),ok)) (h : Chg [] w w') : zj_ R w (.returned (.tuple #[.int .i64 (a : Int),.int .i64 (b : Int),.bool ok])) w':=by subst hR; exact ⟨rfl,h⟩
theorem zeC (r : Int) (w : World) : Calls Tryz.prog 105 #[.string ⟨#[43,45,42,47,37,38,124,94,60,61,194,171,194,187]⟩,.int .i32 r] w (zy_ (inL zeV r) w) :=
 (k4_ _ r w (by decide)).mono fun _ _ h => by
   unfold zcw at h
   rw [show z6_ ⟨#[43,45,42,47,37,38,124,94,60,61,194,171,194,187]⟩ = zeV from by decide +kernel] at h
   exact h
theorem zfn (r : Int) (w : World) : Calls Tryz.prog 105 #[.string ⟨#[33,64,194,169,194,164,207,128]⟩,.int .i32 r] w (zy_ (inL unL r) w) :=
 (k4_ _ r w (by decide)).mono fun _ _ h => by
   unfold zcw at h
   rw [show z6_ ⟨#[33,64,194,169,194,164,207,128]⟩ = unL from by decide +kernel] at h
   exact h
theorem zfm (r : Int) (w : World) : Calls Tryz.prog 105 #[.string ⟨#[58,59,91,93,126,194,161]⟩,.int .i32 r] w (zy_ (inL zeL r) w) :=
 (k4_ _ r w (by decide)).mono fun _ _ h => by
   unfold zcw at h
   rw [show z6_ ⟨#[58,59,91,93,126,194,161]⟩ = zeL from by decide +kernel] at h
   exact h
theorem y7_ (h : Fnr w A n c l) (t : TkV) : Calls Tryz.prog 97 #[z2_ pages most A n c,.agg (tkC t).toArray] w (zj_ (zV_ l t.sign t.name) w):=by
 unfold z2_
 obtain ⟨r,tn,nm⟩:=t
 simp only [tkC]
 have hmax:=h.max
 have H:=hQ_ h
 clear h
 obtain ⟨R,hR⟩ : ∃ R,R = zV_ l r nm:=⟨_,rfl⟩
 rw [← hR]
 have HR:=hQ_ hR
 clear hR
 go_enter Tryz.func97,Tryz.ntmps97
 go_upto_region 1 with fail
 have hN:=zb_.new w 24 [.int .i64 pages,.int .i64 most,.slice A n c]
 have hal : Chg [] w (w.alloc (.cells #[.int .i64 pages,.int .i64 most,.slice A n c] 24)):=(Chg.refl [] w).alloc _
 have hsz : (w.alloc (.cells #[.int .i64 pages,.int .i64 most,.slice A n c] 24)).heap.size = w.heap.size + 1:=Array.size_push _
 obtain ⟨w1,hw1⟩ : ∃ w1,w1 = w.alloc (.cells #[.int .i64 pages,.int .i64 most,.slice A n c] 24):=⟨_,rfl⟩
 rw [← hw1] at hN hal hsz ⊢
 have hN2:=zb_.new w1 110 [.int .i32 r,.int .i64 tn,.int .i32 nm]
 have hal2 : Chg [] w1 (w1.alloc (.cells #[.int .i32 r,.int .i64 tn,.int .i32 nm] 110)):=(Chg.refl [] w1).alloc _
 rw [hsz] at hN2
 have hU2:=hN.keep hal2
 have hc:=hal.trans hal2
 generalize w1.alloc (.cells #[.int .i32 r,.int .i64 tn,.int .i32 nm] 110) = w2 at hN2 hU2 hc ⊢
 have HF2:=hQ_ (H.out.keep hc)
 generalize w.heap.size = g at hU2 hN2 ⊢
 have HU2:=hQ_ hU2
 have HT2:=hQ_ hN2
 have HC2:=hQ_ hc
 clear hN hal hsz hw1 hN2 hal2 hU2 hc
 have t0:=HT2.out.cell 0
 go_upto_region 2 with fail
 go_cut [11] (fun s wx => s = .bool (decide ((r = 48 ∨ (97 ≤ r ∧ r ≤ 122)) ∨ r = 35)) ∧ wx = w2)
 case first =>
  by_cases h48 : r = 48
  · have q1 : (r == 48) = true:=by simpa using h48
    have HALL:=hQ_ (show (r = 48 ∨ (97 ≤ r ∧ r ≤ 122)) ∨ r = 35 from .inl (.inl h48))
    clear h48
    go_wp2_with fail
    go_meet
    exact ⟨congrArg Value.bool (decide_eq_true HALL.out).symm,rfl⟩
  · have q1 : (r == 48) = false:=by simpa using h48
    by_cases h97 : 97 ≤ r
    · have q2 : decide (97 ≤ r) = true:=by simpa using h97
      by_cases h122 : r ≤ 122
      · have q3 : decide (r ≤ 122) = true:=by simpa using h122
        have HALL:=hQ_ (show (r = 48 ∨ (97 ≤ r ∧ r ≤ 122)) ∨ r = 35 from .inl (.inr ⟨h97,h122⟩))
        clear h48
        go_wp2_with fail
        go_meet
        exact ⟨congrArg Value.bool (decide_eq_true HALL.out).symm,rfl⟩
      · have q3 : decide (r ≤ 122) = false:=by simpa using h122
        by_cases h9 : r = 35
        · have q9 : (r == 35) = true:=by simpa using h9
          have HALL:=hQ_ (show (r = 48 ∨ (97 ≤ r ∧ r ≤ 122)) ∨ r = 35 from .inr h9)
          clear h9 h48 h97 h122
          go_wp2_with fail
          go_meet
          exact ⟨congrArg Value.bool (decide_eq_true HALL.out).symm,rfl⟩
        · have q9 : (r == 35) = false:=by simpa using h9
          have HALL:=hQ_ (show ¬ ((r = 48 ∨ (97 ≤ r ∧ r ≤ 122)) ∨ r = 35) from by omega)
          clear h9 h48 h97 h122
          go_wp2_with fail
          go_meet
          exact ⟨congrArg Value.bool (decide_eq_false HALL.out).symm,rfl⟩
    · have q2 : decide (97 ≤ r) = false:=by simpa using h97
      by_cases h9 : r = 35
      · have q9 : (r == 35) = true:=by simpa using h9
        have HALL:=hQ_ (show (r = 48 ∨ (97 ≤ r ∧ r ≤ 122)) ∨ r = 35 from .inr h9)
        clear h9 h48 h97
        go_wp2_with fail
        go_meet
        exact ⟨congrArg Value.bool (decide_eq_true HALL.out).symm,rfl⟩
      · have q9 : (r == 35) = false:=by simpa using h9
        have HALL:=hQ_ (show ¬ ((r = 48 ∨ (97 ≤ r ∧ r ≤ 122)) ∨ r = 35) from by omega)
        clear h9 h48 h97
        go_wp2_with fail
        go_meet
        exact ⟨congrArg Value.bool (decide_eq_false HALL.out).symm,rfl⟩
 case rest =>
  obtain ⟨hs,hcw⟩:=hcut
  rw [hcw]
  clear hcw
  by_cases hP : (r = 48 ∨ (97 ≤ r ∧ r ≤ 122)) ∨ r = 35
  · rw [decide_eq_true hP] at hs
    subst hs
    have H1:=hQ_ hP
    clear hP
    have HP:=hQ_ (zk_ (R:=R) 0 1 true (by rw [HR.out]; unfold zV_; rw [if_pos H1.out]; rfl) HC2.out)
    go_wp2_with fail
    exact bodyPost_ret (v:=.tuple #[.int .i64 ((0 : Nat) : Int),.int .i64 ((1 : Nat) : Int),.bool true]) (by simp [results,Tryz.results97,go_sem]) rfl HP.out
  rw [decide_eq_false hP] at hs
  subst hs
  have H1:=hQ_ hP
  clear hP
  go_upto_region 4 with fail
  go_cut [26] (fun s wx => s = .bool (decide ((65 ≤ r ∧ r ≤ 90) ∨ r = 44)) ∧ wx = w2)
  case first =>
   by_cases h65 : 65 ≤ r
   · have q2 : decide (65 ≤ r) = true:=by simpa using h65
     by_cases h90 : r ≤ 90
     · have q3 : decide (r ≤ 90) = true:=by simpa using h90
       have HALL:=hQ_ (show (65 ≤ r ∧ r ≤ 90) ∨ r = 44 from .inl ⟨h65,h90⟩)
       go_wp2_with fail
       go_meet
       exact ⟨congrArg Value.bool (decide_eq_true HALL.out).symm,rfl⟩
     · have q3 : decide (r ≤ 90) = false:=by simpa using h90
       by_cases h9 : r = 44
       · have q9 : (r == 44) = true:=by simpa using h9
         have HALL:=hQ_ (show (65 ≤ r ∧ r ≤ 90) ∨ r = 44 from .inr h9)
         clear h9 h65 h90
         go_wp2_with fail
         go_meet
         exact ⟨congrArg Value.bool (decide_eq_true HALL.out).symm,rfl⟩
       · have q9 : (r == 44) = false:=by simpa using h9
         have HALL:=hQ_ (show ¬ ((65 ≤ r ∧ r ≤ 90) ∨ r = 44) from by omega)
         clear h9 h65 h90
         go_wp2_with fail
         go_meet
         exact ⟨congrArg Value.bool (decide_eq_false HALL.out).symm,rfl⟩
   · have q2 : decide (65 ≤ r) = false:=by simpa using h65
     by_cases h9 : r = 44
     · have q9 : (r == 44) = true:=by simpa using h9
       have HALL:=hQ_ (show (65 ≤ r ∧ r ≤ 90) ∨ r = 44 from .inr h9)
       clear h9 h65
       go_wp2_with fail
       go_meet
       exact ⟨congrArg Value.bool (decide_eq_true HALL.out).symm,rfl⟩
     · have q9 : (r == 44) = false:=by simpa using h9
       have HALL:=hQ_ (show ¬ ((65 ≤ r ∧ r ≤ 90) ∨ r = 44) from by omega)
       clear h9 h65
       go_wp2_with fail
       go_meet
       exact ⟨congrArg Value.bool (decide_eq_false HALL.out).symm,rfl⟩
  case rest =>
   obtain ⟨hs,hcw⟩:=hcut
   rw [hcw]
   clear hcw
   by_cases hP : (65 ≤ r ∧ r ≤ 90) ∨ r = 44
   · rw [decide_eq_true hP] at hs
     subst hs
     have H2:=hQ_ hP
     clear hP
     have HP:=hQ_ (zk_ (R:=R) 1 0 true (by rw [HR.out]; unfold zV_; rw [if_neg H1.out,if_pos H2.out]; rfl) HC2.out)
     go_wp2_with fail
     exact bodyPost_ret (v:=.tuple #[.int .i64 ((1 : Nat) : Int),.int .i64 ((0 : Nat) : Int),.bool true]) (by simp [results,Tryz.results97,go_sem]) rfl HP.out
   rw [decide_eq_false hP] at hs
   subst hs
   have H2:=hQ_ hP
   clear hP
   by_cases h46 : r = 46
   · have q1 : (r == 46) = true:=by simpa using h46
     have H3:=hQ_ h46
     clear h46
     have HP:=hQ_ (zk_ (R:=R) 1 2 true (by rw [HR.out]; unfold zV_; rw [if_neg H1.out,if_neg H2.out,if_pos H3.out]; rfl) HC2.out)
     go_wp2_with fail
     exact bodyPost_ret (v:=.tuple #[.int .i64 ((1 : Nat) : Int),.int .i64 ((2 : Nat) : Int),.bool true]) (by simp [results,Tryz.results97,go_sem]) rfl HP.out
   have q46 : (r == 46) = false:=by simpa using h46
   have H3:=hQ_ h46
   clear h46
   go_wp2_with fail
   refine (zeC r w2).mono ?_
   rintro e w3 ⟨rfl,hc3⟩
   have HU3:=hQ_ (HU2.out.keep hc3)
   have HT3:=hQ_ (HT2.out.keep hc3)
   have HF3:=hQ_ (HF2.out.keep hc3)
   have HC3:=hQ_ (HC2.out.trans hc3)
   clear hc3
   by_cases hb : inL zeV r = true
   · rw [hb]
     have H4:=hQ_ hb
     clear hb
     have HP:=hQ_ (zk_ (R:=R) 2 1 true (by rw [HR.out]; unfold zV_; rw [if_neg H1.out,if_neg H2.out,if_neg H3.out,if_pos H4.out]; rfl) HC3.out)
     go_wp2_with fail
     exact bodyPost_ret (v:=.tuple #[.int .i64 ((2 : Nat) : Int),.int .i64 ((1 : Nat) : Int),.bool true]) (by simp [results,Tryz.results97,go_sem]) rfl HP.out
   have H4:=hQ_ hb
   rw [eq_false_of_ne_true hb]
   clear hb
   go_wp2_with fail
   refine (zfn r w3).mono ?_
   rintro e w4 ⟨rfl,hc4⟩
   have HU4:=hQ_ (HU3.out.keep hc4)
   have HT4:=hQ_ (HT3.out.keep hc4)
   have HF4:=hQ_ (HF3.out.keep hc4)
   have HC4:=hQ_ (HC3.out.trans hc4)
   clear hc4
   by_cases hb : inL unL r = true
   · rw [hb]
     have H5:=hQ_ hb
     clear hb
     have HP:=hQ_ (zk_ (R:=R) 1 1 true (by rw [HR.out]; unfold zV_; rw [if_neg H1.out,if_neg H2.out,if_neg H3.out,if_neg H4.out,if_pos H5.out]; rfl) HC4.out)
     go_wp2_with fail
     exact bodyPost_ret (v:=.tuple #[.int .i64 ((1 : Nat) : Int),.int .i64 ((1 : Nat) : Int),.bool true]) (by simp [results,Tryz.results97,go_sem]) rfl HP.out
   have H5:=hQ_ hb
   rw [eq_false_of_ne_true hb]
   clear hb
   go_upto_region 12 with fail
   go_cut [46] (fun s wx => s = .bool (decide (r = 36 ∨ r = 174)) ∧ wx = w4)
   case first =>
    by_cases h36 : r = 36
    · have q1 : (r == 36) = true:=by simpa using h36
      have HALL:=hQ_ (show r = 36 ∨ r = 174 from .inl h36)
      clear h36
      go_wp2_with fail
      go_meet
      exact ⟨congrArg Value.bool (decide_eq_true HALL.out).symm,rfl⟩
    · have q1 : (r == 36) = false:=by simpa using h36
      by_cases h9 : r = 174
      · have q9 : (r == 174) = true:=by simpa using h9
        have HALL:=hQ_ (show r = 36 ∨ r = 174 from .inr h9)
        clear h9 h36
        go_wp2_with fail
        go_meet
        exact ⟨congrArg Value.bool (decide_eq_true HALL.out).symm,rfl⟩
      · have q9 : (r == 174) = false:=by simpa using h9
        have HALL:=hQ_ (show ¬ (r = 36 ∨ r = 174) from by omega)
        clear h9 h36
        go_wp2_with fail
        go_meet
        exact ⟨congrArg Value.bool (decide_eq_false HALL.out).symm,rfl⟩
   case rest =>
    obtain ⟨hs,hcw⟩:=hcut
    rw [hcw]
    clear hcw
    by_cases hP : r = 36 ∨ r = 174
    · rw [decide_eq_true hP] at hs
      subst hs
      have H6:=hQ_ hP
      clear hP
      have HP:=hQ_ (zk_ (R:=R) 2 0 true (by rw [HR.out]; unfold zV_; rw [if_neg H1.out,if_neg H2.out,if_neg H3.out,if_neg H4.out,if_neg H5.out,if_pos H6.out]; rfl) HC4.out)
      go_wp2_with fail
      exact bodyPost_ret (v:=.tuple #[.int .i64 ((2 : Nat) : Int),.int .i64 ((0 : Nat) : Int),.bool true]) (by simp [results,Tryz.results97,go_sem]) rfl HP.out
    rw [decide_eq_false hP] at hs
    subst hs
    have H6:=hQ_ hP
    clear hP
    by_cases h63 : r = 63
    · have q1 : (r == 63) = true:=by simpa using h63
      have H7:=hQ_ h63
      clear h63
      have HP:=hQ_ (zk_ (R:=R) 1 0 true (by rw [HR.out]; unfold zV_; rw [if_neg H1.out,if_neg H2.out,if_neg H3.out,if_neg H4.out,if_neg H5.out,if_neg H6.out,if_pos H7.out]; rfl) HC4.out)
      go_wp2_with fail
      exact bodyPost_ret (v:=.tuple #[.int .i64 ((1 : Nat) : Int),.int .i64 ((0 : Nat) : Int),.bool true]) (by simp [results,Tryz.results97,go_sem]) rfl HP.out
    have q63 : (r == 63) = false:=by simpa using h63
    have H7:=hQ_ h63
    clear h63
    go_wp2_with fail
    refine (zfm r w4).mono ?_
    rintro e w5 ⟨rfl,hc5⟩
    have HU5:=hQ_ (HU4.out.keep hc5)
    have HT5:=hQ_ (HT4.out.keep hc5)
    have HF5:=hQ_ (HF4.out.keep hc5)
    have HC5:=hQ_ (HC4.out.trans hc5)
    clear hc5
    by_cases hb : inL zeL r = true
    · rw [hb]
      have H8:=hQ_ hb
      clear hb
      have HP:=hQ_ (zk_ (R:=R) 0 0 true (by rw [HR.out]; unfold zV_; rw [if_neg H1.out,if_neg H2.out,if_neg H3.out,if_neg H4.out,if_neg H5.out,if_neg H6.out,if_neg H7.out,if_pos H8.out]; rfl) HC5.out)
      go_wp2_with fail
      exact bodyPost_ret (v:=.tuple #[.int .i64 ((0 : Nat) : Int),.int .i64 ((0 : Nat) : Int),.bool true]) (by simp [results,Tryz.results97,go_sem]) rfl HP.out
    have H8:=hQ_ hb
    rw [eq_false_of_ne_true hb]
    clear hb
    by_cases h955 : r = 955
    · have q1 : (r == 955) = true:=by simpa using h955
      have H9:=hQ_ h955
      clear h955
      have u0:=HU5.out.cell 0
      have u1:=HU5.out.cell 1
      have u2:=HU5.out.cell 2
      have t2:=HT5.out.cell 2
      go_wp2_with fail
      refine (ge_ HF5.out nm).mono ?_
      rintro e w9 ⟨rfl,hc9⟩
      have HF9:=hQ_ (HF5.out.keep hc9)
      have HC9:=hQ_ (HC5.out.trans hc9)
      have v2:=(HU5.out.keep hc9).cell 2
      clear hc9 u0 u1 u2 t2
      have HRC:=hQ_ (show R = xF_ l nm from by rw [HR.out]; unfold zV_; rw [if_neg H1.out,if_neg H2.out,if_neg H3.out,if_neg H4.out,if_neg H5.out,if_neg H6.out,if_neg H7.out,if_neg H8.out,if_pos H9.out])
      unfold xC_
      cases hk : yU_ nm l 0 with
      | none =>
        have HKN:=hQ_ hk
        clear hk
        simp only
        have HP:=hQ_ (zk_ (R:=R) 0 0 false (by rw [HRC.out]; unfold xF_; rw [HKN.out]; rfl) HC9.out)
        go_wp2_with fail
        exact bodyPost_ret (v:=.tuple #[.int .i64 ((0 : Nat) : Int),.int .i64 ((0 : Nat) : Int),.bool false]) (by simp [results,Tryz.results97,go_sem]) rfl HP.out
      | some k =>
        obtain ⟨f,_,hfk,_⟩:=ja_ hk
        rw [Nat.sub_zero] at hfk
        have HKS:=hQ_ hk
        have HFK:=hQ_ hfk
        clear hk
        simp only
        obtain ⟨fb,fo,rfl,hfbl,e0,e1,e2⟩:=HF9.out.cell hfk
        have hkn : k < n:=by rw [← HF9.out.len]; exact (List.getElem?_eq_some_iff.1 hfk).1
        have hmaxk:=HF9.out.max
        have har:=HF9.out.args f (List.mem_of_getElem? hfk)
        have hkI : (k : Int) < (n : Int):=by omega
        clear hfk e0 e2
        by_cases ha0 : 0 ≤ f.args
        · have qa0 : decide (0 ≤ f.args) = true:=by simpa using ha0
          by_cases ha4 : f.args ≤ 4
          · have qa4 : decide (f.args ≤ 4) = true:=by simpa using ha4
            have HRD:=hQ_ (show R = (f.args,1,true) from by rw [HRC.out]; unfold xF_; rw [HKS.out]; simp only; rw [HFK.out]; simp only; rw [if_pos ⟨ha0,ha4⟩])
            obtain ⟨q,hq⟩ : ∃ q : Nat,f.args = (q : Int):=⟨f.args.toNat,by omega⟩
            rw [hq] at e1 qa0 qa4
            have hq4 : q ≤ 4:=by omega
            have HRE:=hQ_ (show R = ((q : Int),((1 : Nat) : Int),true) from by rw [HRD.out,hq]; rfl)
            clear hq ha0 ha4 har
            have HP:=hQ_ (zk_ (R:=R) q 1 true (HRE.out) HC9.out)
            go_wp2_with fail
            exact bodyPost_ret (v:=.tuple #[.int .i64 ((q : Nat) : Int),.int .i64 ((1 : Nat) : Int),.bool true]) (by simp [results,Tryz.results97,go_sem]) rfl HP.out
          · have qa4 : decide (f.args ≤ 4) = false:=by simpa using ha4
            have HRE:=hQ_ (show R = (((0 : Nat) : Int),((0 : Nat) : Int),false) from by rw [HRC.out]; unfold xF_; rw [HKS.out]; simp only; rw [HFK.out]; simp only; rw [if_neg (by omega)]; rfl)
            have HP:=hQ_ (zk_ (R:=R) 0 0 false (HRE.out) HC9.out)
            go_wp2_with fail
            exact bodyPost_ret (v:=.tuple #[.int .i64 ((0 : Nat) : Int),.int .i64 ((0 : Nat) : Int),.bool false]) (by simp [results,Tryz.results97,go_sem]) rfl HP.out
        · have qa0 : decide (0 ≤ f.args) = false:=by simpa using ha0
          have HRE:=hQ_ (show R = (((0 : Nat) : Int),((0 : Nat) : Int),false) from by rw [HRC.out]; unfold xF_; rw [HKS.out]; simp only; rw [HFK.out]; simp only; rw [if_neg (by omega)]; rfl)
          have HP:=hQ_ (zk_ (R:=R) 0 0 false (HRE.out) HC9.out)
          go_wp2_with fail
          exact bodyPost_ret (v:=.tuple #[.int .i64 ((0 : Nat) : Int),.int .i64 ((0 : Nat) : Int),.bool false]) (by simp [results,Tryz.results97,go_sem]) rfl HP.out
    have q955 : (r == 955) = false:=by simpa using h955
    have H9:=hQ_ h955
    clear h955
    have HP:=hQ_ (zk_ (R:=R) 0 0 false (by rw [HR.out]; unfold zV_; rw [if_neg H1.out,if_neg H2.out,if_neg H3.out,if_neg H4.out,if_neg H5.out,if_neg H6.out,if_neg H7.out,if_neg H8.out,if_neg H9.out]; rfl) HC5.out)
    go_wp2_with fail
    exact bodyPost_ret (v:=.tuple #[.int .i64 ((0 : Nat) : Int),.int .i64 ((0 : Nat) : Int),.bool false]) (by simp [results,Tryz.results97,go_sem]) rfl HP.out
end
section
variable {W : World} {gm gt B n : Nat} {m : NSt} {vo : Value} {xs : List PV}
theorem Mt.push {W1 w' : World} {v' : Value} {lp : Bool} {i : Nat} (h : Mt W gm gt B n m vo xs) (hc : Chg [] W W1) (hi : i < n) (hn : xs.length < 16)
    (ho : w'.ownsRow B 182 4 v' (xs.length + 1) (vR_ xs ++ [.bool lp,.int .i64 (i : Int),.int .i64 (i : Int),.slice none 0 0])) (hg : W1.grownBy w' vo.ownBlock) :
    Mt (w'.setCell ⟨gm,2,none⟩ v') gm gt B n ⟨m.tO,m.deep,⟨lp,i,i,[]⟩ :: m.op⟩ v' (xs ++ [⟨⟨lp,i,i,[]⟩,.slice none 0 0⟩]):=by
 have h1:=h.keep hc
 have hlo:=h.lo
 have hown : ∀ {e k q : Nat} {v : Value} {cs : List Value},w'.ownsRow B e k v q cs → v.ownBlock ≠ some gm:=fun ho hc => by
  have:=(ho.lt gm hc).1; omega
 have hw : zb_ w' gm 168 [.slice (some ⟨gt,0,none⟩) n n,.int .i64 (m.deep : Int),vo]:=zi_ h1.rec_ h1.own (by decide) hg
 refine ⟨?_,(zi_ h1.to_ h1.own (by decide) hg).far (by simp only; omega) _,h.len,by rw [h.op]; simp,?_,fun y hy => ?_,?_,h.lo,by simp; omega,h.deep,fun y hy => ?_,h.big,by rw [zG_]; exact Nat.le_trans h1.room hg.size⟩
 · have:=hw.set_ 2 v'
   simpa using this
 · have ho2:=zs_ (u:=v') (p:=⟨gm,2,none⟩) ho (hown ho)
   rw [List.length_append,xL_,kY_]
   exact ho2
 · rcases List.mem_append.1 hy with hy | hy
   · have:=yM_ (h1.left y hy) h1.own (by decide) hg
     exact zs_ this (hown this)
   · simp only [List.mem_cons,List.not_mem_nil,or_false] at hy
     subst hy
     exact ⟨rfl,.inl ⟨rfl,rfl⟩⟩
 · rw [List.pairwise_append]
   refine ⟨h.apart,List.pairwise_singleton _ _,fun y hy z hz => ?_⟩
   simp only [List.mem_cons,List.not_mem_nil,or_false] at hz
   subst hz
   cases hy2 : y.v.ownBlock with
   | none => exact .inl rfl
   | some b => exact .inr (by simp [Value.ownBlock])
 · rcases List.mem_append.1 hy with hy | hy
   · exact h.wf y hy
   · simp only [List.mem_cons,List.not_mem_nil,or_false] at hy
     subst hy
     exact ⟨hi,hi,Nat.zero_le _,fun j hj => by cases hj⟩
theorem Mt.deeper (h : Mt W gm gt B n m vo xs) (d : Nat) (hd : d ≤ 16) : Mt (W.setCell ⟨gm,1,none⟩ (.int .i64 (d : Int))) gm gt B n ⟨m.tO,d,m.op⟩ vo xs:=by
 have hlo:=h.lo
 have hown : ∀ {e k q : Nat} {v : Value} {cs : List Value},W.ownsRow B e k v q cs → v.ownBlock ≠ some gm:=fun ho hc => by
  have:=(ho.lt gm hc).1; omega
 refine { h with rec_:=?_,to_:=h.to_.far (by simp only; omega) _,own:=zs_ h.own (hown h.own),left:=fun y hy => zs_ (h.left y hy) (hown (h.left y hy)),deep:=hd,room:=by rw [zG_]; exact h.room }
 have:=h.rec_.set_ 1 (.int .i64 (d : Int))
 simpa using this
theorem jT_ : (Tryz.prog.info? 182).map (fun i => (i.zero,i.size,i.bytes)) = some (some (.agg #[.bool false,.int .i64 0,.int .i64 0,.slice none 0 0]),4,48):=by kernel_rfl
def yi_ (gm gt B n i : Nat) (s : Int) (m : NSt) (W : World) (e : Ending) (w' : World) : Prop :=
 (∃ m',yJ_ i s m = some m' ∧ x6_ gm gt B n m' W e w') ∨ (yJ_ i s m = none ∧ e = .returned (.bool false) ∧ Lo B [gm,gt] W w')
theorem zdS (h : Mt W gm gt B n m vo xs) (i : Nat) (hi : i < n) : Calls Tryz.prog 128 #[.pointer (some ⟨gm,0,none⟩),.int .i64 (i : Int),.int .i32 63] W (yi_ gm gt B n i 63 m W):=by
 obtain ⟨i0,hi0,hz0,hz1,hz2⟩:=info_parts jT_
 have hBW:=h.room
 obtain ⟨A,c,rfl,hc1,hc2,_⟩:=zm_ h.own
 have c2:=h.rec_.cell 2
 have hfew:=h.few
 have hop : m.op.length = xs.length:=by rw [h.op]; simp
 have hdp:=h.deep
 have H:=hQ_ h
 obtain ⟨q,hq⟩ : ∃ q,q = xs.length:=⟨_,rfl⟩
 rw [← hq] at c2 hfew hc1
 have HQ:=hQ_ hq
 have HOP:=hQ_ hop
 have HDP:=hQ_ hdp
 have hal : Chg [] W (W.alloc (.cells #[.bool false,.int .i64 (i : Int),.int .i64 (i : Int),.slice none 0 0] 182)):=(Chg.refl [] W).alloc _
 have HAL:=hQ_ hal
 have HO1:=hQ_ (show (W.alloc (.cells #[.bool false,.int .i64 (i : Int),.int .i64 (i : Int),.slice none 0 0] 182)).ownsRow B 182 4 (.slice A q c) q (vR_ xs) from by
  have h:=zg_ H.out.own hal
  rw [← hq] at h
  exact h)
 have q2 : (W.alloc (.cells #[.bool false,.int .i64 (i : Int),.int .i64 (i : Int),.slice none 0 0] 182)).cell? ⟨gm,2,none⟩ = some (.slice A q c):=zf_ (by simpa using c2) hal
 clear h hq hop hdp hal
 go_enter Tryz.func128,Tryz.ntmps128
 go_wp2_with (
  at_builtin
  refine wpList_append_own _ rfl (.tmp 15) (.tmp 21) _ rfl B 182 i0 _ 4 48 Tryz.underlying166 hi0 hz0 hz1 hz2 rfl (by decide) (.slice A q c) q (vR_ xs) rfl HO1.out ⟨W.heap.size,0,none⟩ 1 1 [.bool false,.int .i64 (i : Int),.int .i64 (i : Int),.slice none 0 0] rfl rfl ?c1 ?c2 ?c3 ?c4 ?c5 ?_
  case c1 => exact zq_ _ _ _
  case c2 => simp [Value.oneCell']
  case c3 => simp only [maxLen]; omega
  case c4 => omega
  case c5 => simp; omega
  intro v' w6 ho6 hg6 _
  obtain ⟨A6,c6,rfl,hc61,_,_⟩:=zm_ ho6
  have HO6:=hQ_ ho6
  have HG6:=hQ_ hg6
  have HW6:=hQ_ (zi_ (H.out.rec_.keep HAL.out) HO1.out (by decide) hg6)
  have k2 : w6.cell? ⟨gm,2,none⟩ = some (.slice A q c):=by
   have h:=HW6.out.cell 2
   rw [← HQ.out] at h
   simpa using h
  have f2:=HW6.out.frozen 2
  clear ho6 hg6)
 go_upto_region 5 with fail
 have HW7:=hQ_ (HW6.out.set_ 2 (.slice A6 (q + 1) c6))
 simp only [List.set_cons_zero,List.set_cons_succ] at HW7
 have HL7:=hQ_ (show Lo B [gm,gt] W (w6.setCell ⟨gm,2,none⟩ (.slice A6 (q + 1) c6)) from ((Lo.of_chg HAL.out (by simp)).trans (Lo.of_grown HO1.out (Nat.le_refl _) HG6.out)).trans (Lo.of_chg ((Chg.refl [gm] w6).setCell (p:=⟨gm,2,none⟩) (by simp) _) (by simp)))
 have HM7:=hQ_ (fun hq16 : xs.length < 16 => show Mt (w6.setCell ⟨gm,2,none⟩ (.slice A6 (q + 1) c6)) gm gt B n ⟨m.tO,m.deep,⟨false,i,i,[]⟩ :: m.op⟩ (.slice A6 (q + 1) c6) (xs ++ [⟨⟨false,i,i,[]⟩,.slice none 0 0⟩]) from H.out.push HAL.out hi hq16 (by rw [← HQ.out]; exact HO6.out) (by rw [← HQ.out]; exact HG6.out))
 generalize w6.setCell ⟨gm,2,none⟩ (.slice A6 (q + 1) c6) = w7 at HW7 HL7 HM7 ⊢
 clear k2 f2 c2 q2
 have k1:=HW7.out.cell 1
 have k2:=HW7.out.cell 2
 have f1:=HW7.out.frozen 1
 go_wp2_with fail
 go_region
 have hmx : max (m.deep : Int) ((q : Int) + 1) = ((max m.deep (q + 1) : Nat) : Int):=by omega
 rw [hmx]
 clear hmx
 have HL8:=hQ_ (show Lo B [gm,gt] W (w7.setCell ⟨gm,1,none⟩ (.int .i64 ((max m.deep (q + 1) : Nat) : Int))).drew from HL7.out.trans (Lo.of_chg ((Chg.refl [gm] w7).setCell (p:=⟨gm,1,none⟩) (by simp) _).drew (by simp)))
 have HW8:=hQ_ (HW7.out.set_ 1 (.int .i64 ((max m.deep (q + 1) : Nat) : Int))).drew
 have HM8:=hQ_ (fun hq16 : xs.length < 16 => (((HM7.out hq16).deeper (max m.deep (q + 1)) (by have:=HDP.out; have:=HQ.out; omega)).keep (Chg.refl [] _).drew))
 generalize (w7.setCell ⟨gm,1,none⟩ (.int .i64 ((max m.deep (q + 1) : Nat) : Int))).drew = w8 at HL8 HW8 HM8 ⊢
 clear k1 k2 f1
 have k2:=HW8.out.cell 2
 by_cases hq16 : q < 16
 · have hle : (q : Int) + 1 ≤ 16:=by omega
   have HPO:=hQ_ (show yi_ gm gt B n i 63 m W (.returned (.bool true)) w8 from .inl ⟨_,by unfold yJ_; rw [if_pos (by decide),HOP.out,← HQ.out,if_pos (by omega)]; rfl,rfl,⟨_,_,HM8.out (by rw [← HQ.out]; exact hq16)⟩,HL8.out⟩)
   go_wp2_with fail
   go_ret
   exact HPO.out
 · have hle : ¬ (q : Int) + 1 ≤ 16:=by omega
   have HPO:=hQ_ (show yi_ gm gt B n i 63 m W (.returned (.bool false)) w8 from .inr ⟨by unfold yJ_; rw [if_pos (by decide),HOP.out,← HQ.out,if_neg (by omega)],rfl,HL8.out⟩)
   go_wp2_with fail
   go_ret
   exact HPO.out
theorem zaF (h : Mt W gm gt B n m vo xs) (i : Nat) (hi : i < n) : Calls Tryz.prog 128 #[.pointer (some ⟨gm,0,none⟩),.int .i64 (i : Int),.int .i32 91] W (yi_ gm gt B n i 91 m W):=by
 obtain ⟨i0,hi0,hz0,hz1,hz2⟩:=info_parts jT_
 have hBW:=h.room
 obtain ⟨A,c,rfl,hc1,hc2,_⟩:=zm_ h.own
 have c2:=h.rec_.cell 2
 have hfew:=h.few
 have hop : m.op.length = xs.length:=by rw [h.op]; simp
 have hdp:=h.deep
 have H:=hQ_ h
 obtain ⟨q,hq⟩ : ∃ q,q = xs.length:=⟨_,rfl⟩
 rw [← hq] at c2 hfew hc1
 have HQ:=hQ_ hq
 have HOP:=hQ_ hop
 have HDP:=hQ_ hdp
 have hal : Chg [] W (W.alloc (.cells #[.bool true,.int .i64 (i : Int),.int .i64 (i : Int),.slice none 0 0] 182)):=(Chg.refl [] W).alloc _
 have HAL:=hQ_ hal
 have HO1:=hQ_ (show (W.alloc (.cells #[.bool true,.int .i64 (i : Int),.int .i64 (i : Int),.slice none 0 0] 182)).ownsRow B 182 4 (.slice A q c) q (vR_ xs) from by
  have h:=zg_ H.out.own hal
  rw [← hq] at h
  exact h)
 have q2 : (W.alloc (.cells #[.bool true,.int .i64 (i : Int),.int .i64 (i : Int),.slice none 0 0] 182)).cell? ⟨gm,2,none⟩ = some (.slice A q c):=zf_ (by simpa using c2) hal
 clear h hq hop hdp hal
 go_enter Tryz.func128,Tryz.ntmps128
 go_wp2_with (
  at_builtin
  refine wpList_append_own _ rfl (.tmp 15) (.tmp 21) _ rfl B 182 i0 _ 4 48 Tryz.underlying166 hi0 hz0 hz1 hz2 rfl (by decide) (.slice A q c) q (vR_ xs) rfl HO1.out ⟨W.heap.size,0,none⟩ 1 1 [.bool true,.int .i64 (i : Int),.int .i64 (i : Int),.slice none 0 0] rfl rfl ?c1 ?c2 ?c3 ?c4 ?c5 ?_
  case c1 => exact zq_ _ _ _
  case c2 => simp [Value.oneCell']
  case c3 => simp only [maxLen]; omega
  case c4 => omega
  case c5 => simp; omega
  intro v' w6 ho6 hg6 _
  obtain ⟨A6,c6,rfl,hc61,_,_⟩:=zm_ ho6
  have HO6:=hQ_ ho6
  have HG6:=hQ_ hg6
  have HW6:=hQ_ (zi_ (H.out.rec_.keep HAL.out) HO1.out (by decide) hg6)
  have k2 : w6.cell? ⟨gm,2,none⟩ = some (.slice A q c):=by
   have h:=HW6.out.cell 2
   rw [← HQ.out] at h
   simpa using h
  have f2:=HW6.out.frozen 2
  clear ho6 hg6)
 go_upto_region 5 with fail
 have HW7:=hQ_ (HW6.out.set_ 2 (.slice A6 (q + 1) c6))
 simp only [List.set_cons_zero,List.set_cons_succ] at HW7
 have HL7:=hQ_ (show Lo B [gm,gt] W (w6.setCell ⟨gm,2,none⟩ (.slice A6 (q + 1) c6)) from ((Lo.of_chg HAL.out (by simp)).trans (Lo.of_grown HO1.out (Nat.le_refl _) HG6.out)).trans (Lo.of_chg ((Chg.refl [gm] w6).setCell (p:=⟨gm,2,none⟩) (by simp) _) (by simp)))
 have HM7:=hQ_ (fun hq16 : xs.length < 16 => show Mt (w6.setCell ⟨gm,2,none⟩ (.slice A6 (q + 1) c6)) gm gt B n ⟨m.tO,m.deep,⟨true,i,i,[]⟩ :: m.op⟩ (.slice A6 (q + 1) c6) (xs ++ [⟨⟨true,i,i,[]⟩,.slice none 0 0⟩]) from H.out.push HAL.out hi hq16 (by rw [← HQ.out]; exact HO6.out) (by rw [← HQ.out]; exact HG6.out))
 generalize w6.setCell ⟨gm,2,none⟩ (.slice A6 (q + 1) c6) = w7 at HW7 HL7 HM7 ⊢
 clear k2 f2 c2 q2
 have k1:=HW7.out.cell 1
 have k2:=HW7.out.cell 2
 have f1:=HW7.out.frozen 1
 go_wp2_with fail
 go_region
 have hmx : max (m.deep : Int) ((q : Int) + 1) = ((max m.deep (q + 1) : Nat) : Int):=by omega
 rw [hmx]
 clear hmx
 have HL8:=hQ_ (show Lo B [gm,gt] W (w7.setCell ⟨gm,1,none⟩ (.int .i64 ((max m.deep (q + 1) : Nat) : Int))).drew from HL7.out.trans (Lo.of_chg ((Chg.refl [gm] w7).setCell (p:=⟨gm,1,none⟩) (by simp) _).drew (by simp)))
 have HW8:=hQ_ (HW7.out.set_ 1 (.int .i64 ((max m.deep (q + 1) : Nat) : Int))).drew
 have HM8:=hQ_ (fun hq16 : xs.length < 16 => (((HM7.out hq16).deeper (max m.deep (q + 1)) (by have:=HDP.out; have:=HQ.out; omega)).keep (Chg.refl [] _).drew))
 generalize (w7.setCell ⟨gm,1,none⟩ (.int .i64 ((max m.deep (q + 1) : Nat) : Int))).drew = w8 at HL8 HW8 HM8 ⊢
 clear k1 k2 f1
 have k2:=HW8.out.cell 2
 by_cases hq16 : q < 16
 · have hle : (q : Int) + 1 ≤ 16:=by omega
   have HPO:=hQ_ (show yi_ gm gt B n i 91 m W (.returned (.bool true)) w8 from .inl ⟨_,by unfold yJ_; rw [if_pos (by decide),HOP.out,← HQ.out,if_pos (by omega)]; rfl,rfl,⟨_,_,HM8.out (by rw [← HQ.out]; exact hq16)⟩,HL8.out⟩)
   go_wp2_with fail
   go_ret
   exact HPO.out
 · have hle : ¬ (q : Int) + 1 ≤ 16:=by omega
   have HPO:=hQ_ (show yi_ gm gt B n i 91 m W (.returned (.bool false)) w8 from .inr ⟨by unfold yJ_; rw [if_pos (by decide),HOP.out,← HQ.out,if_neg (by omega)],rfl,HL8.out⟩)
   go_wp2_with fail
   go_ret
   exact HPO.out
theorem gM_ {i : Nat} {Q : Bool → World → Prop} (h : Calls Tryz.prog 140 #[.pointer (some ⟨gm,0,none⟩),.int .i64 (i : Int)] W fun e w' => ∃ b,e = .returned (.bool b) ∧ Hid (Q b w')) :
    Calls Tryz.prog 128 #[.pointer (some ⟨gm,0,none⟩),.int .i64 (i : Int),.int .i32 58] W fun e w' => ∃ b,e = .returned (.bool b) ∧ Hid (Q b w'):=by
 go_enter Tryz.func128,Tryz.ntmps128
 go_wp2_with fail
 refine h.mono ?_
 rintro e w1 ⟨b,rfl,hq⟩
 clear h
 go_wp2_with fail
 go_ret
 exact ⟨_,rfl,hq⟩
theorem gN_ {i : Nat} {Q : Bool → World → Prop} (h : Calls Tryz.prog 141 #[.pointer (some ⟨gm,0,none⟩),.int .i64 (i : Int)] W fun e w' => ∃ b,e = .returned (.bool b) ∧ Hid (Q b w')) :
    Calls Tryz.prog 128 #[.pointer (some ⟨gm,0,none⟩),.int .i64 (i : Int),.int .i32 59] W fun e w' => ∃ b,e = .returned (.bool b) ∧ Hid (Q b w'):=by
 go_enter Tryz.func128,Tryz.ntmps128
 go_wp2_with fail
 refine h.mono ?_
 rintro e w1 ⟨b,rfl,hq⟩
 clear h
 go_wp2_with fail
 go_ret
 exact ⟨_,rfl,hq⟩
theorem jq_ {i : Nat} {Q : Bool → World → Prop} (h : Calls Tryz.prog 142 #[.pointer (some ⟨gm,0,none⟩),.int .i64 (i : Int)] W fun e w' => ∃ b,e = .returned (.bool b) ∧ Hid (Q b w')) :
    Calls Tryz.prog 128 #[.pointer (some ⟨gm,0,none⟩),.int .i64 (i : Int),.int .i32 93] W fun e w' => ∃ b,e = .returned (.bool b) ∧ Hid (Q b w'):=by
 go_enter Tryz.func128,Tryz.ntmps128
 go_wp2_with fail
 refine h.mono ?_
 rintro e w1 ⟨b,rfl,hq⟩
 clear h
 go_wp2_with fail
 go_ret
 exact ⟨_,rfl,hq⟩
theorem gL_ {i : Nat} {Q : Bool → World → Prop} (h : Calls Tryz.prog 143 #[.pointer (some ⟨gm,0,none⟩),.int .i64 (i : Int)] W fun e w' => ∃ b,e = .returned (.bool b) ∧ Hid (Q b w')) :
    Calls Tryz.prog 128 #[.pointer (some ⟨gm,0,none⟩),.int .i64 (i : Int),.int .i32 126] W fun e w' => ∃ b,e = .returned (.bool b) ∧ Hid (Q b w'):=by
 go_enter Tryz.func128,Tryz.ntmps128
 go_wp2_with fail
 refine h.mono ?_
 rintro e w1 ⟨b,rfl,hq⟩
 clear h
 go_wp2_with fail
 go_ret
 exact ⟨_,rfl,hq⟩
theorem gK_ {i : Nat} (s : Int) (h1 : s ≠ 63) (h2 : s ≠ 91) (h3 : s ≠ 58) (h4 : s ≠ 59) (h5 : s ≠ 93) (h6 : s ≠ 126) :
    Calls Tryz.prog 128 #[.pointer (some ⟨gm,0,none⟩),.int .i64 (i : Int),.int .i32 s] W fun e w' => e = .returned (.bool true) ∧ W = w':=by
 have k1 : (s == 63) = false:=by simpa using h1
 have k2 : (s == 91) = false:=by simpa using h2
 have k3 : (s == 58) = false:=by simpa using h3
 have k4 : (s == 59) = false:=by simpa using h4
 have k5 : (s == 93) = false:=by simpa using h5
 have k6 : (s == 126) = false:=by simpa using h6
 clear h1 h2 h3 h4 h5 h6
 go_enter Tryz.func128,Tryz.ntmps128
 go_wp2_with fail
 go_ret
 exact ⟨rfl,rfl⟩
def Few (i : Nat) (m : NSt) : Prop:=∀ p ∈ m.op,p.left.length ≤ i
theorem zbY {i : Nat} : ∀ {l o : List NPart},(∀ p ∈ l,p.left.length ≤ i) → yw_ i l = some o → ∀ p ∈ o,p.left.length ≤ i + 1:=fun {l o} h ho => by
 obtain ⟨a,p,r,rfl,_,_,rfl⟩:=ui_ ho
 intro q hq
 rcases List.mem_append.1 hq with hq | hq
 · have:=h q (List.mem_append_left _ hq); omega
 · rcases List.mem_cons.1 hq with rfl | hq
   · have:=h p (by simp); simp; omega
   · have:=h q (by simp [hq]); omega
theorem zdk {i : Nat} {s : Int} {m m' : NSt} (h : Few i m) (ht : yJ_ i s m = some m') : Few (i + 1) m':=by
 have hm : ∀ p ∈ m.op,p.left.length ≤ i + 1:=fun p hp => by have:=h p hp; omega
 unfold yJ_ at ht
 split at ht
 · split at ht
   · injection ht with ht; subst ht
     intro p hp
     rcases List.mem_cons.1 hp with rfl | hp
     · simp
     · exact hm p hp
   · cases ht
 split at ht
 · split at ht
   · rename_i p r hop
     split at ht
     · injection ht with ht; subst ht
       intro q hq
       rcases List.mem_cons.1 hq with rfl | hq
       · exact hm p (by rw [hop]; simp)
       · exact hm q (by rw [hop]; simp [hq])
     · cases ht
   · cases ht
 split at ht
 · split at ht
   · rename_i p r hop
     split at ht
     · injection ht with ht; subst ht
       exact fun q hq => hm q (by rw [hop]; simp only at hq; simp [hq])
     · cases ht
   · cases ht
 split at ht
 · split at ht
   · rename_i p r hop
     split at ht
     · injection ht with ht; subst ht
       exact fun q hq => hm q (by rw [hop]; simp only at hq; simp [hq])
     · cases ht
   · cases ht
 split at ht
 · cases ho : yw_ i m.op with
   | none => rw [ho] at ht; cases ht
   | some o =>
     rw [ho] at ht
     injection ht with ht; subst ht
     exact zbY h ho
 · injection ht with ht; subst ht
   exact hm
theorem v2_ {α : Type} (l : List α) : l = [] ∨ ∃ ys x,l = ys ++ [x]:=by
 rcases List.eq_nil_or_concat l with h | ⟨ys,x,h⟩
 · exact .inl h
 · exact .inr ⟨ys,x,by simpa using h⟩
theorem kG_ : ∀ l : List PV,(∀ x ∈ l,x.p.loop = false) ∨ ∃ ys x zs,l = ys ++ x :: zs ∧ x.p.loop = true ∧ ∀ z ∈ zs,z.p.loop = false
  | [] => .inl fun x hx => by cases hx
  | a :: l => by
    rcases kG_ l with h | ⟨ys,x,zs,rfl,h1,h2⟩
    · by_cases hl : a.p.loop = true
      · exact .inr ⟨[],a,l,rfl,hl,h⟩
      · refine .inl fun x hx => ?_
        rcases List.mem_cons.1 hx with rfl | hx
        · simpa using hl
        · exact h x hx
    · exact .inr ⟨a :: ys,x,zs,rfl,h1,h2⟩
theorem zcE (h : Mt W gm gt B n m vo xs) (i : Nat) (hi : i < n) (s : Int) (hf : Few i m) : Calls Tryz.prog 128 #[.pointer (some ⟨gm,0,none⟩),.int .i64 (i : Int),.int .i32 s] W (yi_ gm gt B n i s m W):=by
 have hlo : ∀ {w' : World},Chg [] W w' → Lo B [gm,gt] W w':=fun hc => Lo.of_chg hc (by simp)
 by_cases s1 : s = 63
 · subst s1; exact zdS h i hi
 by_cases s2 : s = 91
 · subst s2; exact zaF h i hi
 have e12 : ¬ (s = 63 ∨ s = 91):=by simp [s1,s2]
 have hop:=h.op
 by_cases s3 : s = 58
 · subst s3
   refine (gM_ (Q:=fun b w' => yi_ gm gt B n i 58 m W (.returned (.bool b)) w') ?_).mono fun e w' ⟨b,he,hq⟩ => by rw [he]; exact hq.out
   rcases v2_ xs with rfl | ⟨ys,x,rfl⟩
   · refine (g7_ h i).mono fun e w' ⟨he,hc⟩ => ⟨false,he,hQ_ (.inr ⟨?_,rfl,hlo hc⟩)⟩
     simp only [List.map_nil,List.reverse_nil] at hop
     unfold yJ_; rw [if_neg e12,if_pos rfl,hop]
   · simp only [List.map_append,List.map_cons,List.map_nil,List.reverse_append,List.reverse_cons,List.reverse_nil,List.nil_append,List.cons_append] at hop
     by_cases hc : x.p.loop = false ∧ x.p.waits = x.p.at_
     · refine (zbM h hc.1 hc.2 i hi).mono fun e w' hp => ⟨true,hp.1,hQ_ (.inl ⟨_,?_,hp.1 ▸ hp⟩)⟩
       unfold yJ_; rw [if_neg e12,if_pos rfl,hop]; simp only; rw [if_pos hc]
     · refine (zdd h (by
        by_cases hl : x.p.loop = true
        · exact .inl hl
        · exact .inr fun e => hc ⟨by simpa using hl,e⟩) i).mono fun e w' ⟨he,hcc⟩ => ⟨false,he,hQ_ (.inr ⟨?_,rfl,hlo hcc⟩)⟩
       unfold yJ_; rw [if_neg e12,if_pos rfl,hop]; simp only; rw [if_neg hc]
 by_cases s4 : s = 59
 · subst s4
   refine (gN_ (Q:=fun b w' => yi_ gm gt B n i 59 m W (.returned (.bool b)) w') ?_).mono fun e w' ⟨b,he,hq⟩ => by rw [he]; exact hq.out
   rcases v2_ xs with rfl | ⟨ys,x,rfl⟩
   · refine (zag h i).mono fun e w' ⟨he,hc⟩ => ⟨false,he,hQ_ (.inr ⟨?_,rfl,hlo hc⟩)⟩
     simp only [List.map_nil,List.reverse_nil] at hop
     unfold yJ_; rw [if_neg e12,if_neg s3,if_pos rfl,hop]
   · simp only [List.map_append,List.map_cons,List.map_nil,List.reverse_append,List.reverse_cons,List.reverse_nil,List.nil_append,List.cons_append] at hop
     by_cases hc : x.p.loop = false
     · refine (zbZ h hc i).mono fun e w' hp => ⟨true,hp.1,hQ_ (.inl ⟨_,?_,hp.1 ▸ hp⟩)⟩
       unfold yJ_; rw [if_neg e12,if_neg s3,if_pos rfl,hop]; simp only; rw [if_pos hc]
     · refine (zdl h (by simpa using hc) i).mono fun e w' ⟨he,hcc⟩ => ⟨false,he,hQ_ (.inr ⟨?_,rfl,hlo hcc⟩)⟩
       unfold yJ_; rw [if_neg e12,if_neg s3,if_pos rfl,hop]; simp only; rw [if_neg hc]
 by_cases s5 : s = 93
 · subst s5
   refine (jq_ (Q:=fun b w' => yi_ gm gt B n i 93 m W (.returned (.bool b)) w') ?_).mono fun e w' ⟨b,he,hq⟩ => by rw [he]; exact hq.out
   rcases v2_ xs with rfl | ⟨ys,x,rfl⟩
   · refine (jZ_ h i).mono fun e w' ⟨he,hc⟩ => ⟨false,he,hQ_ (.inr ⟨?_,rfl,hlo hc⟩)⟩
     simp only [List.map_nil,List.reverse_nil] at hop
     unfold yJ_; rw [if_neg e12,if_neg s3,if_neg s4,if_pos rfl,hop]
   · simp only [List.map_append,List.map_cons,List.map_nil,List.reverse_append,List.reverse_cons,List.reverse_nil,List.nil_append,List.cons_append] at hop
     by_cases hc : x.p.loop = true
     · refine (qz_ h hc i hi).mono fun e w' hp => ⟨true,hp.1,hQ_ (.inl ⟨_,?_,hp.1 ▸ hp⟩)⟩
       unfold yJ_; rw [if_neg e12,if_neg s3,if_neg s4,if_pos rfl,hop]; simp only; rw [if_pos hc]
     · refine (zaf h (by simpa using hc) i).mono fun e w' ⟨he,hcc⟩ => ⟨false,he,hQ_ (.inr ⟨?_,rfl,hlo hcc⟩)⟩
       unfold yJ_; rw [if_neg e12,if_neg s3,if_neg s4,if_pos rfl,hop]; simp only; rw [if_neg hc]
 by_cases s6 : s = 126
 · subst s6
   refine (gL_ (Q:=fun b w' => yi_ gm gt B n i 126 m W (.returned (.bool b)) w') ?_).mono fun e w' ⟨b,he,hq⟩ => by rw [he]; exact hq.out
   rcases kG_ xs with hno | ⟨ys,x,zs,rfl,hx,hz⟩
   · refine (zdb h hno i).mono fun e w' ⟨he,hc⟩ => ⟨false,he,hQ_ (.inr ⟨?_,rfl,hlo hc⟩)⟩
     unfold yJ_; rw [if_neg e12,if_neg s3,if_neg s4,if_neg s5,if_pos rfl,hop,jN_]
     · rfl
     · intro z hz
       simp only [List.mem_reverse,List.mem_map] at hz
       obtain ⟨y,hy,rfl⟩:=hz
       exact hno y hy
   · have hop2 : m.op = (zs.map (·.p)).reverse ++ x.p :: (ys.map (·.p)).reverse:=by rw [hop]; simp
     have hfx : x.p.left.length ≤ i:=hf x.p (by rw [hop2]; simp)
     refine (zbD h hx hz i hi (by omega)).mono fun e w' hp => ⟨true,hp.1,hQ_ (.inl ⟨_,?_,hp.1 ▸ hp⟩)⟩
     unfold yJ_; rw [if_neg e12,if_neg s3,if_neg s4,if_neg s5,if_pos rfl,hop2,kI_ i _ _ hx]
     · rfl
     · intro z hz2
       simp only [List.mem_reverse,List.mem_map] at hz2
       obtain ⟨y,hy,rfl⟩:=hz2
       exact hz y hy
 · refine (gK_ s s1 s2 s3 s4 s5 s6).mono fun e w' ⟨he,hw⟩ => ?_
   subst hw
   exact .inl ⟨m,by unfold yJ_; rw [if_neg e12,if_neg s3,if_neg s4,if_neg s5,if_neg s6],he,⟨_,_,h⟩,Lo.refl _ _ _⟩
end
end Go.Proofs.YtbkfhndmeljlcaaGreatDoor
