import Derived.Test.YtbkfhndmeljlcaaGreatDoorZB1
import Derived.Test.YtbkfhndmeljlcaaGreatDoorZB2
import Derived.Lib.SlBytesConst
set_option maxRecDepth 100000
set_option maxHeartbeats 16000000
namespace Go.Proofs.YtbkfhndmeljlcaaGreatDoor
open Go.RowKit
structure Bs (w : World) (A : Option Addr) (n c : Nat) (l : List UInt8) : Prop where
  len : l.length = n
  src : Src w A (bts l)
  cap : n ≤ c
  max : c ≤ 9223372036854775807
  spot : 0 < n → ∀ ad,A = some ad → ad.spot = none
section
variable {w w' : World} {A : Option Addr} {n c : Nat} {l : List UInt8}
theorem Bs.keep (h : Bs w A n c l) (hc : Chg [] w w') : Bs w' A n c l:=⟨h.len,h.src.keep hc,h.cap,h.max,h.spot⟩
theorem Bs.drew (h : Bs w A n c l) : Bs w.drew A n c l:=⟨h.len,h.src,h.cap,h.max,h.spot⟩
theorem Bs.le (h : Bs w A n c l) : n ≤ 9223372036854775807:=Nat.le_trans h.cap h.max
theorem Bs.nil (w : World) : Bs w none 0 0 []:=⟨rfl,Src.nil _ _,Nat.le_refl _,by omega,fun h => absurd h (by omega)⟩
theorem Bs.of_whole {g t cap : Nat} {cs : List Value} (h : zb_ w g t cs) (hn : l.length = n) (hc : cs.take n = bts l) (hcap : n ≤ cap) (hm : cap ≤ 9223372036854775807) : Bs w (some ⟨g,0,none⟩) n cap l:=by
 refine ⟨hn,?_,hcap,hm,fun _ ad e => by injection e with e; subst e; rfl⟩
 have:=Src.of_whole h 0 n
 rwa [List.drop_zero,hc] at this
theorem Bs.of_all {g t : Nat} (h : zb_ w g t (bts l)) (hm : l.length ≤ 9223372036854775807) : Bs w (some ⟨g,0,none⟩) l.length l.length l :=
 Bs.of_whole h rfl (by rw [List.take_of_length_le (by rw [zx_]; exact Nat.le_refl _)]) (Nat.le_refl _) hm
theorem Bs.of_own {B : Nat} {e : TypeId} {v : Value} (h : w.ownsRow B e 1 v n (bts l)) : ∃ A c,v = .slice A n c ∧ Bs w A n c l ∧ (∀ ad,A = some ad → ad.spot = none ∧ B ≤ ad.block ∧ ad.off = 0 ∧ ad.block < w.heap.size):=by
 obtain ⟨A,c,rfl,hl,hn,hs,hA⟩:=zp_ h
 have hm : c ≤ 9223372036854775807:=by
  rcases h.2 with ⟨h,_⟩ | ⟨g,cap,cur,h,_,_,_,hc,_⟩
  · injection h with _ _ h; omega
  · injection h with _ _ h; subst h; simpa [maxLen] using hc
 exact ⟨A,c,rfl,⟨by rw [zx_] at hl; exact hl,hs,hn,hm,fun _ ad e => (hA ad e).1⟩,hA⟩
theorem Bs.cut (h : Bs w A n c l) {lo hi : Nat} (h1 : lo ≤ hi) (h2 : hi ≤ n) : Bs w (if c = lo then A else A.map (·.add lo)) (hi - lo) (c - lo) ((l.drop lo).take (hi - lo)):=by
 have hl:=h.len
 refine ⟨by rw [List.length_take,List.length_drop]; omega,fun hp => ?_,by have:=h.cap; omega,by have:=h.max; omega,fun h0 ad e => ?_⟩
 · have hp' : 0 < hi - lo:=by rw [zx_,List.length_take,List.length_drop] at hp; omega
   rw [if_neg (by have:=h.cap; omega)]
   obtain ⟨ad,rfl,hb,hx⟩:=h.src (by rw [zx_]; omega)
   obtain ⟨b,o,s⟩:=ad
   obtain rfl : s = none:=h.spot (by omega) _ rfl
   refine ⟨_,rfl,by simp only [zl_]; exact hb,fun j v hj => ?_⟩
   simp only [zl_]
   have h3:=hx (lo + j) v (by
    rw [← hj]
    unfold bts
    rw [List.getElem?_map,List.getElem?_map,List.getElem?_take]
    have : j < hi - lo:=by have:=(List.getElem?_eq_some_iff.1 hj).1; rw [zx_,List.length_take] at this; omega
    rw [if_pos this,List.getElem?_drop])
   rw [zl_] at h3
   rw [← h3,Nat.add_assoc]
 · rw [if_neg (by have:=h.cap; omega)] at e
   cases hA : A with
   | none => rw [hA] at e; cases e
   | some ad0 =>
     obtain ⟨b,o,s⟩:=ad0
     obtain rfl : s = none:=h.spot (by omega) _ hA
     rw [hA] at e
     simp only [Option.map_some,Option.some.injEq] at e
     subst e
     rw [zl_]
theorem qK_ {P : Program} (src e dst : TypeId) (hs : P.underlying src = some (.slice e)) (he : P.underlying e = some (.int .u8)) (hd : P.underlying dst = some .string) (A : Option Addr) (cap : Nat) (w : World) :
    (convert src dst (.slice A 0 cap)).run P w = .ok (.string (zc_ [])) w:=by
      rcases A with _ | ad
      · exact run_convert_bytes_nil (P:=P) w src e hs he 0 cap dst hd
      · rw [run_convert_bytes_string w src dst e _ 0 cap hs he hd]
        simp [Conv.bytesToString,zc_,go_sem]
        rfl
theorem Bs.str {P : Program} (h : Bs w A n c l) (src e dst : TypeId) (hs : P.underlying src = some (.slice e)) (he : P.underlying e = some (.int .u8)) (hd : P.underlying dst = some .string) :
    (convert src dst (.slice A n c)).run P w = .ok (.string (zc_ l)) w:=by
      rcases Nat.eq_zero_or_pos n with h0 | h0
      · subst h0
        obtain rfl : l = []:=List.eq_nil_of_length_eq_zero h.len
        exact qK_ src e dst hs he hd A c w
      · have hl:=h.len
        subst hl
        exact zdW src e dst hs he hd A l c w h.src (h.spot h0)
end
def yp_ : Turns:=⟨Chg [],Chg [],[],[]⟩
theorem za_ : yp_.Ok:=⟨Chg.refl [],fun _ _ h => h,fun _ _ _ h k => h.trans k⟩
theorem zD_ (k : Nat) : yp_.by_ k = Chg []:=by unfold Turns.by_; split <;> rfl
def gZ_ (B : Nat) (e : TypeId) (xs : List Value) : yB_:=fun v W => W.ownsRow B e 1 v xs.length xs
theorem x1_ (B : Nat) (e : TypeId) (xs : List Value) : zS_ (Chg []) (gZ_ B e xs):=fun _ _ _ h hc => zn_ h hc
structure Low (B : Nat) (w w' : World) : Prop where
  os : w'.os = w.os
  tape : w'.tape = w.tape
  output : w'.output = w.output
  size : w.heap.size ≤ w'.heap.size
  block : ∀ k,k < B → k < w.heap.size → w'.heap[k]? = w.heap[k]?
theorem Low.of_chg {B : Nat} {w w' : World} (h : Chg [] w w') : Low B w w':=⟨h.os,h.tape,h.output,h.size,fun k _ hk => h.block k hk (by simp)⟩
theorem Low.trans {B : Nat} {a b c : World} (h : Low B a b) (k : Low B b c) : Low B a c :=
 ⟨k.os.trans h.os,k.tape.trans h.tape,k.output.trans h.output,Nat.le_trans h.size k.size,fun i hB hi => (k.block i hB (Nat.lt_of_lt_of_le hi h.size)).trans (h.block i hB hi)⟩
theorem Low.chg {B : Nat} {a b : World} (h : Low B a b) (hB : a.heap.size ≤ B) : Chg [] a b:=⟨h.os,h.tape,h.output,h.size,fun k hk _ => h.block k (Nat.lt_of_lt_of_le hk hB) hk⟩
theorem Low.of_own {B n : Nat} {e : TypeId} {v : Value} {xs : List Value} {w w' : World} (ho : w.ownsRow B e 1 v n xs) (hg : w.grownBy w' v.ownBlock) : Low B w w':=by
 refine ⟨hg.os,hg.tape,hg.output,hg.size,fun k hk hl => hg.block k hl fun hc => ?_⟩
 rcases ho.2 with ⟨rfl,_⟩ | ⟨g,cap,cur,rfl,hb,_⟩
 · cases hc
 · injection hc with hc; simp only at hc; omega
def zfj (B : Nat) (hard soft : List Nat) : Turns:=⟨Chg [],Low B,hard,soft⟩
theorem zex (B : Nat) (hard soft : List Nat) : (zfj B hard soft).Ok:=⟨Chg.refl [],fun _ _ h => Low.of_chg h,fun _ _ _ h k => h.trans k⟩
theorem zdG {B : Nat} {hard soft : List Nat} (k : Nat) {W W' : World} (h : Chg [] W W') : (zfj B hard soft).by_ k W W':=by
 unfold Turns.by_
 split
 · exact Low.of_chg h
 · exact h
theorem zda {B : Nat} {hard soft : List Nat} {k : Nat} (hk : hard.contains k = true) {W W' : World} (h : Low B W W') : (zfj B hard soft).by_ k W W':=by
 unfold Turns.by_
 rw [if_pos (show (zfj B hard soft).hard.contains k = true from hk)]
 exact h
def zcc (B : Nat) (e : TypeId) : yB_:=fun v W => ∃ g,v = .slice (some ⟨g,0,none⟩) 0 0 ∧ B ≤ g ∧ zb_ W g e []
theorem u5_ (B : Nat) (e : TypeId) : zS_ (Chg []) (zcc B e):=fun _ _ _ ⟨g,h1,h2,h3⟩ hc => ⟨g,h1,h2,h3.keep hc⟩
section
variable {P : Program} (w : World)
theorem ys_ (base : Nat) (t ty e : TypeId) (i : TypeInfo) (z : Value) (bytes : Nat) (ht : P.underlying t = some (.slice e)) (hi : P.info? e = some i) (hz : i.zero = some z) (hs : i.size = 1) (hby : i.bytes = bytes) (hz1 : z.cells.size = 1)
    (g : Nat) (hg : zb_ w g e []) (hbg : base ≤ g) (hbw : base ≤ w.heap.size) (A : Option Addr) (m c : Nat) (news : List Value) (hl : news.length = m) (hsrc : Src w A news) (hb : m * bytes ≤ 140737488355328) (h63 : m ≤ maxLen) :
    ∃ v' w',(Builtin.append_ #[t,t] ty #[.slice (some ⟨g,0,none⟩) 0 0,.slice A m c]).run P w = .ok v' w' ∧ w'.ownsRow base e 1 v' m news ∧ Chg [] w w':=by
 have ho : w.ownsRow base e 1 (.slice (some ⟨g,0,none⟩) 0 0) 0 []:=yS_ (n:=0) (c:=0) hg hbg rfl (by omega) (by unfold maxLen; omega)
 rcases Nat.eq_zero_or_pos m with h0 | h0
 · subst h0
   obtain rfl : news = []:=List.eq_nil_of_length_eq_zero hl
   refine ⟨_,w,?_,ho,Chg.refl _ _⟩
   rcases A with _ | ad
   · simp [Builtin.append_,run_underlying ht,sizeOf,typeInfo,hi,Builtin.lenOf,Builtin.firstCells,storeCells]
   · have hf:=run_firstCells_some (P:=P) w i.size 0 ad 0 c [] (by simp) (fun j u hj => by simp at hj)
     simp [Builtin.append_,run_underlying ht,sizeOf,typeInfo,hi,Builtin.lenOf,hf,storeCells]
 · obtain ⟨ad,rfl,_,hx⟩:=hsrc (by omega)
   subst hby
   have h63' : m ≤ 9223372036854775807:=by simpa [maxLen] using h63
   have h:=run_append_grow (P:=P) w t ty e i z ht hi hz ⟨g,0,none⟩ 0 0 [] (by simp) (by simp) ad m c news (by rw [hl,hs]; omega) hx (by omega) (by omega) (growslice_fits (by omega) (by simpa using hb))
   have hge:=grownCap_ge w m 0 e
   have hle:=grownCap_le_maxLen w m 0 e h63
   simp only [Nat.zero_add] at h
   refine ⟨_,_,h,?_,((Chg.refl [] w).drew).alloc _⟩
   have hw : zb_ (w.drew.alloc (.cells (news ++ (Builtin.zeroCells z.cells (grownCap w m 0 e - m)).toList).toArray e)) w.heap.size e (news ++ (Builtin.zeroCells z.cells (grownCap w m 0 e - m)).toList):=zb_.new w.drew e _
   have hown:=yS_ (B:=base) (n:=m) (c:=grownCap w m 0 e) hw hbw (by simp only [List.length_append,Array.length_toList,size_zeroCells,hz1,hl]; omega) hge hle
   rw [List.take_left' hl] at hown
   have e1 : (#[] ++ news.toArray ++ Builtin.zeroCells z.cells (grownCap w m 0 e - m)) = (news ++ (Builtin.zeroCells z.cells (grownCap w m 0 e - m)).toList).toArray:=by
    apply Array.ext'; simp
   rw [show ([] : List Value).toArray = #[] from rfl,e1]
   exact hown
end
section
variable {P : Program} {T : Turns} {w0 : World} {a0 : Act} {ops : List Oper} {Q : Exit → Act → World → Prop} {F : Said} {k : Nat} {rest : List Oper}
  {d : Option Tmp} {ty : TypeId} {pos : String} {af : Array Go.Edge} {g : Option (Nat × Bool)} {B : Nat} {hard soft : List Nat}
end
def zy_ (b : Bool) (w : World) (e : Ending) (w' : World) : Prop:=e = .returned (.bool b) ∧ Chg [] w w'
theorem zC_ {a b : Bool} (h : a = b) : Ending.returned (.bool a) = .returned (.bool b):=by rw [h]
theorem qL_ {k : IntKind} {a b : Int} (h : a = b) : Ending.returned (.int k a) = .returned (.int k b):=by rw [h]
theorem zi_ {w w' : World} {B2 e2 k2 m : Nat} {v2 : Value} {ys : List Value} {g t : Nat} {cs : List Value} (h : zb_ w g t cs) (h2 : w.ownsRow B2 e2 k2 v2 m ys) (hne : t ≠ e2) (hg : w.grownBy w' v2.ownBlock) : zb_ w' g t cs:=by
 unfold zb_ at h ⊢
 rw [hg.block g ?_ ?_]
 · exact h
 · rcases Nat.lt_or_ge g w.heap.size with hlt | hge
   · exact hlt
   · rw [Array.getElem?_eq_none hge] at h; cases h
 · intro hc
   rcases h2.2 with ⟨rfl,_⟩ | ⟨g2,cap2,cur2,rfl,hb2,hh2,_⟩
   · simp [Value.ownBlock] at hc
   · simp [Value.ownBlock] at hc
     subst hc
     rw [h] at hh2
     simp at hh2
     exact hne hh2.2
theorem yD_ {P : Program} {w : World} {ops : Array Oper} {o : Oper} {a : Act} {K : Act → World → Prop} {Q : Exit → Act → World → Prop} {E : Prop} (hgd : o.guard = none) (s x : Operand) (t : TypeId)
    (ho : o.op = .call { callee:=.builtin .append,args:=#[s,x],argTypes:=#[t,t] })
    (base : Nat) (e : TypeId) (i : TypeInfo) (z : Value) (size bytes : Nat) (ht : P.underlying t = some (.slice e)) (hi : P.info? e = some i) (hz : i.zero = some z)
    (hsize : i.size = size) (hby : i.bytes = bytes) (hzs : z.cells.size = size) (hsz : 0 < size)
    (v : Value) (n : Nat) (xs : List Value) (hse : a.eval s = v) (hown : w.ownsRow base e size v n xs)
    (ad : Addr) (m c : Nat) (news : List Value) (hxe : a.eval x = .slice (some ad) m c) (hl : news.length = m * size) (hnews : ∀ j u,news[j]? = some u → w.cell? (ad.add j) = some u) (h1 : ∀ u ∈ news,u.oneCell' = true)
    (h63 : n + m ≤ maxLen) (hbytes : (n + m) * bytes ≤ 140737488355328) (hbase : base ≤ w.heap.size)
    (h : ∀ v' w',w'.ownsRow base e size v' (n + m) (xs ++ news) → w.grownBy w' v.ownBlock → K (a.put o.dst v') w') :
    if Region.wanted o (yielded ops a.tmps) = true then Oper.wp P o a w K Q else E:=by
 have hw : Region.wanted o (yielded ops a.tmps) = true:=by simp [Region.wanted,hgd]
 rw [if_pos hw]
 obtain ⟨v',w',hrun,h2,h3,_,_⟩:=run_append_own_at (P:=P) w base t o.type e i z size bytes ht hi hz hsize hby hzs hsz v n xs hown ad m c news hl hnews h1 h63 hbytes hbase
 unfold Oper.wp execOp
 simp only [ho,resolve,invoke,builtin,Sem.run_bind,Sem.run_pure,Result.andThen_ok,List.map_toArray,List.map_cons,List.map_nil,hse,hxe,hrun]
 exact h v' w' h2 h3
theorem vi_ : (Value.int .u8 0).cells.size = 1:=rfl
theorem zet (l : List Int) : (nms l).length = l.length:=by simp [nms]
theorem zeu (l m : List Int) : nms (l ++ m) = nms l ++ nms m:=by simp [nms]
theorem yX_ (l : List Int) (i : Nat) (h : i < l.length) : (nms l)[i]? = some (.int .i64 l[i]):=by simp [nms,h]
theorem zf_ {w w' : World} {p : Addr} {v : Value} (h : w.cell? p = some v) (hc : Chg [] w w') : w'.cell? p = some v:=by
 have hs : Src w (some p) [v]:=fun _ => ⟨p,rfl,by
  rcases Nat.lt_or_ge p.block w.heap.size with hlt | hge
  · exact hlt
  · simp [World.cell?,Array.getElem?_eq_none hge] at h,fun j u hj => by
  cases j with
  | zero =>
    simp at hj
    subst hj
    have e : p.add 0 = p:=by simp [Addr.add]
    rw [e]; exact h
  | succ j => simp at hj⟩
 obtain ⟨ad,e,_,hx⟩:=hs.keep hc (by simp)
 injection e with e
 subst e
 have:=hx 0 v rfl
 have e : p.add 0 = p:=by simp [Addr.add]
 rwa [e] at this
theorem zea {k : IntKind} {a b : Int} (h : a = b) : Ending.returned (.int k a) = .returned (.int k b):=by rw [h]
theorem xc_ : (Tryz.prog.info? 5).map (fun i => (i.zero,i.size,i.bytes)) = some (some (.int .u8 0),1,1):=by kernel_rfl
def be4 (k : Nat) : List UInt8:=[UInt8.ofNat (k / 16777216),UInt8.ofNat (k / 65536),UInt8.ofNat (k / 256),UInt8.ofNat k]
theorem ji_ (k : Nat) : (be4 k).length = 4:=rfl
theorem zcn (k : Nat) (hk : k < 4294967296) : bts (be4 k) = [.int .u8 ((k : Int) / 16777216),.int .u8 ((k : Int) / 65536 % 256),.int .u8 ((k : Int) / 256 % 256),.int .u8 ((k : Int) % 256)]:=by
 have h : ∀ x : Nat,(((UInt8.ofNat x).toNat : Nat) : Int) = ((x % 256 : Nat) : Int):=fun x => by rw [UInt8.toNat_ofNat']
 have h2 : ((k / 16777216 % 256 : Nat) : Int) = (k : Int) / 16777216:=by omega
 simp only [bts,be4,List.map_cons,List.map_nil,B8,h,h2,Int.natCast_emod,Int.natCast_ediv,Int.cast_ofNat_Int]
def yI_ (w : World) (l : List UInt8) (e : Ending) (w' : World) : Prop:=∃ v,e = .returned v ∧ w'.ownsRow w.heap.size 5 1 v l.length (bts l) ∧ Chg [] w w'
section
variable {w : World} {A : Option Addr} {n c : Nat} {l : List UInt8}
theorem zef (k : Nat) (hk : k < 4294967296) (hl : l.length = n) (hs : Src w A (bts l)) (hn : n + 4 ≤ 140737488355328) :
    Calls Tryz.prog 72 #[.slice A n c,.int .u32 (k : Int)] w (yI_ w (l ++ be4 k)):=by
 obtain ⟨i,hi,hz,hs1,hb⟩:=info_parts xc_
 have hmk : ∀ W : World,(Instr.makeSlice 33 (.int .i64 0) (.int .i64 ((n : Int) + 4))).run Tryz.prog W = .ok (.slice (some ⟨W.heap.size,0,none⟩) 0 (n + 4)) (W.alloc (.cells (bts (zt_ (n + 4))).toArray 5)):=by
  intro W
  rw [xf_]
  have:=js_ (P:=Tryz.prog) 33 5 i _ rfl Tryz.underlying33 hi hz hs1 (n + 4) (by rw [hb]; omega) (by omega) W
  simpa using this
 have ho0 : (w.alloc (.cells (bts (zt_ (n + 4))).toArray 5)).ownsRow w.heap.size 5 1 (.slice (some ⟨w.heap.size,0,none⟩) 0 (n + 4)) 0 []:=by
  have:=yS_ (B:=w.heap.size) (n:=0) (c:=n + 4) (zb_.new w 5 (bts (zt_ (n + 4)))) (Nat.le_refl _) (by simp [zx_,zI_]) (by omega) (by unfold maxLen; omega)
  simpa using this
 have hlb:=hQ_ (show (bts l).length = n by rw [zx_,hl])
 have hm1:=hQ_ (show 0 + n ≤ maxLen by unfold maxLen; omega)
 have hm2:=hQ_ (show n + 4 ≤ maxLen by unfold maxLen; omega)
 have hm3:=hQ_ (show (0 + n) * 1 ≤ 140737488355328 by omega)
 have hm4:=hQ_ (show (n + 4) * 1 ≤ 140737488355328 by omega)
 have hbe:=hQ_ (zcn k hk)
 go_enter Tryz.func72,Tryz.ntmps72
 go_wp2_with (first
  | (at_builtin
     refine zT_ rfl (.tmp 10) (.tmp 11) 33 rfl w.heap.size 5 i _ 1 Tryz.underlying33 hi hz hs1 hb vi_ (.slice (some ⟨w.heap.size,0,none⟩) 0 (n + 4)) 0 [] rfl ho0 A n c (bts l) rfl hlb.out (hs.keep ((Chg.refl _ _).alloc _)) (x4_ l) hm1.out hm3.out (by simp) ?_
     intro v1 w1 ho1 hg1 _
     have hc1 : Chg [] w w1:=((Chg.refl [] w).alloc _).own ho0 (Nat.le_refl _) hg1
     clear hg1
     simp only [Nat.zero_add,List.nil_append] at ho1
     obtain ⟨A1,c1,rfl,_⟩:=zp_ ho1)
  | (at_builtin
     refine zT_ rfl (.tmp 13) (.tmp 25) 33 rfl w.heap.size 5 i _ 1 Tryz.underlying33 hi hz hs1 hb vi_ (.slice A1 n c1) n (bts l) rfl (zn_ ho1 ((Chg.refl _ _).alloc _)) (some ⟨w1.heap.size,0,none⟩) 4 4 _ rfl rfl (Src.of_all (zb_.new w1 5 (_ :: _ :: _ :: _ :: [])))
       (by rw [← hbe.out]; exact x4_ _) hm2.out hm4.out (by have:=hc1.size; simp; omega) ?_
     intro v2 w2 ho2 hg2 _
     have hc2 : Chg [] w w2:=(hc1.alloc _).own (zn_ ho1 ((Chg.refl _ _).alloc _)) (Nat.le_refl _) hg2
     clear hg2))
 go_ret
 refine ⟨v2,rfl,?_,hc2⟩
 rw [← hbe.out] at ho2
 have e1 : (l ++ be4 k).length = n + 4:=by rw [List.length_append,ji_,hl]
 have e2 : bts (l ++ be4 k) = bts l ++ bts (be4 k):=by simp [bts]
 rw [e1,e2]
 exact ho2
theorem zcN (k : Nat) (hk : k < 4294967296) (hl : l.length = n) (hs : Src w A (bts l)) (hn : n + 4 ≤ 140737488355328) :
    Calls Tryz.prog 101 #[.slice A n c,.int .u32 (k : Int)] w (yI_ w (l ++ be4 k)):=by
 obtain ⟨i,hi,hz,hs1,hb⟩:=info_parts xc_
 have ho0 : (w.alloc (.cells #[] 5)).ownsRow w.heap.size 5 1 (.slice (some ⟨w.heap.size,0,none⟩) 0 0) 0 [] :=
  yS_ (B:=w.heap.size) (n:=0) (c:=0) (zb_.new w 5 []) (Nat.le_refl _) rfl (by omega) (by unfold maxLen; omega)
 have hlb:=hQ_ (show (bts l).length = n by rw [zx_,hl])
 have hm1:=hQ_ (show 0 + n ≤ maxLen by unfold maxLen; omega)
 have hm2:=hQ_ (show n + 4 ≤ maxLen by unfold maxLen; omega)
 have hm3:=hQ_ (show (0 + n) * 1 ≤ 140737488355328 by omega)
 have hm4:=hQ_ (show (n + 4) * 1 ≤ 140737488355328 by omega)
 have hbe:=hQ_ (zcn k hk)
 go_enter Tryz.func101,Tryz.ntmps101
 go_wp2_with (first
  | (at_builtin
     refine zT_ rfl (.tmp 5) (.tmp 6) 33 rfl w.heap.size 5 i _ 1 Tryz.underlying33 hi hz hs1 hb vi_ (.slice (some ⟨w.heap.size,0,none⟩) 0 0) 0 [] rfl ho0 A n c (bts l) rfl hlb.out (hs.keep ((Chg.refl _ _).alloc _)) (x4_ l) hm1.out hm3.out (by simp) ?_
     intro v1 w1 ho1 hg1 _
     have hc1 : Chg [] w w1:=((Chg.refl [] w).alloc _).own ho0 (Nat.le_refl _) hg1
     clear hg1
     simp only [Nat.zero_add,List.nil_append] at ho1
     obtain ⟨A1,c1,rfl,_⟩:=zp_ ho1)
  | (at_builtin
     refine zT_ rfl (.tmp 7) (.tmp 19) 33 rfl w.heap.size 5 i _ 1 Tryz.underlying33 hi hz hs1 hb vi_ (.slice A1 n c1) n (bts l) rfl (zn_ ho1 ((Chg.refl _ _).alloc _)) (some ⟨w1.heap.size,0,none⟩) 4 4 _ rfl rfl (Src.of_all (zb_.new w1 5 (_ :: _ :: _ :: _ :: [])))
       (by rw [← hbe.out]; exact x4_ _) hm2.out hm4.out (by have:=hc1.size; simp; omega) ?_
     intro v2 w2 ho2 hg2 _
     have hc2 : Chg [] w w2:=(hc1.alloc _).own (zn_ ho1 ((Chg.refl _ _).alloc _)) (Nat.le_refl _) hg2
     clear hg2))
 go_ret
 refine ⟨v2,rfl,?_,hc2⟩
 rw [← hbe.out] at ho2
 have e1 : (l ++ be4 k).length = n + 4:=by rw [List.length_append,ji_,hl]
 have e2 : bts (l ++ be4 k) = bts l ++ bts (be4 k):=by simp [bts]
 rw [e1,e2]
 exact ho2
end
section
variable {w : World} {A : Option Addr} {n c : Nat} {l : List UInt8}
theorem Bs.take (h : Bs w A n c l) {m : Nat} (hm : m ≤ n) : Bs w A m c (l.take m) :=
 ⟨by rw [List.length_take,h.len]; omega,src_pre m h.src,Nat.le_trans hm h.cap,h.max,fun h0 => h.spot (by omega)⟩
where
  src_pre (m : Nat) {w : World} {A : Option Addr} {l : List UInt8} (hs : Src w A (bts l)) : Src w A (bts (l.take m)):=fun hp => by
   obtain ⟨ad,e,hb,hx⟩:=hs (by simp [bts] at hp ⊢; omega)
   refine ⟨ad,e,hb,fun j v hj => hx j v ?_⟩
   unfold bts at hj ⊢
   rw [List.map_take,List.getElem?_take] at hj
   split at hj
   · exact hj
   · cases hj
end
theorem ub_ (l m : List UInt8) : bts (l ++ m) = bts l ++ bts m:=by simp [bts]
theorem xb_ {w : World} {B n : Nat} {e : TypeId} {v : Value} {xs : List Value} (h : w.ownsRow B e 1 v n xs) (hn : 0 < n) :
    ∃ g r,v = .slice (some ⟨g,0,none⟩) n (n + r.length) ∧ B ≤ g ∧ zb_ w g e (xs ++ r) ∧ n + r.length ≤ maxLen:=by
 rcases h.2 with ⟨_,h0⟩ | ⟨g,cap,cur,rfl,hb,hg,hc,hm,hs,ht⟩
 · omega
 · have hl : cur.toList.length = cap:=by rw [Array.length_toList]; omega
   have h1 : n * 1 = n:=Nat.mul_one n
   rw [h1] at ht
   have e1 : cap = n + (cur.toList.drop n).length:=by rw [List.length_drop,hl]; omega
   refine ⟨g,cur.toList.drop n,by rw [← e1],hb,?_,by omega⟩
   unfold zb_
   rw [← ht,List.take_append_drop]
   exact hg
structure ChV where
  page : Int
  bA : Option Addr
  bn : Nat
  bc : Nat
  B : List UInt8
def chC (a : ChV) : List Value:=[.int .i64 a.page,.slice a.bA a.bn a.bc]
structure ChOk (w : World) (a : ChV) : Prop where
  p0 : -9223372036854775808 ≤ a.page
  p1 : a.page ≤ 9223372036854775807
  bs : Bs w a.bA a.bn a.bc a.B
structure Chs (w : World) (A : Option Addr) (l : List ChV) : Prop where
  cells : 0 < l.length → ∃ g o,A = some ⟨g,o,none⟩ ∧ g < w.heap.size ∧ ∀ k a,l[k]? = some a → w.cell? ⟨g,o + k * 2,none⟩ = some (.int .i64 a.page) ∧ w.cell? ⟨g,o + k * 2 + 1,none⟩ = some (.slice a.bA a.bn a.bc)
  ok : ∀ a ∈ l,ChOk w a
def Small (a : ChV) : Prop:=0 ≤ a.page ∧ a.page < 65536 ∧ a.bn = 64
theorem ChOk.keep {w w' : World} {a : ChV} (h : ChOk w a) (hc : Chg [] w w') : ChOk w' a:={ h with bs:=h.bs.keep hc }
theorem Chs.nil (w : World) (A : Option Addr) : Chs w A []:=⟨fun h => absurd h (by simp),fun a ha => by simp at ha⟩
theorem Chs.keep {w w' : World} {A : Option Addr} {l : List ChV} (h : Chs w A l) (hc : Chg [] w w') : Chs w' A l:=by
 refine ⟨fun h0 => ?_,fun a ha => (h.ok a ha).keep hc⟩
 obtain ⟨g,o,e,hg,hx⟩:=h.cells h0
 refine ⟨g,o,e,Nat.lt_of_lt_of_le hg hc.size,fun k a ha => ?_⟩
 obtain ⟨h1,h2⟩:=hx k a ha
 have hk : ∀ j,w'.cell? ⟨g,j,none⟩ = w.cell? ⟨g,j,none⟩:=fun j => World.cell?_of_block (w:=w) (hc.block g hg (by simp))
 exact ⟨(hk _).trans h1,(hk _).trans h2⟩
def vO_ : List ChV → List Value
  | [] => []
  | a :: l => chC a ++ vO_ l
theorem jf_ : ∀ l,(vO_ l).length = l.length * 2
  | [] => rfl
  | a :: l => by rw [vO_,List.length_append,jf_ l]; simp [chC]; omega
theorem uG_ : ∀ l m,vO_ (l ++ m) = vO_ l ++ vO_ m
  | [],_ => rfl
  | a :: l,m => by rw [List.cons_append,vO_,vO_,uG_ l m,List.append_assoc]
theorem je_ (a : ChV) : vO_ [a] = chC a:=by simp [vO_]
theorem jg_ : ∀ (l : List ChV) (k : Nat) (a : ChV) (j : Nat),l[k]? = some a → j < 2 → (vO_ l)[k * 2 + j]? = (chC a)[j]?
  | [],k,a,j,h,hj => by simp at h
  | b :: l,0,a,j,h,hj => by
    simp at h; subst h
    rw [vO_,List.getElem?_append_left (by simp [chC]; omega)]
    congr 1; omega
  | b :: l,k + 1,a,j,h,hj => by
    simp at h
    rw [vO_,List.getElem?_append_right (by simp [chC]; omega)]
    rw [← jg_ l k a j h hj]
    congr 1; simp [chC]; omega
structure MadeCh (w : World) (B0 : Nat) (a : ChV) : Prop where
  b : ∃ g,a.bA = some ⟨g,0,none⟩ ∧ B0 ≤ g ∧ zb_ w g 5 (bts a.B)
  bl : a.B.length = 64
  bn : a.bn = 64
  bc : a.bc = 64
  p : 0 ≤ a.page ∧ a.page < 65536
theorem MadeCh.ok {w : World} {B0 : Nat} {a : ChV} (h : MadeCh w B0 a) : ChOk w a:=by
 obtain ⟨g,hg,_,hW⟩:=h.b
 refine ⟨by have:=h.p; omega,by have:=h.p; omega,?_⟩
 rw [hg,h.bn,h.bc]
 have:=Bs.of_all hW (by rw [h.bl]; omega)
 rwa [h.bl] at this
theorem MadeCh.small {w : World} {B0 : Nat} {a : ChV} (h : MadeCh w B0 a) : Small a:=⟨h.p.1,h.p.2,h.bn⟩
theorem MadeCh.chg {w w' : World} {B0 : Nat} {a : ChV} {T : List Nat} (h : MadeCh w B0 a) (hc : Chg T w w') (hT : ∀ i ∈ T,i < B0 ∨ w.heap.size ≤ i) : MadeCh w' B0 a:=by
 obtain ⟨g,hg,hB,hW⟩:=h.b
 exact { h with b:=⟨g,hg,hB,hW.chg hc fun hm => by have:=hT g hm; have:=hW.lt; omega⟩ }
theorem MadeCh.grown {w w' : World} {B0 B2 m : Nat} {v2 : Value} {ys : List Value} {a : ChV} (h : MadeCh w B0 a) (h2 : w.ownsRow B2 44 2 v2 m ys) (hg : w.grownBy w' v2.ownBlock) : MadeCh w' B0 a:=by
 obtain ⟨g,hg1,hB,hW⟩:=h.b
 exact { h with b:=⟨g,hg1,hB,zi_ hW h2 (by decide) hg⟩ }
theorem z0_ {w w' : World} {B n k : Nat} {e : TypeId} {v : Value} {xs : List Value} {T : List Nat} (h : w.ownsRow B e k v n xs) (hc : Chg T w w') (hT : ∀ i ∈ T,i < B ∨ w.heap.size ≤ i) : w'.ownsRow B e k v n xs:=by
 refine ⟨h.1,h.2.imp id ?_⟩
 rintro ⟨g,cap,cur,rfl,hb,hg,r⟩
 refine ⟨g,cap,cur,rfl,hb,?_,r⟩
 have hgl : g < w.heap.size:=by
  rcases Nat.lt_or_ge g w.heap.size with hlt | hge
  · exact hlt
  · rw [Array.getElem?_eq_none hge] at hg; cases hg
 rw [hc.block g hgl (fun hm => by have:=hT g hm; omega)]
 exact hg
theorem chs_own {w : World} {B B0 n : Nat} {e : TypeId} {v : Value} {l : List ChV} (h : w.ownsRow B e 2 v n (vO_ l)) (hok : ∀ a ∈ l,MadeCh w B0 a) :
    ∃ A c,v = .slice A n c ∧ l.length = n ∧ Chs w A l ∧ n ≤ 9223372036854775807 ∧ n ≤ c ∧ (∀ ad,A = some ad → ad.spot = none):=by
 have hl : l.length = n:=by have:=h.1; rw [jf_] at this; omega
 rcases h.2 with ⟨rfl,rfl⟩ | ⟨g,cap,cur,rfl,hb,hg,hn,hc,hs,ht⟩
 · exact ⟨none,0,rfl,hl,⟨fun h => absurd h (by omega),fun a ha => (hok a ha).ok⟩,by omega,Nat.le_refl _,fun ad e => by cases e⟩
 · have hgl : g < w.heap.size:=by
    rcases Nat.lt_or_ge g w.heap.size with hlt | hge
    · exact hlt
    · rw [Array.getElem?_eq_none hge] at hg; cases hg
   refine ⟨_,cap,rfl,hl,⟨fun _ => ⟨g,0,rfl,hgl,fun k a ha => ?_⟩,fun a ha => (hok a ha).ok⟩,by unfold maxLen at hc; omega,hn,fun ad e => by injection e with e; subst e; rfl⟩
   have hx : ∀ j u,(vO_ l)[j]? = some u → w.cell? ((⟨g,0,none⟩ : Addr).add j) = some u:=h.cells rfl
   have q : ∀ j,j < 2 → ∀ u,(chC a)[j]? = some u → w.cell? ⟨g,k * 2 + j,none⟩ = some u:=fun j hj u hu => by
    have:=hx (k * 2 + j) u ((jg_ l k a j ha hj).trans hu)
    rwa [zl_,Nat.zero_add] at this
   simp only [Nat.zero_add]
   exact ⟨q 0 (by omega) _ rfl,q 1 (by omega) _ rfl⟩
theorem u6_ : (Tryz.prog.info? 44).map (fun i => (i.zero,i.size,i.bytes)) = some (some (.agg #[.int .i64 0,.slice none 0 0]),2,32):=by kernel_rfl
theorem zq_ (w : World) (xs : List Value) (t : Nat) : ∀ (j : Nat) (u : Value),xs[j]? = some u → (w.alloc (.cells xs.toArray t)).cell? ((⟨w.heap.size,0,none⟩ : Addr).add j) = some u:=fun j u hj => by
 rw [zl_,Nat.zero_add,(zb_.new w t xs).cell]; exact hj
structure RMade (w : World) (B0 : Nat) (a : ChV) : Prop where
  b : ∃ g r,a.bA = some ⟨g,0,none⟩ ∧ B0 ≤ g ∧ zb_ w g 5 (bts a.B ++ r) ∧ a.bc = 64 + r.length ∧ 64 + r.length ≤ 9223372036854775807
  bl : a.B.length = 64
  bn : a.bn = 64
  p : 0 ≤ a.page ∧ a.page < 65536
theorem RMade.ok {w : World} {B0 : Nat} {a : ChV} (h : RMade w B0 a) : ChOk w a:=by
 obtain ⟨g,r,hg,_,hW,hc,hm⟩:=h.b
 refine ⟨by have:=h.p; omega,by have:=h.p; omega,?_⟩
 rw [hg,h.bn,hc]
 exact Bs.of_whole hW h.bl (by rw [List.take_left' (by rw [zx_,h.bl])]) (by omega) hm
theorem RMade.chg {w w' : World} {B0 : Nat} {a : ChV} {T : List Nat} (h : RMade w B0 a) (hc : Chg T w w') (hT : ∀ i ∈ T,i < B0 ∨ w.heap.size ≤ i) : RMade w' B0 a:=by
 obtain ⟨g,r,hg,hB,hW,hr⟩:=h.b
 exact { h with b:=⟨g,r,hg,hB,hW.chg hc (fun hm => by have:=hT g hm; have:=hW.lt; omega),hr⟩ }
theorem RMade.grown {w w' : World} {B0 B2 m : Nat} {v2 : Value} {ys : List Value} {a : ChV} (h : RMade w B0 a) (h2 : w.ownsRow B2 44 2 v2 m ys) (hg : w.grownBy w' v2.ownBlock) : RMade w' B0 a:=by
 obtain ⟨g,r,hg1,hB,hW,hr⟩:=h.b
 exact { h with b:=⟨g,r,hg1,hB,zi_ hW h2 (by decide) hg,hr⟩ }
theorem uF_ {w : World} {B n : Nat} {e : TypeId} {v : Value} {l : List ChV} (h : w.ownsRow B e 2 v n (vO_ l)) (hok : ∀ a ∈ l,ChOk w a) :
    ∃ A c,v = .slice A n c ∧ l.length = n ∧ Chs w A l ∧ n ≤ 9223372036854775807 ∧ n ≤ c ∧ (∀ ad,A = some ad → ad.spot = none):=by
 have hl : l.length = n:=by have:=h.1; rw [jf_] at this; omega
 rcases h.2 with ⟨rfl,rfl⟩ | ⟨g,cap,cur,rfl,hb,hg,hn,hc,hs,ht⟩
 · exact ⟨none,0,rfl,hl,⟨fun h => absurd h (by omega),hok⟩,by omega,Nat.le_refl _,fun ad e => by cases e⟩
 · have hgl : g < w.heap.size:=by
    rcases Nat.lt_or_ge g w.heap.size with hlt | hge
    · exact hlt
    · rw [Array.getElem?_eq_none hge] at hg; cases hg
   refine ⟨_,cap,rfl,hl,⟨fun _ => ⟨g,0,rfl,hgl,fun k a ha => ?_⟩,hok⟩,by unfold maxLen at hc; omega,hn,fun ad e => by injection e with e; subst e; rfl⟩
   have hx : ∀ j u,(vO_ l)[j]? = some u → w.cell? ((⟨g,0,none⟩ : Addr).add j) = some u:=h.cells rfl
   have q : ∀ j,j < 2 → ∀ u,(chC a)[j]? = some u → w.cell? ⟨g,k * 2 + j,none⟩ = some u:=fun j hj u hu => by
    have:=hx (k * 2 + j) u ((jg_ l k a j ha hj).trans hu)
    rwa [zl_,Nat.zero_add] at this
   simp only [Nat.zero_add]
   exact ⟨q 0 (by omega) _ rfl,q 1 (by omega) _ rfl⟩
theorem MadeCh.rmade {w : World} {B0 : Nat} {a : ChV} (h : MadeCh w B0 a) : RMade w B0 a:=by
 obtain ⟨g,hg,hB,hW⟩:=h.b
 exact ⟨⟨g,[],hg,hB,by rw [List.append_nil]; exact hW,by rw [h.bc]; rfl,by simp⟩,h.bl,h.bn,h.p⟩
def Into (n lo hi r : Int) : Prop:=lo ≤ r ∧ r ≤ hi ∧ (lo ≤ n → n ≤ hi → r = n)
def yu_ (n lo hi : Int) : Int:=if lo ≤ n ∧ n ≤ hi then n else if n.tmod (hi - lo + 1) < 0 then lo + (n.tmod (hi - lo + 1) + hi - lo + 1) else lo + n.tmod (hi - lo + 1)
theorem qq_ (n lo hi : Int) (h1 : lo ≤ hi) : Into n lo hi (yu_ n lo hi):=by
 have b1:=Int.tmod_lt_of_pos n (show 0 < hi - lo + 1 by omega)
 have b2:=Int.lt_tmod_of_pos n (show 0 < hi - lo + 1 by omega)
 unfold yu_
 split
 · rename_i h; exact ⟨h.1,h.2,fun _ _ => rfl⟩
 · rename_i h
   split
   · exact ⟨by omega,by omega,fun ha hb => absurd ⟨ha,hb⟩ h⟩
   · exact ⟨by omega,by omega,fun ha hb => absurd ⟨ha,hb⟩ h⟩
theorem xx_ {a b : Int} (h : a = b) : Ending.returned (.int .i64 a) = .returned (.int .i64 b):=by rw [h]
structure Tp (w : World) (p : Nat) (A : Option Addr) (n c : Nat) (l : List Int) (at_ : Nat) : Prop where
  rec_ : zb_ w p 66 [.slice A n c,.int .i64 (at_ : Int)]
  len : l.length = n
  src : Src w A (nms l)
  spot : 0 < n → ∀ ad,A = some ad → ad.spot = none ∧ ad.block < p
  rng : ∀ x ∈ l,-9223372036854775808 ≤ x ∧ x ≤ 9223372036854775807
  le : at_ ≤ n
  max : n ≤ 9223372036854775807
theorem zfh (l : List Int) (i : Nat) (h : i < l.length) : (nms l)[i]? = some (.int .i64 l[i]):=by simp [nms,h]
section
variable {w : World}
theorem gA_ (n lo hi : Int) (h0 : -1000000 ≤ lo) (h1 : lo ≤ hi) (h2 : hi ≤ 2000000000) (hn0 : -9223372036854775808 ≤ n) (hn1 : n ≤ 9223372036854775807) :
    Calls Tryz.prog 18 #[.int .i64 n,.int .i64 lo,.int .i64 hi] w fun e w' => e = .returned (.int .i64 (yu_ n lo hi)) ∧ w = w':=by
 have b1:=Int.tmod_lt_of_pos n (show 0 < hi - lo + 1 by omega)
 have b2:=Int.lt_tmod_of_pos n (show 0 < hi - lo + 1 by omega)
 have hne : ((hi - lo + 1) == 0) = false:=by simp; omega
 by_cases ha : lo ≤ n
 · by_cases hb : n ≤ hi
   · have HI:=hQ_ (show yu_ n lo hi = n by unfold yu_; rw [if_pos ⟨ha,hb⟩])
     go_enter Tryz.func18,Tryz.ntmps18
     go_wp2_with fail
     go_ret
     exact ⟨xx_ HI.out.symm,rfl⟩
   · by_cases hm : n.tmod (hi - lo + 1) < 0
     · have HI:=hQ_ (show yu_ n lo hi = lo + (n.tmod (hi - lo + 1) + hi - lo + 1) by unfold yu_; rw [if_neg (fun h => hb h.2),if_pos hm])
       go_enter Tryz.func18,Tryz.ntmps18
       go_wp2_with fail
       go_ret
       exact ⟨xx_ HI.out.symm,rfl⟩
     · have HI:=hQ_ (show yu_ n lo hi = lo + n.tmod (hi - lo + 1) by unfold yu_; rw [if_neg (fun h => hb h.2),if_neg hm])
       go_enter Tryz.func18,Tryz.ntmps18
       go_wp2_with fail
       go_ret
       exact ⟨xx_ HI.out.symm,rfl⟩
 · have hd : decide (lo ≤ n) = false:=by simp; omega
   by_cases hm : n.tmod (hi - lo + 1) < 0
   · have HI:=hQ_ (show yu_ n lo hi = lo + (n.tmod (hi - lo + 1) + hi - lo + 1) by unfold yu_; rw [if_neg (fun h => ha h.1),if_pos hm])
     go_enter Tryz.func18,Tryz.ntmps18
     go_wp2_with fail
     go_ret
     exact ⟨xx_ HI.out.symm,rfl⟩
   · have HI:=hQ_ (show yu_ n lo hi = lo + n.tmod (hi - lo + 1) by unfold yu_; rw [if_neg (fun h => ha h.1),if_neg hm])
     go_enter Tryz.func18,Tryz.ntmps18
     go_wp2_with fail
     go_ret
     exact ⟨xx_ HI.out.symm,rfl⟩
end
section
variable {w w' : World} {p n c at_ : Nat} {A : Option Addr} {l : List Int}
theorem Tp.keep (h : Tp w p A n c l at_) (hc : Chg [] w w') : Tp w' p A n c l at_:=⟨h.rec_.keep hc,h.len,h.src.keep hc,h.spot,h.rng,h.le,h.max⟩
theorem Tp.other (h : Tp w p A n c l at_) {g j : Nat} (hg : g ≠ p) (hA : ∀ ad,A = some ad → 0 < n → ad.block ≠ g) (u : Value) : Tp (w.setCell ⟨g,j,none⟩ u) p A n c l at_:=by
 refine ⟨h.rec_.far (by simpa using Ne.symm hg) u,h.len,fun hp => ?_,h.spot,h.rng,h.le,h.max⟩
 obtain ⟨ad,e,hb,hy⟩:=h.src hp
 have hn : 0 < n:=by have:=h.len; simp [nms] at hp; omega
 refine ⟨ad,e,by simpa [World.setCell] using hb,fun i v hi => ?_⟩
 have h1:=hy i v hi
 have e2 : (ad.add i).block = ad.block:=by unfold Addr.add; split <;> rfl
 rw [← h1]
 exact World.cell?_of_block (w:=w) (Below.heap_setCell w _ u _ (by rw [e2]; exact hA ad e hn))
theorem Tp.grown {B2 m k2 : Nat} {e2 : TypeId} {v2 : Value} {ys : List Value} (h : Tp w p A n c l at_) (h2 : w.ownsRow B2 e2 k2 v2 m ys) (hg : w.grownBy w' v2.ownBlock) (hne : 66 ≠ e2) (hB : p < B2) : Tp w' p A n c l at_:=by
 refine ⟨zi_ h.rec_ h2 hne hg,h.len,fun hp => ?_,h.spot,h.rng,h.le,h.max⟩
 obtain ⟨ad,e,hb,hy⟩:=h.src hp
 have hn : 0 < n:=by have:=h.len; simp [nms] at hp; omega
 refine ⟨ad,e,Nat.lt_of_lt_of_le hb hg.size,fun i v hi => ?_⟩
 have h1:=hy i v hi
 have e3 : (ad.add i).block = ad.block:=by unfold Addr.add; split <;> rfl
 rw [← h1]
 refine World.cell?_of_block (w:=w) (hg.block _ (by rw [e3]; exact hb) (fun hc => ?_))
 rw [e3] at hc
 have:=(h2.lt _ hc.symm).1
 have:=(h.spot hn ad e).2
 omega
theorem zQ_ {T : List Nat} {a w w' : World} {row : Option Nat} (h : Chg T a w) (hg : w.grownBy w' row) (hr : ∀ g,row = some g → a.heap.size ≤ g) : Chg T a w' :=
 h.then_ (T':=row.toList) (Chg.of_grown hg fun g e _ => by simp [e]) fun i hi hlt => by
  have:=hr i (by simpa using hi)
  omega
theorem Tp.lt (h : Tp w p A n c l at_) : p < w.heap.size:=h.rec_.lt
def zdx (w : World) (p : Nat) (A : Option Addr) (n c : Nat) (l : List Int) (m : Nat) (e : Ending) (w' : World) : Prop :=
 ∃ (r a' : Nat),r < m ∧ e = .returned (.int .i64 (r : Int)) ∧ Tp w' p A n c l a' ∧ Chg [p] w w'
theorem zH_ (h : Tp w p A n c l at_) (m : Nat) (hm : 0 < m) (hm2 : m ≤ 1000000) :
    Calls Tryz.prog 33 #[.pointer (some ⟨p,0,none⟩),.int .i64 (m : Int)] w (zdx w p A n c l m):=by
 have c0:=h.rec_.cell 0
 have c1:=h.rec_.cell 1
 have f1:=h.rec_.frozen 1
 have hle:=h.le
 have hmax:=h.max
 have H:=hQ_ h
 clear h
 have hmd : ¬ (m : Int) < 1:=by omega
 have hmd1 : decide ((m : Int) < 1) = false:=by simp; omega
 by_cases hlt : at_ < n
 · have hd1 : decide (n ≤ at_) = false:=by simp; omega
   have hd2 : decide ((n : Int) ≤ (at_ : Int)) = false:=by simp; omega
   obtain ⟨ad,rfl,_,hx⟩:=H.out.src (by simp [nms]; have:=H.out.len; omega)
   have hx1:=hx at_ _ (zfh l at_ (by have:=H.out.len; omega))
   obtain ⟨b,o,s⟩:=ad
   obtain ⟨hs,hbp⟩:=H.out.spot (by omega) _ rfl
   simp only at hs hbp
   subst hs
   rw [zl_] at hx1
   have hal : at_ < l.length:=by have:=H.out.len; omega
   have hrz:=H.out.rng l[at_] (List.getElem_mem hal)
   generalize l[at_] = z at hx1 hrz
   obtain ⟨hz0,hz1⟩:=hrz
   clear hx
   go_enter Tryz.func33,Tryz.ntmps33
   go_wp2_with fail
   go_quiet (fail)
   go_wp2_with fail
   have hR3:=((H.out.rec_.keep ((Chg.refl [] w).drewN nq)).set_ 1 (.int .i64 ((at_ : Int) + 1)))
   have hc3 : Chg [p] w ((w.drewN nq).setCell ⟨p,1,none⟩ (.int .i64 ((at_ : Int) + 1))):=((Chg.refl [p] w).drewN nq).setCell (by simp) _
   generalize (w.drewN nq).setCell ⟨p,1,none⟩ (.int .i64 ((at_ : Int) + 1)) = w3 at hR3 hc3 ⊢
   have hs3 : Src w3 (some ⟨b,o,none⟩) (nms l):=fun hp => by
    obtain ⟨ad,e,hb,hy⟩:=H.out.src hp
    injection e with e
    subst e
    refine ⟨_,rfl,Nat.lt_of_lt_of_le hb hc3.size,fun j v hj => ?_⟩
    have:=hy j v hj
    rw [zl_] at this ⊢
    rw [← this]
    exact World.cell?_of_block (w:=w) (hc3.block b hb (by simp; omega))
   have hT3 : Tp w3 p (some ⟨b,o,none⟩) n c l (at_ + 1):=⟨by simpa using hR3,H.out.len,hs3,H.out.spot,H.out.rng,by omega,H.out.max⟩
   have k0:=hT3.rec_.cell 0
   have k1:=hT3.rec_.cell 1
   have k2 : w3.cell? ⟨b,o + at_,none⟩ = some (.int .i64 z):=by
    rw [← hx1]
    exact World.cell?_of_block (w:=w) (hc3.block b (block_lt_of_cell hx1) (by simp; omega))
   clear hx1 c0 c1 f1 hR3 hs3
   obtain ⟨q,hq,hq2⟩ : ∃ q : Nat,yu_ z 0 1073741824 = (q : Int) ∧ q ≤ 1073741824:=by
    have hin:=qq_ z 0 1073741824 (by omega)
    exact ⟨(yu_ z 0 1073741824).toNat,by have:=hin.1; omega,by have h1:=hin.1; have h2:=hin.2.1; omega⟩
   have hw : ∀ W : World,Calls Tryz.prog 18 #[.int .i64 z,.int .i64 0,.int .i64 1073741824] W fun e w' => e = .returned (.int .i64 (q : Int)) ∧ w' = W:=fun W =>
    (gA_ z 0 1073741824 (by omega) (by omega) (by omega) hz0 hz1).mono fun _ _ ⟨h1,h2⟩ => ⟨by rw [h1,hq],h2.symm⟩
   have HT:=hQ_ hT3
   have HW:=hQ_ hw
   have HC:=hQ_ hc3
   have hsub : IntKind.i64.wrap (at_ : Int) = (at_ : Int):=IntWalk.i64_in _ (by omega)
   have hatn : (at_ : Int).toNat = at_:=Int.toNat_natCast _
   have hat0 : (0 : Int) ≤ (at_ : Int):=by omega
   have htm : (q : Int).tmod (m : Int) = ((q % m : Nat) : Int):=rfl
   have hlast : q % m < m:=Nat.mod_lt _ hm
   have hatI : (at_ : Int) < (n : Int):=by omega
   have hm0 : ((m : Int) == 0) = false:=by simp; omega
   clear hT3 hw hc3 hq H
   go_quiet ((go_at_call 18; exact Calls.quiet_of_same (HW.out _)))
   go_wp2_with fail
   go_ret
   exact ⟨q % m,at_ + 1,hlast,rfl,HT.out.keep ((Chg.refl _ _).drewN _),HC.out.drewN _⟩
 · have hd1 : decide (n ≤ at_) = true:=by simp; omega
   have hd2 : decide ((n : Int) ≤ (at_ : Int)) = true:=by simp; omega
   go_enter Tryz.func33,Tryz.ntmps33
   go_wp2_with fail
   go_quiet (fail)
   go_wp2_with fail
   go_ret
   exact ⟨0,at_,hm,rfl,H.out.keep ((Chg.refl _ _).drewN _),(Chg.refl _ _).drewN _⟩
end
def jk_ (l : List UInt8) : Nat:=l.foldl (fun g b => g * 256 + b.toNat) 0
theorem zbo (l : List UInt8) (b : UInt8) : jk_ (l ++ [b]) = jk_ l * 256 + b.toNat:=by simp [jk_]
theorem zbW : ∀ (l : List UInt8) (g : Nat),l.foldl (fun g b => g * 256 + b.toNat) g < (g + 1) * 256 ^ l.length
  | [],g => by simp
  | b :: l,g => by
    have h:=zbW l (g * 256 + b.toNat)
    have hb:=b.toNat_lt
    have h2 : (g * 256 + b.toNat + 1) * 256 ^ l.length ≤ ((g + 1) * 256) * 256 ^ l.length:=Nat.mul_le_mul_right _ (by omega)
    rw [List.foldl_cons,List.length_cons,Nat.pow_succ,Nat.mul_comm (256 ^ l.length) 256,← Nat.mul_assoc]
    omega
theorem zbp (l : List UInt8) : jk_ l < 256 ^ l.length:=by
 have:=zbW l 0
 simpa [jk_] using this
theorem zcZ (l : List UInt8) (k : Nat) : jk_ ((l.drop k).take 4) < 4294967296:=by
 have h:=zbp ((l.drop k).take 4)
 have h2 : ((l.drop k).take 4).length ≤ 4:=by rw [List.length_take]; omega
 have : 256 ^ ((l.drop k).take 4).length ≤ 256 ^ 4:=Nat.pow_le_pow_right (by omega) h2
 omega
theorem xZ_ (l : List UInt8) (k j : Nat) (h : k + j < l.length) : jk_ ((l.drop k).take (j + 1)) = jk_ ((l.drop k).take j) * 256 + (l[k + j]).toNat:=by
 rw [List.take_succ_eq_append_getElem (by rw [List.length_drop]; omega),zbo,List.getElem_drop]
theorem zcY (l : List UInt8) (k j : Nat) (hj : j < 4) : jk_ ((l.drop k).take j) < 16777216:=by
 have h:=zbp ((l.drop k).take j)
 have h2 : ((l.drop k).take j).length ≤ 3:=by rw [List.length_take]; omega
 have : 256 ^ ((l.drop k).take j).length ≤ 256 ^ 3:=Nat.pow_le_pow_right (by omega) h2
 omega
theorem zem (g : Nat) (q : UInt8) (hg : g < 16777216) : bits .or .u32 ((g : Int) * 256 % 4294967296) ((q.toNat : Int) % 4294967296) = ((g * 256 + q.toNat : Nat) : Int):=by
 have hq:=q.toNat_lt
 have e1 : (g : Int) * 256 % 4294967296 = ((g * 256 : Nat) : Int):=by omega
 have e2 : (q.toNat : Int) % 4294967296 = ((q.toNat : Nat) : Int):=by omega
 rw [e1,e2,u32_or_nat _ _ (by omega) (by omega),nat_join 8 (g * 256) q.toNat (by omega) (by omega)]
theorem zbm (i x y : Nat) (hx : x < 4294967296) (hy : y < 2 ^ i) (hy2 : y < 4294967296) (h0 : x % 2 ^ i = 0) : bits .or .u32 (x : Int) (y : Int) = ((x + y : Nat) : Int):=by
 rw [u32_or_nat x y hx hy2,nat_join i x y h0 hy]
theorem zel (a b c d : UInt8) : bits .or .u32 (bits .or .u32 (bits .or .u32 ((a.toNat : Int) % 4294967296 * 16777216 % 4294967296) ((b.toNat : Int) % 4294967296 * 65536 % 4294967296)) ((c.toNat : Int) % 4294967296 * 256 % 4294967296)) ((d.toNat : Int) % 4294967296) =
    ((((a.toNat * 256 + b.toNat) * 256 + c.toNat) * 256 + d.toNat : Nat) : Int):=by
         have h1:=a.toNat_lt
         have h2:=b.toNat_lt
         have h3:=c.toNat_lt
         have h4:=d.toNat_lt
         generalize a.toNat = a at *
         generalize b.toNat = b at *
         generalize c.toNat = c at *
         generalize d.toNat = d at *
         obtain ⟨A,hA⟩ : ∃ A,A = a * 16777216:=⟨_,rfl⟩
         have e1 : (a : Int) % 4294967296 * 16777216 % 4294967296 = (A : Int):=by omega
         have e2 : (b : Int) % 4294967296 * 65536 % 4294967296 = ((b * 65536 : Nat) : Int):=by omega
         have e3 : (c : Int) % 4294967296 * 256 % 4294967296 = ((c * 256 : Nat) : Int):=by omega
         have e4 : (d : Int) % 4294967296 = (d : Int):=by omega
         rw [e1,e2,e3,e4,zbm 24 A (b * 65536) (by omega) (by omega) (by omega) (by omega),zbm 16 (A + b * 65536) (c * 256) (by omega) (by omega) (by omega) (by omega),zbm 8 (A + b * 65536 + c * 256) d (by omega) (by omega) (by omega) (by omega)]
         congr 1
         omega
def xJ_ (l : List UInt8) (at_ : Int) : Nat:=if 0 ≤ at_ ∧ at_ + 4 ≤ l.length then jk_ ((l.drop at_.toNat).take 4) else 0
theorem k6_ (l : List UInt8) (i : Int) : xJ_ l i < 4294967296:=by
 unfold xJ_
 split
 · exact zcZ _ _
 · omega
section
variable {w : World} {A : Option Addr} {n c : Nat} {l : List UInt8}
theorem zfq (hn : n ≤ 9223372036854775807) (i : Int) (h : i < 0 ∨ (n : Int) < i + 4) (hi : i ≤ 9223372036854775807) :
    Calls Tryz.prog 103 #[.slice A n c,.int .i64 i] w fun e w' => e = .returned (.int .u32 0) ∧ w = w':=by
 by_cases h0 : i < 0
 · go_enter Tryz.func103,Tryz.ntmps103
   go_wp2_with fail
   go_ret
   exact ⟨rfl,rfl⟩
 · have h1 : (n : Int) - 4 < i:=by omega
   have h2 : 0 ≤ i:=by omega
   have hd : decide (i < 0) = false:=by simpa using h0
   clear h
   go_enter Tryz.func103,Tryz.ntmps103
   go_wp2_with fail
   go_ret
   exact ⟨rfl,rfl⟩
theorem zeE (hl : l.length = n) (hs : Src w A (bts l)) (hn : n ≤ 9223372036854775807) (hsp : 0 < n → ∀ ad,A = some ad → ad.spot = none) (k : Nat) (hk : k + 4 ≤ n) (hnc : n ≤ c) (hc : c ≤ 9223372036854775807) :
    Calls Tryz.prog 103 #[.slice A n c,.int .i64 (k : Int)] w fun e w' => e = .returned (.int .u32 (jk_ ((l.drop k).take 4) : Nat)) ∧ w = w':=by
 have HL:=hQ_ hl
 have HS:=hQ_ hsp
 clear hl hsp
 obtain ⟨⟨b,o,s⟩,rfl,_,hx⟩:=hs (by rw [zx_,HL.out]; omega)
 obtain rfl : s = none:=HS.out (by omega) _ rfl
 go_enter Tryz.func103,Tryz.ntmps103
 go_wp2_with fail
 go_loop [5,23] (fun h i => ∃ j : Nat,j ≤ 4 ∧ i = .int .i64 (j : Int) ∧ h = .int .u32 ((jk_ ((l.drop k).take j) : Nat) : Int)) (fun _ i => 4 - (intOf i).toNat)
 case atStart => exact ⟨0,by omega,rfl,rfl⟩
 case round =>
  obtain ⟨j,hj,rfl,rfl⟩:=hrel
  by_cases hlt : j < 4
  · have hkl : k + j < l.length:=by rw [HL.out]; omega
    have hx1:=hx (k + j) _ (vx_ l (k + j) hkl)
    rw [zl_] at hx1
    unfold B8 at hx1
    have hnx:=xZ_ l k j hkl
    have hgl:=zcY l k j hlt
    clear hx
    generalize l[k + j] = q at hx1 hnx
    have hob:=zem _ q hgl
    rw [← hnx] at hob
    clear hnx
    generalize jk_ ((l.drop k).take j) = g at hob hgl
    have hob2:=hQ_ hob
    clear hob hgl
    have hx2 : w.cell? ⟨b,o + k + j,none⟩ = some (.int .u8 (q.toNat : Int)):=by rw [← hx1,Nat.add_assoc]
    clear hx1
    go_wp2_with fail
    go_round
    case rel => exact ⟨j + 1,by omega,by go_num,by rw [hob2.out]⟩
    case measure => simp [intOf]; omega
  · obtain rfl : j = 4:=by omega
    go_wp2_with fail
    go_ret
    exact ⟨rfl,rfl⟩
theorem zdZ (hn : n ≤ 9223372036854775807) (i : Int) (h : i < 0 ∨ (n : Int) < i + 4) (hi : i ≤ 9223372036854775807) :
    Calls Tryz.prog 102 #[.slice A n c,.int .i64 i] w fun e w' => e = .returned (.int .u32 0) ∧ w = w':=by
 by_cases h0 : i < 0
 · go_enter Tryz.func102,Tryz.ntmps102
   go_wp2_with fail
   go_ret
   exact ⟨rfl,rfl⟩
 · have h1 : (n : Int) - 4 < i:=by omega
   have h2 : 0 ≤ i:=by omega
   have hd : decide (i < 0) = false:=by simpa using h0
   clear h
   go_enter Tryz.func102,Tryz.ntmps102
   go_wp2_with fail
   go_ret
   exact ⟨rfl,rfl⟩
theorem zcO (hl : l.length = n) (hs : Src w A (bts l)) (hn : n ≤ 9223372036854775807) (hsp : 0 < n → ∀ ad,A = some ad → ad.spot = none) (k : Nat) (hk : k + 4 ≤ n) :
    Calls Tryz.prog 102 #[.slice A n c,.int .i64 (k : Int)] w fun e w' => e = .returned (.int .u32 (jk_ ((l.drop k).take 4) : Nat)) ∧ Chg [] w w':=by
 have HL:=hQ_ hl
 have HS:=hQ_ hsp
 clear hl hsp
 obtain ⟨⟨b,o,s⟩,rfl,_,hx⟩:=hs (by rw [zx_,HL.out]; omega)
 obtain rfl : s = none:=HS.out (by omega) _ rfl
 have x0:=hx (k + 0) _ (vx_ l (k + 0) (by rw [HL.out]; omega))
 have x1:=hx (k + 1) _ (vx_ l (k + 1) (by rw [HL.out]; omega))
 have x2:=hx (k + 2) _ (vx_ l (k + 2) (by rw [HL.out]; omega))
 have x3:=hx (k + 3) _ (vx_ l (k + 3) (by rw [HL.out]; omega))
 have e0:=xZ_ l k 0 (by rw [HL.out]; omega)
 have e1:=xZ_ l k 1 (by rw [HL.out]; omega)
 have e2:=xZ_ l k 2 (by rw [HL.out]; omega)
 have e3:=xZ_ l k 3 (by rw [HL.out]; omega)
 have e00 : jk_ ((l.drop k).take 0) = 0:=rfl
 clear hx
 rw [zl_] at x0 x1 x2 x3
 unfold B8 at x0 x1 x2 x3
 generalize l[k + 0]'(by rw [HL.out]; omega) = q0 at x0 e0
 generalize l[k + 1]'(by rw [HL.out]; omega) = q1 at x1 e1
 generalize l[k + 2]'(by rw [HL.out]; omega) = q2 at x2 e2
 generalize l[k + 3]'(by rw [HL.out]; omega) = q3 at x3 e3
 have ho:=zel q0 q1 q2 q3
 rw [show ((q0.toNat * 256 + q1.toNat) * 256 + q2.toNat) * 256 + q3.toNat = jk_ ((l.drop k).take 4) by rw [e3,e2,e1,e0,e00]; omega] at ho
 have HO:=hQ_ ho
 clear ho e0 e1 e2 e3 e00
 rw [Nat.add_zero] at x0
 rw [← Nat.add_assoc] at x1 x2 x3
 have b1 : (0 : Int) ≤ (k : Int):=by omega
 have b2 : (k : Int) + 1 < (n : Int):=by omega
 have b3 : (k : Int) + 2 < (n : Int):=by omega
 have b4 : (k : Int) + 3 < (n : Int):=by omega
 have b5 : (k : Int) < (n : Int):=by omega
 have m1 : IntKind.i64.wrap ((k : Int) + 1) = (k : Int) + 1:=IntWalk.i64_in _ (by omega)
 have m2 : IntKind.i64.wrap ((k : Int) + 2) = (k : Int) + 2:=IntWalk.i64_in _ (by omega)
 have m3 : IntKind.i64.wrap ((k : Int) + 3) = (k : Int) + 3:=IntWalk.i64_in _ (by omega)
 have n1 : ((k : Int) + 1).toNat = k + 1:=by omega
 have n2 : ((k : Int) + 2).toNat = k + 2:=by omega
 have n3 : ((k : Int) + 3).toNat = k + 3:=by omega
 have p1 : (0 : Int) ≤ (k : Int) + 1:=by omega
 have p2 : (0 : Int) ≤ (k : Int) + 2:=by omega
 have p3 : (0 : Int) ≤ (k : Int) + 3:=by omega
 rw [Nat.add_assoc] at x1 x2 x3
 go_enter Tryz.func102,Tryz.ntmps102
 go_wp2_with fail
 go_quiet (fail)
 go_wp2_with fail
 go_ret
 exact ⟨zea HO.out,(Chg.refl _ _).drewN _⟩
end
section
variable {w : World} {A : Option Addr} {n c : Nat} {l : List UInt8}
theorem zfd (h : Bs w A n c l) (k : Nat) (hk : k < 4294967296) (hn : n + 4 ≤ 140737488355328) : Calls Tryz.prog 72 #[.slice A n c,.int .u32 (k : Int)] w (yI_ w (l ++ be4 k)):=zef k hk h.len h.src hn
theorem zdC (h : Bs w A n c l) (k : Nat) (hk : k < 4294967296) (hn : n + 4 ≤ 140737488355328) : Calls Tryz.prog 101 #[.slice A n c,.int .u32 (k : Int)] w (yI_ w (l ++ be4 k)):=zcN k hk h.len h.src hn
theorem zfr (h : Bs w A n c l) (i : Int) (hi : i ≤ 9223372036854775807) : Calls Tryz.prog 103 #[.slice A n c,.int .i64 i] w fun e w' => e = .returned (.int .u32 (xJ_ l i : Nat)) ∧ w = w':=by
 unfold xJ_
 split
 · rename_i hc
   obtain ⟨k,rfl⟩:=Int.eq_ofNat_of_zero_le hc.1
   rw [Int.toNat_natCast]
   exact zeE h.len h.src h.le h.spot k (by have:=h.len; omega) h.cap h.max
 · rename_i hc
   exact zfq h.le i (by have:=h.len; omega) hi
theorem zdD (h : Bs w A n c l) (i : Int) (hi : i ≤ 9223372036854775807) : Calls Tryz.prog 102 #[.slice A n c,.int .i64 i] w fun e w' => e = .returned (.int .u32 (xJ_ l i : Nat)) ∧ Chg [] w w':=by
 unfold xJ_
 split
 · rename_i hc
   obtain ⟨k,rfl⟩:=Int.eq_ofNat_of_zero_le hc.1
   rw [Int.toNat_natCast]
   exact zcO h.len h.src h.le h.spot k (by have:=h.len; omega)
 · rename_i hc
   refine (zdZ h.le i (by have:=h.len; omega) hi).mono ?_
   rintro e w' ⟨rfl,rfl⟩
   exact ⟨rfl,Chg.refl _ _⟩
end
theorem qk_ (k : Nat) (hk : k < 4294967296) : jk_ (be4 k) = k:=by
 simp only [jk_,be4,List.foldl_cons,List.foldl_nil,UInt8.toNat_ofNat']
 omega
theorem q8_ (l m : List UInt8) (k : Nat) (hk : k < 4294967296) (i : Int) (hi : i = l.length) : xJ_ (l ++ (be4 k ++ m)) i = k:=by
 subst hi
 unfold xJ_
 rw [if_pos ⟨by omega,by simp only [List.length_append,ji_]; omega⟩,Int.toNat_natCast,List.drop_left,List.take_left' (ji_ k),qk_ k hk]
theorem zfl (W : World) {s : Nat} (h : W.heap.size = s) (C : Array Value) (n c : Nat) : (convert 33 33 (.slice (some ⟨s,0,none⟩) n c)).run Tryz.prog (W.alloc (.cells C 5)) = .ok (.slice (some ⟨s,0,none⟩) n c) (W.alloc (.cells C 5 (C.size,C.size + 1))):=by
 subst h
 exact Lib.run_convert_bytes_const (P:=Tryz.prog) W 33 5 C n c Tryz.underlying33 Tryz.underlying5
theorem gk_ (w : World) (t : TypeId) (l : List UInt8) (fz : Nat × Nat) (hm : l.length ≤ 9223372036854775807) : Bs (w.alloc (.cells (bts l).toArray t fz)) (some ⟨w.heap.size,0,none⟩) l.length l.length l:=by
 refine ⟨rfl,fun _ => ⟨_,rfl,by simp,fun j v hj => ?_⟩,Nat.le_refl _,hm,fun _ ad e => by injection e with e; subst e; rfl⟩
 rw [zl_,Nat.zero_add,cell_of_row _ _ _ _ _ _ (heap_alloc_new w _)]
 simpa using hj
section
variable {P : Program} {T : Turns} {w0 : World} {a0 : Act} {ops : List Oper} {Q : Exit → Act → World → Prop} {F : Said} {k : Nat} {rest : List Oper}
  {d : Option Tmp} {ty : TypeId} {pos : String} {af : Array Go.Edge} {g : Option (Nat × Bool)}
theorem jX_ {x : Operand} {t : TypeId} {s : ByteArray} (hT : T.Ok) (hx : Det a0 F x (.string s)) (ht : P.underlying t = some .string)
    (hg : zB_ ops F true ⟨d,.call { callee:=.builtin .len,args:=#[x],argTypes:=#[t] },ty,pos,af,g⟩) (h : Flow P T w0 a0 ops Q ((d,isV (.int .i64 (s.size : Int))) :: F) (k + 1) rest) :
    Flow P T w0 a0 ops Q F k (⟨d,.call { callee:=.builtin .len,args:=#[x],argTypes:=#[t] },ty,pos,af,g⟩ :: rest):=by
 refine flow1 (x:=x) (v:=.string s) (r:=.int .i64 (s.size : Int)) hT (by simp [Op.operands,Call.operands]) hx hg (fun ev W he e => ?_) h
 unfold execOp
 simp only [resolve,invoke,builtin,Sem.run_bind,Sem.run_pure,Result.andThen_ok,List.map_toArray,List.map_cons,List.map_nil,e]
 simp [Builtin.len_,underlying,ht,go_sem,goInt]
end
def qa_ (w : World) (vs : List Value) (ls : List (List UInt8)) : Prop :=
 vs.length = ls.length ∧ ∀ (i : Nat) (v : Value) (X : List UInt8),vs[i]? = some v → ls[i]? = some X → ∃ A n c,v = .slice A n c ∧ Bs w A n c X
theorem qa_.keep {w w' : World} {vs : List Value} {ls : List (List UInt8)} (h : qa_ w vs ls) (hc : Chg [] w w') : qa_ w' vs ls :=
 ⟨h.1,fun i v X hv hX => by obtain ⟨A,n,c,e,hB⟩:=h.2 i v X hv hX; exact ⟨A,n,c,e,hB.keep hc⟩⟩
end Go.Proofs.YtbkfhndmeljlcaaGreatDoor
