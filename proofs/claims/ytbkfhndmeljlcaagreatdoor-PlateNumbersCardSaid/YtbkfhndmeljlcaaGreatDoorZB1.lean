import Derived.WalkSpells
import Derived.WalkLawsBesides
import Derived.Laws.CopyOwn
import Derived.Lib.SlBytesRow
import Derived.Test.YtbkfhndmeljlcaaGreatDoorChecked
import Derived.BigQuiet
import Derived.Shelf.Utf8.AppendRune
import Derived.Shelf.Utf8.AppendRunePlain
import Derived.Shelf.Strconv.Itoa3
import Derived.Shelf.Strings.Search2
import Derived.Shelf.Strconv.AppendIntPublic10
import Derived.Lib.AppendZerosOnto
set_option maxRecDepth 100000
set_option maxHeartbeats 16000000
namespace Go.Proofs.YtbkfhndmeljlcaaGreatDoor
theorem hQ_ {p : Prop} (h : p) : Go.RowKit.Hid p:=h
open Go.RowKit
structure Chg (T : List Nat) (w w' : World) : Prop where
  os : w'.os = w.os
  tape : w'.tape = w.tape
  output : w'.output = w.output
  size : w.heap.size ≤ w'.heap.size
  block : ∀ k,k < w.heap.size → k ∉ T → w'.heap[k]? = w.heap[k]?
theorem Chg.refl (T : List Nat) (w : World) : Chg T w w:=⟨rfl,rfl,rfl,Nat.le_refl _,fun _ _ _ => rfl⟩
theorem Chg.then_ {T T' : List Nat} {a b c : World} (h : Chg T a b) (k : Chg T' b c) (hs : ∀ i,i ∈ T' → i < a.heap.size → i ∈ T) : Chg T a c :=
 ⟨k.os.trans h.os,k.tape.trans h.tape,k.output.trans h.output,Nat.le_trans h.size k.size,fun i hi hn =>
  (k.block i (Nat.lt_of_lt_of_le hi h.size) (fun hm => hn (hs i hm hi))).trans (h.block i hi hn)⟩
theorem Chg.trans {T : List Nat} {a b c : World} (h : Chg T a b) (k : Chg T b c) : Chg T a c:=h.then_ k fun _ h _ => h
theorem Chg.new {T : List Nat} {a b c : World} (h : Chg T a b) (k : Chg [] b c) : Chg T a c:=h.then_ k fun _ h _ => by cases h
theorem Chg.sub {T T' : List Nat} {a b : World} (h : Chg T a b) (hs : ∀ i,i ∈ T → i ∈ T') : Chg T' a b:=⟨h.os,h.tape,h.output,h.size,fun i hi hn => h.block i hi fun hm => hn (hs i hm)⟩
theorem Chg.alloc {T : List Nat} {a w : World} (h : Chg T a w) (o : Obj) : Chg T a (w.alloc o) :=
 h.new ⟨rfl,rfl,rfl,by simp,fun k hk _ => Below.heap_alloc w o k hk⟩
theorem Chg.drew {T : List Nat} {a w : World} (h : Chg T a w) : Chg T a w.drew:=⟨h.os,h.tape,h.output,h.size,h.block⟩
theorem Chg.drewN {T : List Nat} {a w : World} (h : Chg T a w) (n : Nat) : Chg T a (w.drewN n):=⟨h.os,h.tape,h.output,h.size,h.block⟩
theorem Chg.setCell {T : List Nat} {a w : World} (h : Chg T a w) {p : Addr} (hp : p.block < a.heap.size → p.block ∈ T) (u : Value) : Chg T a (w.setCell p u) :=
 h.then_ (T':=[p.block]) ⟨rfl,rfl,rfl,by simp [World.setCell],fun k _ hn => Below.heap_setCell w p u k (by simpa using hn)⟩ fun i hi hlt => by
  simp only [List.mem_cons,List.not_mem_nil,or_false] at hi
  subst hi
  exact hp hlt
theorem Chg.setRow {T : List Nat} {a w : World} (h : Chg T a w) {g : Nat} (hp : g < a.heap.size → g ∈ T) (cs : Array Value) : Chg T a (w.setRow g cs) :=
 h.then_ (T':=[g]) ⟨rfl,rfl,rfl,by simp,fun k _ hn => setRow_other w g k cs (by simpa using hn)⟩ fun i hi hlt => by
  simp only [List.mem_cons,List.not_mem_nil,or_false] at hi
  subst hi
  exact hp hlt
theorem Chg.of_below {a w : World} (h : Below a.heap.size a w) : Chg [] a w:=⟨h.os,h.tape,h.output,h.size,fun k hk _ => h.block k hk⟩
theorem Chg.of_grown {a w : World} {row : Option Nat} {T : List Nat} (h : a.grownBy w row) (hr : ∀ g,row = some g → g < a.heap.size → g ∈ T) : Chg T a w :=
 ⟨h.os,h.tape,h.output,h.size,fun k hk hn => h.block k hk fun e => hn (hr k e.symm hk)⟩
theorem Chg.below {T : List Nat} {a w : World} (h : Chg T a w) {B : Nat} (hB : B ≤ a.heap.size) (hT : ∀ i,i ∈ T → B ≤ i) : Below B a w :=
 ⟨h.os,h.tape,h.output,h.size,fun k hk => h.block k (by omega) fun hm => by have:=hT k hm; omega⟩
theorem Chg.below0 {a w : World} (h : Chg [] a w) : Below a.heap.size a w:=h.below (Nat.le_refl _) (by simp)
def zb_ (w : World) (g t : Nat) (cs : List Value) : Prop:=w.heap[g]? = some (.cells cs.toArray t (0,0))
section
variable {w w' : World} {g t : Nat} {cs : List Value}
theorem zb_.lt (h : zb_ w g t cs) : g < w.heap.size:=by
 rcases Nat.lt_or_ge g w.heap.size with hlt | hge
 · exact hlt
 · unfold zb_ at h; rw [Array.getElem?_eq_none hge] at h; cases h
theorem zb_.cell (h : zb_ w g t cs) (i : Nat) : w.cell? ⟨g,i,none⟩ = cs[i]?:=by
 have:=cell_of_row w g i cs.toArray t (0,0) h
 simpa using this
theorem zb_.frozen (h : zb_ w g t cs) (i : Nat) : w.frozen? ⟨g,i,none⟩ = false:=frozen_of_row w g i cs.toArray t h
theorem zb_.chg {T : List Nat} (h : zb_ w g t cs) (hc : Chg T w w') (hg : g ∉ T) : zb_ w' g t cs:=(hc.block g h.lt hg).trans h
theorem zb_.keep (h : zb_ w g t cs) (hc : Chg [] w w') : zb_ w' g t cs:=h.chg hc (by simp)
theorem zb_.drew (h : zb_ w g t cs) : zb_ w.drew g t cs:=h
theorem zb_.drewN (h : zb_ w g t cs) (n : Nat) : zb_ (w.drewN n) g t cs:=h
theorem zb_.set_ (h : zb_ w g t cs) (i : Nat) (u : Value) : zb_ (w.setCell ⟨g,i,none⟩ u) g t (cs.set i u):=by
 have:=heap_setCell_same w g i cs.toArray t u h
 unfold zb_
 rw [this]
 simp
theorem zb_.far (h : zb_ w g t cs) {p : Addr} (hp : g ≠ p.block) (u : Value) : zb_ (w.setCell p u) g t cs:=(Below.heap_setCell w p u g hp).trans h
theorem zb_.new (w : World) (t : Nat) (cs : List Value) : zb_ (w.alloc (.cells cs.toArray t)) w.heap.size t cs:=heap_alloc_new w _
theorem zb_.ne_ {g' t' : Nat} {cs' : List Value} (h : zb_ w g t cs) (h' : zb_ w g' t' cs') (hne : t ≠ t') : g ≠ g':=by
 rintro rfl
 unfold zb_ at h h'
 rw [h] at h'
 injection h' with h'
 injection h' with _ ht
 exact hne ht
end
theorem zl_ (g o j : Nat) : (⟨g,o,none⟩ : Addr).add j = ⟨g,o + j,none⟩:=by unfold Addr.add; split <;> simp_all
def Src (w : World) (A : Option Addr) (xs : List Value) : Prop:=0 < xs.length → ∃ ad,A = some ad ∧ ad.block < w.heap.size ∧ ∀ j v,xs[j]? = some v → w.cell? (ad.add j) = some v
theorem Src.nil (w : World) (A : Option Addr) : Src w A []:=fun h => absurd h (by simp)
theorem Src.drew {w : World} {A : Option Addr} {xs : List Value} (h : Src w A xs) : Src w.drew A xs:=h
theorem Src.drewN {w : World} {A : Option Addr} {xs : List Value} (h : Src w A xs) (n : Nat) : Src (w.drewN n) A xs:=h
theorem Src.of_whole {w : World} {g t : Nat} {cs : List Value} (h : zb_ w g t cs) (o n : Nat) : Src w (some ⟨g,o,none⟩) ((cs.drop o).take n):=fun _ =>
 ⟨_,rfl,h.lt,fun j v hj => by
  rw [zl_,h.cell]
  rw [List.getElem?_take] at hj
  split at hj
  · rwa [List.getElem?_drop] at hj
  · cases hj⟩
theorem Src.of_all {w : World} {g t : Nat} {cs : List Value} (h : zb_ w g t cs) : Src w (some ⟨g,0,none⟩) cs:=by
 have:=Src.of_whole h 0 cs.length
 simpa using this
theorem Src.keep {w w' : World} {A : Option Addr} {xs : List Value} (h : Src w A xs) (hc : Chg [] w w') : Src w' A xs:=fun hp => by
 obtain ⟨ad,e,hb,hx⟩:=h hp
 refine ⟨ad,e,Nat.lt_of_lt_of_le hb hc.size,fun j v hj => ?_⟩
 have:=hx j v hj
 rw [← this]
 refine World.cell?_of_block (w:=w) (hc.block _ ?_ (by simp))
 have e2 : (ad.add j).block = ad.block:=by unfold Addr.add; split <;> rfl
 rw [e2]; exact hb
def B8 (c : UInt8) : Value:=.int .u8 (c.toNat : Int)
def bts (l : List UInt8) : List Value:=l.map B8
def bls (l : List Bool) : List Value:=l.map Value.bool
def nms (l : List Int) : List Value:=l.map (Value.int .i64)
theorem x4_ (l : List UInt8) : ∀ v ∈ bts l,v.oneCell' = true:=by
 intro v hv
 simp only [bts,List.mem_map] at hv
 obtain ⟨c,_,rfl⟩:=hv
 rfl
theorem zx_ (l : List UInt8) : (bts l).length = l.length:=by simp [bts]
theorem vx_ (l : List UInt8) (i : Nat) (h : i < l.length) : (bts l)[i]? = some (B8 l[i]):=by simp [bts,h]
theorem zeN (l : List UInt8) (i : Nat) (c : UInt8) : (bts l).set i (B8 c) = bts (l.set i c):=by simp [bts]
def zt_ (n : Nat) : List UInt8:=List.replicate n 0
def yg_ (n : Nat) : List Bool:=List.replicate n false
theorem zI_ (n : Nat) : (zt_ n).length = n:=by simp [zt_]
theorem vh_ (n : Nat) : (yg_ n).length = n:=by simp [yg_]
theorem xf_ (n : Nat) : bts (zt_ n) = List.replicate n (.int .u8 0):=by simp [bts,zt_,B8]
theorem zam (n : Nat) : bls (yg_ n) = List.replicate n (.bool false):=by simp [bls,yg_]
theorem qZ_ (z : Value) (n : Nat) : madeCells #[z] n = (List.replicate n z).toArray:=by
 apply Array.ext
 · simp [madeCells]
 · intro i h1 h2
   simp [madeCells,Nat.mod_one]
theorem gP_ {α : Type} (L cs : List α) (h : cs.length = L.length) : splice L 0 cs = cs:=by
 simp [splice,h]
theorem uW_ {P : Program} (t e : TypeId) (i : TypeInfo) (z : Value) (hz1 : z.cells = #[z]) (ht : P.underlying t = some (.slice e)) (hi : P.info? e = some i) (hz : i.zero = some z) (hs : i.size = 1)
    (n : Nat) (hb : i.bytes * n ≤ 281474976710656) (h63 : n ≤ 9223372036854775807) (w : World) :
    (Instr.makeSlice t (.int .i64 (n : Int)) (.int .i64 (n : Int))).run P w = .ok (.slice (some ⟨w.heap.size,0,none⟩) n n) (w.alloc (.cells (List.replicate n z).toArray e)):=by
      have hb' : (i.bytes : Int) * (n : Int) ≤ 281474976710656:=by
       have h : ((i.bytes * n : Nat) : Int) ≤ 281474976710656:=by omega
       rwa [Int.natCast_mul] at h
      have h:=run_make (P:=P) w t e i z ht hi hz .i64 .i64 (n : Int) (n : Int) (by omega) (Int.le_refl _) hb' (by omega)
      rw [h,hs,hz1,qZ_]
      simp
theorem jt_ {P : Program} {w : World} {g off t : Nat} {cur cs : List Value} (dT sT ty elem : TypeId) (hu : P.underlying dT = some (.slice elem)) (hsz : (P.info? elem).map (·.size) = some 1)
    (dp sp : Option Addr) (dLen dCap sLen sCap : Nat) (hg : zb_ w g t cur) (hn : cs.length = Nat.min sLen dLen) (hd : 0 < cs.length → dp = some ⟨g,off,none⟩) (hs : Src w sp cs)
    (hfit : off + cs.length ≤ cur.length) (h1 : ∀ v ∈ cs,v.oneCell' = true) :
    ∃ w',(Builtin.copy_ #[dT,sT] ty #[.slice dp dLen dCap,.slice sp sLen sCap]).run P w = .ok (goInt cs.length) w' ∧ zb_ w' g t (splice cur off cs) ∧ Chg [g] w w':=by
 rcases Nat.eq_zero_or_pos cs.length with h0 | h0
 · obtain rfl : cs = []:=List.eq_nil_of_length_eq_zero h0
   refine ⟨w,run_copy_none (P:=P) w dT sT ty elem dp sp dLen dCap sLen sCap hu hsz (by simpa using hn.symm),?_,Chg.refl _ _⟩
   simpa [splice] using hg
 · obtain ⟨ad,rfl,_,hx⟩:=hs h0
   obtain rfl:=hd h0
   refine ⟨_,run_copy_row (P:=P) w dT sT ty elem g off dLen dCap ad sLen sCap cur.toArray t cs hu hsz hg hn hx (by simpa using hfit) h1,?_,(Chg.refl [g] w).setRow (by simp) _⟩
   have:=setRow_heap w g _ (splice cur off cs).toArray t _ hg
   simpa [zb_,splice,List.append_assoc] using this
theorem uH_ {P : Program} {w : World} {ops : Array Oper} {rest : List Oper} {o : Oper} {a : Act} {Q : Exit → Act → World → Prop} (hgd : o.guard = none) (d s : Operand) (dT sT : TypeId)
    (ho : o.op = .call { callee:=.builtin .copy,args:=#[d,s],argTypes:=#[dT,sT] }) (elem : TypeId) (hu : P.underlying dT = some (.slice elem)) (hsz : (P.info? elem).map (·.size) = some 1)
    (dp sp : Option Addr) (dLen dCap sLen sCap : Nat) (hde : a.eval d = .slice dp dLen dCap) (hse : a.eval s = .slice sp sLen sCap)
    (g off t : Nat) (cur cs : List Value) (hg : zb_ w g t cur) (hn : cs.length = Nat.min sLen dLen) (hd : 0 < cs.length → dp = some ⟨g,off,none⟩) (hs : Src w sp cs)
    (hfit : off + cs.length ≤ cur.length) (h1 : ∀ v ∈ cs,v.oneCell' = true)
    (h : ∀ w',zb_ w' g t (splice cur off cs) → Chg [g] w w' → wpList P ops Q rest (a.put o.dst (goInt cs.length)) w') : wpList P ops Q (o :: rest) a w:=by
      refine wpList_plain hgd fun K hK => ?_
      obtain ⟨w',hrun,h2,h3⟩:=jt_ (P:=P) dT sT o.type elem hu hsz dp sp dLen dCap sLen sCap hg hn hd hs hfit h1
      unfold Oper.wp
      simp [execOp,ho,resolve,invoke,builtin,hde,hse,hrun,Result.andThen]
      exact hK _ _ (h w' h2 h3)
def zc_ (l : List UInt8) : ByteArray:=⟨l.toArray⟩
theorem zdW {P : Program} (src e dst : TypeId) (hs : P.underlying src = some (.slice e)) (he : P.underlying e = some (.int .u8)) (hd : P.underlying dst = some .string)
    (A : Option Addr) (l : List UInt8) (cap : Nat) (w : World) (h : Src w A (bts l)) (hp : ∀ ad,A = some ad → ad.spot = none) :
    (convert src dst (.slice A l.length cap)).run P w = .ok (.string (zc_ l)) w:=by
      rcases Nat.eq_zero_or_pos l.length with h0 | h0
      · obtain rfl : l = []:=List.eq_nil_of_length_eq_zero h0
        rcases A with _ | ad
        · exact run_convert_bytes_nil (P:=P) w src e hs he 0 cap dst hd
        · obtain ⟨b,o,s⟩:=ad
          obtain rfl : s = none:=hp _ rfl
          exact Lib.run_convert_whole (P:=P) w src e dst hs he hd b o (zc_ []) (fun i hi => absurd hi (by simp [zc_,ByteArray.size])) cap
      · obtain ⟨ad,rfl,_,hx⟩:=h (by simpa [bts] using h0)
        obtain ⟨b,o,s⟩:=ad
        obtain rfl : s = none:=hp _ rfl
        have:=Lib.run_convert_whole (P:=P) w src e dst hs he hd b o (zc_ l) (fun i hi => by
         have hi' : i < l.length:=by simpa [zc_,ByteArray.size] using hi
         have h1:=hx i _ (vx_ l i hi')
         rw [zl_] at h1
         rw [h1]
         rfl) cap
        simpa [zc_,ByteArray.size] using this
end Go.Proofs.YtbkfhndmeljlcaaGreatDoor
namespace Go.Proofs.YtbkfhndmeljlcaaGreatDoor
open Go.RowKit
section
variable {w w' : World} {B n : Nat} {e : TypeId} {v : Value} {xs : List Value}
theorem zn_ (h : w.ownsRow B e 1 v n xs) (hc : Chg [] w w') : w'.ownsRow B e 1 v n xs:=by
 refine ⟨h.1,h.2.imp id ?_⟩
 rintro ⟨g,cap,cur,rfl,hb,hg,r⟩
 refine ⟨g,cap,cur,rfl,hb,?_,r⟩
 rw [hc.block g ?_ (by simp)]
 · exact hg
 · rcases Nat.lt_or_ge g w.heap.size with hlt | hge
   · exact hlt
   · rw [Array.getElem?_eq_none hge] at hg; cases hg
theorem vH_ {B' : Nat} (h : w.ownsRow B e 1 v n xs) (hB : B' ≤ B) : w.ownsRow B' e 1 v n xs:=by
 refine ⟨h.1,h.2.imp id ?_⟩
 rintro ⟨g,cap,cur,rfl,hb,r⟩
 exact ⟨g,cap,cur,rfl,Nat.le_trans hB hb,r⟩
theorem zp_ (h : w.ownsRow B e 1 v n xs) : ∃ A c,v = .slice A n c ∧ xs.length = n ∧ n ≤ c ∧ Src w A xs ∧ (∀ ad,A = some ad → ad.spot = none ∧ B ≤ ad.block ∧ ad.off = 0 ∧ ad.block < w.heap.size):=by
 have hl : xs.length = n:=by simpa using h.1
 rcases h.2 with ⟨rfl,rfl⟩ | ⟨g,cap,cur,rfl,hb,hg,hn,hc,hs,ht⟩
 · exact ⟨none,0,rfl,hl,Nat.le_refl _,fun hp => absurd hp (by omega),fun ad h => by cases h⟩
 · have hgl : g < w.heap.size:=by
    rcases Nat.lt_or_ge g w.heap.size with hlt | hge
    · exact hlt
    · rw [Array.getElem?_eq_none hge] at hg; cases hg
   refine ⟨some ⟨g,0,none⟩,cap,rfl,hl,hn,fun _ => ⟨_,rfl,hgl,fun j u hj => ?_⟩,fun ad h => by injection h with h; subst h; exact ⟨rfl,hb,rfl,hgl⟩⟩
   rw [zl_,Nat.zero_add,cell_of_row w g j cur e (0,0) hg]
   have hjl : j < n:=by rw [← hl]; exact (List.getElem?_eq_some_iff.1 hj).1
   rw [← ht,List.getElem?_take_of_lt (by omega)] at hj
   simpa using hj
theorem yS_ {g c : Nat} {cs : List Value} (h : zb_ w g e cs) (hB : B ≤ g) (hc : cs.length = c) (hn : n ≤ c) (hm : c ≤ maxLen) : w.ownsRow B e 1 (.slice (some ⟨g,0,none⟩) n c) n (cs.take n):=by
 refine ⟨by rw [List.length_take]; omega,.inr ⟨g,c,cs.toArray,rfl,hB,h,hn,hm,by simpa using hc,by simp⟩⟩
theorem zbl (w : World) (B : Nat) (e : TypeId) : w.ownsRow B e 1 (.slice none 0 0) 0 []:=⟨rfl,.inl ⟨rfl,rfl⟩⟩
theorem Chg.own {T : List Nat} {a : World} (h : Chg T a w) (ho : w.ownsRow B e 1 v n xs) (hB : a.heap.size ≤ B) (hg : w.grownBy w' v.ownBlock) : Chg T a w':=by
 refine h.then_ (T':=match v.ownBlock with | some g => [g] | none => []) ?_ ?_
 · refine Chg.of_grown hg fun g hr _ => ?_
   rw [hr]; simp
 · intro i hi hlt
   exfalso
   rcases ho.2 with ⟨rfl,_⟩ | ⟨g,cap,cur,rfl,hb,_⟩
   · simp [Value.ownBlock] at hi
   · simp [Value.ownBlock] at hi; omega
end
section
variable {P : Program} (w : World)
theorem vm_ (base : Nat) (t ty e : TypeId) (i : TypeInfo) (z : Value) (bytes : Nat) (ht : P.underlying t = some (.slice e)) (hi : P.info? e = some i) (hz : i.zero = some z)
    (hsize : i.size = 1) (hby : i.bytes = bytes) (hzs : z.cells.size = 1)
    (v : Value) (n : Nat) (xs : List Value) (hown : w.ownsRow base e 1 v n xs)
    (A : Option Addr) (m c : Nat) (news : List Value) (hl : news.length = m) (hs : Src w A news) (h1 : ∀ u ∈ news,u.oneCell' = true)
    (h63 : n + m ≤ maxLen) (hbytes : (n + m) * bytes ≤ 140737488355328) (hbase : base ≤ w.heap.size) :
    ∃ v' w',(Builtin.append_ #[t,t] ty #[v,.slice A m c]).run P w = .ok v' w' ∧ w'.ownsRow base e 1 v' (n + m) (xs ++ news) ∧ w.grownBy w' v.ownBlock ∧
      (v'.ownBlock = v.ownBlock ∨ v'.ownBlock = some w.heap.size):=by
        have hnil : m = 0 → news = []:=fun h => List.eq_nil_of_length_eq_zero (by omega)
        rcases A with _ | ad
        · have hm : m = 0:=by
           rcases Nat.eq_zero_or_pos m with h0 | h0
           · exact h0
           · obtain ⟨ad,h,_⟩:=hs (by omega)
             cases h
          subst hm
          obtain rfl:=hnil rfl
          refine ⟨v,w,?_,by simpa using hown,World.grownBy.refl w _,.inl rfl⟩
          rcases hown.2 with ⟨rfl,rfl⟩ | ⟨g,cap,cur,rfl,_,_,hnc,_⟩
          · simp [Builtin.append_,run_underlying ht,sizeOf,typeInfo,hi,Builtin.lenOf,Builtin.firstCells]
          · simp [Builtin.append_,run_underlying ht,sizeOf,typeInfo,hi,Builtin.lenOf,Builtin.firstCells,hnc,storeCells]
        · have hcells : ∀ j u,news[j]? = some u → w.cell? (ad.add j) = some u:=by
           intro j u hu
           obtain ⟨ad',h,_,hc⟩:=hs (by have:=(List.getElem?_eq_some_iff.1 hu).1; omega)
           injection h with h
           subst h
           exact hc j u hu
          obtain ⟨v',w',hrun,h2,h3,_,h5⟩:=run_append_own_at (P:=P) w base t ty e i z 1 bytes ht hi hz hsize hby hzs (by omega) v n xs hown ad m c news (by omega) hcells h1 h63 hbytes hbase
          exact ⟨v',w',hrun,h2,h3,h5⟩
theorem zT_ {w : World} {ops : Array Oper} {rest : List Oper} {o : Oper} {a : Act} {Q : Exit → Act → World → Prop} (hgd : o.guard = none) (s x : Operand) (t : TypeId)
    (ho : o.op = .call { callee:=.builtin .append,args:=#[s,x],argTypes:=#[t,t] })
    (base : Nat) (e : TypeId) (i : TypeInfo) (z : Value) (bytes : Nat) (ht : P.underlying t = some (.slice e)) (hi : P.info? e = some i) (hz : i.zero = some z)
    (hsize : i.size = 1) (hby : i.bytes = bytes) (hzs : z.cells.size = 1)
    (v : Value) (n : Nat) (xs : List Value) (hse : a.eval s = v) (hown : w.ownsRow base e 1 v n xs)
    (A : Option Addr) (m c : Nat) (news : List Value) (hxe : a.eval x = .slice A m c) (hl : news.length = m) (hs : Src w A news) (h1 : ∀ u ∈ news,u.oneCell' = true)
    (h63 : n + m ≤ maxLen) (hbytes : (n + m) * bytes ≤ 140737488355328) (hbase : base ≤ w.heap.size)
    (h : ∀ v' w',w'.ownsRow base e 1 v' (n + m) (xs ++ news) → w.grownBy w' v.ownBlock → (v'.ownBlock = v.ownBlock ∨ v'.ownBlock = some w.heap.size) → wpList P ops Q rest (a.put o.dst v') w') : wpList P ops Q (o :: rest) a w:=by
      refine wpList_plain hgd fun K hK => ?_
      obtain ⟨v',w',hrun,h2,h3,h4⟩:=vm_ (P:=P) w base t o.type e i z bytes ht hi hz hsize hby hzs v n xs hown A m c news hl hs h1 h63 hbytes hbase
      unfold Oper.wp execOp
      simp only [ho,resolve,invoke,builtin,Sem.run_bind,Sem.run_pure,Result.andThen_ok,List.map_toArray,List.map_cons,List.map_nil,hse,hxe,hrun]
      exact hK _ _ (h v' w' h2 h3 h4)
end
theorem js_ {P : Program} (t e : TypeId) (i : TypeInfo) (z : Value) (hz1 : z.cells = #[z]) (ht : P.underlying t = some (.slice e)) (hi : P.info? e = some i) (hz : i.zero = some z) (hs : i.size = 1)
    (n : Nat) (hb : i.bytes * n ≤ 281474976710656) (h63 : n ≤ 9223372036854775807) (w : World) :
    (Instr.makeSlice t (.int .i64 0) (.int .i64 (n : Int))).run P w = .ok (.slice (some ⟨w.heap.size,0,none⟩) 0 n) (w.alloc (.cells (List.replicate n z).toArray e)):=by
      have hb' : (i.bytes : Int) * (n : Int) ≤ 281474976710656:=by
       have h : ((i.bytes * n : Nat) : Int) ≤ 281474976710656:=by omega
       rwa [Int.natCast_mul] at h
      have h:=run_make (P:=P) w t e i z ht hi hz .i64 .i64 0 (n : Int) (by omega) (by omega) hb' (by omega)
      rw [h,hs,hz1,qZ_]
      simp
end Go.Proofs.YtbkfhndmeljlcaaGreatDoor
namespace Go.Proofs.YtbkfhndmeljlcaaGreatDoor
open Go.RowKit
theorem v4_ : (Tryz.prog.info? 5).map (fun i => (i.zero,i.size,i.bytes)) = some (some (.int .u8 0),1,1):=by kernel_rfl
theorem zbL : (Tryz.prog.info? 4).map (fun i => (i.zero,i.size,i.bytes)) = some (some (.bool false),1,1):=by kernel_rfl
theorem ve_ : (Tryz.prog.info? 3).map (fun i => (i.zero,i.size,i.bytes)) = some (some (.int .i64 0),1,8):=by kernel_rfl
theorem zaK : (Tryz.prog.info? 5).map (·.size) = some 1:=by kernel_rfl
theorem zbz (n : Nat) (h : n ≤ 1000000) (w : World) :
    (Instr.makeSlice 33 (.int .i64 (n : Int)) (.int .i64 (n : Int))).run Tryz.prog w = .ok (.slice (some ⟨w.heap.size,0,none⟩) n n) (w.alloc (.cells (bts (zt_ n)).toArray 5)):=by
      rw [xf_]
      obtain ⟨i,hi,hz,hs,hb⟩:=info_parts v4_
      exact uW_ _ _ i _ rfl Tryz.underlying33 hi hz hs n (by rw [hb]; omega) (by omega) w
theorem jM_ (n : Nat) (h : n ≤ 1000000) (w : World) :
    (Instr.makeSlice 78 (.int .i64 (n : Int)) (.int .i64 (n : Int))).run Tryz.prog w = .ok (.slice (some ⟨w.heap.size,0,none⟩) n n) (w.alloc (.cells (bls (yg_ n)).toArray 4)):=by
      rw [zam]
      obtain ⟨i,hi,hz,hs,hb⟩:=info_parts zbL
      exact uW_ _ _ i _ rfl Tryz.underlying78 hi hz hs n (by rw [hb]; omega) (by omega) w
end Go.Proofs.YtbkfhndmeljlcaaGreatDoor
namespace Go.Proofs.YtbkfhndmeljlcaaGreatDoor
structure NPart where
  loop : Bool
  at_ : Nat
  waits : Nat
  left : List Nat
structure NSt where
  tO : List Int
  deep : Nat
  op : List NPart
def yw_ (i : Nat) : List NPart → Option (List NPart)
  | [] => none
  | p :: r => if p.loop = true then some (⟨p.loop,p.at_,p.waits,p.left ++ [i]⟩ :: r) else (yw_ i r).map (p :: ·)
def yQ_ (v : Int) : List Nat → List Int → List Int
  | [],t => t
  | j :: r,t => yQ_ v r (t.set j v)
def yJ_ (i : Nat) (s : Int) (m : NSt) : Option NSt :=
 if s = 63 ∨ s = 91 then
   if m.op.length + 1 ≤ 16 then some ⟨m.tO,max m.deep (m.op.length + 1),⟨decide (s = 91),i,i,[]⟩ :: m.op⟩ else none
 else if s = 58 then match m.op with
   | p :: r => if p.loop = false ∧ p.waits = p.at_ then some ⟨m.tO.set p.at_ ((i : Int) + 1),m.deep,⟨p.loop,p.at_,i,p.left⟩ :: r⟩ else none
   | [] => none
 else if s = 59 then match m.op with
   | p :: r => if p.loop = false then some ⟨m.tO.set p.waits (i : Int),m.deep,r⟩ else none
   | [] => none
 else if s = 93 then match m.op with
   | p :: r => if p.loop = true then some ⟨yQ_ ((i : Int) + 1) p.left (m.tO.set i (p.at_ : Int)),m.deep,r⟩ else none
   | [] => none
 else if s = 126 then (yw_ i m.op).map fun o => ⟨m.tO,m.deep,o⟩
 else some m
def k2_ : Nat → List Int → NSt → Option NSt
  | _,[],m => some m
  | i,s :: r,m => (yJ_ i s ⟨m.tO.set i (-1),m.deep,m.op⟩).bind (k2_ (i + 1) r)
structure RSt where
  tO : List Int
  deep : Nat
  op : List Nat
def yN_ (ss : List Int) (i : Nat) (s : Int) (m : RSt) : Option RSt :=
 if s = 63 ∨ s = 91 then
   if m.op.length + 1 ≤ 16 then some ⟨m.tO,max m.deep (m.op.length + 1),i :: m.op⟩ else none
 else if s = 58 then match m.op with
   | p :: r => if ss[p]? = some 63 then some ⟨m.tO.set p ((i : Int) + 1),m.deep,i :: r⟩ else none
   | [] => none
 else if s = 59 then match m.op with
   | p :: r => if ss[p]? = some 91 then none else some ⟨m.tO.set p (i : Int),m.deep,r⟩
   | [] => none
 else if s = 93 then match m.op with
   | p :: r => if ss[p]? = some 91 then some ⟨m.tO.set i (p : Int),m.deep,r⟩ else none
   | [] => none
 else some m
def uy_ (ss : List Int) : Nat → List Int → RSt → Option RSt
  | _,[],m => some m
  | i,s :: r,m => (yN_ ss i s ⟨m.tO.set i (-1),m.deep,m.op⟩).bind (uy_ ss (i + 1) r)
structure Part (ss : List Int) (n : Nat) (p : NPart) : Prop where
  lt : p.at_ < n
  ltw : p.waits < n
  le : p.at_ ≤ p.waits
  loop : p.loop = true → p.waits = p.at_ ∧ ss[p.at_]? = some 91
  if_ : p.loop = false → ss[p.at_]? = some 63 ∧ (p.waits = p.at_ ∨ ss[p.waits]? = some 58)
theorem Part.more {ss : List Int} {n k : Nat} {p : NPart} (h : Part ss n p) (hk : n ≤ k) : Part ss k p:=⟨by have:=h.lt; omega,by have:=h.ltw; omega,h.le,h.loop,h.if_⟩
theorem Part.is_loop {ss : List Int} {n : Nat} {p : NPart} (h : Part ss n p) : ss[p.waits]? = some 91 ↔ p.loop = true:=by
 constructor
 · intro h1
   cases hl : p.loop with
   | true => rfl
   | false =>
     obtain ⟨a,b | b⟩:=h.if_ hl
     · rw [b,a] at h1; cases h1
     · rw [b] at h1; cases h1
 · intro hl
   obtain ⟨a,b⟩:=h.loop hl
   rw [a,b]
theorem Part.is_if {ss : List Int} {n : Nat} {p : NPart} (h : Part ss n p) : ss[p.waits]? = some 63 ↔ (p.loop = false ∧ p.waits = p.at_):=by
 constructor
 · intro h1
   cases hl : p.loop with
   | true =>
     obtain ⟨a,b⟩:=h.loop hl
     rw [a,b] at h1; cases h1
   | false =>
     obtain ⟨a,b | b⟩:=h.if_ hl
     · exact ⟨rfl,b⟩
     · rw [b] at h1; cases h1
 · rintro ⟨hl,e⟩
   rw [e]; exact (h.if_ hl).1
theorem qo_ {i : Nat} : ∀ {l : List NPart},(∃ p ∈ l,p.loop = true) → ∃ o,yw_ i l = some o:=by
 intro l
 induction l with
 | nil => rintro ⟨p,h,_⟩; cases h
 | cons p r ih =>
   rintro ⟨q,hq,hl⟩
   unfold yw_
   by_cases h : p.loop = true
   · exact ⟨_,if_pos h⟩
   · rw [if_neg h]
     have : ∃ q ∈ r,q.loop = true:=by
      rcases List.mem_cons.1 hq with rfl | hq
      · exact absurd hl h
      · exact ⟨q,hq,hl⟩
     obtain ⟨o,ho⟩:=ih this
     exact ⟨p :: o,by rw [ho]; rfl⟩
theorem ui_ {i : Nat} : ∀ {l o : List NPart},yw_ i l = some o → ∃ a p r,l = a ++ p :: r ∧ (∀ q ∈ a,q.loop = false) ∧ p.loop = true ∧ o = a ++ ⟨p.loop,p.at_,p.waits,p.left ++ [i]⟩ :: r:=by
 intro l
 induction l with
 | nil => intro o h; cases h
 | cons p r ih =>
   intro o h
   unfold yw_ at h
   by_cases hp : p.loop = true
   · rw [if_pos hp] at h
     injection h with h
     exact ⟨[],p,r,rfl,(fun q hq => by cases hq),hp,h.symm⟩
   · rw [if_neg hp] at h
     cases hr : yw_ i r with
     | none => rw [hr] at h; cases h
     | some o' =>
       rw [hr] at h
       injection h with h
       obtain ⟨a,q,r',e1,e2,e3,e4⟩:=ih hr
       exact ⟨p :: a,q,r',by rw [e1]; rfl,fun x hx => by rcases List.mem_cons.1 hx with rfl | hx; exact (Bool.not_eq_true _).mp hp; exact e2 x hx,e3,by rw [← h,e4]; rfl⟩
theorem qp_ {i : Nat} : ∀ {l : List NPart},yw_ i l = none → ∀ p ∈ l,p.loop = false:=by
 intro l h p hp
 cases hl : p.loop with
 | false => rfl
 | true =>
   obtain ⟨o,ho⟩:=qo_ (i:=i) ⟨p,hp,hl⟩
   rw [h] at ho; cases ho
def xH_ (ss : List Int) (t : List Int) (j a b : Nat) : Prop:=∀ k,j ≤ k → a ≤ k → k < b → ss[k]? = some 93 → ∃ v,t[k]? = some v ∧ (j : Int) ≤ v
structure Sim (ss : List Int) (n : Nat) (m : NSt) (r : RSt) : Prop where
  deep : m.deep = r.deep
  op : m.op.map (·.waits) = r.op
  lenM : m.tO.length = ss.length
  lenR : r.tO.length = ss.length
  parts : ∀ p ∈ m.op,Part ss n p
  desc : m.op.Pairwise fun p q => q.waits < p.at_
  same : ∀ j : Nat,ss[j]? ≠ some 126 → m.tO[j]? = r.tO[j]?
  pend : ∀ p ∈ m.op,∀ j ∈ p.left,p.loop = true ∧ ss[j]? = some 126 ∧ p.waits < j ∧ j < n ∧ xH_ ss r.tO j 0 n ∧ ∀ q ∈ m.op,q.loop = true → p.at_ < q.at_ → j < q.at_
  done : ∀ j : Nat,j < n → ss[j]? = some 126 → (∃ p ∈ m.op,j ∈ p.left) ∨ ∃ k : Nat,j < k ∧ k < n ∧ m.tO[j]? = some ((k : Int) + 1) ∧ ss[k]? = some 93 ∧ (∃ v,r.tO[k]? = some v ∧ v < (j : Int)) ∧ xH_ ss r.tO j 0 k
theorem xH_.keep {ss t u : List Int} {j a b : Nat} (h : xH_ ss t j a b) (hu : ∀ k : Nat,k < b → ss[k]? = some 93 → u[k]? = t[k]?) : xH_ ss u j a b:=fun k h1 h2 h3 h4 => by rw [hu k h3 h4]; exact h k h1 h2 h3 h4
theorem xH_.next {ss t : List Int} {j b : Nat} (h : xH_ ss t j 0 b) (hb : ss[b]? = some 93 → ∃ v,t[b]? = some v ∧ (j : Int) ≤ v) : xH_ ss t j 0 (b + 1):=fun k h1 h2 h3 h4 => by
 rcases Nat.lt_or_ge k b with hk | hk
 · exact h k h1 h2 hk h4
 · obtain rfl : k = b:=by omega
   exact hb h4
theorem Sim.plain {ss : List Int} {n : Nat} {m : NSt} {r : RSt} (h : Sim ss n m r) {tm tr : List Int} {dm : Nat} {om : List NPart} (hn : ss[n]? ≠ some 93) (hn2 : ss[n]? ≠ some 126) (lm : tm.length = ss.length) (lr : tr.length = ss.length)
    (hsame : ∀ j : Nat,ss[j]? ≠ some 126 → tm[j]? = tr[j]?) (h9 : ∀ k : Nat,k < n → ss[k]? = some 93 → tr[k]? = r.tO[k]?) (h6 : ∀ j : Nat,j < n → ss[j]? = some 126 → tm[j]? = m.tO[j]?)
    (hparts : ∀ p ∈ om,Part ss (n + 1) p) (hdesc : om.Pairwise fun p q => q.waits < p.at_)
    (hleft : ∀ p ∈ om,p.left = [] ∨ ∃ p0 ∈ m.op,p0.left = p.left ∧ p0.loop = p.loop ∧ p0.at_ = p.at_ ∧ p0.waits = p.waits)
    (hleft2 : ∀ p ∈ m.op,p.left ≠ [] → ∃ p0 ∈ om,p0.left = p.left)
    (hloop : ∀ q ∈ om,q.loop = true → q.at_ = n ∨ ∃ q0 ∈ m.op,q0.loop = true ∧ q0.at_ = q.at_) :
    Sim ss (n + 1) ⟨tm,dm,om⟩ ⟨tr,dm,om.map (·.waits)⟩ where
  deep:=rfl
  op:=rfl
  lenM:=lm
  lenR:=lr
  parts:=hparts
  desc:=hdesc
  same:=hsame
  pend:=fun p hp j hj => by
   rcases hleft p hp with e | ⟨p0,hp0,e1,e2,e3,e4⟩
   · rw [e] at hj; cases hj
   · rw [← e1] at hj
     obtain ⟨a1,a2,a3,a4,a5,a6⟩:=h.pend p0 hp0 j hj
     refine ⟨by rw [← e2]; exact a1,a2,by omega,by omega,(a5.keep h9).next (fun h9' => absurd h9' hn),fun q hq hl hlt => ?_⟩
     rcases hloop q hq hl with e | ⟨q0,hq0,l0,e0⟩
     · omega
     · rw [← e0] at hlt ⊢
       exact a6 q0 hq0 l0 (by omega)
  done:=fun j hj hs => by
   have hjn : j < n:=by
    rcases Nat.lt_or_ge j n with hk | hk
    · exact hk
    · obtain rfl : j = n:=by omega
      exact absurd hs hn2
   rcases h.done j hjn hs with ⟨p,hp,hj2⟩ | ⟨k,b1,b2,b3,b4,⟨v,b5,b6⟩,b7⟩
   · obtain ⟨p0,hp0,e⟩:=hleft2 p hp (fun e => by rw [e] at hj2; cases hj2)
     exact .inl ⟨p0,hp0,by rw [e]; exact hj2⟩
   · exact .inr ⟨k,b1,by omega,by rw [h6 j hjn hs]; exact b3,b4,⟨v,by rw [h9 k b2 b4]; exact b5,b6⟩,b7.keep (fun k' hk' h9' => h9 k' (by omega) h9')⟩
theorem kv_ (v : Int) : ∀ (l : List Nat) (t : List Int),(yQ_ v l t).length = t.length
  | [],_ => rfl
  | j :: r,t => by show (yQ_ v r (t.set j v)).length = _; rw [kv_ v r,List.length_set]
theorem x7_ (v : Int) (j : Nat) : ∀ (l : List Nat) (t : List Int),j ∉ l → (yQ_ v l t)[j]? = t[j]?
  | [],_,_ => rfl
  | i :: r,t,h => by
    show (yQ_ v r (t.set i v))[j]? = _
    rw [x7_ v j r _ (fun e => h (List.mem_cons_of_mem _ e)),List.getElem?_set_ne (fun e => h (by rw [e]; exact List.mem_cons_self ..))]
theorem ku_ (v : Int) (j : Nat) : ∀ (l : List Nat) (t : List Int),j ∈ l → j < t.length → (yQ_ v l t)[j]? = some v
  | i :: r,t,h,ht => by
    show (yQ_ v r (t.set i v))[j]? = _
    by_cases hr : j ∈ r
    · exact ku_ v j r _ hr (by rw [List.length_set]; exact ht)
    · rw [x7_ v j r _ hr]
      rcases List.mem_cons.1 h with e | e
      · rw [e,List.getElem?_set_self (by rw [← e]; exact ht)]
      · exact absurd e hr
theorem uw_ {ss a b : List Int} (h : ∀ j : Nat,ss[j]? ≠ some 126 → a[j]? = b[j]?) (hl : a.length = b.length) (i : Nat) (v : Int) : ∀ j : Nat,ss[j]? ≠ some 126 → (a.set i v)[j]? = (b.set i v)[j]?:=fun j hj => by
 rw [List.getElem?_set,List.getElem?_set,hl,h j hj]
theorem vd_ {ss a : List Int} {i : Nat} {s v x : Int} (hi : ss[i]? = some x) (hx : x ≠ s) : ∀ k : Nat,ss[k]? = some s → (a.set i v)[k]? = a[k]?:=fun k hk => by
 rw [List.getElem?_set_ne (fun e => by subst e; rw [hi] at hk; injection hk with hk; exact hx hk)]
theorem zcH {ss : List Int} {n : Nat} {m : NSt} {r : RSt} {s : Int} (h : Sim ss n m r) (hs : ss[n]? = some s) :
    (∃ m' r',yJ_ n s ⟨m.tO.set n (-1),m.deep,m.op⟩ = some m' ∧ yN_ ss n s ⟨r.tO.set n (-1),r.deep,r.op⟩ = some r' ∧ Sim ss (n + 1) m' r') ∨
    (yJ_ n s ⟨m.tO.set n (-1),m.deep,m.op⟩ = none ∧ yN_ ss n s ⟨r.tO.set n (-1),r.deep,r.op⟩ = none) ∨
    (s = 126 ∧ yJ_ n s ⟨m.tO.set n (-1),m.deep,m.op⟩ = none ∧ ∀ p ∈ m.op,p.loop = false):=by
      have hop:=h.op
      have hln : n < ss.length:=by
       rcases Nat.lt_or_ge n ss.length with hk | hk
       · exact hk
       · rw [List.getElem?_eq_none hk] at hs; cases hs
      have hlen : r.op.length = m.op.length:=by rw [← hop,List.length_map]
      have lmr : m.tO.length = r.tO.length:=by rw [h.lenM,h.lenR]
      have hs0:=uw_ h.same lmr n (-1)
      have lm0 : (m.tO.set n (-1)).length = ss.length:=by rw [List.length_set,h.lenM]
      have lr0 : (r.tO.set n (-1)).length = ss.length:=by rw [List.length_set,h.lenR]
      have k0 : ∀ (t : List Int) (k : Nat),k < n → (t.set n (-1))[k]? = t[k]?:=fun t k hk => List.getElem?_set_ne (by omega)
      have hdp:=h.deep
      obtain ⟨mt,md,mo⟩:=m
      obtain ⟨rt,rd,ro⟩:=r
      simp only at *
      subst hdp hop
      unfold yJ_ yN_
      simp only
      by_cases c1 : s = 63 ∨ s = 91
      · rw [if_pos c1,if_pos c1,hlen]
        by_cases c2 : mo.length + 1 ≤ 16
        · rw [if_pos c2,if_pos c2]
          refine .inl ⟨_,_,rfl,rfl,?_⟩
          have h93 : ss[n]? ≠ some 93:=by rw [hs]; intro e; injection e with e; omega
          have h126 : ss[n]? ≠ some 126:=by rw [hs]; intro e; injection e with e; omega
          refine h.plain h93 h126 lm0 lr0 hs0 (fun k hk _ => k0 rt k hk) (fun j hj _ => k0 mt j hj) ?_ ?_ ?_ ?_ ?_
          · intro p hp
            rcases List.mem_cons.1 hp with rfl | hp
            · refine ⟨by simp only; omega,by simp only; omega,Nat.le_refl _,fun hl => ⟨rfl,?_⟩,fun hl => ⟨?_,.inl rfl⟩⟩
              · have : s = 91:=of_decide_eq_true hl
                rw [hs,this]
              · have : ¬ s = 91:=of_decide_eq_false hl
                have : s = 63:=by omega
                rw [hs,this]
            · exact (h.parts p hp).more (by omega)
          · refine List.pairwise_cons.2 ⟨fun q hq => ?_,h.desc⟩
            exact (h.parts q hq).ltw
          · intro p hp
            rcases List.mem_cons.1 hp with rfl | hp
            · exact .inl rfl
            · exact .inr ⟨p,hp,rfl,rfl,rfl,rfl⟩
          · exact fun p hp _ => ⟨p,List.mem_cons_of_mem _ hp,rfl⟩
          · intro q hq hl
            rcases List.mem_cons.1 hq with rfl | hq
            · exact .inl rfl
            · exact .inr ⟨q,hq,hl,rfl⟩
        · rw [if_neg c2,if_neg c2]
          exact .inr (.inl ⟨rfl,rfl⟩)
      · rw [if_neg c1,if_neg c1]
        by_cases c3 : s = 58
        · rw [if_pos c3,if_pos c3]
          subst c3
          cases mo with
          | nil => exact .inr (.inl ⟨rfl,rfl⟩)
          | cons p o =>
            have hP:=h.parts p (List.mem_cons_self ..)
            simp only [List.map_cons]
            by_cases c4 : p.loop = false ∧ p.waits = p.at_
            · rw [if_pos c4,if_pos (hP.is_if.2 c4),c4.2]
              refine .inl ⟨_,_,rfl,rfl,?_⟩
              have hp63:=(hP.if_ c4.1).1
              refine h.plain (by rw [hs]; decide) (by rw [hs]; decide) (by rw [List.length_set]; exact lm0) (by rw [List.length_set]; exact lr0) (uw_ hs0 (by rw [lm0,lr0]) _ _) (fun k hk h9 => by rw [vd_ hp63 (by decide) k h9,k0 rt k hk]) (fun j hj h6 => by rw [vd_ hp63 (by decide) j h6,k0 mt j hj]) ?_ ?_ ?_ ?_ ?_
              · intro q hq
                rcases List.mem_cons.1 hq with rfl | hq
                · exact ⟨by have:=hP.lt; simp only; omega,by simp only; omega,by have:=hP.lt; simp only; omega,(fun hl => by simp only at hl; rw [c4.1] at hl; cases hl),fun _ => ⟨hp63,.inr hs⟩⟩
                · exact (h.parts q (List.mem_cons_of_mem _ hq)).more (by omega)
              · have:=List.pairwise_cons.1 h.desc
                exact List.pairwise_cons.2 ⟨fun q hq => this.1 q hq,this.2⟩
              · intro q hq
                rcases List.mem_cons.1 hq with rfl | hq
                · refine .inl ?_
                  simp only
                  cases hl : p.left with
                  | nil => rfl
                  | cons j l =>
                    have:=(h.pend p (List.mem_cons_self ..) j (by rw [hl]; exact List.mem_cons_self ..)).1
                    rw [c4.1] at this; cases this
                · exact .inr ⟨q,List.mem_cons_of_mem _ hq,rfl,rfl,rfl,rfl⟩
              · intro q hq _
                rcases List.mem_cons.1 hq with rfl | hq
                · exact ⟨_,List.mem_cons_self ..,rfl⟩
                · exact ⟨q,List.mem_cons_of_mem _ hq,rfl⟩
              · intro q hq hl
                rcases List.mem_cons.1 hq with rfl | hq
                · simp only at hl; rw [c4.1] at hl; cases hl
                · exact .inr ⟨q,List.mem_cons_of_mem _ hq,hl,rfl⟩
            · rw [if_neg c4,if_neg (fun e => c4 (hP.is_if.1 e))]
              exact .inr (.inl ⟨rfl,rfl⟩)
        · rw [if_neg c3,if_neg c3]
          by_cases c5 : s = 59
          · rw [if_pos c5,if_pos c5]
            subst c5
            cases mo with
            | nil => exact .inr (.inl ⟨rfl,rfl⟩)
            | cons p o =>
              have hP:=h.parts p (List.mem_cons_self ..)
              simp only [List.map_cons]
              by_cases c6 : p.loop = false
              · rw [if_pos c6,if_neg (fun e => by have:=hP.is_loop.1 e; rw [c6] at this; cases this)]
                refine .inl ⟨_,_,rfl,rfl,?_⟩
                have hw : ∃ x,ss[p.waits]? = some x ∧ x ≠ 93 ∧ x ≠ 126:=by
                 obtain ⟨a,b | b⟩:=hP.if_ c6
                 · exact ⟨63,by rw [b,a],by decide,by decide⟩
                 · exact ⟨58,b,by decide,by decide⟩
                obtain ⟨x,hw,x1,x2⟩:=hw
                refine h.plain (by rw [hs]; decide) (by rw [hs]; decide) (by rw [List.length_set]; exact lm0) (by rw [List.length_set]; exact lr0) (uw_ hs0 (by rw [lm0,lr0]) _ _) (fun k hk h9 => by rw [vd_ hw x1 k h9,k0 rt k hk]) (fun j hj h6 => by rw [vd_ hw x2 j h6,k0 mt j hj]) ?_ ?_ ?_ ?_ ?_
                · exact fun q hq => (h.parts q (List.mem_cons_of_mem _ hq)).more (by omega)
                · exact (List.pairwise_cons.1 h.desc).2
                · exact fun q hq => .inr ⟨q,List.mem_cons_of_mem _ hq,rfl,rfl,rfl,rfl⟩
                · intro q hq hne
                  rcases List.mem_cons.1 hq with rfl | hq
                  · exfalso
                    cases hl : q.left with
                    | nil => exact hne hl
                    | cons j l =>
                      have:=(h.pend q (List.mem_cons_self ..) j (by rw [hl]; exact List.mem_cons_self ..)).1
                      rw [c6] at this; cases this
                  · exact ⟨q,hq,rfl⟩
                · exact fun q hq hl => .inr ⟨q,List.mem_cons_of_mem _ hq,hl,rfl⟩
              · have c7 : p.loop = true:=(Bool.not_eq_false _).mp c6
                rw [if_neg c6,if_pos (hP.is_loop.2 c7)]
                exact .inr (.inl ⟨rfl,rfl⟩)
          · rw [if_neg c5,if_neg c5]
            by_cases c8 : s = 93
            · rw [if_pos c8,if_pos c8]
              subst c8
              cases mo with
              | nil => exact .inr (.inl ⟨rfl,rfl⟩)
              | cons p o =>
                have hP:=h.parts p (List.mem_cons_self ..)
                simp only [List.map_cons]
                by_cases c9 : p.loop = true
                · rw [if_pos c9,if_pos (hP.is_loop.2 c9),(hP.loop c9).1]
                  refine .inl ⟨_,_,rfl,rfl,?_⟩
                  have hd:=List.pairwise_cons.1 h.desc
                  have hpl:=fun j hj => h.pend p (List.mem_cons_self ..) j hj
                  have hr9 : ∀ k : Nat,k < n → ss[k]? = some 93 → ((rt.set n (-1)).set n (p.at_ : Int))[k]? = rt[k]?:=fun k hk _ => by
                   rw [List.getElem?_set_ne (by omega),k0 rt k hk]
                  have hrn : ((rt.set n (-1)).set n (p.at_ : Int))[n]? = some (p.at_ : Int):=List.getElem?_set_self (by rw [lr0]; exact hln)
                  refine ⟨rfl,rfl,by rw [kv_,List.length_set]; exact lm0,by rw [List.length_set]; exact lr0,fun q hq => (h.parts q (List.mem_cons_of_mem _ hq)).more (by omega),hd.2,fun j hj => ?_,fun q hq j hj => ?_,fun j hj hj6 => ?_⟩
                  · rw [x7_ _ _ _ _ (fun e => hj (hpl j e).2.1)]
                    exact uw_ hs0 (by rw [lm0,lr0]) _ _ j hj
                  · obtain ⟨a1,a2,a3,a4,a5,a6⟩:=h.pend q (List.mem_cons_of_mem _ hq) j hj
                    have hqp:=hd.1 q hq
                    have hqle:=(h.parts q (List.mem_cons_of_mem _ hq)).le
                    have:=a6 p (List.mem_cons_self ..) c9 (by omega)
                    exact ⟨a1,a2,a3,by omega,(a5.keep hr9).next (fun _ => ⟨_,hrn,by omega⟩),fun q' hq' hl' hlt' => a6 q' (List.mem_cons_of_mem _ hq') hl' hlt'⟩
                  · have hjn : j < n:=by
                     rcases Nat.lt_or_ge j n with hk | hk
                     · exact hk
                     · obtain rfl : j = n:=by omega
                       rw [hs] at hj6; cases hj6
                    by_cases hjp : j ∈ p.left
                    · obtain ⟨a1,a2,a3,a4,a5,a6⟩:=hpl j hjp
                      have hle:=hP.le
                      exact .inr ⟨n,hjn,by omega,ku_ _ _ _ _ hjp (by rw [List.length_set,lm0]; omega),hs,⟨_,hrn,by omega⟩,a5.keep hr9⟩
                    · rcases h.done j hjn hj6 with ⟨q,hq,hj2⟩ | ⟨k,b1,b2,b3,b4,⟨v,b5,b6⟩,b7⟩
                      · rcases List.mem_cons.1 hq with rfl | hq
                        · exact absurd hj2 hjp
                        · exact .inl ⟨q,hq,hj2⟩
                      · refine .inr ⟨k,b1,by omega,?_,b4,⟨v,by rw [hr9 k b2 b4]; exact b5,b6⟩,b7.keep (fun k' hk' h9' => hr9 k' (by omega) h9')⟩
                        rw [x7_ _ _ _ _ hjp,List.getElem?_set_ne (by omega),k0 mt j hjn]
                        exact b3
                · rw [if_neg c9,if_neg (fun e => c9 (hP.is_loop.1 e))]
                  exact .inr (.inl ⟨rfl,rfl⟩)
            · rw [if_neg c8,if_neg c8]
              by_cases c10 : s = 126
              · rw [if_pos c10]
                subst c10
                cases hlv : yw_ n mo with
                | none => exact .inr (.inr ⟨rfl,rfl,qp_ hlv⟩)
                | some o =>
                  obtain ⟨a,p,r0,e1,e2,e3,e4⟩:=ui_ hlv
                  have hw : o.map (·.waits) = mo.map (·.waits):=by rw [e1,e4]; simp
                  have hf : o.map (fun p => (p.at_,p.waits)) = mo.map (fun p => (p.at_,p.waits)):=by rw [e1,e4]; simp
                  have hpm : p ∈ mo:=by rw [e1]; simp
                  have hP:=h.parts p hpm
                  have hin : ∀ q ∈ o,q = ⟨p.loop,p.at_,p.waits,p.left ++ [n]⟩ ∨ q ∈ mo:=fun q hq => by
                   rw [e4] at hq
                   rw [e1]
                   simp only [List.mem_append,List.mem_cons] at hq ⊢
                   rcases hq with hq | hq | hq
                   · exact .inr (.inl hq)
                   · exact .inl hq
                   · exact .inr (.inr (.inr hq))
                  have hback : ∀ q ∈ mo,q = p ∨ q ∈ o:=fun q hq => by
                   rw [e1] at hq
                   rw [e4]
                   simp only [List.mem_append,List.mem_cons] at hq ⊢
                   rcases hq with hq | hq | hq
                   · exact .inr (.inl hq)
                   · exact .inl hq
                   · exact .inr (.inr (.inr hq))
                  have hself : (⟨p.loop,p.at_,p.waits,p.left ++ [n]⟩ : NPart) ∈ o:=by rw [e4]; simp
                  have hr9 : ∀ k : Nat,k < n → ss[k]? = some 93 → (rt.set n (-1))[k]? = rt[k]?:=fun k hk _ => k0 rt k hk
                  have hn9 : ss[n]? ≠ some 93:=by rw [hs]; decide
                  have hold : ∀ q ∈ o,q.loop = true → ∃ q0 ∈ mo,q0.loop = true ∧ q0.at_ = q.at_:=fun q hq hl => by
                   rcases hin q hq with rfl | hq
                   · exact ⟨p,hpm,e3,rfl⟩
                   · exact ⟨q,hq,hl,rfl⟩
                  have hpend : ∀ p0 ∈ mo,∀ j ∈ p0.left,p0.loop = true ∧ ss[j]? = some 126 ∧ p0.waits < j ∧ j < n + 1 ∧ xH_ ss (rt.set n (-1)) j 0 (n + 1) ∧ ∀ q ∈ o,q.loop = true → p0.at_ < q.at_ → j < q.at_:=fun p0 hp0 j hj => by
                   obtain ⟨a1,a2,a3,a4,a5,a6⟩:=h.pend p0 hp0 j hj
                   refine ⟨a1,a2,a3,by omega,(a5.keep hr9).next (fun h9 => absurd h9 hn9),fun q hq hl hlt => ?_⟩
                   obtain ⟨q0,hq0,l0,e0⟩:=hold q hq hl
                   rw [← e0] at hlt ⊢
                   exact a6 q0 hq0 l0 hlt
                  refine .inl ⟨⟨mt.set n (-1),md,o⟩,⟨rt.set n (-1),md,mo.map (·.waits)⟩,rfl,rfl,⟨rfl,hw,lm0,lr0,fun q hq => ?_,?_,hs0,fun q hq j hj => ?_,fun j hj hj6 => ?_⟩⟩
                  · rcases hin q hq with rfl | hq
                    · have:=hP.more (k:=n + 1) (by omega)
                      exact ⟨this.lt,this.ltw,this.le,this.loop,this.if_⟩
                    · exact (h.parts q hq).more (by omega)
                  · have:=h.desc
                    have hR : (mo.map (fun p => (p.at_,p.waits))).Pairwise (fun a b => b.2 < a.1):=List.pairwise_map.2 this
                    rw [← hf] at hR
                    exact List.pairwise_map.1 hR
                  · rcases hin q hq with rfl | hq
                    · simp only [List.mem_append,List.mem_cons,List.not_mem_nil,or_false] at hj
                      rcases hj with hj | rfl
                      · exact hpend p hpm j hj
                      · refine ⟨e3,hs,hP.ltw,by omega,fun k h1 _ h3 h9 => ?_,fun q hq hl hlt => ?_⟩
                        · obtain rfl : k = j:=by omega
                          exact absurd h9 hn9
                        · exfalso
                          rw [e4] at hq
                          simp only [List.mem_append,List.mem_cons] at hq
                          simp only at hlt
                          rcases hq with hq | rfl | hq
                          · rw [e2 q hq] at hl; cases hl
                          · simp only at hlt; omega
                          · have hd:=h.desc
                            rw [e1] at hd
                            have:=(List.pairwise_cons.1 (List.pairwise_append.1 hd).2.1).1 q hq
                            have hle:=(h.parts q (by rw [e1]; simp [hq])).le
                            omega
                    · exact hpend q hq j hj
                  · rcases Nat.lt_or_ge j n with hjn | hjn
                    · rcases h.done j hjn hj6 with ⟨q,hq,hj2⟩ | ⟨k,b1,b2,b3,b4,⟨v,b5,b6⟩,b7⟩
                      · rcases hback q hq with rfl | hq
                        · exact .inl ⟨_,hself,by simp [hj2]⟩
                        · exact .inl ⟨q,hq,hj2⟩
                      · exact .inr ⟨k,b1,by omega,by rw [k0 mt j hjn]; exact b3,b4,⟨v,by rw [hr9 k b2 b4]; exact b5,b6⟩,b7.keep (fun k' hk' h9' => hr9 k' (by omega) h9')⟩
                    · obtain rfl : j = n:=by omega
                      exact .inl ⟨_,hself,by simp⟩
              · rw [if_neg c10]
                refine .inl ⟨_,_,rfl,rfl,?_⟩
                have h93 : ss[n]? ≠ some 93:=by rw [hs]; intro e; injection e with e; exact c8 e
                have h126 : ss[n]? ≠ some 126:=by rw [hs]; intro e; injection e with e; exact c10 e
                exact h.plain h93 h126 lm0 lr0 hs0 (fun k hk _ => k0 rt k hk) (fun j hj _ => k0 mt j hj) (fun q hq => (h.parts q hq).more (by omega)) h.desc (fun q hq => .inr ⟨q,hq,rfl,rfl,rfl,rfl⟩) (fun q hq _ => ⟨q,hq,rfl⟩) (fun q hq hl => .inr ⟨q,hq,hl,rfl⟩)
structure Dead (ss : List Int) (j n : Nat) (r : RSt) : Prop where
  lt : j < n
  len : r.tO.length = ss.length
  open_ : ∀ w ∈ r.op,w < n ∧ (ss[w]? = some 63 ∨ ss[w]? = some 58 ∨ (ss[w]? = some 91 ∧ j < w))
  behind : xH_ ss r.tO j 0 n
theorem zch {ss : List Int} {j n : Nat} {r r' : RSt} {s : Int} (h : Dead ss j n r) (hs : ss[n]? = some s) (hr : yN_ ss n s ⟨r.tO.set n (-1),r.deep,r.op⟩ = some r') : Dead ss j (n + 1) r':=by
 have hln : n < ss.length:=by
  rcases Nat.lt_or_ge n ss.length with hk | hk
  · exact hk
  · rw [List.getElem?_eq_none hk] at hs; cases hs
 have hjn:=h.lt
 obtain ⟨rt,rd,ro⟩:=r
 have hlen:=h.len
 have hop:=h.open_
 have hb:=h.behind
 simp only at hlen hop hb hr
 have k0 : ∀ (k : Nat),k < n → (rt.set n (-1))[k]? = rt[k]?:=fun k hk => List.getElem?_set_ne (by omega)
 have l0 : (rt.set n (-1)).length = ss.length:=by rw [List.length_set]; exact hlen
 unfold yN_ at hr
 simp only at hr
 by_cases c1 : s = 63 ∨ s = 91
 · rw [if_pos c1] at hr
   by_cases c2 : ro.length + 1 ≤ 16
   · rw [if_pos c2] at hr
     injection hr with hr
     subst hr
     refine ⟨by omega,l0,fun w hw => ?_,(hb.keep fun k hk _ => k0 k hk).next fun h9 => ?_⟩
     · rcases List.mem_cons.1 hw with rfl | hw
       · refine ⟨by omega,?_⟩
         rw [hs]
         rcases c1 with rfl | rfl
         · exact .inl rfl
         · exact .inr (.inr ⟨rfl,hjn⟩)
       · exact ⟨by have:=(hop w hw).1; omega,(hop w hw).2⟩
     · rw [hs] at h9; injection h9 with h9; omega
   · rw [if_neg c2] at hr; cases hr
 · rw [if_neg c1] at hr
   by_cases c3 : s = 58
   · rw [if_pos c3] at hr
     subst c3
     cases ro with
     | nil => cases hr
     | cons p o =>
       simp only at hr
       by_cases c4 : ss[p]? = some 63
       · rw [if_pos c4] at hr
         injection hr with hr
         subst hr
         refine ⟨by omega,by rw [List.length_set]; exact l0,fun w hw => ?_,(hb.keep fun k hk h9 => ?_).next fun h9 => ?_⟩
         · rcases List.mem_cons.1 hw with rfl | hw
           · exact ⟨by omega,.inr (.inl hs)⟩
           · have:=hop w (List.mem_cons_of_mem _ hw); exact ⟨by have:=this.1; omega,this.2⟩
         · rw [vd_ c4 (by decide) k h9,k0 k hk]
         · rw [hs] at h9; cases h9
       · rw [if_neg c4] at hr; cases hr
   · rw [if_neg c3] at hr
     by_cases c5 : s = 59
     · rw [if_pos c5] at hr
       subst c5
       cases ro with
       | nil => cases hr
       | cons p o =>
         simp only at hr
         by_cases c6 : ss[p]? = some 91
         · rw [if_pos c6] at hr; cases hr
         · rw [if_neg c6] at hr
           injection hr with hr
           subst hr
           have hw : ∃ x,ss[p]? = some x ∧ x ≠ 93:=by
            rcases (hop p (List.mem_cons_self ..)).2 with e | e | ⟨e,_⟩
            · exact ⟨_,e,by decide⟩
            · exact ⟨_,e,by decide⟩
            · exact absurd e c6
           obtain ⟨x,hw,x1⟩:=hw
           refine ⟨by omega,by rw [List.length_set]; exact l0,fun w hw => ?_,(hb.keep fun k hk h9 => ?_).next fun h9 => ?_⟩
           · have:=hop w (List.mem_cons_of_mem _ hw); exact ⟨by have:=this.1; omega,this.2⟩
           · rw [vd_ hw x1 k h9,k0 k hk]
           · rw [hs] at h9; cases h9
     · rw [if_neg c5] at hr
       by_cases c8 : s = 93
       · rw [if_pos c8] at hr
         cases ro with
         | nil => cases hr
         | cons p o =>
           simp only at hr
           by_cases c9 : ss[p]? = some 91
           · rw [if_pos c9] at hr
             injection hr with hr
             subst hr
             have hjp : j < p:=by
              rcases (hop p (List.mem_cons_self ..)).2 with e | e | ⟨_,e⟩
              · rw [c9] at e; cases e
              · rw [c9] at e; cases e
              · exact e
             refine ⟨by omega,by rw [List.length_set]; exact l0,fun w hw => ?_,(hb.keep fun k hk h9 => ?_).next fun h9 => ?_⟩
             · have:=hop w (List.mem_cons_of_mem _ hw); exact ⟨by have:=this.1; omega,this.2⟩
             · rw [List.getElem?_set_ne (by omega),k0 k hk]
             · exact ⟨_,List.getElem?_set_self (by rw [l0]; exact hln),by omega⟩
           · rw [if_neg c9] at hr; cases hr
       · rw [if_neg c8] at hr
         injection hr with hr
         subst hr
         refine ⟨by omega,l0,fun w hw => ⟨by have:=(hop w hw).1; omega,(hop w hw).2⟩,(hb.keep fun k hk _ => k0 k hk).next fun h9 => ?_⟩
         rw [hs] at h9; injection h9 with h9; exact absurd h9 c8
theorem gf_ {ss : List Int} {j : Nat} : ∀ (rest : List Int) (n : Nat) (r : RSt),n + rest.length = ss.length → (∀ i : Nat,rest[i]? = ss[n + i]?) → Dead ss j n r → uy_ ss n rest r = none ∨ ∃ r',uy_ ss n rest r = some r' ∧ Dead ss j ss.length r'
  | [],n,r,hl,_,h => .inr ⟨r,rfl,by rw [← hl]; exact h⟩
  | s :: rest,n,r,hl,hi,h => by
    have hs : ss[n]? = some s:=by have:=hi 0; simpa using this.symm
    unfold uy_
    cases hr : yN_ ss n s ⟨r.tO.set n (-1),r.deep,r.op⟩ with
    | none => exact .inl rfl
    | some r' => exact gf_ rest (n + 1) r' (by rw [← hl]; simp only [List.length_cons]; omega) (fun i => by have:=hi (i + 1); simpa [Nat.add_assoc,Nat.add_comm 1 i] using this) (zch h hs hr)
theorem zaN {ss : List Int} : ∀ (rest : List Int) (n : Nat) (m : NSt) (r : RSt),n + rest.length = ss.length → (∀ i : Nat,rest[i]? = ss[n + i]?) → Sim ss n m r →
    (∃ m' r',k2_ n rest m = some m' ∧ uy_ ss n rest r = some r' ∧ Sim ss ss.length m' r') ∨
    (k2_ n rest m = none ∧ (uy_ ss n rest r = none ∨ ∃ r' j,uy_ ss n rest r = some r' ∧ ss[j]? = some 126 ∧ Dead ss j ss.length r'))
  | [],n,m,r,hl,_,h => .inl ⟨m,r,rfl,rfl,by rw [← hl]; exact h⟩
  | s :: rest,n,m,r,hl,hi,h => by
    have hs : ss[n]? = some s:=by have:=hi 0; simpa using this.symm
    have hl' : n + 1 + rest.length = ss.length:=by rw [← hl]; simp only [List.length_cons]; omega
    have hi' : ∀ i : Nat,rest[i]? = ss[n + 1 + i]?:=fun i => by have:=hi (i + 1); simpa [Nat.add_assoc,Nat.add_comm 1 i] using this
    rcases zcH h hs with ⟨m',r',e1,e2,h'⟩ | ⟨e1,e2⟩ | ⟨e0,e1,e2⟩
    · unfold k2_ uy_
      rw [e1,e2]
      exact zaN rest (n + 1) m' r' hl' hi' h'
    · unfold k2_ uy_
      rw [e1,e2]
      exact .inr ⟨rfl,.inl rfl⟩
    · subst e0
      unfold k2_ uy_
      rw [e1]
      have er : yN_ ss n 126 ⟨r.tO.set n (-1),r.deep,r.op⟩ = some ⟨r.tO.set n (-1),r.deep,r.op⟩:=rfl
      rw [er]
      have hd : Dead ss n (n + 1) ⟨r.tO.set n (-1),r.deep,r.op⟩:=by
       refine ⟨by omega,by rw [List.length_set]; exact h.lenR,fun w hw => ?_,fun k h1 _ h3 h9 => ?_⟩
       · simp only at hw
         rw [← h.op,List.mem_map] at hw
         obtain ⟨p,hp,rfl⟩:=hw
         have hP:=h.parts p hp
         obtain ⟨a,b | b⟩:=hP.if_ (e2 p hp)
         · exact ⟨by have:=hP.ltw; omega,.inl (by rw [b]; exact a)⟩
         · exact ⟨by have:=hP.ltw; omega,.inr (.inl b)⟩
       · obtain rfl : k = n:=by omega
         rw [hs] at h9; cases h9
      refine .inr ⟨rfl,?_⟩
      rcases gf_ rest (n + 1) _ hl' hi' hd with e | ⟨r',e,hd'⟩
      · exact .inl e
      · exact .inr ⟨r',n,e,hs,hd'⟩
theorem zaM (ss : List Int) : Sim ss 0 ⟨List.replicate ss.length 0,0,[]⟩ ⟨List.replicate ss.length 0,0,[]⟩ :=
 ⟨rfl,rfl,List.length_replicate,List.length_replicate,fun p hp => (by cases hp),List.Pairwise.nil,fun _ _ => rfl,fun p hp => (by cases hp),fun j hj => absurd hj (by omega)⟩
theorem zbs (ss : List Int) : (∃ m r,k2_ 0 ss ⟨List.replicate ss.length 0,0,[]⟩ = some m ∧ uy_ ss 0 ss ⟨List.replicate ss.length 0,0,[]⟩ = some r ∧ Sim ss ss.length m r) ∨
    (k2_ 0 ss ⟨List.replicate ss.length 0,0,[]⟩ = none ∧ (uy_ ss 0 ss ⟨List.replicate ss.length 0,0,[]⟩ = none ∨ ∃ r' j,uy_ ss 0 ss ⟨List.replicate ss.length 0,0,[]⟩ = some r' ∧ ss[j]? = some 126 ∧ Dead ss j ss.length r')) :=
      zaN ss 0 _ _ (by omega) (fun i => by rw [Nat.zero_add]) (zaM ss)
theorem Sim.leaves {ss : List Int} {m : NSt} {r : RSt} (h : Sim ss ss.length m r) (ho : m.op = []) (j : Nat) (hj : ss[j]? = some 126) :
    ∃ k : Nat,j < k ∧ k < ss.length ∧ m.tO[j]? = some ((k : Int) + 1) ∧ ss[k]? = some 93 ∧ (∃ v,r.tO[k]? = some v ∧ v < (j : Int)) ∧ xH_ ss r.tO j 0 k:=by
 have hln : j < ss.length:=by
  rcases Nat.lt_or_ge j ss.length with hk | hk
  · exact hk
  · rw [List.getElem?_eq_none hk] at hj; cases hj
 rcases h.done j hln hj with ⟨p,hp,_⟩ | hd
 · rw [ho] at hp; cases hp
 · exact hd
def zX_ (ss t : List Int) (j : Nat) : Nat → Nat → Int
  | 0,_ => -1
  | f + 1,i => if ss[i]? = some 93 ∧ t.getD i 0 < (j : Int) then (i : Int) + 1 else zX_ ss t j f (i + 1)
theorem vI_ {ss t : List Int} {j k : Nat} (hk : ss[k]? = some 93) (hv : ∃ v,t[k]? = some v ∧ v < (j : Int)) (hb : xH_ ss t j 0 k) : ∀ (f i : Nat),j ≤ i → i ≤ k → k < i + f → zX_ ss t j f i = (k : Int) + 1
  | 0,i,_,h1,h2 => absurd h1 (by omega)
  | f + 1,i,h0,h1,h2 => by
    unfold zX_
    by_cases e : i = k
    · subst e
      obtain ⟨v,e1,e2⟩:=hv
      rw [if_pos ⟨hk,by rw [List.getD_eq_getElem?_getD,e1]; exact e2⟩]
    · rw [if_neg,vI_ hk hv hb f (i + 1) (by omega) (by omega) (by omega)]
      rintro ⟨a,b⟩
      obtain ⟨v,e1,e2⟩:=hb i h0 (by omega) (by omega) a
      rw [List.getD_eq_getElem?_getD,e1] at b
      simp only [Option.getD_some] at b
      omega
theorem uh_ {ss t : List Int} {j n : Nat} (hb : xH_ ss t j 0 n) : ∀ (f i : Nat),j ≤ i → i + f ≤ n → zX_ ss t j f i = -1
  | 0,i,_,_ => rfl
  | f + 1,i,h0,h1 => by
    unfold zX_
    rw [if_neg,uh_ hb f (i + 1) (by omega) (by omega)]
    rintro ⟨a,b⟩
    obtain ⟨v,e1,e2⟩:=hb i h0 (by omega) (by omega) a
    rw [List.getD_eq_getElem?_getD,e1] at b
    simp only [Option.getD_some] at b
    omega
def xQ_ (ss : List Int) : Nat → List Int → List Int → Option (List Int)
  | _,[],t => some t
  | i,s :: r,t => if s = 126 then (if zX_ ss t i (ss.length - i) i < 0 then none else xQ_ ss (i + 1) r (t.set i (zX_ ss t i (ss.length - i) i))) else xQ_ ss (i + 1) r t
def yR_ (ss : List Int) : Option (List Int × Nat) :=
 (uy_ ss 0 ss ⟨List.replicate ss.length 0,0,[]⟩).bind fun r => if r.op = [] then (xQ_ ss 0 ss r.tO).map fun t => (t,r.deep) else none
def v0_ (ss : List Int) : Option (List Int × Nat) :=
 (k2_ 0 ss ⟨List.replicate ss.length 0,0,[]⟩).bind fun m => if m.op = [] then some (m.tO,m.deep) else none
theorem jb_ {ss : List Int} {m : NSt} {r : RSt} (h : Sim ss ss.length m r) (ho : m.op = []) : ∀ (rest : List Int) (n : Nat) (t : List Int),n + rest.length = ss.length → (∀ i : Nat,rest[i]? = ss[n + i]?) → t.length = ss.length →
    (∀ j : Nat,ss[j]? ≠ some 126 ∨ j < n → t[j]? = m.tO[j]?) → xQ_ ss n rest t = some m.tO
  | [],n,t,hl,_,hlt,ha => by
    show some t = _
    congr 1
    apply List.ext_getElem?
    intro j
    rcases Nat.lt_or_ge j n with hj | hj
    · exact ha j (.inr hj)
    · have hl' : n = ss.length:=hl
      rw [List.getElem?_eq_none (by omega),List.getElem?_eq_none (by rw [h.lenM]; omega)]
  | s :: rest,n,t,hl,hi,hlt,ha => by
    have hs : ss[n]? = some s:=by have:=hi 0; simpa using this.symm
    have hl' : n + 1 + rest.length = ss.length:=by rw [← hl]; simp only [List.length_cons]; omega
    have hi' : ∀ i : Nat,rest[i]? = ss[n + 1 + i]?:=fun i => by have:=hi (i + 1); simpa [Nat.add_assoc,Nat.add_comm 1 i] using this
    unfold xQ_
    by_cases c : s = 126
    · rw [if_pos c]
      subst c
      obtain ⟨k,k1,k2,k3,k4,⟨v,k5,k6⟩,k7⟩:=h.leaves ho n hs
      have h9 : ∀ k : Nat,ss[k]? = some 93 → t[k]? = r.tO[k]?:=fun k hk => by
       have hne : ss[k]? ≠ some 126:=by rw [hk]; decide
       rw [ha k (.inl hne),h.same k hne]
      have hv : zX_ ss t n (ss.length - n) n = (k : Int) + 1:=vI_ k4 ⟨v,by rw [h9 k k4]; exact k5,k6⟩ (k7.keep fun k' _ hk' => h9 k' hk') _ n (Nat.le_refl _) (by omega) (by omega)
      rw [hv,if_neg (by omega)]
      refine jb_ h ho rest (n + 1) _ hl' hi' (by rw [List.length_set]; exact hlt) (fun j hj => ?_)
      by_cases e : n = j
      · subst e
        rw [List.getElem?_set_self (by omega),k3]
      · rw [List.getElem?_set_ne e]
        exact ha j (hj.imp id fun h => by omega)
    · rw [if_neg c]
      refine jb_ h ho rest (n + 1) t hl' hi' hlt (fun j hj => ?_)
      rcases hj with hj | hj
      · exact ha j (.inl hj)
      · by_cases e : j = n
        · subst e
          exact ha j (.inl (by rw [hs]; intro e; injection e with e; exact c e))
        · exact ha j (.inr (by omega))
theorem qy_ {ss : List Int} {r : RSt} {d : Nat} (hd : Dead ss d ss.length r) (h6 : ss[d]? = some 126) : ∀ (rest : List Int) (n : Nat) (t : List Int),n + rest.length = ss.length → (∀ i : Nat,rest[i]? = ss[n + i]?) → n ≤ d →
    (∀ k : Nat,ss[k]? = some 93 → t[k]? = r.tO[k]?) → xQ_ ss n rest t = none
  | [],n,t,hl,_,hn,_ => absurd hd.lt (by have : n = ss.length:=hl; omega)
  | s :: rest,n,t,hl,hi,hn,ha => by
    have hs : ss[n]? = some s:=by have:=hi 0; simpa using this.symm
    have hl' : n + 1 + rest.length = ss.length:=by rw [← hl]; simp only [List.length_cons]; omega
    have hi' : ∀ i : Nat,rest[i]? = ss[n + 1 + i]?:=fun i => by have:=hi (i + 1); simpa [Nat.add_assoc,Nat.add_comm 1 i] using this
    unfold xQ_
    by_cases c : s = 126
    · rw [if_pos c]
      subst c
      by_cases e : n = d
      · subst e
        rw [uh_ (hd.behind.keep fun k _ hk => ha k hk) _ n (Nat.le_refl _) (by omega),if_pos (by omega)]
      · split
        · rfl
        · exact qy_ hd h6 rest (n + 1) _ hl' hi' (by omega) (fun k hk => by rw [List.getElem?_set_ne (fun e => by subst e; rw [hs] at hk; cases hk)]; exact ha k hk)
    · rw [if_neg c]
      have : n ≠ d:=fun e => by subst e; rw [hs] at h6; injection h6 with h6; exact c h6
      exact qy_ hd h6 rest (n + 1) t hl' hi' (by omega) ha
theorem jH_ (ss : List Int) : v0_ ss = yR_ ss:=by
 unfold v0_ yR_
 rcases zbs ss with ⟨m,r,e1,e2,h⟩ | ⟨e1,e2 | ⟨r,d,e2,h6,hd⟩⟩
 · rw [e1,e2]
   show (if m.op = [] then some (m.tO,m.deep) else none) = if r.op = [] then (xQ_ ss 0 ss r.tO).map fun t => (t,r.deep) else none
   by_cases ho : m.op = []
   · have hr : r.op = []:=by rw [← h.op,ho]; rfl
     rw [if_pos ho,if_pos hr,jb_ h ho ss 0 r.tO (by omega) (fun i => by rw [Nat.zero_add]) h.lenR (fun j hj => (h.same j (hj.resolve_right (by omega))).symm),h.deep]
     rfl
   · have hr : ¬ r.op = []:=fun e => ho (by rw [← h.op] at e; exact List.map_eq_nil_iff.1 e)
     rw [if_neg ho,if_neg hr]
 · rw [e1,e2]; rfl
 · rw [e1,e2]
   show none = if r.op = [] then (xQ_ ss 0 ss r.tO).map fun t => (t,r.deep) else none
   rw [qy_ hd h6 ss 0 r.tO (by omega) (fun i => by rw [Nat.zero_add]) (by omega) (fun _ _ => rfl)]
   split <;> rfl
end Go.Proofs.YtbkfhndmeljlcaaGreatDoor
namespace Go.Proofs.YtbkfhndmeljlcaaGreatDoor
open Go.RowKit
def wl (V : List Bool) (k : Nat) : List Nat:=(List.range k).filter fun i => V.getD i false
theorem kc_ {T : List Nat} {a w w' : World} {row : Option Nat} (h : Chg T a w) (hg : w.grownBy w' row) (hr : ∀ g,row = some g → a.heap.size ≤ g) : Chg T a w' :=
 h.then_ (T':=row.toList) (Chg.of_grown hg fun g e _ => by simp [e]) fun i hi hlt => by
  have:=hr i (by simpa using hi)
  omega
end Go.Proofs.YtbkfhndmeljlcaaGreatDoor
namespace Go.Proofs
open Go.Shelf
def Tryz.lays242_ren : Go.Shelf.Ren:=⟨fun | 242 => 59 | 278 => 89 | n => n,fun | 37 => 33 | 21 => 21 | 51 => 118 | 4 => 4 | 5 => 5 | 46 => 139 | n => n,fun | n => n⟩
theorem Tryz.lays242 : Go.Proofs.Lays.n242 Tryz.prog Tryz.lays242_ren:={
  mixed:=by kernel_rfl
  f242:=Tryz.func59.trans (congrArg some (by kernel_rfl))
  f278:=Tryz.func89.trans (congrArg some (by kernel_rfl))
  t4:=Tryz.underlying4
  a4:=Tryz.isAgg4
  z4:=Tryz.sizeOf4
  v4:=Tryz.zeroValue4
  t5:=Tryz.underlying5
  a5:=Tryz.isAgg5
  z5:=Tryz.sizeOf5
  v5:=Tryz.zeroValue5
  t21:=Tryz.underlying21
  a21:=Tryz.isAgg21
  z21:=Tryz.sizeOf21
  v21:=Tryz.zeroValue21
  t37:=Tryz.underlying33
  a37:=Tryz.isAgg33
  z37:=Tryz.sizeOf33
  v37:=Tryz.zeroValue33
  t46:=Tryz.underlying139
  a46:=Tryz.isAgg139
  z46:=Tryz.sizeOf139
  v46:=Tryz.zeroValue139
  t51:=Tryz.underlying118
  a51:=Tryz.isAgg118
  z51:=Tryz.sizeOf118
  v51:=Tryz.zeroValue118 }
open Go.RowKit in
theorem Tryz.utf8_AppendRune_plain (B : Nat) (v : Value) (n : Nat) (xs : List Value) (r : Int) (hr0 : -2147483648 ≤ r) (hr1 : r ≤ 2147483647) (w : World) (hown : w.ownsRow B 5 1 v n xs) (hlen : n + 4 ≤ 140737488355328) (hBw : B ≤ w.heap.size) :
    Calls Tryz.prog 59 #[v,.int .i32 r] w fun e w' => ∃ v',e = .returned v' ∧ w'.ownsRow B 5 1 v' (n + (Lib.runeCells r).length) (xs ++ Lib.runeCells r) ∧ ∃ o,(w.alloc o).grownBy w' v.ownBlock:=Any.utf8_AppendRune_plain Tryz.lays242 (by kernel_rfl) B v n xs r hr0 hr1 w hown hlen hBw
def Tryz.lays171_ren : Go.Shelf.Ren:=⟨fun | 171 => 57 | 243 => 87 | 246 => 111 | 283 => 122 | 284 => 123 | 285 => 124 | 286 => 125 | 129 => 135 | 317 => 134 | 318 => 136 | 319 => 137 | 320 => 138 | 337 => 145 | 338 => 146 | n => n,fun | 3 => 3 | 9 => 9 | 2 => 2 | 4 => 4 | 171 => 160 | 0 => 0 | 53 => 122 | 37 => 33 | 5 => 5 | 173 => 163 | 212 => 175 | 51 => 118 | 20 => 20 | 213 => 176 | 46 => 139 | 232 => 188 | 233 => 189 | n => n,fun | 17 => 1 | 18 => 2 | 19 => 3 | n => n⟩
theorem Tryz.lays171 : Go.Proofs.Lays.n171 Tryz.prog Tryz.lays171_ren:={
  mixed:=by kernel_rfl
  f129:=Tryz.func135.trans (congrArg some (by kernel_rfl))
  f171:=Tryz.func57.trans (congrArg some (by kernel_rfl))
  f243:=Tryz.func87.trans (congrArg some (by kernel_rfl))
  f246:=Tryz.func111.trans (congrArg some (by kernel_rfl))
  f283:=Tryz.func122.trans (congrArg some (by kernel_rfl))
  f284:=Tryz.func123.trans (congrArg some (by kernel_rfl))
  f285:=Tryz.func124.trans (congrArg some (by kernel_rfl))
  f286:=Tryz.func125.trans (congrArg some (by kernel_rfl))
  f317:=Tryz.func134.trans (congrArg some (by kernel_rfl))
  f318:=Tryz.func136.trans (congrArg some (by kernel_rfl))
  f319:=Tryz.func137.trans (congrArg some (by kernel_rfl))
  f320:=Tryz.func138.trans (congrArg some (by kernel_rfl))
  f337:=Tryz.func145.trans (congrArg some (by kernel_rfl))
  f338:=Tryz.func146.trans (congrArg some (by kernel_rfl))
  t0:=Tryz.underlying0
  a0:=Tryz.isAgg0
  z0:=Tryz.sizeOf0
  v0:=Tryz.zeroValue0
  t2:=Tryz.underlying2
  a2:=Tryz.isAgg2
  z2:=Tryz.sizeOf2
  v2:=Tryz.zeroValue2
  t3:=Tryz.underlying3
  a3:=Tryz.isAgg3
  z3:=Tryz.sizeOf3
  v3:=Tryz.zeroValue3
  t4:=Tryz.underlying4
  a4:=Tryz.isAgg4
  z4:=Tryz.sizeOf4
  v4:=Tryz.zeroValue4
  t5:=Tryz.underlying5
  a5:=Tryz.isAgg5
  z5:=Tryz.sizeOf5
  v5:=Tryz.zeroValue5
  t9:=Tryz.underlying9
  a9:=Tryz.isAgg9
  z9:=Tryz.sizeOf9
  v9:=Tryz.zeroValue9
  t20:=Tryz.underlying20
  a20:=Tryz.isAgg20
  z20:=Tryz.sizeOf20
  v20:=Tryz.zeroValue20
  t37:=Tryz.underlying33
  a37:=Tryz.isAgg33
  z37:=Tryz.sizeOf33
  v37:=Tryz.zeroValue33
  t46:=Tryz.underlying139
  a46:=Tryz.isAgg139
  z46:=Tryz.sizeOf139
  v46:=Tryz.zeroValue139
  t51:=Tryz.underlying118
  a51:=Tryz.isAgg118
  z51:=Tryz.sizeOf118
  v51:=Tryz.zeroValue118
  t53:=Tryz.underlying122
  a53:=Tryz.isAgg122
  z53:=Tryz.sizeOf122
  v53:=Tryz.zeroValue122
  t171:=Tryz.underlying160
  a171:=Tryz.isAgg160
  z171:=Tryz.sizeOf160
  v171:=Tryz.zeroValue160
  t173:=Tryz.underlying163
  a173:=Tryz.isAgg163
  z173:=Tryz.sizeOf163
  v173:=Tryz.zeroValue163
  t212:=Tryz.underlying175
  a212:=Tryz.isAgg175
  z212:=Tryz.sizeOf175
  v212:=Tryz.zeroValue175
  t213:=Tryz.underlying176
  a213:=Tryz.isAgg176
  z213:=Tryz.sizeOf176
  t232:=Tryz.underlying188
  a232:=Tryz.isAgg188
  z232:=Tryz.sizeOf188
  v232:=Tryz.zeroValue188
  t233:=Tryz.underlying189
  a233:=Tryz.isAgg189
  z233:=Tryz.sizeOf189
  v233:=Tryz.zeroValue189
  g17:=by kernel_rfl
  g18:=by kernel_rfl
  g19:=by kernel_rfl }
open Go.RowKit Go.Sort Go.Lib in
theorem Tryz.strconv_Itoa_small (i : Nat) (hi : i < 100) (w : World) :
    Calls Tryz.prog 57 #[.int .i64 i] w fun e w' => e = .returned (.string ⟨(Lib.decDigits i).toArray⟩) ∧ w' = w:=Any.strconv_Itoa_small Tryz.lays171 i hi w
def Tryz.lays219_ren : Go.Shelf.Ren:=⟨fun | 219 => 139 | 217 => 147 | 225 => 148 | 224 => 149 | 267 => 150 | 266 => 152 | 314 => 153 | n => n,fun | 9 => 9 | 3 => 3 | 4 => 4 | 5 => 5 | 46 => 139 | 146 => 190 | 51 => 118 | n => n,fun | 1 => 0 | n => n⟩
theorem Tryz.lays219 : Go.Proofs.Lays.n219 Tryz.prog Tryz.lays219_ren:={
  mixed:=by kernel_rfl
  f217:=Tryz.func147.trans (congrArg some (by kernel_rfl))
  f219:=Tryz.func139.trans (congrArg some (by kernel_rfl))
  f224:=Tryz.func149.trans (congrArg some (by kernel_rfl))
  f225:=Tryz.func148.trans (congrArg some (by kernel_rfl))
  f266:=Tryz.func152.trans (congrArg some (by kernel_rfl))
  f267:=Tryz.func150.trans (congrArg some (by kernel_rfl))
  f314:=Tryz.func153.trans (congrArg some (by kernel_rfl))
  t3:=Tryz.underlying3
  a3:=Tryz.isAgg3
  z3:=Tryz.sizeOf3
  v3:=Tryz.zeroValue3
  t4:=Tryz.underlying4
  a4:=Tryz.isAgg4
  z4:=Tryz.sizeOf4
  v4:=Tryz.zeroValue4
  t5:=Tryz.underlying5
  a5:=Tryz.isAgg5
  z5:=Tryz.sizeOf5
  v5:=Tryz.zeroValue5
  t9:=Tryz.underlying9
  a9:=Tryz.isAgg9
  z9:=Tryz.sizeOf9
  v9:=Tryz.zeroValue9
  t46:=Tryz.underlying139
  a46:=Tryz.isAgg139
  z46:=Tryz.sizeOf139
  v46:=Tryz.zeroValue139
  t51:=Tryz.underlying118
  a51:=Tryz.isAgg118
  z51:=Tryz.sizeOf118
  v51:=Tryz.zeroValue118
  t146:=Tryz.underlying190
  a146:=Tryz.isAgg190
  z146:=Tryz.sizeOf190
  v146:=Tryz.zeroValue190
  g1:=by kernel_rfl }
open Go.RowKit Go.Lib in
theorem Tryz.stringslite_Index_one (s : ByteArray) (c : UInt8) (w : World) :
    Calls Tryz.prog 139 #[.string s,.string ⟨#[c]⟩] w fun e w' => e = .returned (.int .i64 (Lib.indexByte s.data.toList c)) ∧ w' = w:=Any.stringslite_Index_one Tryz.lays219 s c w
open Go.RowKit Go.Lib in
def Tryz.laysM176_ren : Go.Shelf.Ren:=⟨fun | 176 => 90 | 249 => 114 | 288 => 126 | 283 => 122 | 284 => 123 | 285 => 124 | 286 => 125 | 129 => 135 | 317 => 134 | 318 => 136 | 319 => 137 | 320 => 138 | 337 => 145 | 338 => 146 | n => n,fun | 37 => 33 | 2 => 2 | 3 => 3 | 53 => 122 | 4 => 4 | 9 => 9 | 171 => 160 | 0 => 0 | 173 => 163 | 212 => 175 | 51 => 118 | 5 => 5 | 20 => 20 | 213 => 176 | 46 => 139 | 232 => 188 | 233 => 189 | n => n,fun | 17 => 1 | 18 => 2 | 19 => 3 | n => n⟩
theorem Tryz.laysM176 : Go.Proofs.LaysM.n176 Tryz.prog Tryz.laysM176_ren:={
  mixed:=by kernel_rfl
  f129:=Tryz.func135.trans (congrArg some (by kernel_rfl))
  f176:=Tryz.func90.trans (congrArg some (by kernel_rfl))
  f249:=Tryz.func114.trans (congrArg some (by kernel_rfl))
  f283:=Tryz.func122.trans (congrArg some (by kernel_rfl))
  f284:=Tryz.func123.trans (congrArg some (by kernel_rfl))
  f285:=Tryz.func124.trans (congrArg some (by kernel_rfl))
  f286:=Tryz.func125.trans (congrArg some (by kernel_rfl))
  f288:=Tryz.func126.trans (congrArg some (by kernel_rfl))
  f317:=Tryz.func134.trans (congrArg some (by kernel_rfl))
  f318:=Tryz.func136.trans (congrArg some (by kernel_rfl))
  f319:=Tryz.func137.trans (congrArg some (by kernel_rfl))
  f320:=Tryz.func138.trans (congrArg some (by kernel_rfl))
  f337:=Tryz.func145.trans (congrArg some (by kernel_rfl))
  f338:=Tryz.func146.trans (congrArg some (by kernel_rfl))
  t0:=Tryz.underlying0
  a0:=Tryz.isAgg0
  z0:=Tryz.sizeOf0
  v0:=Tryz.zeroValue0
  t2:=Tryz.underlying2
  a2:=Tryz.isAgg2
  z2:=Tryz.sizeOf2
  v2:=Tryz.zeroValue2
  t3:=Tryz.underlying3
  a3:=Tryz.isAgg3
  z3:=Tryz.sizeOf3
  v3:=Tryz.zeroValue3
  t4:=Tryz.underlying4
  a4:=Tryz.isAgg4
  z4:=Tryz.sizeOf4
  v4:=Tryz.zeroValue4
  t5:=Tryz.underlying5
  a5:=Tryz.isAgg5
  z5:=Tryz.sizeOf5
  v5:=Tryz.zeroValue5
  t9:=Tryz.underlying9
  a9:=Tryz.isAgg9
  z9:=Tryz.sizeOf9
  v9:=Tryz.zeroValue9
  t20:=Tryz.underlying20
  a20:=Tryz.isAgg20
  z20:=Tryz.sizeOf20
  v20:=Tryz.zeroValue20
  t37:=Tryz.underlying33
  a37:=Tryz.isAgg33
  z37:=Tryz.sizeOf33
  v37:=Tryz.zeroValue33
  t46:=Tryz.underlying139
  a46:=Tryz.isAgg139
  z46:=Tryz.sizeOf139
  v46:=Tryz.zeroValue139
  t51:=Tryz.underlying118
  a51:=Tryz.isAgg118
  z51:=Tryz.sizeOf118
  v51:=Tryz.zeroValue118
  t53:=Tryz.underlying122
  a53:=Tryz.isAgg122
  z53:=Tryz.sizeOf122
  v53:=Tryz.zeroValue122
  t171:=Tryz.underlying160
  a171:=Tryz.isAgg160
  z171:=Tryz.sizeOf160
  v171:=Tryz.zeroValue160
  t173:=Tryz.underlying163
  a173:=Tryz.isAgg163
  z173:=Tryz.sizeOf163
  v173:=Tryz.zeroValue163
  t212:=Tryz.underlying175
  a212:=Tryz.isAgg175
  z212:=Tryz.sizeOf175
  v212:=Tryz.zeroValue175
  t213:=Tryz.underlying176
  a213:=Tryz.isAgg176
  z213:=Tryz.sizeOf176
  t232:=Tryz.underlying188
  a232:=Tryz.isAgg188
  z232:=Tryz.sizeOf188
  v232:=Tryz.zeroValue188
  t233:=Tryz.underlying189
  a233:=Tryz.isAgg189
  z233:=Tryz.sizeOf189
  v233:=Tryz.zeroValue189
  g17:=by kernel_rfl
  g18:=by kernel_rfl
  g19:=by kernel_rfl
  i0:=by kernel_rfl
  i2:=by kernel_rfl
  i3:=by kernel_rfl
  i4:=by kernel_rfl
  i5:=by kernel_rfl
  i9:=by kernel_rfl
  i20:=by kernel_rfl
  i37:=by kernel_rfl
  i46:=by kernel_rfl
  i51:=by kernel_rfl
  i53:=by kernel_rfl
  i171:=by kernel_rfl
  i173:=by kernel_rfl
  i212:=by kernel_rfl
  i232:=by kernel_rfl
  i233:=by kernel_rfl
  m17:=by kernel_rfl
  m18:=by kernel_rfl
  m19:=by kernel_rfl }
open Go.RowKit Go.Sort Go.Lib in
theorem Tryz.strconv_AppendInt_10 (B n : Nat) (i : Int) (h0 : -9223372036854775808 ≤ i) (h1 : i ≤ 9223372036854775807) (sv : Value) (xs : List Value) (w : World) (hown : w.ownsRow B 5 1 sv n xs) (hBw : B ≤ w.heap.size) (hlim : n + 21 ≤ 140737488355328) (htab : Lib.TabBelow Tryz.prog B w "internal/strconv.uint64pow10" .u64 Lib.pow10Tab) :
    Calls Tryz.prog 90 #[sv,.int .i64 i,.int .i64 10] w fun e w' => ∃ v',e = .returned v' ∧ w'.ownsRow B 5 1 v' (n + (Lib.itoa i).length) (xs ++ Lib.byteCells (Lib.itoa i)) ∧ Below B w w' ∧ Lib.OthersKept 5 none w w':=Any.strconv_AppendInt_10 Tryz.laysM176 B n i h0 h1 sv xs w hown hBw hlim htab
end Go.Proofs
namespace Go.Proofs.YtbkfhndmeljlcaaGreatDoor
open Go.RowKit
structure Mm (w : World) (p gC gD : Nat) (L : List UInt8) (X : List Value) (V : List Bool) (Y : List Value) (most : Nat) : Prop where
  rec_ : zb_ w p 95 [.slice (some ⟨gC,0,none⟩) L.length (L.length + X.length),.int .i64 (most : Int),.slice (some ⟨gD,0,none⟩) V.length (V.length + Y.length)]
  cel : zb_ w gC 5 (bts L ++ X)
  dir : zb_ w gD 4 (bls V ++ Y)
  len : L.length = 64 * V.length
  le : V.length ≤ most
  top : most ≤ 64
  capX : L.length + X.length ≤ maxLen
  capY : V.length + Y.length ≤ maxLen
section
variable {w w' : World} {p gC gD : Nat} {L : List UInt8} {X : List Value} {V : List Bool} {Y : List Value} {most : Nat}
theorem Mm.keep (h : Mm w p gC gD L X V Y most) (hc : Chg [] w w') : Mm w' p gC gD L X V Y most :=
 ⟨h.rec_.keep hc,h.cel.keep hc,h.dir.keep hc,h.len,h.le,h.top,h.capX,h.capY⟩
theorem Mm.away {T : List Nat} (h : Mm w p gC gD L X V Y most) (hc : Chg T w w') (h0 : p ∉ T) (h1 : gC ∉ T) (h2 : gD ∉ T) : Mm w' p gC gD L X V Y most :=
 ⟨h.rec_.chg hc h0,h.cel.chg hc h1,h.dir.chg hc h2,h.len,h.le,h.top,h.capX,h.capY⟩
theorem Mm.small (h : Mm w p gC gD L X V Y most) : L.length ≤ 4096:=by have:=h.len; have:=h.le; have:=h.top; omega
theorem Mm.src (h : Mm w p gC gD L X V Y most) : Src w (some ⟨gC,0,none⟩) (bts L):=by
 have:=Src.of_whole h.cel 0 (bts L).length
 rwa [List.drop_zero,List.take_left' rfl] at this
theorem zbu (h : Mm w p gC gD L X V Y most) : Calls Tryz.prog 43 #[.pointer (some ⟨p,0,none⟩)] w fun e w' => e = .returned (.int .i64 (most : Int)) ∧ w = w':=by
 have c1:=h.rec_.cell 1
 go_enter Tryz.func43,Tryz.ntmps43
 go_wp2_with fail
 go_ret
 exact ⟨rfl,rfl⟩
end
end Go.Proofs.YtbkfhndmeljlcaaGreatDoor
namespace Go.Proofs.YtbkfhndmeljlcaaGreatDoor
open Go.RowKit
def vy_ (w : World) (l : List UInt8) (k most : Nat) (e : Ending) (w' : World) : Prop :=
 ∃ p gC gD,e = .returned (.pointer (some ⟨p,0,none⟩)) ∧ Mm w' p gC gD l [] (yg_ k) [] most ∧ w.heap.size ≤ p ∧ w.heap.size ≤ gC ∧ w.heap.size ≤ gD ∧ Chg [] w w'
section
variable {w : World}
theorem vy_.drew {l : List UInt8} {k most : Nat} {e : Ending} {w' : World} (h : vy_ w l k most e w') : vy_ w l k most e w'.drew:=by
 obtain ⟨p,gC,gD,he,hM,h1,h2,h3,hc⟩:=h
 exact ⟨p,gC,gD,he,hM.keep (Chg.refl [] w').drew,h1,h2,h3,hc.drew⟩
theorem zbr {W : World} {q gC gD k most n : Nat} {l : List UInt8} (hq : q = W.heap.size) (hC : zb_ W gC 5 (bts l)) (hD : zb_ W gD 4 (bls (yg_ k))) (hn : l.length = n) (hl : n = 64 * k) (h1 : k ≤ most) (h2 : most ≤ 64)
    (hc : Chg [] w W) (b1 : w.heap.size ≤ gC) (b2 : w.heap.size ≤ gD) :
    vy_ w l k most (.returned (.pointer (some ⟨q,0,none⟩))) (W.alloc (.cells #[.slice (some ⟨gC,0,none⟩) n n,.int .i64 (most : Int),.slice (some ⟨gD,0,none⟩) k k] 95)):=by
 subst hq hn
 have hk : ∀ o,Chg [] W (W.alloc o):=fun o => (Chg.refl [] W).alloc o
 refine ⟨W.heap.size,gC,gD,rfl,⟨?_,by simpa using hC.keep (hk _),by simpa using hD.keep (hk _),by rw [vh_]; exact hl,by rw [vh_]; exact h1,h2,by unfold maxLen; simp; omega,by unfold maxLen; simp [vh_]; omega⟩,hc.size,b1,b2,hc.alloc _⟩
 have:=zb_.new W 95 [.slice (some ⟨gC,0,none⟩) l.length l.length,.int .i64 (most : Int),.slice (some ⟨gD,0,none⟩) k k]
 simpa [vh_] using this
theorem cnew_no (k most : Int) (h : k < 0 ∨ most < k ∨ 64 < most) :
    Calls Tryz.prog 74 #[.int .i64 k,.int .i64 most] w fun e w' => e = .returned (.pointer none) ∧ w = w':=by
 by_cases h1 : k < 0
 · have hd : decide (k < 0) = true:=by simpa using h1
   clear h
   go_enter Tryz.func74,Tryz.ntmps74
   go_wp2_with fail
   go_ret
   exact ⟨rfl,rfl⟩
 · have hd1 : decide (k < 0) = false:=by simpa using h1
   by_cases h2 : most < k
   · have hd : decide (most < k) = true:=by simpa using h2
     clear h
     go_enter Tryz.func74,Tryz.ntmps74
     go_wp2_with fail
     go_ret
     exact ⟨rfl,rfl⟩
   · have hd2 : decide (most < k) = false:=by simpa using h2
     have hd3 : decide (64 < most) = true:=by simp; omega
     clear h
     go_enter Tryz.func74,Tryz.ntmps74
     go_wp2_with fail
     go_ret
     exact ⟨rfl,rfl⟩
theorem zdr (k most : Nat) (h1 : k ≤ most) (h2 : most ≤ 64) :
    Calls Tryz.prog 74 #[.int .i64 (k : Int),.int .i64 (most : Int)] w (vy_ w (zt_ (k * 64)) k most):=by
 have hd2 : decide ((most : Int) < (k : Int)) = false:=by simp; omega
 have hd3 : decide (64 < (most : Int)) = false:=by simp; omega
 have hmk : ∀ W : World,(Instr.makeSlice 33 (.int .i64 ((k : Int) * 64)) (.int .i64 ((k : Int) * 64))).run Tryz.prog W = .ok (.slice (some ⟨W.heap.size,0,none⟩) (k * 64) (k * 64)) (W.alloc (.cells (bts (zt_ (k * 64))).toArray 5)) :=
  fun W => by
   have:=zbz (k * 64) (by omega) W
   simpa using this
 have hmb : ∀ W : World,(Instr.makeSlice 78 (.int .i64 (k : Int)) (.int .i64 (k : Int))).run Tryz.prog W = .ok (.slice (some ⟨W.heap.size,0,none⟩) k k) (W.alloc (.cells (bls (yg_ k)).toArray 4)) :=
  fun W => jM_ k (by omega) W
 have hz : (zt_ (k * 64)).length = k * 64:=zI_ _
 have HZ:=hQ_ hz
 clear hz
 have hw : IntKind.i64.wrap ((k : Int) * 64) = (k : Int) * 64:=IntWalk.i64_in _ (by omega)
 go_enter Tryz.func74,Tryz.ntmps74
 go_wp2_with fail
 go_region_with fail
 all_goals
   go_wp2_with fail
   go_ret
 · have hA:=zb_.new w 5 (bts (zt_ (k * 64)))
   have hB:=zb_.new (w.alloc (.cells (bts (zt_ (k * 64))).toArray 5)) 4 (bls (yg_ k))
   rw [show (w.alloc (.cells (bts (zt_ (k * 64))).toArray 5)).heap.size = w.heap.size + 1 by simp] at hB
   exact (zbr (W:=(w.alloc (.cells (bts (zt_ (k * 64))).toArray 5)).alloc (.cells (bls (yg_ k)).toArray 4)) (by simp) (hA.keep ((Chg.refl [] _).alloc _)) hB HZ.out (by omega) h1 h2 (((Chg.refl [] w).alloc _).alloc _) (Nat.le_refl _) (by omega)).drew
 · have hA:=zb_.new w 4 (bls (yg_ k))
   have hB:=zb_.new (w.alloc (.cells (bls (yg_ k)).toArray 4)) 5 (bts (zt_ (k * 64)))
   rw [show (w.alloc (.cells (bls (yg_ k)).toArray 4)).heap.size = w.heap.size + 1 by simp] at hB
   exact (zbr (W:=(w.alloc (.cells (bls (yg_ k)).toArray 4)).alloc (.cells (bts (zt_ (k * 64))).toArray 5)) (by simp) hB (hA.keep ((Chg.refl [] _).alloc _)) HZ.out (by omega) h1 h2 (((Chg.refl [] w).alloc _).alloc _) (by omega) (Nat.le_refl _)).drew
variable {A : Option Addr} {n c : Nat} {l : List UInt8}
theorem zbn {w1 w2 : World} {p gC gD k most : Nat} {z : List UInt8} (hM : Mm w1 p gC gD z [] (yg_ k) [] most) (hz : z.length = l.length) (hc1 : Chg [] w w1) (b0 : w.heap.size ≤ p) (b1 : w.heap.size ≤ gC) (b2 : w.heap.size ≤ gD)
    (HG : zb_ w2 gC 5 (splice (bts z) 0 (bts l))) (HC : Chg [gC] w1 w2) : vy_ w l k most (.returned (.pointer (some ⟨p,0,none⟩))) w2:=by
      have d0:=hM.rec_.ne_ hM.cel (by decide)
      have d1:=hM.dir.ne_ hM.cel (by decide)
      rw [gP_ _ _ (by rw [zx_,zx_,hz])] at HG
      have hr:=hM.rec_.chg HC (by simpa using d0)
      have hd:=hM.dir.chg HC (by simpa using d1)
      have h1:=hM.len
      have h2:=hM.capX
      rw [hz] at hr h1 h2
      refine ⟨p,gC,gD,rfl,⟨hr,by simpa using HG,hd,h1,hM.le,hM.top,h2,hM.capY⟩,b0,b1,b2,?_⟩
      exact hc1.then_ HC fun i hi hlt => by
       simp only [List.mem_cons,List.not_mem_nil,or_false] at hi
       omega
theorem zeM (hl : l.length = n) (hs : Src w A (bts l)) (most : Nat) (h1 : n % 64 = 0) (h2 : n / 64 ≤ most) (h3 : most ≤ 64) :
    Calls Tryz.prog 48 #[.slice A n c,.int .i64 (most : Int)] w (vy_ w l (n / 64) most):=by
 have hd : ((n : Int) % 64 != 0) = false:=by simp; omega
 have hq : ((n : Int) / 64) = ((n / 64 : Nat) : Int):=by omega
 have HL:=hQ_ hl
 have HQ:=hQ_ hq
 have H1:=hQ_ h1
 have hb:=x4_ l
 clear hl hq h1
 go_enter Tryz.func48,Tryz.ntmps48
 go_wp2_with (first
  | (go_at_call 74
     rw [HQ.out]
     refine (zdr (n / 64) most h2 h3).mono ?_
     rintro e w1 ⟨p,gC,gD,rfl,hM,b0,b1,b2,hc1⟩
     have hz : (zt_ (n / 64 * 64)).length = n:=by rw [zI_]; have:=H1.out; omega
     have hsr:=hs.keep hc1
     have c0:=hM.rec_.cell 0
     have hcel:=hM.cel
     rw [List.append_nil] at hcel
     have Hn:=hQ_ (show (bts l).length = Nat.min n n by rw [zx_,HL.out]; exact (Nat.min_self n).symm)
     have Hf : 0 + (bts l).length ≤ (bts (zt_ (n / 64 * 64))).length:=by rw [zx_,zx_,hz,HL.out]; omega
     have HM:=hQ_ hM
     have HZ:=hQ_ hz
     simp only [List.length_nil,Nat.add_zero,hz] at c0
     obtain ⟨Y,hY⟩ : ∃ Y,Y = bts l:=⟨_,rfl⟩
     have HY:=hQ_ hY
     rw [← hY] at hb hsr Hn Hf
     clear hY hM hz)
  | (with_reducible refine uH_ rfl (.tmp 20) (.tmp 21) _ _ rfl 5 Tryz.underlying33 zaK (some ⟨gC,0,none⟩) A n n n c rfl rfl gC 0 5 (bts (zt_ (n / 64 * 64))) Y hcel Hn.out (fun _ => rfl) hsr Hf hb ?_
     intro w2 HG HC))
 go_ret
 rw [HY.out] at HG
 exact zbn HM.out (by rw [HZ.out,HL.out]) hc1 b0 b1 b2 HG HC
end
end Go.Proofs.YtbkfhndmeljlcaaGreatDoor
namespace Go.Proofs.YtbkfhndmeljlcaaGreatDoor
open Go.RowKit
theorem yC_ (z : Value) (n : Nat) : Builtin.zeroCells #[z] n = (List.replicate n z).toArray:=by
 apply Array.ext
 · simp [Builtin.zeroCells]
 · intro i h1 h2
   simp [Builtin.zeroCells,Nat.mod_one]
theorem xS_ {P : Program} (w : World) (base : Nat) (t tn ty e : TypeId) (i : TypeInfo) (z : Value) (bytes : Nat) (kn : IntKind) (ht : P.underlying t = some (.slice e)) (htn : P.underlying tn = some (.int kn)) (hi : P.info? e = some i) (hz : i.zero = some z)
    (hsize : i.size = 1) (hby : i.bytes = bytes) (hzc : z.cells = #[z]) (hz1 : z.oneCell' = true)
    (g n cap : Nat) (xs : List Value) (hown : w.ownsRow base e 1 (.slice (some ⟨g,0,none⟩) n cap) n xs)
    (k : Nat) (h63 : n + k ≤ maxLen) (hbytes : (n + k) * bytes ≤ 140737488355328) (hbase : base ≤ w.heap.size) :
    ∃ g' cap' w',(Builtin.append_ #[t,tn] ty #[.slice (some ⟨g,0,none⟩) n cap,.int .i64 (k : Int)]).run P w = .ok (.slice (some ⟨g',0,none⟩) (n + k) cap') w' ∧
      w'.ownsRow base e 1 (.slice (some ⟨g',0,none⟩) (n + k) cap') (n + k) (xs ++ List.replicate k z) ∧ w.grownBy w' (some g) ∧ (g' = g ∨ g' = w.heap.size):=by
 have hsmall : n + k ≤ 9223372036854775807:=by simpa only [maxLen] using h63
 have hw : IntKind.i64.wrap (k : Int) = k:=by rw [IntKind.wrap_i64]; omega
 have hneg : ¬ ((k : Int) < 0):=by omega
 have h48 : k * bytes ≤ 281474976710656:=by have : k * bytes ≤ (n + k) * bytes:=Nat.mul_le_mul_right _ (by omega); omega
 have h48i : ¬ (281474976710656 < (k : Int) * (i.bytes : Int)):=by rw [hby,← Int.natCast_mul]; omega
 have hlx:=hown.1
 rcases hown.2 with ⟨h,_⟩ | ⟨g',cap',cur,h,hbg,hg,hnc,hcm,hcs,htake⟩
 · simp at h
 · simp only [Value.slice.injEq,Option.some.injEq,Addr.mk.injEq,and_true,true_and] at h
   obtain ⟨rfl,rfl⟩:=h
   rw [Nat.mul_one] at hcs htake hlx
   by_cases hk0 : k = 0
   · subst hk0
     refine ⟨g,cap,w,?_,by simpa using hown,World.grownBy.refl w _,.inl rfl⟩
     have hw0 : IntKind.i64.wrap 0 = 0:=by decide
     simp [Builtin.append_,run_underlying ht,run_underlying htn,sizeOf,typeInfo,hi,asInt,asIntOf,storeCells,hnc,hw0]
   · have hns : ¬ (k * i.size = 0):=by rw [hsize]; omega
     by_cases hroom : n + k ≤ cap
     · have hfit : n + (List.replicate k z).length ≤ cur.size:=by rw [List.length_replicate]; omega
       have hst:=run_storeCells_at P g n e (List.replicate k z) 0 cur w hg (by simpa using hfit) (fun u hu => by rw [(List.mem_replicate.1 hu).2]; exact hz1)
       simp only [Nat.add_zero] at hst
       rw [List.length_replicate] at hst
       have hr : (Builtin.append_ #[t,tn] ty #[.slice (some ⟨g,0,none⟩) n cap,.int .i64 (k : Int)]).run P w = .ok (.slice (some ⟨g,0,none⟩) (n + k) cap) (w.setRow g (cur.toList.take n ++ List.replicate k z ++ cur.toList.drop (n + k)).toArray):=by
        simp [Builtin.append_,run_underlying ht,run_underlying htn,sizeOf,typeInfo,zeroValue,hi,hz,asInt,asIntOf,hw,hneg,h48i,hk0,hroom,hsize,hzc,yC_,Addr.add_lit,hst]
       refine ⟨_,_,_,hr,⟨by simp [hlx],.inr ⟨g,cap,_,rfl,hbg,setRow_heap w g cur _ e _ hg,hroom,hcm,?_,?_⟩⟩,⟨rfl,rfl,rfl,by simp,fun j _ hj => setRow_other w g j _ (fun e => hj (by simp [e]))⟩,.inl rfl⟩
       · simp only [List.size_toArray,List.length_append,List.length_take,List.length_drop,Array.length_toList,List.length_replicate]
         omega
       · rw [htake,Nat.mul_one]
         have e1 : (xs ++ List.replicate k z).length = n + k:=by rw [List.length_append,List.length_replicate,hlx]
         rw [← e1]
         exact List.take_left
     · have hf:=run_firstCells_some (P:=P) w.drew i.size n ⟨g,0,none⟩ n cap xs (by rw [hsize,Nat.mul_one]; exact hlx) (fun j u hj => hown.cells (g:=g) rfl j u hj)
       have hr:=Lib.run_append_grow_zeros (P:=P) w t tn ty e i z .i64 kn ht htn hi hz (some ⟨g,0,none⟩) n cap xs hf k (by omega) (by omega) (by omega) (by omega) (by rw [hby]; exact h48) (by rw [hby]; exact growslice_fits (by omega) hbytes)
       rw [hzc,yC_,yC_] at hr
       have hge:=grownCap_ge w (n + k) cap e
       have hcm2 : grownCap w (n + k) cap e ≤ maxLen:=grownCap_le_maxLen w (n + k) cap e h63
       refine ⟨_,_,_,hr,⟨by simp [hlx],.inr ⟨w.heap.size,_,_,rfl,hbase,heap_alloc_new w.drew _,hge,hcm2,?_,?_⟩⟩,⟨rfl,rfl,rfl,by simp,fun j hj _ => Below.heap_alloc w.drew _ j hj⟩,.inr rfl⟩
       · simp only [Array.size_append,List.size_toArray,List.length_replicate,hlx]
         omega
       · simp only [Array.toList_append,Nat.mul_one]
         have e1 : (xs ++ List.replicate k z).length = n + k:=by rw [List.length_append,List.length_replicate,hlx]
         rw [← e1]
         exact List.take_left
end Go.Proofs.YtbkfhndmeljlcaaGreatDoor
