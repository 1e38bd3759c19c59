import Derived.WalkSpells
import Derived.WalkLawsBesides
import Derived.Laws.CopyOwn
import Derived.Lib.SlBytesRow
import Derived.Test.YtbkfhndmeljlcaaGreatDoorChecked
import Derived.BigQuiet
import Derived.Shelf.Utf8.AppendRune
import Derived.Shelf.Utf8.AppendRunePlain
import Derived.Shelf.Strconv.Itoa3
import Derived.Shelf.Strings.Search2
import Derived.Shelf.Strconv.AppendIntPublic10
import Derived.Lib.AppendZerosOnto
import Derived.Lib.SlBytesConst
set_option maxRecDepth 100000
set_option maxHeartbeats 16000000
namespace Go.Proofs.YtbkfhndmeljlcaaGreatDoor
theorem hQ_ {p : Prop} (h : p) : Go.RowKit.Hid p:=h
open Go.RowKit
structure Chg (T : List Nat) (w w' : World) : Prop where
  os : w'.os = w.os
  tape : w'.tape = w.tape
  output : w'.output = w.output
  size : w.heap.size ≤ w'.heap.size
  block : ∀ k,k < w.heap.size → k ∉ T → w'.heap[k]? = w.heap[k]?
theorem Chg.refl (T : List Nat) (w : World) : Chg T w w:=⟨rfl,rfl,rfl,Nat.le_refl _,fun _ _ _ => rfl⟩
theorem Chg.then_ {T T' : List Nat} {a b c : World} (h : Chg T a b) (k : Chg T' b c) (hs : ∀ i,i ∈ T' → i < a.heap.size → i ∈ T) : Chg T a c :=
 ⟨k.os.trans h.os,k.tape.trans h.tape,k.output.trans h.output,Nat.le_trans h.size k.size,fun i hi hn =>
  (k.block i (Nat.lt_of_lt_of_le hi h.size) (fun hm => hn (hs i hm hi))).trans (h.block i hi hn)⟩
theorem Chg.trans {T : List Nat} {a b c : World} (h : Chg T a b) (k : Chg T b c) : Chg T a c:=h.then_ k fun _ h _ => h
theorem Chg.new {T : List Nat} {a b c : World} (h : Chg T a b) (k : Chg [] b c) : Chg T a c:=h.then_ k fun _ h _ => by cases h
theorem Chg.sub {T T' : List Nat} {a b : World} (h : Chg T a b) (hs : ∀ i,i ∈ T → i ∈ T') : Chg T' a b:=⟨h.os,h.tape,h.output,h.size,fun i hi hn => h.block i hi fun hm => hn (hs i hm)⟩
theorem Chg.alloc {T : List Nat} {a w : World} (h : Chg T a w) (o : Obj) : Chg T a (w.alloc o) :=
 h.new ⟨rfl,rfl,rfl,by simp,fun k hk _ => Below.heap_alloc w o k hk⟩
theorem Chg.drew {T : List Nat} {a w : World} (h : Chg T a w) : Chg T a w.drew:=⟨h.os,h.tape,h.output,h.size,h.block⟩
theorem Chg.drewN {T : List Nat} {a w : World} (h : Chg T a w) (n : Nat) : Chg T a (w.drewN n):=⟨h.os,h.tape,h.output,h.size,h.block⟩
theorem Chg.setCell {T : List Nat} {a w : World} (h : Chg T a w) {p : Addr} (hp : p.block < a.heap.size → p.block ∈ T) (u : Value) : Chg T a (w.setCell p u) :=
 h.then_ (T':=[p.block]) ⟨rfl,rfl,rfl,by simp [World.setCell],fun k _ hn => Below.heap_setCell w p u k (by simpa using hn)⟩ fun i hi hlt => by
  simp only [List.mem_cons,List.not_mem_nil,or_false] at hi
  subst hi
  exact hp hlt
theorem Chg.setRow {T : List Nat} {a w : World} (h : Chg T a w) {g : Nat} (hp : g < a.heap.size → g ∈ T) (cs : Array Value) : Chg T a (w.setRow g cs) :=
 h.then_ (T':=[g]) ⟨rfl,rfl,rfl,by simp,fun k _ hn => setRow_other w g k cs (by simpa using hn)⟩ fun i hi hlt => by
  simp only [List.mem_cons,List.not_mem_nil,or_false] at hi
  subst hi
  exact hp hlt
theorem Chg.of_below {a w : World} (h : Below a.heap.size a w) : Chg [] a w:=⟨h.os,h.tape,h.output,h.size,fun k hk _ => h.block k hk⟩
theorem Chg.of_grown {a w : World} {row : Option Nat} {T : List Nat} (h : a.grownBy w row) (hr : ∀ g,row = some g → g < a.heap.size → g ∈ T) : Chg T a w :=
 ⟨h.os,h.tape,h.output,h.size,fun k hk hn => h.block k hk fun e => hn (hr k e.symm hk)⟩
theorem Chg.below {T : List Nat} {a w : World} (h : Chg T a w) {B : Nat} (hB : B ≤ a.heap.size) (hT : ∀ i,i ∈ T → B ≤ i) : Below B a w :=
 ⟨h.os,h.tape,h.output,h.size,fun k hk => h.block k (by omega) fun hm => by have:=hT k hm; omega⟩
theorem Chg.below0 {a w : World} (h : Chg [] a w) : Below a.heap.size a w:=h.below (Nat.le_refl _) (by simp)
def zb_ (w : World) (g t : Nat) (cs : List Value) : Prop:=w.heap[g]? = some (.cells cs.toArray t (0,0))
section
variable {w w' : World} {g t : Nat} {cs : List Value}
theorem zb_.lt (h : zb_ w g t cs) : g < w.heap.size:=by
 rcases Nat.lt_or_ge g w.heap.size with hlt | hge
 · exact hlt
 · unfold zb_ at h; rw [Array.getElem?_eq_none hge] at h; cases h
theorem zb_.cell (h : zb_ w g t cs) (i : Nat) : w.cell? ⟨g,i,none⟩ = cs[i]?:=by
 have:=cell_of_row w g i cs.toArray t (0,0) h
 simpa using this
theorem zb_.frozen (h : zb_ w g t cs) (i : Nat) : w.frozen? ⟨g,i,none⟩ = false:=frozen_of_row w g i cs.toArray t h
theorem zb_.chg {T : List Nat} (h : zb_ w g t cs) (hc : Chg T w w') (hg : g ∉ T) : zb_ w' g t cs:=(hc.block g h.lt hg).trans h
theorem zb_.keep (h : zb_ w g t cs) (hc : Chg [] w w') : zb_ w' g t cs:=h.chg hc (by simp)
theorem zb_.drew (h : zb_ w g t cs) : zb_ w.drew g t cs:=h
theorem zb_.drewN (h : zb_ w g t cs) (n : Nat) : zb_ (w.drewN n) g t cs:=h
theorem zb_.set_ (h : zb_ w g t cs) (i : Nat) (u : Value) : zb_ (w.setCell ⟨g,i,none⟩ u) g t (cs.set i u):=by
 have:=heap_setCell_same w g i cs.toArray t u h
 unfold zb_
 rw [this]
 simp
theorem zb_.far (h : zb_ w g t cs) {p : Addr} (hp : g ≠ p.block) (u : Value) : zb_ (w.setCell p u) g t cs:=(Below.heap_setCell w p u g hp).trans h
theorem zb_.new (w : World) (t : Nat) (cs : List Value) : zb_ (w.alloc (.cells cs.toArray t)) w.heap.size t cs:=heap_alloc_new w _
theorem zb_.ne_ {g' t' : Nat} {cs' : List Value} (h : zb_ w g t cs) (h' : zb_ w g' t' cs') (hne : t ≠ t') : g ≠ g':=by
 rintro rfl
 unfold zb_ at h h'
 rw [h] at h'
 injection h' with h'
 injection h' with _ ht
 exact hne ht
end
theorem zj_ (g o j : Nat) : (⟨g,o,none⟩ : Addr).add j = ⟨g,o + j,none⟩:=by unfold Addr.add; split <;> simp_all
def Src (w : World) (A : Option Addr) (xs : List Value) : Prop:=0 < xs.length → ∃ ad,A = some ad ∧ ad.block < w.heap.size ∧ ∀ j v,xs[j]? = some v → w.cell? (ad.add j) = some v
theorem Src.nil (w : World) (A : Option Addr) : Src w A []:=fun h => absurd h (by simp)
theorem Src.drew {w : World} {A : Option Addr} {xs : List Value} (h : Src w A xs) : Src w.drew A xs:=h
theorem Src.drewN {w : World} {A : Option Addr} {xs : List Value} (h : Src w A xs) (n : Nat) : Src (w.drewN n) A xs:=h
theorem Src.of_whole {w : World} {g t : Nat} {cs : List Value} (h : zb_ w g t cs) (o n : Nat) : Src w (some ⟨g,o,none⟩) ((cs.drop o).take n):=fun _ =>
 ⟨_,rfl,h.lt,fun j v hj => by
  rw [zj_,h.cell]
  rw [List.getElem?_take] at hj
  split at hj
  · rwa [List.getElem?_drop] at hj
  · cases hj⟩
theorem Src.of_all {w : World} {g t : Nat} {cs : List Value} (h : zb_ w g t cs) : Src w (some ⟨g,0,none⟩) cs:=by
 have:=Src.of_whole h 0 cs.length
 simpa using this
theorem Src.keep {w w' : World} {A : Option Addr} {xs : List Value} (h : Src w A xs) (hc : Chg [] w w') : Src w' A xs:=fun hp => by
 obtain ⟨ad,e,hb,hx⟩:=h hp
 refine ⟨ad,e,Nat.lt_of_lt_of_le hb hc.size,fun j v hj => ?_⟩
 have:=hx j v hj
 rw [← this]
 refine World.cell?_of_block (w:=w) (hc.block _ ?_ (by simp))
 have e2 : (ad.add j).block = ad.block:=by unfold Addr.add; split <;> rfl
 rw [e2]; exact hb
def B8 (c : UInt8) : Value:=.int .u8 (c.toNat : Int)
def bts (l : List UInt8) : List Value:=l.map B8
def bls (l : List Bool) : List Value:=l.map Value.bool
def nms (l : List Int) : List Value:=l.map (Value.int .i64)
theorem x8_ (l : List UInt8) : ∀ v ∈ bts l,v.oneCell' = true:=by
 intro v hv
 simp only [bts,List.mem_map] at hv
 obtain ⟨c,_,rfl⟩:=hv
 rfl
theorem zA_ (l : List UInt8) : (bts l).length = l.length:=by simp [bts]
theorem vA_ (l : List UInt8) (i : Nat) (h : i < l.length) : (bts l)[i]? = some (B8 l[i]):=by simp [bts,h]
theorem zfn (l : List UInt8) (i : Nat) (c : UInt8) : (bts l).set i (B8 c) = bts (l.set i c):=by simp [bts]
def zt_ (n : Nat) : List UInt8:=List.replicate n 0
def yk_ (n : Nat) : List Bool:=List.replicate n false
theorem zI_ (n : Nat) : (zt_ n).length = n:=by simp [zt_]
theorem vj_ (n : Nat) : (yk_ n).length = n:=by simp [yk_]
theorem xj_ (n : Nat) : bts (zt_ n) = List.replicate n (.int .u8 0):=by simp [bts,zt_,B8]
theorem zaE (n : Nat) : bls (yk_ n) = List.replicate n (.bool false):=by simp [bls,yk_]
theorem gc_ (z : Value) (n : Nat) : madeCells #[z] n = (List.replicate n z).toArray:=by
 apply Array.ext
 · simp [madeCells]
 · intro i h1 h2
   simp [madeCells,Nat.mod_one]
theorem g4_ {α : Type} (L cs : List α) (h : cs.length = L.length) : splice L 0 cs = cs:=by
 simp [splice,h]
theorem u2_ {P : Program} (t e : TypeId) (i : TypeInfo) (z : Value) (hz1 : z.cells = #[z]) (ht : P.underlying t = some (.slice e)) (hi : P.info? e = some i) (hz : i.zero = some z) (hs : i.size = 1)
    (n : Nat) (hb : i.bytes * n ≤ 281474976710656) (h63 : n ≤ 9223372036854775807) (w : World) :
    (Instr.makeSlice t (.int .i64 (n : Int)) (.int .i64 (n : Int))).run P w = .ok (.slice (some ⟨w.heap.size,0,none⟩) n n) (w.alloc (.cells (List.replicate n z).toArray e)):=by
      have hb' : (i.bytes : Int) * (n : Int) ≤ 281474976710656:=by
       have h : ((i.bytes * n : Nat) : Int) ≤ 281474976710656:=by omega
       rwa [Int.natCast_mul] at h
      have h:=run_make (P:=P) w t e i z ht hi hz .i64 .i64 (n : Int) (n : Int) (by omega) (Int.le_refl _) hb' (by omega)
      rw [h,hs,hz1,gc_]
      simp
theorem jH_ {P : Program} {w : World} {g off t : Nat} {cur cs : List Value} (dT sT ty elem : TypeId) (hu : P.underlying dT = some (.slice elem)) (hsz : (P.info? elem).map (·.size) = some 1)
    (dp sp : Option Addr) (dLen dCap sLen sCap : Nat) (hg : zb_ w g t cur) (hn : cs.length = Nat.min sLen dLen) (hd : 0 < cs.length → dp = some ⟨g,off,none⟩) (hs : Src w sp cs)
    (hfit : off + cs.length ≤ cur.length) (h1 : ∀ v ∈ cs,v.oneCell' = true) :
    ∃ w',(Builtin.copy_ #[dT,sT] ty #[.slice dp dLen dCap,.slice sp sLen sCap]).run P w = .ok (goInt cs.length) w' ∧ zb_ w' g t (splice cur off cs) ∧ Chg [g] w w':=by
 rcases Nat.eq_zero_or_pos cs.length with h0 | h0
 · obtain rfl : cs = []:=List.eq_nil_of_length_eq_zero h0
   refine ⟨w,run_copy_none (P:=P) w dT sT ty elem dp sp dLen dCap sLen sCap hu hsz (by simpa using hn.symm),?_,Chg.refl _ _⟩
   simpa [splice] using hg
 · obtain ⟨ad,rfl,_,hx⟩:=hs h0
   obtain rfl:=hd h0
   refine ⟨_,run_copy_row (P:=P) w dT sT ty elem g off dLen dCap ad sLen sCap cur.toArray t cs hu hsz hg hn hx (by simpa using hfit) h1,?_,(Chg.refl [g] w).setRow (by simp) _⟩
   have:=setRow_heap w g _ (splice cur off cs).toArray t _ hg
   simpa [zb_,splice,List.append_assoc] using this
theorem uN_ {P : Program} {w : World} {ops : Array Oper} {rest : List Oper} {o : Oper} {a : Act} {Q : Exit → Act → World → Prop} (hgd : o.guard = none) (d s : Operand) (dT sT : TypeId)
    (ho : o.op = .call { callee:=.builtin .copy,args:=#[d,s],argTypes:=#[dT,sT] }) (elem : TypeId) (hu : P.underlying dT = some (.slice elem)) (hsz : (P.info? elem).map (·.size) = some 1)
    (dp sp : Option Addr) (dLen dCap sLen sCap : Nat) (hde : a.eval d = .slice dp dLen dCap) (hse : a.eval s = .slice sp sLen sCap)
    (g off t : Nat) (cur cs : List Value) (hg : zb_ w g t cur) (hn : cs.length = Nat.min sLen dLen) (hd : 0 < cs.length → dp = some ⟨g,off,none⟩) (hs : Src w sp cs)
    (hfit : off + cs.length ≤ cur.length) (h1 : ∀ v ∈ cs,v.oneCell' = true)
    (h : ∀ w',zb_ w' g t (splice cur off cs) → Chg [g] w w' → wpList P ops Q rest (a.put o.dst (goInt cs.length)) w') : wpList P ops Q (o :: rest) a w:=by
      refine wpList_plain hgd fun K hK => ?_
      obtain ⟨w',hrun,h2,h3⟩:=jH_ (P:=P) dT sT o.type elem hu hsz dp sp dLen dCap sLen sCap hg hn hd hs hfit h1
      unfold Oper.wp
      simp [execOp,ho,resolve,invoke,builtin,hde,hse,hrun,Result.andThen]
      exact hK _ _ (h w' h2 h3)
def zc_ (l : List UInt8) : ByteArray:=⟨l.toArray⟩
theorem zex {P : Program} (src e dst : TypeId) (hs : P.underlying src = some (.slice e)) (he : P.underlying e = some (.int .u8)) (hd : P.underlying dst = some .string)
    (A : Option Addr) (l : List UInt8) (cap : Nat) (w : World) (h : Src w A (bts l)) (hp : ∀ ad,A = some ad → ad.spot = none) :
    (convert src dst (.slice A l.length cap)).run P w = .ok (.string (zc_ l)) w:=by
      rcases Nat.eq_zero_or_pos l.length with h0 | h0
      · obtain rfl : l = []:=List.eq_nil_of_length_eq_zero h0
        rcases A with _ | ad
        · exact run_convert_bytes_nil (P:=P) w src e hs he 0 cap dst hd
        · obtain ⟨b,o,s⟩:=ad
          obtain rfl : s = none:=hp _ rfl
          exact Lib.run_convert_whole (P:=P) w src e dst hs he hd b o (zc_ []) (fun i hi => absurd hi (by simp [zc_,ByteArray.size])) cap
      · obtain ⟨ad,rfl,_,hx⟩:=h (by simpa [bts] using h0)
        obtain ⟨b,o,s⟩:=ad
        obtain rfl : s = none:=hp _ rfl
        have:=Lib.run_convert_whole (P:=P) w src e dst hs he hd b o (zc_ l) (fun i hi => by
         have hi' : i < l.length:=by simpa [zc_,ByteArray.size] using hi
         have h1:=hx i _ (vA_ l i hi')
         rw [zj_] at h1
         rw [h1]
         rfl) cap
        simpa [zc_,ByteArray.size] using this
end Go.Proofs.YtbkfhndmeljlcaaGreatDoor
namespace Go.Proofs.YtbkfhndmeljlcaaGreatDoor
open Go.RowKit
def qo_ (k : IntKind) (w : World) (a : Option Addr) (len cap : Nat) (zs : List Int) : Prop :=
 (a = none ∧ len = 0 ∧ cap = 0 ∧ zs = []) ∨
 ∃ x,a = some x ∧ len ≤ cap ∧ cap ≤ maxLen ∧ zs.length = cap ∧ (∀ i,i < zs.length → w.cell? (x.add i) = some (.int k (zs.getD i 0))) ∧ ∀ n ∈ zs,(Lit.int k n).wf = true
theorem zbp {k : IntKind} {w : World} {a : Option Addr} {len cap : Nat} {zs : List Int} (h : qo_ k w a len cap zs) : (zs.take len).length = len ∧ Src w a ((zs.take len).map (Value.int k)) ∧ ∀ n ∈ zs.take len,(Lit.int k n).wf = true:=by
 rcases h with ⟨rfl,rfl,rfl,rfl⟩ | ⟨x,rfl,hlc,_,hz,hcell,hwf⟩
 · exact ⟨rfl,fun hp => absurd hp (by simp),by simp⟩
 · refine ⟨by rw [List.length_take]; omega,fun hp => ?_,fun n hn => hwf n (List.mem_of_mem_take hn)⟩
   have h0 : 0 < zs.length:=by
    simp only [List.length_map,List.length_take] at hp
    omega
   have hb : (x.add 0).block = x.block:=by unfold Addr.add; split <;> rfl
   refine ⟨x,rfl,by rw [← hb]; exact block_lt_of_cell (hcell 0 h0),fun j v hj => ?_⟩
   simp only [List.getElem?_map,List.getElem?_take] at hj
   split at hj
   · have hjl : j < zs.length:=by omega
     rw [List.getElem?_eq_getElem hjl] at hj
     simp only [Option.map_some,Option.some.injEq] at hj
     rw [hcell j hjl,← hj]
     simp [List.getD,hjl]
   · simp at hj
theorem qX_ {k : IntKind} {w : World} {a : Option Addr} {len cap : Nat} {zs : List Int} (h : qo_ k w a len cap zs) (h0 : 0 < len) : ∀ ad,a = some ad → ad.spot = none ∧ ad.block < w.heap.size:=by
 rcases h with ⟨_,rfl,_,_⟩ | ⟨x,rfl,hlc,_,hz,hcell,_⟩
 · exact absurd h0 (by omega)
 · intro ad e
   injection e with e
   subst e
   have hc:=hcell 0 (by omega)
   have hb : (x.add 0).block = x.block:=by unfold Addr.add; split <;> rfl
   refine ⟨?_,by rw [← hb]; exact block_lt_of_cell hc⟩
   have h1 : x.add 0 = x:=by simp [Addr.add]
   rw [h1] at hc
   cases hs : x.spot with
   | none => rfl
   | some v =>
     exfalso
     unfold World.cell? at hc
     rw [hs] at hc
     split at hc
     · simp at hc
     · cases hc
theorem zbq {w : World} {a : Option Addr} {len cap : Nat} {zs : List Int} (h : qo_ .u8 w a len cap zs) : ∃ l : List UInt8,l.length = len ∧ Src w a (bts l):=by
 obtain ⟨h1,h2,h3⟩:=zbp h
 refine ⟨(zs.take len).map fun z => UInt8.ofNat z.toNat,by rw [List.length_map]; exact h1,?_⟩
 have e : bts ((zs.take len).map fun z => UInt8.ofNat z.toNat) = (zs.take len).map (Value.int .u8):=by
  unfold bts
  rw [List.map_map]
  refine List.map_congr_left fun z hz => ?_
  have hw:=h3 z hz
  have hb : 0 ≤ z ∧ z ≤ 255:=by simpa [Lit.wf,IntKind.min,IntKind.max,IntKind.signed,IntKind.bits] using hw
  show Value.int .u8 ((UInt8.ofNat z.toNat).toNat : Int) = Value.int .u8 z
  rw [UInt8.toNat_ofNat']
  congr 1
  omega
 rw [e]
 exact h2
theorem zdp {w : World} {a : Option Addr} {len cap : Nat} {zs : List Int} (h : qo_ .i64 w a len cap zs) :
    ∃ l : List Int,l.length = len ∧ Src w a (nms l) ∧ ∀ n ∈ l,-9223372036854775808 ≤ n ∧ n ≤ 9223372036854775807:=by
 obtain ⟨h1,h2,h3⟩:=zbp h
 refine ⟨zs.take len,h1,h2,fun n hn => ?_⟩
 simpa [Lit.wf,IntKind.min,IntKind.max,IntKind.signed,IntKind.bits] using h3 n hn
end Go.Proofs.YtbkfhndmeljlcaaGreatDoor
namespace Go.Proofs.YtbkfhndmeljlcaaGreatDoor
open Go.RowKit
section
variable {w w' : World} {B n : Nat} {e : TypeId} {v : Value} {xs : List Value}
theorem zq_ (h : w.ownsRow B e 1 v n xs) (hc : Chg [] w w') : w'.ownsRow B e 1 v n xs:=by
 refine ⟨h.1,h.2.imp id ?_⟩
 rintro ⟨g,cap,cur,rfl,hb,hg,r⟩
 refine ⟨g,cap,cur,rfl,hb,?_,r⟩
 rw [hc.block g ?_ (by simp)]
 · exact hg
 · rcases Nat.lt_or_ge g w.heap.size with hlt | hge
   · exact hlt
   · rw [Array.getElem?_eq_none hge] at hg; cases hg
theorem vK_ {B' : Nat} (h : w.ownsRow B e 1 v n xs) (hB : B' ≤ B) : w.ownsRow B' e 1 v n xs:=by
 refine ⟨h.1,h.2.imp id ?_⟩
 rintro ⟨g,cap,cur,rfl,hb,r⟩
 exact ⟨g,cap,cur,rfl,Nat.le_trans hB hb,r⟩
theorem zr_ (h : w.ownsRow B e 1 v n xs) : ∃ A c,v = .slice A n c ∧ xs.length = n ∧ n ≤ c ∧ Src w A xs ∧ (∀ ad,A = some ad → ad.spot = none ∧ B ≤ ad.block ∧ ad.off = 0 ∧ ad.block < w.heap.size):=by
 have hl : xs.length = n:=by simpa using h.1
 rcases h.2 with ⟨rfl,rfl⟩ | ⟨g,cap,cur,rfl,hb,hg,hn,hc,hs,ht⟩
 · exact ⟨none,0,rfl,hl,Nat.le_refl _,fun hp => absurd hp (by omega),fun ad h => by cases h⟩
 · have hgl : g < w.heap.size:=by
    rcases Nat.lt_or_ge g w.heap.size with hlt | hge
    · exact hlt
    · rw [Array.getElem?_eq_none hge] at hg; cases hg
   refine ⟨some ⟨g,0,none⟩,cap,rfl,hl,hn,fun _ => ⟨_,rfl,hgl,fun j u hj => ?_⟩,fun ad h => by injection h with h; subst h; exact ⟨rfl,hb,rfl,hgl⟩⟩
   rw [zj_,Nat.zero_add,cell_of_row w g j cur e (0,0) hg]
   have hjl : j < n:=by rw [← hl]; exact (List.getElem?_eq_some_iff.1 hj).1
   rw [← ht,List.getElem?_take_of_lt (by omega)] at hj
   simpa using hj
theorem yV_ {g c : Nat} {cs : List Value} (h : zb_ w g e cs) (hB : B ≤ g) (hc : cs.length = c) (hn : n ≤ c) (hm : c ≤ maxLen) : w.ownsRow B e 1 (.slice (some ⟨g,0,none⟩) n c) n (cs.take n):=by
 refine ⟨by rw [List.length_take]; omega,.inr ⟨g,c,cs.toArray,rfl,hB,h,hn,hm,by simpa using hc,by simp⟩⟩
theorem zbH (w : World) (B : Nat) (e : TypeId) : w.ownsRow B e 1 (.slice none 0 0) 0 []:=⟨rfl,.inl ⟨rfl,rfl⟩⟩
theorem Chg.own {T : List Nat} {a : World} (h : Chg T a w) (ho : w.ownsRow B e 1 v n xs) (hB : a.heap.size ≤ B) (hg : w.grownBy w' v.ownBlock) : Chg T a w':=by
 refine h.then_ (T':=match v.ownBlock with | some g => [g] | none => []) ?_ ?_
 · refine Chg.of_grown hg fun g hr _ => ?_
   rw [hr]; simp
 · intro i hi hlt
   exfalso
   rcases ho.2 with ⟨rfl,_⟩ | ⟨g,cap,cur,rfl,hb,_⟩
   · simp [Value.ownBlock] at hi
   · simp [Value.ownBlock] at hi; omega
end
section
variable {P : Program} (w : World)
theorem vo_ (base : Nat) (t ty e : TypeId) (i : TypeInfo) (z : Value) (bytes : Nat) (ht : P.underlying t = some (.slice e)) (hi : P.info? e = some i) (hz : i.zero = some z)
    (hsize : i.size = 1) (hby : i.bytes = bytes) (hzs : z.cells.size = 1)
    (v : Value) (n : Nat) (xs : List Value) (hown : w.ownsRow base e 1 v n xs)
    (A : Option Addr) (m c : Nat) (news : List Value) (hl : news.length = m) (hs : Src w A news) (h1 : ∀ u ∈ news,u.oneCell' = true)
    (h63 : n + m ≤ maxLen) (hbytes : (n + m) * bytes ≤ 140737488355328) (hbase : base ≤ w.heap.size) :
    ∃ v' w',(Builtin.append_ #[t,t] ty #[v,.slice A m c]).run P w = .ok v' w' ∧ w'.ownsRow base e 1 v' (n + m) (xs ++ news) ∧ w.grownBy w' v.ownBlock ∧
      (v'.ownBlock = v.ownBlock ∨ v'.ownBlock = some w.heap.size):=by
        have hnil : m = 0 → news = []:=fun h => List.eq_nil_of_length_eq_zero (by omega)
        rcases A with _ | ad
        · have hm : m = 0:=by
           rcases Nat.eq_zero_or_pos m with h0 | h0
           · exact h0
           · obtain ⟨ad,h,_⟩:=hs (by omega)
             cases h
          subst hm
          obtain rfl:=hnil rfl
          refine ⟨v,w,?_,by simpa using hown,World.grownBy.refl w _,.inl rfl⟩
          rcases hown.2 with ⟨rfl,rfl⟩ | ⟨g,cap,cur,rfl,_,_,hnc,_⟩
          · simp [Builtin.append_,run_underlying ht,sizeOf,typeInfo,hi,Builtin.lenOf,Builtin.firstCells]
          · simp [Builtin.append_,run_underlying ht,sizeOf,typeInfo,hi,Builtin.lenOf,Builtin.firstCells,hnc,storeCells]
        · have hcells : ∀ j u,news[j]? = some u → w.cell? (ad.add j) = some u:=by
           intro j u hu
           obtain ⟨ad',h,_,hc⟩:=hs (by have:=(List.getElem?_eq_some_iff.1 hu).1; omega)
           injection h with h
           subst h
           exact hc j u hu
          obtain ⟨v',w',hrun,h2,h3,_,h5⟩:=run_append_own_at (P:=P) w base t ty e i z 1 bytes ht hi hz hsize hby hzs (by omega) v n xs hown ad m c news (by omega) hcells h1 h63 hbytes hbase
          exact ⟨v',w',hrun,h2,h3,h5⟩
theorem zV_ {w : World} {ops : Array Oper} {rest : List Oper} {o : Oper} {a : Act} {Q : Exit → Act → World → Prop} (hgd : o.guard = none) (s x : Operand) (t : TypeId)
    (ho : o.op = .call { callee:=.builtin .append,args:=#[s,x],argTypes:=#[t,t] })
    (base : Nat) (e : TypeId) (i : TypeInfo) (z : Value) (bytes : Nat) (ht : P.underlying t = some (.slice e)) (hi : P.info? e = some i) (hz : i.zero = some z)
    (hsize : i.size = 1) (hby : i.bytes = bytes) (hzs : z.cells.size = 1)
    (v : Value) (n : Nat) (xs : List Value) (hse : a.eval s = v) (hown : w.ownsRow base e 1 v n xs)
    (A : Option Addr) (m c : Nat) (news : List Value) (hxe : a.eval x = .slice A m c) (hl : news.length = m) (hs : Src w A news) (h1 : ∀ u ∈ news,u.oneCell' = true)
    (h63 : n + m ≤ maxLen) (hbytes : (n + m) * bytes ≤ 140737488355328) (hbase : base ≤ w.heap.size)
    (h : ∀ v' w',w'.ownsRow base e 1 v' (n + m) (xs ++ news) → w.grownBy w' v.ownBlock → (v'.ownBlock = v.ownBlock ∨ v'.ownBlock = some w.heap.size) → wpList P ops Q rest (a.put o.dst v') w') : wpList P ops Q (o :: rest) a w:=by
      refine wpList_plain hgd fun K hK => ?_
      obtain ⟨v',w',hrun,h2,h3,h4⟩:=vo_ (P:=P) w base t o.type e i z bytes ht hi hz hsize hby hzs v n xs hown A m c news hl hs h1 h63 hbytes hbase
      unfold Oper.wp execOp
      simp only [ho,resolve,invoke,builtin,Sem.run_bind,Sem.run_pure,Result.andThen_ok,List.map_toArray,List.map_cons,List.map_nil,hse,hxe,hrun]
      exact hK _ _ (h v' w' h2 h3 h4)
end
theorem jG_ {P : Program} (t e : TypeId) (i : TypeInfo) (z : Value) (hz1 : z.cells = #[z]) (ht : P.underlying t = some (.slice e)) (hi : P.info? e = some i) (hz : i.zero = some z) (hs : i.size = 1)
    (n : Nat) (hb : i.bytes * n ≤ 281474976710656) (h63 : n ≤ 9223372036854775807) (w : World) :
    (Instr.makeSlice t (.int .i64 0) (.int .i64 (n : Int))).run P w = .ok (.slice (some ⟨w.heap.size,0,none⟩) 0 n) (w.alloc (.cells (List.replicate n z).toArray e)):=by
      have hb' : (i.bytes : Int) * (n : Int) ≤ 281474976710656:=by
       have h : ((i.bytes * n : Nat) : Int) ≤ 281474976710656:=by omega
       rwa [Int.natCast_mul] at h
      have h:=run_make (P:=P) w t e i z ht hi hz .i64 .i64 0 (n : Int) (by omega) (by omega) hb' (by omega)
      rw [h,hs,hz1,gc_]
      simp
end Go.Proofs.YtbkfhndmeljlcaaGreatDoor
namespace Go.Proofs.YtbkfhndmeljlcaaGreatDoor
open Go.RowKit
structure Bs (w : World) (A : Option Addr) (n c : Nat) (l : List UInt8) : Prop where
  len : l.length = n
  src : Src w A (bts l)
  cap : n ≤ c
  max : c ≤ 9223372036854775807
  spot : 0 < n → ∀ ad,A = some ad → ad.spot = none
section
variable {w w' : World} {A : Option Addr} {n c : Nat} {l : List UInt8}
theorem Bs.keep (h : Bs w A n c l) (hc : Chg [] w w') : Bs w' A n c l:=⟨h.len,h.src.keep hc,h.cap,h.max,h.spot⟩
theorem Bs.drew (h : Bs w A n c l) : Bs w.drew A n c l:=⟨h.len,h.src,h.cap,h.max,h.spot⟩
theorem Bs.le (h : Bs w A n c l) : n ≤ 9223372036854775807:=Nat.le_trans h.cap h.max
theorem Bs.nil (w : World) : Bs w none 0 0 []:=⟨rfl,Src.nil _ _,Nat.le_refl _,by omega,fun h => absurd h (by omega)⟩
theorem Bs.of_whole {g t cap : Nat} {cs : List Value} (h : zb_ w g t cs) (hn : l.length = n) (hc : cs.take n = bts l) (hcap : n ≤ cap) (hm : cap ≤ 9223372036854775807) : Bs w (some ⟨g,0,none⟩) n cap l:=by
 refine ⟨hn,?_,hcap,hm,fun _ ad e => by injection e with e; subst e; rfl⟩
 have:=Src.of_whole h 0 n
 rwa [List.drop_zero,hc] at this
theorem Bs.of_all {g t : Nat} (h : zb_ w g t (bts l)) (hm : l.length ≤ 9223372036854775807) : Bs w (some ⟨g,0,none⟩) l.length l.length l :=
 Bs.of_whole h rfl (by rw [List.take_of_length_le (by rw [zA_]; exact Nat.le_refl _)]) (Nat.le_refl _) hm
theorem Bs.of_own {B : Nat} {e : TypeId} {v : Value} (h : w.ownsRow B e 1 v n (bts l)) : ∃ A c,v = .slice A n c ∧ Bs w A n c l ∧ (∀ ad,A = some ad → ad.spot = none ∧ B ≤ ad.block ∧ ad.off = 0 ∧ ad.block < w.heap.size):=by
 obtain ⟨A,c,rfl,hl,hn,hs,hA⟩:=zr_ h
 have hm : c ≤ 9223372036854775807:=by
  rcases h.2 with ⟨h,_⟩ | ⟨g,cap,cur,h,_,_,_,hc,_⟩
  · injection h with _ _ h; omega
  · injection h with _ _ h; subst h; simpa [maxLen] using hc
 exact ⟨A,c,rfl,⟨by rw [zA_] at hl; exact hl,hs,hn,hm,fun _ ad e => (hA ad e).1⟩,hA⟩
theorem Bs.of_row {cap : Nat} {zs : List Int} (h : qo_ .u8 w A n cap zs) : ∃ l,Bs w A n cap l:=by
 obtain ⟨l,hl,hs⟩:=zbq h
 have hc : n ≤ cap ∧ cap ≤ 9223372036854775807:=by
  rcases h with ⟨_,rfl,rfl,_⟩ | ⟨_,_,h1,h2,_⟩
  · exact ⟨Nat.le_refl _,by omega⟩
  · exact ⟨h1,by simpa [maxLen] using h2⟩
 exact ⟨l,hl,hs,hc.1,hc.2,fun h0 ad e => (qX_ h h0 ad e).1⟩
theorem Bs.cut (h : Bs w A n c l) {lo hi : Nat} (h1 : lo ≤ hi) (h2 : hi ≤ n) : Bs w (if c = lo then A else A.map (·.add lo)) (hi - lo) (c - lo) ((l.drop lo).take (hi - lo)):=by
 have hl:=h.len
 refine ⟨by rw [List.length_take,List.length_drop]; omega,fun hp => ?_,by have:=h.cap; omega,by have:=h.max; omega,fun h0 ad e => ?_⟩
 · have hp' : 0 < hi - lo:=by rw [zA_,List.length_take,List.length_drop] at hp; omega
   rw [if_neg (by have:=h.cap; omega)]
   obtain ⟨ad,rfl,hb,hx⟩:=h.src (by rw [zA_]; omega)
   obtain ⟨b,o,s⟩:=ad
   obtain rfl : s = none:=h.spot (by omega) _ rfl
   refine ⟨_,rfl,by simp only [zj_]; exact hb,fun j v hj => ?_⟩
   simp only [zj_]
   have h3:=hx (lo + j) v (by
    rw [← hj]
    unfold bts
    rw [List.getElem?_map,List.getElem?_map,List.getElem?_take]
    have : j < hi - lo:=by have:=(List.getElem?_eq_some_iff.1 hj).1; rw [zA_,List.length_take] at this; omega
    rw [if_pos this,List.getElem?_drop])
   rw [zj_] at h3
   rw [← h3,Nat.add_assoc]
 · rw [if_neg (by have:=h.cap; omega)] at e
   cases hA : A with
   | none => rw [hA] at e; cases e
   | some ad0 =>
     obtain ⟨b,o,s⟩:=ad0
     obtain rfl : s = none:=h.spot (by omega) _ hA
     rw [hA] at e
     simp only [Option.map_some,Option.some.injEq] at e
     subst e
     rw [zj_]
theorem qW_ {P : Program} (src e dst : TypeId) (hs : P.underlying src = some (.slice e)) (he : P.underlying e = some (.int .u8)) (hd : P.underlying dst = some .string) (A : Option Addr) (cap : Nat) (w : World) :
    (convert src dst (.slice A 0 cap)).run P w = .ok (.string (zc_ [])) w:=by
      rcases A with _ | ad
      · exact run_convert_bytes_nil (P:=P) w src e hs he 0 cap dst hd
      · rw [run_convert_bytes_string w src dst e _ 0 cap hs he hd]
        simp [Conv.bytesToString,zc_,go_sem]
        rfl
theorem Bs.str {P : Program} (h : Bs w A n c l) (src e dst : TypeId) (hs : P.underlying src = some (.slice e)) (he : P.underlying e = some (.int .u8)) (hd : P.underlying dst = some .string) :
    (convert src dst (.slice A n c)).run P w = .ok (.string (zc_ l)) w:=by
      rcases Nat.eq_zero_or_pos n with h0 | h0
      · subst h0
        obtain rfl : l = []:=List.eq_nil_of_length_eq_zero h.len
        exact qW_ src e dst hs he hd A c w
      · have hl:=h.len
        subst hl
        exact zex src e dst hs he hd A l c w h.src (h.spot h0)
end
end Go.Proofs.YtbkfhndmeljlcaaGreatDoor
namespace Go.Proofs.YtbkfhndmeljlcaaGreatDoor
open Go.RowKit
theorem v9_ : (Tryz.prog.info? 5).map (fun i => (i.zero,i.size,i.bytes)) = some (some (.int .u8 0),1,1):=by kernel_rfl
theorem zcg : (Tryz.prog.info? 4).map (fun i => (i.zero,i.size,i.bytes)) = some (some (.bool false),1,1):=by kernel_rfl
theorem vN_ : (Tryz.prog.info? 3).map (fun i => (i.zero,i.size,i.bytes)) = some (some (.int .i64 0),1,8):=by kernel_rfl
theorem zbd : (Tryz.prog.info? 5).map (·.size) = some 1:=by kernel_rfl
theorem zbV (n : Nat) (h : n ≤ 1000000) (w : World) :
    (Instr.makeSlice 33 (.int .i64 (n : Int)) (.int .i64 (n : Int))).run Tryz.prog w = .ok (.slice (some ⟨w.heap.size,0,none⟩) n n) (w.alloc (.cells (bts (zt_ n)).toArray 5)):=by
      rw [xj_]
      obtain ⟨i,hi,hz,hs,hb⟩:=info_parts v9_
      exact u2_ _ _ i _ rfl Tryz.underlying33 hi hz hs n (by rw [hb]; omega) (by omega) w
theorem j0_ (n : Nat) (h : n ≤ 1000000) (w : World) :
    (Instr.makeSlice 78 (.int .i64 (n : Int)) (.int .i64 (n : Int))).run Tryz.prog w = .ok (.slice (some ⟨w.heap.size,0,none⟩) n n) (w.alloc (.cells (bls (yk_ n)).toArray 4)):=by
      rw [zaE]
      obtain ⟨i,hi,hz,hs,hb⟩:=info_parts zcg
      exact u2_ _ _ i _ rfl Tryz.underlying78 hi hz hs n (by rw [hb]; omega) (by omega) w
end Go.Proofs.YtbkfhndmeljlcaaGreatDoor
namespace Go.Proofs.YtbkfhndmeljlcaaGreatDoor
open Go.RowKit
def Into (n lo hi r : Int) : Prop:=lo ≤ r ∧ r ≤ hi ∧ (lo ≤ n → n ≤ hi → r = n)
def zaH (n lo hi : Int) (w : World) (e : Ending) (w' : World) : Prop:=∃ r : Int,Into n lo hi r ∧ e = .returned (.int .i64 r) ∧ w = w'
def zN_ (n lo hi : Int) : Int:=if lo ≤ n ∧ n ≤ hi then n else if n.tmod (hi - lo + 1) < 0 then lo + (n.tmod (hi - lo + 1) + hi - lo + 1) else lo + n.tmod (hi - lo + 1)
theorem vy_ (n lo hi : Int) (h1 : lo ≤ hi) : Into n lo hi (zN_ n lo hi):=by
 have b1:=Int.tmod_lt_of_pos n (show 0 < hi - lo + 1 by omega)
 have b2:=Int.lt_tmod_of_pos n (show 0 < hi - lo + 1 by omega)
 unfold zN_
 split
 · rename_i h; exact ⟨h.1,h.2,fun _ _ => rfl⟩
 · rename_i h
   split
   · exact ⟨by omega,by omega,fun ha hb => absurd ⟨ha,hb⟩ h⟩
   · exact ⟨by omega,by omega,fun ha hb => absurd ⟨ha,hb⟩ h⟩
theorem ya_ {a b : Int} (h : a = b) : Ending.returned (.int .i64 a) = .returned (.int .i64 b):=by rw [h]
section
variable {w : World}
theorem zaN (n lo hi : Int) (h0 : -1000000 ≤ lo) (h1 : lo ≤ hi) (h2 : hi ≤ 1000000) (hn0 : -9223372036854775808 ≤ n) (hn1 : n ≤ 9223372036854775807) :
    Calls Tryz.prog 18 #[.int .i64 n,.int .i64 lo,.int .i64 hi] w fun e w' => e = .returned (.int .i64 (zN_ n lo hi)) ∧ w = w':=by
 have b1:=Int.tmod_lt_of_pos n (show 0 < hi - lo + 1 by omega)
 have b2:=Int.lt_tmod_of_pos n (show 0 < hi - lo + 1 by omega)
 have hne : ((hi - lo + 1) == 0) = false:=by simp; omega
 by_cases ha : lo ≤ n
 · by_cases hb : n ≤ hi
   · have HI:=hQ_ (show zN_ n lo hi = n by unfold zN_; rw [if_pos ⟨ha,hb⟩])
     go_enter Tryz.func18,Tryz.ntmps18
     go_wp2_with fail
     go_ret
     exact ⟨ya_ HI.out.symm,rfl⟩
   · by_cases hm : n.tmod (hi - lo + 1) < 0
     · have HI:=hQ_ (show zN_ n lo hi = lo + (n.tmod (hi - lo + 1) + hi - lo + 1) by unfold zN_; rw [if_neg (fun h => hb h.2),if_pos hm])
       go_enter Tryz.func18,Tryz.ntmps18
       go_wp2_with fail
       go_ret
       exact ⟨ya_ HI.out.symm,rfl⟩
     · have HI:=hQ_ (show zN_ n lo hi = lo + n.tmod (hi - lo + 1) by unfold zN_; rw [if_neg (fun h => hb h.2),if_neg hm])
       go_enter Tryz.func18,Tryz.ntmps18
       go_wp2_with fail
       go_ret
       exact ⟨ya_ HI.out.symm,rfl⟩
 · have hd : decide (lo ≤ n) = false:=by simp; omega
   by_cases hm : n.tmod (hi - lo + 1) < 0
   · have HI:=hQ_ (show zN_ n lo hi = lo + (n.tmod (hi - lo + 1) + hi - lo + 1) by unfold zN_; rw [if_neg (fun h => ha h.1),if_pos hm])
     go_enter Tryz.func18,Tryz.ntmps18
     go_wp2_with fail
     go_ret
     exact ⟨ya_ HI.out.symm,rfl⟩
   · have HI:=hQ_ (show zN_ n lo hi = lo + n.tmod (hi - lo + 1) by unfold zN_; rw [if_neg (fun h => ha h.1),if_neg hm])
     go_enter Tryz.func18,Tryz.ntmps18
     go_wp2_with fail
     go_ret
     exact ⟨ya_ HI.out.symm,rfl⟩
theorem gP_ (n lo hi : Int) (h0 : -1000000 ≤ lo) (h1 : lo ≤ hi) (h2 : hi ≤ 1000000) (hn0 : -9223372036854775808 ≤ n) (hn1 : n ≤ 9223372036854775807) :
    Calls Tryz.prog 18 #[.int .i64 n,.int .i64 lo,.int .i64 hi] w (zaH n lo hi w) :=
 (zaN n lo hi h0 h1 h2 hn0 hn1).mono fun _ _ ⟨h1',h2'⟩ => ⟨_,vy_ n lo hi h1,h1',h2'⟩
end
end Go.Proofs.YtbkfhndmeljlcaaGreatDoor
namespace Go.Proofs.YtbkfhndmeljlcaaGreatDoor
open Go.RowKit
def wl (V : List Bool) (k : Nat) : List Nat:=(List.range k).filter fun i => V.getD i false
theorem kj_ {T : List Nat} {a w w' : World} {row : Option Nat} (h : Chg T a w) (hg : w.grownBy w' row) (hr : ∀ g,row = some g → a.heap.size ≤ g) : Chg T a w' :=
 h.then_ (T':=row.toList) (Chg.of_grown hg fun g e _ => by simp [e]) fun i hi hlt => by
  have:=hr i (by simpa using hi)
  omega
end Go.Proofs.YtbkfhndmeljlcaaGreatDoor
namespace Go.Proofs
open Go.Shelf
def Tryz.lays242_ren : Go.Shelf.Ren:=⟨fun | 242 => 59 | 278 => 89 | n => n,fun | 37 => 33 | 21 => 21 | 51 => 118 | 4 => 4 | 5 => 5 | 46 => 139 | n => n,fun | n => n⟩
theorem Tryz.lays242 : Go.Proofs.Lays.n242 Tryz.prog Tryz.lays242_ren:={
  mixed:=by kernel_rfl
  f242:=Tryz.func59.trans (congrArg some (by kernel_rfl))
  f278:=Tryz.func89.trans (congrArg some (by kernel_rfl))
  t4:=Tryz.underlying4
  a4:=Tryz.isAgg4
  z4:=Tryz.sizeOf4
  v4:=Tryz.zeroValue4
  t5:=Tryz.underlying5
  a5:=Tryz.isAgg5
  z5:=Tryz.sizeOf5
  v5:=Tryz.zeroValue5
  t21:=Tryz.underlying21
  a21:=Tryz.isAgg21
  z21:=Tryz.sizeOf21
  v21:=Tryz.zeroValue21
  t37:=Tryz.underlying33
  a37:=Tryz.isAgg33
  z37:=Tryz.sizeOf33
  v37:=Tryz.zeroValue33
  t46:=Tryz.underlying139
  a46:=Tryz.isAgg139
  z46:=Tryz.sizeOf139
  v46:=Tryz.zeroValue139
  t51:=Tryz.underlying118
  a51:=Tryz.isAgg118
  z51:=Tryz.sizeOf118
  v51:=Tryz.zeroValue118 }
open Go.RowKit in
theorem Tryz.utf8_AppendRune_plain (B : Nat) (v : Value) (n : Nat) (xs : List Value) (r : Int) (hr0 : -2147483648 ≤ r) (hr1 : r ≤ 2147483647) (w : World) (hown : w.ownsRow B 5 1 v n xs) (hlen : n + 4 ≤ 140737488355328) (hBw : B ≤ w.heap.size) :
    Calls Tryz.prog 59 #[v,.int .i32 r] w fun e w' => ∃ v',e = .returned v' ∧ w'.ownsRow B 5 1 v' (n + (Lib.runeCells r).length) (xs ++ Lib.runeCells r) ∧ ∃ o,(w.alloc o).grownBy w' v.ownBlock:=Any.utf8_AppendRune_plain Tryz.lays242 (by kernel_rfl) B v n xs r hr0 hr1 w hown hlen hBw
def Tryz.lays171_ren : Go.Shelf.Ren:=⟨fun | 171 => 57 | 243 => 87 | 246 => 111 | 283 => 122 | 284 => 123 | 285 => 124 | 286 => 125 | 129 => 135 | 317 => 134 | 318 => 136 | 319 => 137 | 320 => 138 | 337 => 145 | 338 => 146 | n => n,fun | 3 => 3 | 9 => 9 | 2 => 2 | 4 => 4 | 171 => 160 | 0 => 0 | 53 => 122 | 37 => 33 | 5 => 5 | 173 => 163 | 212 => 175 | 51 => 118 | 20 => 20 | 213 => 176 | 46 => 139 | 232 => 188 | 233 => 189 | n => n,fun | 17 => 1 | 18 => 2 | 19 => 3 | n => n⟩
theorem Tryz.lays171 : Go.Proofs.Lays.n171 Tryz.prog Tryz.lays171_ren:={
  mixed:=by kernel_rfl
  f129:=Tryz.func135.trans (congrArg some (by kernel_rfl))
  f171:=Tryz.func57.trans (congrArg some (by kernel_rfl))
  f243:=Tryz.func87.trans (congrArg some (by kernel_rfl))
  f246:=Tryz.func111.trans (congrArg some (by kernel_rfl))
  f283:=Tryz.func122.trans (congrArg some (by kernel_rfl))
  f284:=Tryz.func123.trans (congrArg some (by kernel_rfl))
  f285:=Tryz.func124.trans (congrArg some (by kernel_rfl))
  f286:=Tryz.func125.trans (congrArg some (by kernel_rfl))
  f317:=Tryz.func134.trans (congrArg some (by kernel_rfl))
  f318:=Tryz.func136.trans (congrArg some (by kernel_rfl))
  f319:=Tryz.func137.trans (congrArg some (by kernel_rfl))
  f320:=Tryz.func138.trans (congrArg some (by kernel_rfl))
  f337:=Tryz.func145.trans (congrArg some (by kernel_rfl))
  f338:=Tryz.func146.trans (congrArg some (by kernel_rfl))
  t0:=Tryz.underlying0
  a0:=Tryz.isAgg0
  z0:=Tryz.sizeOf0
  v0:=Tryz.zeroValue0
  t2:=Tryz.underlying2
  a2:=Tryz.isAgg2
  z2:=Tryz.sizeOf2
  v2:=Tryz.zeroValue2
  t3:=Tryz.underlying3
  a3:=Tryz.isAgg3
  z3:=Tryz.sizeOf3
  v3:=Tryz.zeroValue3
  t4:=Tryz.underlying4
  a4:=Tryz.isAgg4
  z4:=Tryz.sizeOf4
  v4:=Tryz.zeroValue4
  t5:=Tryz.underlying5
  a5:=Tryz.isAgg5
  z5:=Tryz.sizeOf5
  v5:=Tryz.zeroValue5
  t9:=Tryz.underlying9
  a9:=Tryz.isAgg9
  z9:=Tryz.sizeOf9
  v9:=Tryz.zeroValue9
  t20:=Tryz.underlying20
  a20:=Tryz.isAgg20
  z20:=Tryz.sizeOf20
  v20:=Tryz.zeroValue20
  t37:=Tryz.underlying33
  a37:=Tryz.isAgg33
  z37:=Tryz.sizeOf33
  v37:=Tryz.zeroValue33
  t46:=Tryz.underlying139
  a46:=Tryz.isAgg139
  z46:=Tryz.sizeOf139
  v46:=Tryz.zeroValue139
  t51:=Tryz.underlying118
  a51:=Tryz.isAgg118
  z51:=Tryz.sizeOf118
  v51:=Tryz.zeroValue118
  t53:=Tryz.underlying122
  a53:=Tryz.isAgg122
  z53:=Tryz.sizeOf122
  v53:=Tryz.zeroValue122
  t171:=Tryz.underlying160
  a171:=Tryz.isAgg160
  z171:=Tryz.sizeOf160
  v171:=Tryz.zeroValue160
  t173:=Tryz.underlying163
  a173:=Tryz.isAgg163
  z173:=Tryz.sizeOf163
  v173:=Tryz.zeroValue163
  t212:=Tryz.underlying175
  a212:=Tryz.isAgg175
  z212:=Tryz.sizeOf175
  v212:=Tryz.zeroValue175
  t213:=Tryz.underlying176
  a213:=Tryz.isAgg176
  z213:=Tryz.sizeOf176
  t232:=Tryz.underlying188
  a232:=Tryz.isAgg188
  z232:=Tryz.sizeOf188
  v232:=Tryz.zeroValue188
  t233:=Tryz.underlying189
  a233:=Tryz.isAgg189
  z233:=Tryz.sizeOf189
  v233:=Tryz.zeroValue189
  g17:=by kernel_rfl
  g18:=by kernel_rfl
  g19:=by kernel_rfl }
open Go.RowKit Go.Sort Go.Lib in
theorem Tryz.strconv_Itoa_small (i : Nat) (hi : i < 100) (w : World) :
    Calls Tryz.prog 57 #[.int .i64 i] w fun e w' => e = .returned (.string ⟨(Lib.decDigits i).toArray⟩) ∧ w' = w:=Any.strconv_Itoa_small Tryz.lays171 i hi w
def Tryz.lays219_ren : Go.Shelf.Ren:=⟨fun | 219 => 139 | 217 => 147 | 225 => 148 | 224 => 149 | 267 => 150 | 266 => 152 | 314 => 153 | n => n,fun | 9 => 9 | 3 => 3 | 4 => 4 | 5 => 5 | 46 => 139 | 146 => 190 | 51 => 118 | n => n,fun | 1 => 0 | n => n⟩
theorem Tryz.lays219 : Go.Proofs.Lays.n219 Tryz.prog Tryz.lays219_ren:={
  mixed:=by kernel_rfl
  f217:=Tryz.func147.trans (congrArg some (by kernel_rfl))
  f219:=Tryz.func139.trans (congrArg some (by kernel_rfl))
  f224:=Tryz.func149.trans (congrArg some (by kernel_rfl))
  f225:=Tryz.func148.trans (congrArg some (by kernel_rfl))
  f266:=Tryz.func152.trans (congrArg some (by kernel_rfl))
  f267:=Tryz.func150.trans (congrArg some (by kernel_rfl))
  f314:=Tryz.func153.trans (congrArg some (by kernel_rfl))
  t3:=Tryz.underlying3
  a3:=Tryz.isAgg3
  z3:=Tryz.sizeOf3
  v3:=Tryz.zeroValue3
  t4:=Tryz.underlying4
  a4:=Tryz.isAgg4
  z4:=Tryz.sizeOf4
  v4:=Tryz.zeroValue4
  t5:=Tryz.underlying5
  a5:=Tryz.isAgg5
  z5:=Tryz.sizeOf5
  v5:=Tryz.zeroValue5
  t9:=Tryz.underlying9
  a9:=Tryz.isAgg9
  z9:=Tryz.sizeOf9
  v9:=Tryz.zeroValue9
  t46:=Tryz.underlying139
  a46:=Tryz.isAgg139
  z46:=Tryz.sizeOf139
  v46:=Tryz.zeroValue139
  t51:=Tryz.underlying118
  a51:=Tryz.isAgg118
  z51:=Tryz.sizeOf118
  v51:=Tryz.zeroValue118
  t146:=Tryz.underlying190
  a146:=Tryz.isAgg190
  z146:=Tryz.sizeOf190
  v146:=Tryz.zeroValue190
  g1:=by kernel_rfl }
open Go.RowKit Go.Lib in
theorem Tryz.stringslite_Index_one (s : ByteArray) (c : UInt8) (w : World) :
    Calls Tryz.prog 139 #[.string s,.string ⟨#[c]⟩] w fun e w' => e = .returned (.int .i64 (Lib.indexByte s.data.toList c)) ∧ w' = w:=Any.stringslite_Index_one Tryz.lays219 s c w
open Go.RowKit Go.Lib in
def Tryz.laysM176_ren : Go.Shelf.Ren:=⟨fun | 176 => 90 | 249 => 114 | 288 => 126 | 283 => 122 | 284 => 123 | 285 => 124 | 286 => 125 | 129 => 135 | 317 => 134 | 318 => 136 | 319 => 137 | 320 => 138 | 337 => 145 | 338 => 146 | n => n,fun | 37 => 33 | 2 => 2 | 3 => 3 | 53 => 122 | 4 => 4 | 9 => 9 | 171 => 160 | 0 => 0 | 173 => 163 | 212 => 175 | 51 => 118 | 5 => 5 | 20 => 20 | 213 => 176 | 46 => 139 | 232 => 188 | 233 => 189 | n => n,fun | 17 => 1 | 18 => 2 | 19 => 3 | n => n⟩
theorem Tryz.laysM176 : Go.Proofs.LaysM.n176 Tryz.prog Tryz.laysM176_ren:={
  mixed:=by kernel_rfl
  f129:=Tryz.func135.trans (congrArg some (by kernel_rfl))
  f176:=Tryz.func90.trans (congrArg some (by kernel_rfl))
  f249:=Tryz.func114.trans (congrArg some (by kernel_rfl))
  f283:=Tryz.func122.trans (congrArg some (by kernel_rfl))
  f284:=Tryz.func123.trans (congrArg some (by kernel_rfl))
  f285:=Tryz.func124.trans (congrArg some (by kernel_rfl))
  f286:=Tryz.func125.trans (congrArg some (by kernel_rfl))
  f288:=Tryz.func126.trans (congrArg some (by kernel_rfl))
  f317:=Tryz.func134.trans (congrArg some (by kernel_rfl))
  f318:=Tryz.func136.trans (congrArg some (by kernel_rfl))
  f319:=Tryz.func137.trans (congrArg some (by kernel_rfl))
  f320:=Tryz.func138.trans (congrArg some (by kernel_rfl))
  f337:=Tryz.func145.trans (congrArg some (by kernel_rfl))
  f338:=Tryz.func146.trans (congrArg some (by kernel_rfl))
  t0:=Tryz.underlying0
  a0:=Tryz.isAgg0
  z0:=Tryz.sizeOf0
  v0:=Tryz.zeroValue0
  t2:=Tryz.underlying2
  a2:=Tryz.isAgg2
  z2:=Tryz.sizeOf2
  v2:=Tryz.zeroValue2
  t3:=Tryz.underlying3
  a3:=Tryz.isAgg3
  z3:=Tryz.sizeOf3
  v3:=Tryz.zeroValue3
  t4:=Tryz.underlying4
  a4:=Tryz.isAgg4
  z4:=Tryz.sizeOf4
  v4:=Tryz.zeroValue4
  t5:=Tryz.underlying5
  a5:=Tryz.isAgg5
  z5:=Tryz.sizeOf5
  v5:=Tryz.zeroValue5
  t9:=Tryz.underlying9
  a9:=Tryz.isAgg9
  z9:=Tryz.sizeOf9
  v9:=Tryz.zeroValue9
  t20:=Tryz.underlying20
  a20:=Tryz.isAgg20
  z20:=Tryz.sizeOf20
  v20:=Tryz.zeroValue20
  t37:=Tryz.underlying33
  a37:=Tryz.isAgg33
  z37:=Tryz.sizeOf33
  v37:=Tryz.zeroValue33
  t46:=Tryz.underlying139
  a46:=Tryz.isAgg139
  z46:=Tryz.sizeOf139
  v46:=Tryz.zeroValue139
  t51:=Tryz.underlying118
  a51:=Tryz.isAgg118
  z51:=Tryz.sizeOf118
  v51:=Tryz.zeroValue118
  t53:=Tryz.underlying122
  a53:=Tryz.isAgg122
  z53:=Tryz.sizeOf122
  v53:=Tryz.zeroValue122
  t171:=Tryz.underlying160
  a171:=Tryz.isAgg160
  z171:=Tryz.sizeOf160
  v171:=Tryz.zeroValue160
  t173:=Tryz.underlying163
  a173:=Tryz.isAgg163
  z173:=Tryz.sizeOf163
  v173:=Tryz.zeroValue163
  t212:=Tryz.underlying175
  a212:=Tryz.isAgg175
  z212:=Tryz.sizeOf175
  v212:=Tryz.zeroValue175
  t213:=Tryz.underlying176
  a213:=Tryz.isAgg176
  z213:=Tryz.sizeOf176
  t232:=Tryz.underlying188
  a232:=Tryz.isAgg188
  z232:=Tryz.sizeOf188
  v232:=Tryz.zeroValue188
  t233:=Tryz.underlying189
  a233:=Tryz.isAgg189
  z233:=Tryz.sizeOf189
  v233:=Tryz.zeroValue189
  g17:=by kernel_rfl
  g18:=by kernel_rfl
  g19:=by kernel_rfl
  i0:=by kernel_rfl
  i2:=by kernel_rfl
  i3:=by kernel_rfl
  i4:=by kernel_rfl
  i5:=by kernel_rfl
  i9:=by kernel_rfl
  i20:=by kernel_rfl
  i37:=by kernel_rfl
  i46:=by kernel_rfl
  i51:=by kernel_rfl
  i53:=by kernel_rfl
  i171:=by kernel_rfl
  i173:=by kernel_rfl
  i212:=by kernel_rfl
  i232:=by kernel_rfl
  i233:=by kernel_rfl
  m17:=by kernel_rfl
  m18:=by kernel_rfl
  m19:=by kernel_rfl }
open Go.RowKit Go.Sort Go.Lib in
theorem Tryz.strconv_AppendInt_10 (B n : Nat) (i : Int) (h0 : -9223372036854775808 ≤ i) (h1 : i ≤ 9223372036854775807) (sv : Value) (xs : List Value) (w : World) (hown : w.ownsRow B 5 1 sv n xs) (hBw : B ≤ w.heap.size) (hlim : n + 21 ≤ 140737488355328) (htab : Lib.TabBelow Tryz.prog B w "internal/strconv.uint64pow10" .u64 Lib.pow10Tab) :
    Calls Tryz.prog 90 #[sv,.int .i64 i,.int .i64 10] w fun e w' => ∃ v',e = .returned v' ∧ w'.ownsRow B 5 1 v' (n + (Lib.itoa i).length) (xs ++ Lib.byteCells (Lib.itoa i)) ∧ Below B w w' ∧ Lib.OthersKept 5 none w w':=Any.strconv_AppendInt_10 Tryz.laysM176 B n i h0 h1 sv xs w hown hBw hlim htab
end Go.Proofs
namespace Go.Proofs.YtbkfhndmeljlcaaGreatDoor
open Go.RowKit
structure Mm (w : World) (p gC gD : Nat) (L : List UInt8) (X : List Value) (V : List Bool) (Y : List Value) (most : Nat) : Prop where
  rec_ : zb_ w p 95 [.slice (some ⟨gC,0,none⟩) L.length (L.length + X.length),.int .i64 (most : Int),.slice (some ⟨gD,0,none⟩) V.length (V.length + Y.length)]
  cel : zb_ w gC 5 (bts L ++ X)
  dir : zb_ w gD 4 (bls V ++ Y)
  len : L.length = 64 * V.length
  le : V.length ≤ most
  top : most ≤ 64
  capX : L.length + X.length ≤ maxLen
  capY : V.length + Y.length ≤ maxLen
section
variable {w w' : World} {p gC gD : Nat} {L : List UInt8} {X : List Value} {V : List Bool} {Y : List Value} {most : Nat}
theorem Mm.keep (h : Mm w p gC gD L X V Y most) (hc : Chg [] w w') : Mm w' p gC gD L X V Y most :=
 ⟨h.rec_.keep hc,h.cel.keep hc,h.dir.keep hc,h.len,h.le,h.top,h.capX,h.capY⟩
theorem Mm.away {T : List Nat} (h : Mm w p gC gD L X V Y most) (hc : Chg T w w') (h0 : p ∉ T) (h1 : gC ∉ T) (h2 : gD ∉ T) : Mm w' p gC gD L X V Y most :=
 ⟨h.rec_.chg hc h0,h.cel.chg hc h1,h.dir.chg hc h2,h.len,h.le,h.top,h.capX,h.capY⟩
theorem Mm.small (h : Mm w p gC gD L X V Y most) : L.length ≤ 4096:=by have:=h.len; have:=h.le; have:=h.top; omega
theorem Mm.src (h : Mm w p gC gD L X V Y most) : Src w (some ⟨gC,0,none⟩) (bts L):=by
 have:=Src.of_whole h.cel 0 (bts L).length
 rwa [List.drop_zero,List.take_left' rfl] at this
theorem zbQ (h : Mm w p gC gD L X V Y most) : Calls Tryz.prog 43 #[.pointer (some ⟨p,0,none⟩)] w fun e w' => e = .returned (.int .i64 (most : Int)) ∧ w = w':=by
 have c1:=h.rec_.cell 1
 go_enter Tryz.func43,Tryz.ntmps43
 go_wp2_with fail
 go_ret
 exact ⟨rfl,rfl⟩
end
end Go.Proofs.YtbkfhndmeljlcaaGreatDoor
namespace Go.Proofs.YtbkfhndmeljlcaaGreatDoor
open Go.RowKit
def vB_ (w : World) (l : List UInt8) (k most : Nat) (e : Ending) (w' : World) : Prop :=
 ∃ p gC gD,e = .returned (.pointer (some ⟨p,0,none⟩)) ∧ Mm w' p gC gD l [] (yk_ k) [] most ∧ w.heap.size ≤ p ∧ w.heap.size ≤ gC ∧ w.heap.size ≤ gD ∧ Chg [] w w'
section
variable {w : World}
theorem vB_.drew {l : List UInt8} {k most : Nat} {e : Ending} {w' : World} (h : vB_ w l k most e w') : vB_ w l k most e w'.drew:=by
 obtain ⟨p,gC,gD,he,hM,h1,h2,h3,hc⟩:=h
 exact ⟨p,gC,gD,he,hM.keep (Chg.refl [] w').drew,h1,h2,h3,hc.drew⟩
theorem zbN {W : World} {q gC gD k most n : Nat} {l : List UInt8} (hq : q = W.heap.size) (hC : zb_ W gC 5 (bts l)) (hD : zb_ W gD 4 (bls (yk_ k))) (hn : l.length = n) (hl : n = 64 * k) (h1 : k ≤ most) (h2 : most ≤ 64)
    (hc : Chg [] w W) (b1 : w.heap.size ≤ gC) (b2 : w.heap.size ≤ gD) :
    vB_ w l k most (.returned (.pointer (some ⟨q,0,none⟩))) (W.alloc (.cells #[.slice (some ⟨gC,0,none⟩) n n,.int .i64 (most : Int),.slice (some ⟨gD,0,none⟩) k k] 95)):=by
 subst hq hn
 have hk : ∀ o,Chg [] W (W.alloc o):=fun o => (Chg.refl [] W).alloc o
 refine ⟨W.heap.size,gC,gD,rfl,⟨?_,by simpa using hC.keep (hk _),by simpa using hD.keep (hk _),by rw [vj_]; exact hl,by rw [vj_]; exact h1,h2,by unfold maxLen; simp; omega,by unfold maxLen; simp [vj_]; omega⟩,hc.size,b1,b2,hc.alloc _⟩
 have:=zb_.new W 95 [.slice (some ⟨gC,0,none⟩) l.length l.length,.int .i64 (most : Int),.slice (some ⟨gD,0,none⟩) k k]
 simpa [vj_] using this
theorem cnew_no (k most : Int) (h : k < 0 ∨ most < k ∨ 64 < most) :
    Calls Tryz.prog 74 #[.int .i64 k,.int .i64 most] w fun e w' => e = .returned (.pointer none) ∧ w = w':=by
 by_cases h1 : k < 0
 · have hd : decide (k < 0) = true:=by simpa using h1
   clear h
   go_enter Tryz.func74,Tryz.ntmps74
   go_wp2_with fail
   go_ret
   exact ⟨rfl,rfl⟩
 · have hd1 : decide (k < 0) = false:=by simpa using h1
   by_cases h2 : most < k
   · have hd : decide (most < k) = true:=by simpa using h2
     clear h
     go_enter Tryz.func74,Tryz.ntmps74
     go_wp2_with fail
     go_ret
     exact ⟨rfl,rfl⟩
   · have hd2 : decide (most < k) = false:=by simpa using h2
     have hd3 : decide (64 < most) = true:=by simp; omega
     clear h
     go_enter Tryz.func74,Tryz.ntmps74
     go_wp2_with fail
     go_ret
     exact ⟨rfl,rfl⟩
theorem zdT (k most : Nat) (h1 : k ≤ most) (h2 : most ≤ 64) :
    Calls Tryz.prog 74 #[.int .i64 (k : Int),.int .i64 (most : Int)] w (vB_ w (zt_ (k * 64)) k most):=by
 have hd2 : decide ((most : Int) < (k : Int)) = false:=by simp; omega
 have hd3 : decide (64 < (most : Int)) = false:=by simp; omega
 have hmk : ∀ W : World,(Instr.makeSlice 33 (.int .i64 ((k : Int) * 64)) (.int .i64 ((k : Int) * 64))).run Tryz.prog W = .ok (.slice (some ⟨W.heap.size,0,none⟩) (k * 64) (k * 64)) (W.alloc (.cells (bts (zt_ (k * 64))).toArray 5)) :=
  fun W => by
   have:=zbV (k * 64) (by omega) W
   simpa using this
 have hmb : ∀ W : World,(Instr.makeSlice 78 (.int .i64 (k : Int)) (.int .i64 (k : Int))).run Tryz.prog W = .ok (.slice (some ⟨W.heap.size,0,none⟩) k k) (W.alloc (.cells (bls (yk_ k)).toArray 4)) :=
  fun W => j0_ k (by omega) W
 have hz : (zt_ (k * 64)).length = k * 64:=zI_ _
 have HZ:=hQ_ hz
 clear hz
 have hw : IntKind.i64.wrap ((k : Int) * 64) = (k : Int) * 64:=IntWalk.i64_in _ (by omega)
 go_enter Tryz.func74,Tryz.ntmps74
 go_wp2_with fail
 go_region_with fail
 all_goals
   go_wp2_with fail
   go_ret
 · have hA:=zb_.new w 5 (bts (zt_ (k * 64)))
   have hB:=zb_.new (w.alloc (.cells (bts (zt_ (k * 64))).toArray 5)) 4 (bls (yk_ k))
   rw [show (w.alloc (.cells (bts (zt_ (k * 64))).toArray 5)).heap.size = w.heap.size + 1 by simp] at hB
   exact (zbN (W:=(w.alloc (.cells (bts (zt_ (k * 64))).toArray 5)).alloc (.cells (bls (yk_ k)).toArray 4)) (by simp) (hA.keep ((Chg.refl [] _).alloc _)) hB HZ.out (by omega) h1 h2 (((Chg.refl [] w).alloc _).alloc _) (Nat.le_refl _) (by omega)).drew
 · have hA:=zb_.new w 4 (bls (yk_ k))
   have hB:=zb_.new (w.alloc (.cells (bls (yk_ k)).toArray 4)) 5 (bts (zt_ (k * 64)))
   rw [show (w.alloc (.cells (bls (yk_ k)).toArray 4)).heap.size = w.heap.size + 1 by simp] at hB
   exact (zbN (W:=(w.alloc (.cells (bls (yk_ k)).toArray 4)).alloc (.cells (bts (zt_ (k * 64))).toArray 5)) (by simp) hB (hA.keep ((Chg.refl [] _).alloc _)) HZ.out (by omega) h1 h2 (((Chg.refl [] w).alloc _).alloc _) (by omega) (Nat.le_refl _)).drew
variable {A : Option Addr} {n c : Nat} {l : List UInt8}
theorem zbJ {w1 w2 : World} {p gC gD k most : Nat} {z : List UInt8} (hM : Mm w1 p gC gD z [] (yk_ k) [] most) (hz : z.length = l.length) (hc1 : Chg [] w w1) (b0 : w.heap.size ≤ p) (b1 : w.heap.size ≤ gC) (b2 : w.heap.size ≤ gD)
    (HG : zb_ w2 gC 5 (splice (bts z) 0 (bts l))) (HC : Chg [gC] w1 w2) : vB_ w l k most (.returned (.pointer (some ⟨p,0,none⟩))) w2:=by
      have d0:=hM.rec_.ne_ hM.cel (by decide)
      have d1:=hM.dir.ne_ hM.cel (by decide)
      rw [g4_ _ _ (by rw [zA_,zA_,hz])] at HG
      have hr:=hM.rec_.chg HC (by simpa using d0)
      have hd:=hM.dir.chg HC (by simpa using d1)
      have h1:=hM.len
      have h2:=hM.capX
      rw [hz] at hr h1 h2
      refine ⟨p,gC,gD,rfl,⟨hr,by simpa using HG,hd,h1,hM.le,hM.top,h2,hM.capY⟩,b0,b1,b2,?_⟩
      exact hc1.then_ HC fun i hi hlt => by
       simp only [List.mem_cons,List.not_mem_nil,or_false] at hi
       omega
theorem zfm (hl : l.length = n) (hs : Src w A (bts l)) (most : Nat) (h1 : n % 64 = 0) (h2 : n / 64 ≤ most) (h3 : most ≤ 64) :
    Calls Tryz.prog 48 #[.slice A n c,.int .i64 (most : Int)] w (vB_ w l (n / 64) most):=by
 have hd : ((n : Int) % 64 != 0) = false:=by simp; omega
 have hq : ((n : Int) / 64) = ((n / 64 : Nat) : Int):=by omega
 have HL:=hQ_ hl
 have HQ:=hQ_ hq
 have H1:=hQ_ h1
 have hb:=x8_ l
 clear hl hq h1
 go_enter Tryz.func48,Tryz.ntmps48
 go_wp2_with (first
  | (go_at_call 74
     rw [HQ.out]
     refine (zdT (n / 64) most h2 h3).mono ?_
     rintro e w1 ⟨p,gC,gD,rfl,hM,b0,b1,b2,hc1⟩
     have hz : (zt_ (n / 64 * 64)).length = n:=by rw [zI_]; have:=H1.out; omega
     have hsr:=hs.keep hc1
     have c0:=hM.rec_.cell 0
     have hcel:=hM.cel
     rw [List.append_nil] at hcel
     have Hn:=hQ_ (show (bts l).length = Nat.min n n by rw [zA_,HL.out]; exact (Nat.min_self n).symm)
     have Hf : 0 + (bts l).length ≤ (bts (zt_ (n / 64 * 64))).length:=by rw [zA_,zA_,hz,HL.out]; omega
     have HM:=hQ_ hM
     have HZ:=hQ_ hz
     simp only [List.length_nil,Nat.add_zero,hz] at c0
     obtain ⟨Y,hY⟩ : ∃ Y,Y = bts l:=⟨_,rfl⟩
     have HY:=hQ_ hY
     rw [← hY] at hb hsr Hn Hf
     clear hY hM hz)
  | (with_reducible refine uN_ rfl (.tmp 20) (.tmp 21) _ _ rfl 5 Tryz.underlying33 zbd (some ⟨gC,0,none⟩) A n n n c rfl rfl gC 0 5 (bts (zt_ (n / 64 * 64))) Y hcel Hn.out (fun _ => rfl) hsr Hf hb ?_
     intro w2 HG HC))
 go_ret
 rw [HY.out] at HG
 exact zbJ HM.out (by rw [HZ.out,HL.out]) hc1 b0 b1 b2 HG HC
end
end Go.Proofs.YtbkfhndmeljlcaaGreatDoor
namespace Go.Proofs.YtbkfhndmeljlcaaGreatDoor
open Go.RowKit
theorem yF_ (z : Value) (n : Nat) : Builtin.zeroCells #[z] n = (List.replicate n z).toArray:=by
 apply Array.ext
 · simp [Builtin.zeroCells]
 · intro i h1 h2
   simp [Builtin.zeroCells,Nat.mod_one]
theorem xU_ {P : Program} (w : World) (base : Nat) (t tn ty e : TypeId) (i : TypeInfo) (z : Value) (bytes : Nat) (kn : IntKind) (ht : P.underlying t = some (.slice e)) (htn : P.underlying tn = some (.int kn)) (hi : P.info? e = some i) (hz : i.zero = some z)
    (hsize : i.size = 1) (hby : i.bytes = bytes) (hzc : z.cells = #[z]) (hz1 : z.oneCell' = true)
    (g n cap : Nat) (xs : List Value) (hown : w.ownsRow base e 1 (.slice (some ⟨g,0,none⟩) n cap) n xs)
    (k : Nat) (h63 : n + k ≤ maxLen) (hbytes : (n + k) * bytes ≤ 140737488355328) (hbase : base ≤ w.heap.size) :
    ∃ g' cap' w',(Builtin.append_ #[t,tn] ty #[.slice (some ⟨g,0,none⟩) n cap,.int .i64 (k : Int)]).run P w = .ok (.slice (some ⟨g',0,none⟩) (n + k) cap') w' ∧
      w'.ownsRow base e 1 (.slice (some ⟨g',0,none⟩) (n + k) cap') (n + k) (xs ++ List.replicate k z) ∧ w.grownBy w' (some g) ∧ (g' = g ∨ g' = w.heap.size):=by
 have hsmall : n + k ≤ 9223372036854775807:=by simpa only [maxLen] using h63
 have hw : IntKind.i64.wrap (k : Int) = k:=by rw [IntKind.wrap_i64]; omega
 have hneg : ¬ ((k : Int) < 0):=by omega
 have h48 : k * bytes ≤ 281474976710656:=by have : k * bytes ≤ (n + k) * bytes:=Nat.mul_le_mul_right _ (by omega); omega
 have h48i : ¬ (281474976710656 < (k : Int) * (i.bytes : Int)):=by rw [hby,← Int.natCast_mul]; omega
 have hlx:=hown.1
 rcases hown.2 with ⟨h,_⟩ | ⟨g',cap',cur,h,hbg,hg,hnc,hcm,hcs,htake⟩
 · simp at h
 · simp only [Value.slice.injEq,Option.some.injEq,Addr.mk.injEq,and_true,true_and] at h
   obtain ⟨rfl,rfl⟩:=h
   rw [Nat.mul_one] at hcs htake hlx
   by_cases hk0 : k = 0
   · subst hk0
     refine ⟨g,cap,w,?_,by simpa using hown,World.grownBy.refl w _,.inl rfl⟩
     have hw0 : IntKind.i64.wrap 0 = 0:=by decide
     simp [Builtin.append_,run_underlying ht,run_underlying htn,sizeOf,typeInfo,hi,asInt,asIntOf,storeCells,hnc,hw0]
   · have hns : ¬ (k * i.size = 0):=by rw [hsize]; omega
     by_cases hroom : n + k ≤ cap
     · have hfit : n + (List.replicate k z).length ≤ cur.size:=by rw [List.length_replicate]; omega
       have hst:=run_storeCells_at P g n e (List.replicate k z) 0 cur w hg (by simpa using hfit) (fun u hu => by rw [(List.mem_replicate.1 hu).2]; exact hz1)
       simp only [Nat.add_zero] at hst
       rw [List.length_replicate] at hst
       have hr : (Builtin.append_ #[t,tn] ty #[.slice (some ⟨g,0,none⟩) n cap,.int .i64 (k : Int)]).run P w = .ok (.slice (some ⟨g,0,none⟩) (n + k) cap) (w.setRow g (cur.toList.take n ++ List.replicate k z ++ cur.toList.drop (n + k)).toArray):=by
        simp [Builtin.append_,run_underlying ht,run_underlying htn,sizeOf,typeInfo,zeroValue,hi,hz,asInt,asIntOf,hw,hneg,h48i,hk0,hroom,hsize,hzc,yF_,Addr.add_lit,hst]
       refine ⟨_,_,_,hr,⟨by simp [hlx],.inr ⟨g,cap,_,rfl,hbg,setRow_heap w g cur _ e _ hg,hroom,hcm,?_,?_⟩⟩,⟨rfl,rfl,rfl,by simp,fun j _ hj => setRow_other w g j _ (fun e => hj (by simp [e]))⟩,.inl rfl⟩
       · simp only [List.size_toArray,List.length_append,List.length_take,List.length_drop,Array.length_toList,List.length_replicate]
         omega
       · rw [htake,Nat.mul_one]
         have e1 : (xs ++ List.replicate k z).length = n + k:=by rw [List.length_append,List.length_replicate,hlx]
         rw [← e1]
         exact List.take_left
     · have hf:=run_firstCells_some (P:=P) w.drew i.size n ⟨g,0,none⟩ n cap xs (by rw [hsize,Nat.mul_one]; exact hlx) (fun j u hj => hown.cells (g:=g) rfl j u hj)
       have hr:=Lib.run_append_grow_zeros (P:=P) w t tn ty e i z .i64 kn ht htn hi hz (some ⟨g,0,none⟩) n cap xs hf k (by omega) (by omega) (by omega) (by omega) (by rw [hby]; exact h48) (by rw [hby]; exact growslice_fits (by omega) hbytes)
       rw [hzc,yF_,yF_] at hr
       have hge:=grownCap_ge w (n + k) cap e
       have hcm2 : grownCap w (n + k) cap e ≤ maxLen:=grownCap_le_maxLen w (n + k) cap e h63
       refine ⟨_,_,_,hr,⟨by simp [hlx],.inr ⟨w.heap.size,_,_,rfl,hbase,heap_alloc_new w.drew _,hge,hcm2,?_,?_⟩⟩,⟨rfl,rfl,rfl,by simp,fun j hj _ => Below.heap_alloc w.drew _ j hj⟩,.inr rfl⟩
       · simp only [Array.size_append,List.size_toArray,List.length_replicate,hlx]
         omega
       · simp only [Array.toList_append,Nat.mul_one]
         have e1 : (xs ++ List.replicate k z).length = n + k:=by rw [List.length_append,List.length_replicate,hlx]
         rw [← e1]
         exact List.take_left
end Go.Proofs.YtbkfhndmeljlcaaGreatDoor
namespace Go.Proofs.YtbkfhndmeljlcaaGreatDoor
open Go.RowKit
theorem zfL (W : World) {s : Nat} (h : W.heap.size = s) (C : Array Value) (n c : Nat) : (convert 33 33 (.slice (some ⟨s,0,none⟩) n c)).run Tryz.prog (W.alloc (.cells C 5)) = .ok (.slice (some ⟨s,0,none⟩) n c) (W.alloc (.cells C 5 (C.size,C.size + 1))):=by
 subst h
 exact Lib.run_convert_bytes_const (P:=Tryz.prog) W 33 5 C n c Tryz.underlying33 Tryz.underlying5
theorem gy_ (w : World) (t : TypeId) (l : List UInt8) (fz : Nat × Nat) (hm : l.length ≤ 9223372036854775807) : Bs (w.alloc (.cells (bts l).toArray t fz)) (some ⟨w.heap.size,0,none⟩) l.length l.length l:=by
 refine ⟨rfl,fun _ => ⟨_,rfl,by simp,fun j v hj => ?_⟩,Nat.le_refl _,hm,fun _ ad e => by injection e with e; subst e; rfl⟩
 rw [zj_,Nat.zero_add,cell_of_row _ _ _ _ _ _ (heap_alloc_new w _)]
 simpa using hj
end Go.Proofs.YtbkfhndmeljlcaaGreatDoor
