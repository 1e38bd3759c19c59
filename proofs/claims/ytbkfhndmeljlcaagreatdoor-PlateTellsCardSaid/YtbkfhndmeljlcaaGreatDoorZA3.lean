import Derived.Test.YtbkfhndmeljlcaaGreatDoorZA1
import Derived.Test.YtbkfhndmeljlcaaGreatDoorZA2
import Derived.Deep.Slices
set_option maxRecDepth 100000
set_option maxHeartbeats 16000000
namespace Go.Proofs.YtbkfhndmeljlcaaGreatDoor
open Go.RowKit
def yt_ : Turns:=⟨Chg [],Chg [],[],[]⟩
theorem za_ : yt_.Ok:=⟨Chg.refl [],fun _ _ h => h,fun _ _ _ h k => h.trans k⟩
theorem zE_ (k : Nat) : yt_.by_ k = Chg []:=by unfold Turns.by_; split <;> rfl
def zag (B : Nat) (e : TypeId) (xs : List Value) : yE_:=fun v W => W.ownsRow B e 1 v xs.length xs
theorem x5_ (B : Nat) (e : TypeId) (xs : List Value) : zU_ (Chg []) (zag B e xs):=fun _ _ _ h hc => zq_ h hc
end Go.Proofs.YtbkfhndmeljlcaaGreatDoor
namespace Go.Proofs.YtbkfhndmeljlcaaGreatDoor
open Go.RowKit
theorem zfZ {a : Int} (h : (Lit.int .u8 a).wf = true) : ∃ x : UInt8,a = (x.toNat : Int):=by
 have hb : 0 ≤ a ∧ a ≤ 255:=by simpa [Lit.wf,IntKind.min,IntKind.max,IntKind.signed,IntKind.bits] using h
 exact ⟨UInt8.ofNat a.toNat,by rw [UInt8.toNat_ofNat']; omega⟩
theorem km_ {a : Int} (h : (Lit.int .i64 a).wf = true) : -9223372036854775808 ≤ a ∧ a ≤ 9223372036854775807:=by
 simpa [Lit.wf,IntKind.min,IntKind.max,IntKind.signed,IntKind.bits] using h
end Go.Proofs.YtbkfhndmeljlcaaGreatDoor
namespace Go.Proofs.YtbkfhndmeljlcaaGreatDoor
structure NPart where
  loop : Bool
  at_ : Nat
  waits : Nat
  left : List Nat
structure NSt where
  tO : List Int
  deep : Nat
  op : List NPart
def yz_ (i : Nat) : List NPart → Option (List NPart)
  | [] => none
  | p :: r => if p.loop = true then some (⟨p.loop,p.at_,p.waits,p.left ++ [i]⟩ :: r) else (yz_ i r).map (p :: ·)
def yT_ (v : Int) : List Nat → List Int → List Int
  | [],t => t
  | j :: r,t => yT_ v r (t.set j v)
def yM_ (i : Nat) (s : Int) (m : NSt) : Option NSt :=
 if s = 63 ∨ s = 91 then
   if m.op.length + 1 ≤ 16 then some ⟨m.tO,max m.deep (m.op.length + 1),⟨decide (s = 91),i,i,[]⟩ :: m.op⟩ else none
 else if s = 58 then match m.op with
   | p :: r => if p.loop = false ∧ p.waits = p.at_ then some ⟨m.tO.set p.at_ ((i : Int) + 1),m.deep,⟨p.loop,p.at_,i,p.left⟩ :: r⟩ else none
   | [] => none
 else if s = 59 then match m.op with
   | p :: r => if p.loop = false then some ⟨m.tO.set p.waits (i : Int),m.deep,r⟩ else none
   | [] => none
 else if s = 93 then match m.op with
   | p :: r => if p.loop = true then some ⟨yT_ ((i : Int) + 1) p.left (m.tO.set i (p.at_ : Int)),m.deep,r⟩ else none
   | [] => none
 else if s = 126 then (yz_ i m.op).map fun o => ⟨m.tO,m.deep,o⟩
 else some m
def jf_ : Nat → List Int → NSt → Option NSt
  | _,[],m => some m
  | i,s :: r,m => (yM_ i s ⟨m.tO.set i (-1),m.deep,m.op⟩).bind (jf_ (i + 1) r)
structure RSt where
  tO : List Int
  deep : Nat
  op : List Nat
def yQ_ (ss : List Int) (i : Nat) (s : Int) (m : RSt) : Option RSt :=
 if s = 63 ∨ s = 91 then
   if m.op.length + 1 ≤ 16 then some ⟨m.tO,max m.deep (m.op.length + 1),i :: m.op⟩ else none
 else if s = 58 then match m.op with
   | p :: r => if ss[p]? = some 63 then some ⟨m.tO.set p ((i : Int) + 1),m.deep,i :: r⟩ else none
   | [] => none
 else if s = 59 then match m.op with
   | p :: r => if ss[p]? = some 91 then none else some ⟨m.tO.set p (i : Int),m.deep,r⟩
   | [] => none
 else if s = 93 then match m.op with
   | p :: r => if ss[p]? = some 91 then some ⟨m.tO.set i (p : Int),m.deep,r⟩ else none
   | [] => none
 else some m
def uD_ (ss : List Int) : Nat → List Int → RSt → Option RSt
  | _,[],m => some m
  | i,s :: r,m => (yQ_ ss i s ⟨m.tO.set i (-1),m.deep,m.op⟩).bind (uD_ ss (i + 1) r)
structure Part (ss : List Int) (n : Nat) (p : NPart) : Prop where
  lt : p.at_ < n
  ltw : p.waits < n
  le : p.at_ ≤ p.waits
  loop : p.loop = true → p.waits = p.at_ ∧ ss[p.at_]? = some 91
  if_ : p.loop = false → ss[p.at_]? = some 63 ∧ (p.waits = p.at_ ∨ ss[p.waits]? = some 58)
theorem Part.more {ss : List Int} {n k : Nat} {p : NPart} (h : Part ss n p) (hk : n ≤ k) : Part ss k p:=⟨by have:=h.lt; omega,by have:=h.ltw; omega,h.le,h.loop,h.if_⟩
theorem Part.is_loop {ss : List Int} {n : Nat} {p : NPart} (h : Part ss n p) : ss[p.waits]? = some 91 ↔ p.loop = true:=by
 constructor
 · intro h1
   cases hl : p.loop with
   | true => rfl
   | false =>
     obtain ⟨a,b | b⟩:=h.if_ hl
     · rw [b,a] at h1; cases h1
     · rw [b] at h1; cases h1
 · intro hl
   obtain ⟨a,b⟩:=h.loop hl
   rw [a,b]
theorem Part.is_if {ss : List Int} {n : Nat} {p : NPart} (h : Part ss n p) : ss[p.waits]? = some 63 ↔ (p.loop = false ∧ p.waits = p.at_):=by
 constructor
 · intro h1
   cases hl : p.loop with
   | true =>
     obtain ⟨a,b⟩:=h.loop hl
     rw [a,b] at h1; cases h1
   | false =>
     obtain ⟨a,b | b⟩:=h.if_ hl
     · exact ⟨rfl,b⟩
     · rw [b] at h1; cases h1
 · rintro ⟨hl,e⟩
   rw [e]; exact (h.if_ hl).1
theorem qC_ {i : Nat} : ∀ {l : List NPart},(∃ p ∈ l,p.loop = true) → ∃ o,yz_ i l = some o:=by
 intro l
 induction l with
 | nil => rintro ⟨p,h,_⟩; cases h
 | cons p r ih =>
   rintro ⟨q,hq,hl⟩
   unfold yz_
   by_cases h : p.loop = true
   · exact ⟨_,if_pos h⟩
   · rw [if_neg h]
     have : ∃ q ∈ r,q.loop = true:=by
      rcases List.mem_cons.1 hq with rfl | hq
      · exact absurd hl h
      · exact ⟨q,hq,hl⟩
     obtain ⟨o,ho⟩:=ih this
     exact ⟨p :: o,by rw [ho]; rfl⟩
theorem uo_ {i : Nat} : ∀ {l o : List NPart},yz_ i l = some o → ∃ a p r,l = a ++ p :: r ∧ (∀ q ∈ a,q.loop = false) ∧ p.loop = true ∧ o = a ++ ⟨p.loop,p.at_,p.waits,p.left ++ [i]⟩ :: r:=by
 intro l
 induction l with
 | nil => intro o h; cases h
 | cons p r ih =>
   intro o h
   unfold yz_ at h
   by_cases hp : p.loop = true
   · rw [if_pos hp] at h
     injection h with h
     exact ⟨[],p,r,rfl,(fun q hq => by cases hq),hp,h.symm⟩
   · rw [if_neg hp] at h
     cases hr : yz_ i r with
     | none => rw [hr] at h; cases h
     | some o' =>
       rw [hr] at h
       injection h with h
       obtain ⟨a,q,r',e1,e2,e3,e4⟩:=ih hr
       exact ⟨p :: a,q,r',by rw [e1]; rfl,fun x hx => by rcases List.mem_cons.1 hx with rfl | hx; exact (Bool.not_eq_true _).mp hp; exact e2 x hx,e3,by rw [← h,e4]; rfl⟩
theorem qD_ {i : Nat} : ∀ {l : List NPart},yz_ i l = none → ∀ p ∈ l,p.loop = false:=by
 intro l h p hp
 cases hl : p.loop with
 | false => rfl
 | true =>
   obtain ⟨o,ho⟩:=qC_ (i:=i) ⟨p,hp,hl⟩
   rw [h] at ho; cases ho
def xI_ (ss : List Int) (t : List Int) (j a b : Nat) : Prop:=∀ k,j ≤ k → a ≤ k → k < b → ss[k]? = some 93 → ∃ v,t[k]? = some v ∧ (j : Int) ≤ v
structure Sim (ss : List Int) (n : Nat) (m : NSt) (r : RSt) : Prop where
  deep : m.deep = r.deep
  op : m.op.map (·.waits) = r.op
  lenM : m.tO.length = ss.length
  lenR : r.tO.length = ss.length
  parts : ∀ p ∈ m.op,Part ss n p
  desc : m.op.Pairwise fun p q => q.waits < p.at_
  same : ∀ j : Nat,ss[j]? ≠ some 126 → m.tO[j]? = r.tO[j]?
  pend : ∀ p ∈ m.op,∀ j ∈ p.left,p.loop = true ∧ ss[j]? = some 126 ∧ p.waits < j ∧ j < n ∧ xI_ ss r.tO j 0 n ∧ ∀ q ∈ m.op,q.loop = true → p.at_ < q.at_ → j < q.at_
  done : ∀ j : Nat,j < n → ss[j]? = some 126 → (∃ p ∈ m.op,j ∈ p.left) ∨ ∃ k : Nat,j < k ∧ k < n ∧ m.tO[j]? = some ((k : Int) + 1) ∧ ss[k]? = some 93 ∧ (∃ v,r.tO[k]? = some v ∧ v < (j : Int)) ∧ xI_ ss r.tO j 0 k
theorem xI_.keep {ss t u : List Int} {j a b : Nat} (h : xI_ ss t j a b) (hu : ∀ k : Nat,k < b → ss[k]? = some 93 → u[k]? = t[k]?) : xI_ ss u j a b:=fun k h1 h2 h3 h4 => by rw [hu k h3 h4]; exact h k h1 h2 h3 h4
theorem xI_.next {ss t : List Int} {j b : Nat} (h : xI_ ss t j 0 b) (hb : ss[b]? = some 93 → ∃ v,t[b]? = some v ∧ (j : Int) ≤ v) : xI_ ss t j 0 (b + 1):=fun k h1 h2 h3 h4 => by
 rcases Nat.lt_or_ge k b with hk | hk
 · exact h k h1 h2 hk h4
 · obtain rfl : k = b:=by omega
   exact hb h4
theorem Sim.plain {ss : List Int} {n : Nat} {m : NSt} {r : RSt} (h : Sim ss n m r) {tm tr : List Int} {dm : Nat} {om : List NPart} (hn : ss[n]? ≠ some 93) (hn2 : ss[n]? ≠ some 126) (lm : tm.length = ss.length) (lr : tr.length = ss.length)
    (hsame : ∀ j : Nat,ss[j]? ≠ some 126 → tm[j]? = tr[j]?) (h9 : ∀ k : Nat,k < n → ss[k]? = some 93 → tr[k]? = r.tO[k]?) (h6 : ∀ j : Nat,j < n → ss[j]? = some 126 → tm[j]? = m.tO[j]?)
    (hparts : ∀ p ∈ om,Part ss (n + 1) p) (hdesc : om.Pairwise fun p q => q.waits < p.at_)
    (hleft : ∀ p ∈ om,p.left = [] ∨ ∃ p0 ∈ m.op,p0.left = p.left ∧ p0.loop = p.loop ∧ p0.at_ = p.at_ ∧ p0.waits = p.waits)
    (hleft2 : ∀ p ∈ m.op,p.left ≠ [] → ∃ p0 ∈ om,p0.left = p.left)
    (hloop : ∀ q ∈ om,q.loop = true → q.at_ = n ∨ ∃ q0 ∈ m.op,q0.loop = true ∧ q0.at_ = q.at_) :
    Sim ss (n + 1) ⟨tm,dm,om⟩ ⟨tr,dm,om.map (·.waits)⟩ where
  deep:=rfl
  op:=rfl
  lenM:=lm
  lenR:=lr
  parts:=hparts
  desc:=hdesc
  same:=hsame
  pend:=fun p hp j hj => by
   rcases hleft p hp with e | ⟨p0,hp0,e1,e2,e3,e4⟩
   · rw [e] at hj; cases hj
   · rw [← e1] at hj
     obtain ⟨a1,a2,a3,a4,a5,a6⟩:=h.pend p0 hp0 j hj
     refine ⟨by rw [← e2]; exact a1,a2,by omega,by omega,(a5.keep h9).next (fun h9' => absurd h9' hn),fun q hq hl hlt => ?_⟩
     rcases hloop q hq hl with e | ⟨q0,hq0,l0,e0⟩
     · omega
     · rw [← e0] at hlt ⊢
       exact a6 q0 hq0 l0 (by omega)
  done:=fun j hj hs => by
   have hjn : j < n:=by
    rcases Nat.lt_or_ge j n with hk | hk
    · exact hk
    · obtain rfl : j = n:=by omega
      exact absurd hs hn2
   rcases h.done j hjn hs with ⟨p,hp,hj2⟩ | ⟨k,b1,b2,b3,b4,⟨v,b5,b6⟩,b7⟩
   · obtain ⟨p0,hp0,e⟩:=hleft2 p hp (fun e => by rw [e] at hj2; cases hj2)
     exact .inl ⟨p0,hp0,by rw [e]; exact hj2⟩
   · exact .inr ⟨k,b1,by omega,by rw [h6 j hjn hs]; exact b3,b4,⟨v,by rw [h9 k b2 b4]; exact b5,b6⟩,b7.keep (fun k' hk' h9' => h9 k' (by omega) h9')⟩
theorem kH_ (v : Int) : ∀ (l : List Nat) (t : List Int),(yT_ v l t).length = t.length
  | [],_ => rfl
  | j :: r,t => by show (yT_ v r (t.set j v)).length = _; rw [kH_ v r,List.length_set]
theorem vb_ (v : Int) (j : Nat) : ∀ (l : List Nat) (t : List Int),j ∉ l → (yT_ v l t)[j]? = t[j]?
  | [],_,_ => rfl
  | i :: r,t,h => by
    show (yT_ v r (t.set i v))[j]? = _
    rw [vb_ v j r _ (fun e => h (List.mem_cons_of_mem _ e)),List.getElem?_set_ne (fun e => h (by rw [e]; exact List.mem_cons_self ..))]
theorem kG_ (v : Int) (j : Nat) : ∀ (l : List Nat) (t : List Int),j ∈ l → j < t.length → (yT_ v l t)[j]? = some v
  | i :: r,t,h,ht => by
    show (yT_ v r (t.set i v))[j]? = _
    by_cases hr : j ∈ r
    · exact kG_ v j r _ hr (by rw [List.length_set]; exact ht)
    · rw [vb_ v j r _ hr]
      rcases List.mem_cons.1 h with e | e
      · rw [e,List.getElem?_set_self (by rw [← e]; exact ht)]
      · exact absurd e hr
theorem uB_ {ss a b : List Int} (h : ∀ j : Nat,ss[j]? ≠ some 126 → a[j]? = b[j]?) (hl : a.length = b.length) (i : Nat) (v : Int) : ∀ j : Nat,ss[j]? ≠ some 126 → (a.set i v)[j]? = (b.set i v)[j]?:=fun j hj => by
 rw [List.getElem?_set,List.getElem?_set,hl,h j hj]
theorem vh_ {ss a : List Int} {i : Nat} {s v x : Int} (hi : ss[i]? = some x) (hx : x ≠ s) : ∀ k : Nat,ss[k]? = some s → (a.set i v)[k]? = a[k]?:=fun k hk => by
 rw [List.getElem?_set_ne (fun e => by subst e; rw [hi] at hk; injection hk with hk; exact hx hk)]
theorem zdh {ss : List Int} {n : Nat} {m : NSt} {r : RSt} {s : Int} (h : Sim ss n m r) (hs : ss[n]? = some s) :
    (∃ m' r',yM_ n s ⟨m.tO.set n (-1),m.deep,m.op⟩ = some m' ∧ yQ_ ss n s ⟨r.tO.set n (-1),r.deep,r.op⟩ = some r' ∧ Sim ss (n + 1) m' r') ∨
    (yM_ n s ⟨m.tO.set n (-1),m.deep,m.op⟩ = none ∧ yQ_ ss n s ⟨r.tO.set n (-1),r.deep,r.op⟩ = none) ∨
    (s = 126 ∧ yM_ n s ⟨m.tO.set n (-1),m.deep,m.op⟩ = none ∧ ∀ p ∈ m.op,p.loop = false):=by
      have hop:=h.op
      have hln : n < ss.length:=by
       rcases Nat.lt_or_ge n ss.length with hk | hk
       · exact hk
       · rw [List.getElem?_eq_none hk] at hs; cases hs
      have hlen : r.op.length = m.op.length:=by rw [← hop,List.length_map]
      have lmr : m.tO.length = r.tO.length:=by rw [h.lenM,h.lenR]
      have hs0:=uB_ h.same lmr n (-1)
      have lm0 : (m.tO.set n (-1)).length = ss.length:=by rw [List.length_set,h.lenM]
      have lr0 : (r.tO.set n (-1)).length = ss.length:=by rw [List.length_set,h.lenR]
      have k0 : ∀ (t : List Int) (k : Nat),k < n → (t.set n (-1))[k]? = t[k]?:=fun t k hk => List.getElem?_set_ne (by omega)
      have hdp:=h.deep
      obtain ⟨mt,md,mo⟩:=m
      obtain ⟨rt,rd,ro⟩:=r
      simp only at *
      subst hdp hop
      unfold yM_ yQ_
      simp only
      by_cases c1 : s = 63 ∨ s = 91
      · rw [if_pos c1,if_pos c1,hlen]
        by_cases c2 : mo.length + 1 ≤ 16
        · rw [if_pos c2,if_pos c2]
          refine .inl ⟨_,_,rfl,rfl,?_⟩
          have h93 : ss[n]? ≠ some 93:=by rw [hs]; intro e; injection e with e; omega
          have h126 : ss[n]? ≠ some 126:=by rw [hs]; intro e; injection e with e; omega
          refine h.plain h93 h126 lm0 lr0 hs0 (fun k hk _ => k0 rt k hk) (fun j hj _ => k0 mt j hj) ?_ ?_ ?_ ?_ ?_
          · intro p hp
            rcases List.mem_cons.1 hp with rfl | hp
            · refine ⟨by simp only; omega,by simp only; omega,Nat.le_refl _,fun hl => ⟨rfl,?_⟩,fun hl => ⟨?_,.inl rfl⟩⟩
              · have : s = 91:=of_decide_eq_true hl
                rw [hs,this]
              · have : ¬ s = 91:=of_decide_eq_false hl
                have : s = 63:=by omega
                rw [hs,this]
            · exact (h.parts p hp).more (by omega)
          · refine List.pairwise_cons.2 ⟨fun q hq => ?_,h.desc⟩
            exact (h.parts q hq).ltw
          · intro p hp
            rcases List.mem_cons.1 hp with rfl | hp
            · exact .inl rfl
            · exact .inr ⟨p,hp,rfl,rfl,rfl,rfl⟩
          · exact fun p hp _ => ⟨p,List.mem_cons_of_mem _ hp,rfl⟩
          · intro q hq hl
            rcases List.mem_cons.1 hq with rfl | hq
            · exact .inl rfl
            · exact .inr ⟨q,hq,hl,rfl⟩
        · rw [if_neg c2,if_neg c2]
          exact .inr (.inl ⟨rfl,rfl⟩)
      · rw [if_neg c1,if_neg c1]
        by_cases c3 : s = 58
        · rw [if_pos c3,if_pos c3]
          subst c3
          cases mo with
          | nil => exact .inr (.inl ⟨rfl,rfl⟩)
          | cons p o =>
            have hP:=h.parts p (List.mem_cons_self ..)
            simp only [List.map_cons]
            by_cases c4 : p.loop = false ∧ p.waits = p.at_
            · rw [if_pos c4,if_pos (hP.is_if.2 c4),c4.2]
              refine .inl ⟨_,_,rfl,rfl,?_⟩
              have hp63:=(hP.if_ c4.1).1
              refine h.plain (by rw [hs]; decide) (by rw [hs]; decide) (by rw [List.length_set]; exact lm0) (by rw [List.length_set]; exact lr0) (uB_ hs0 (by rw [lm0,lr0]) _ _) (fun k hk h9 => by rw [vh_ hp63 (by decide) k h9,k0 rt k hk]) (fun j hj h6 => by rw [vh_ hp63 (by decide) j h6,k0 mt j hj]) ?_ ?_ ?_ ?_ ?_
              · intro q hq
                rcases List.mem_cons.1 hq with rfl | hq
                · exact ⟨by have:=hP.lt; simp only; omega,by simp only; omega,by have:=hP.lt; simp only; omega,(fun hl => by simp only at hl; rw [c4.1] at hl; cases hl),fun _ => ⟨hp63,.inr hs⟩⟩
                · exact (h.parts q (List.mem_cons_of_mem _ hq)).more (by omega)
              · have:=List.pairwise_cons.1 h.desc
                exact List.pairwise_cons.2 ⟨fun q hq => this.1 q hq,this.2⟩
              · intro q hq
                rcases List.mem_cons.1 hq with rfl | hq
                · refine .inl ?_
                  simp only
                  cases hl : p.left with
                  | nil => rfl
                  | cons j l =>
                    have:=(h.pend p (List.mem_cons_self ..) j (by rw [hl]; exact List.mem_cons_self ..)).1
                    rw [c4.1] at this; cases this
                · exact .inr ⟨q,List.mem_cons_of_mem _ hq,rfl,rfl,rfl,rfl⟩
              · intro q hq _
                rcases List.mem_cons.1 hq with rfl | hq
                · exact ⟨_,List.mem_cons_self ..,rfl⟩
                · exact ⟨q,List.mem_cons_of_mem _ hq,rfl⟩
              · intro q hq hl
                rcases List.mem_cons.1 hq with rfl | hq
                · simp only at hl; rw [c4.1] at hl; cases hl
                · exact .inr ⟨q,List.mem_cons_of_mem _ hq,hl,rfl⟩
            · rw [if_neg c4,if_neg (fun e => c4 (hP.is_if.1 e))]
              exact .inr (.inl ⟨rfl,rfl⟩)
        · rw [if_neg c3,if_neg c3]
          by_cases c5 : s = 59
          · rw [if_pos c5,if_pos c5]
            subst c5
            cases mo with
            | nil => exact .inr (.inl ⟨rfl,rfl⟩)
            | cons p o =>
              have hP:=h.parts p (List.mem_cons_self ..)
              simp only [List.map_cons]
              by_cases c6 : p.loop = false
              · rw [if_pos c6,if_neg (fun e => by have:=hP.is_loop.1 e; rw [c6] at this; cases this)]
                refine .inl ⟨_,_,rfl,rfl,?_⟩
                have hw : ∃ x,ss[p.waits]? = some x ∧ x ≠ 93 ∧ x ≠ 126:=by
                 obtain ⟨a,b | b⟩:=hP.if_ c6
                 · exact ⟨63,by rw [b,a],by decide,by decide⟩
                 · exact ⟨58,b,by decide,by decide⟩
                obtain ⟨x,hw,x1,x2⟩:=hw
                refine h.plain (by rw [hs]; decide) (by rw [hs]; decide) (by rw [List.length_set]; exact lm0) (by rw [List.length_set]; exact lr0) (uB_ hs0 (by rw [lm0,lr0]) _ _) (fun k hk h9 => by rw [vh_ hw x1 k h9,k0 rt k hk]) (fun j hj h6 => by rw [vh_ hw x2 j h6,k0 mt j hj]) ?_ ?_ ?_ ?_ ?_
                · exact fun q hq => (h.parts q (List.mem_cons_of_mem _ hq)).more (by omega)
                · exact (List.pairwise_cons.1 h.desc).2
                · exact fun q hq => .inr ⟨q,List.mem_cons_of_mem _ hq,rfl,rfl,rfl,rfl⟩
                · intro q hq hne
                  rcases List.mem_cons.1 hq with rfl | hq
                  · exfalso
                    cases hl : q.left with
                    | nil => exact hne hl
                    | cons j l =>
                      have:=(h.pend q (List.mem_cons_self ..) j (by rw [hl]; exact List.mem_cons_self ..)).1
                      rw [c6] at this; cases this
                  · exact ⟨q,hq,rfl⟩
                · exact fun q hq hl => .inr ⟨q,List.mem_cons_of_mem _ hq,hl,rfl⟩
              · have c7 : p.loop = true:=(Bool.not_eq_false _).mp c6
                rw [if_neg c6,if_pos (hP.is_loop.2 c7)]
                exact .inr (.inl ⟨rfl,rfl⟩)
          · rw [if_neg c5,if_neg c5]
            by_cases c8 : s = 93
            · rw [if_pos c8,if_pos c8]
              subst c8
              cases mo with
              | nil => exact .inr (.inl ⟨rfl,rfl⟩)
              | cons p o =>
                have hP:=h.parts p (List.mem_cons_self ..)
                simp only [List.map_cons]
                by_cases c9 : p.loop = true
                · rw [if_pos c9,if_pos (hP.is_loop.2 c9),(hP.loop c9).1]
                  refine .inl ⟨_,_,rfl,rfl,?_⟩
                  have hd:=List.pairwise_cons.1 h.desc
                  have hpl:=fun j hj => h.pend p (List.mem_cons_self ..) j hj
                  have hr9 : ∀ k : Nat,k < n → ss[k]? = some 93 → ((rt.set n (-1)).set n (p.at_ : Int))[k]? = rt[k]?:=fun k hk _ => by
                   rw [List.getElem?_set_ne (by omega),k0 rt k hk]
                  have hrn : ((rt.set n (-1)).set n (p.at_ : Int))[n]? = some (p.at_ : Int):=List.getElem?_set_self (by rw [lr0]; exact hln)
                  refine ⟨rfl,rfl,by rw [kH_,List.length_set]; exact lm0,by rw [List.length_set]; exact lr0,fun q hq => (h.parts q (List.mem_cons_of_mem _ hq)).more (by omega),hd.2,fun j hj => ?_,fun q hq j hj => ?_,fun j hj hj6 => ?_⟩
                  · rw [vb_ _ _ _ _ (fun e => hj (hpl j e).2.1)]
                    exact uB_ hs0 (by rw [lm0,lr0]) _ _ j hj
                  · obtain ⟨a1,a2,a3,a4,a5,a6⟩:=h.pend q (List.mem_cons_of_mem _ hq) j hj
                    have hqp:=hd.1 q hq
                    have hqle:=(h.parts q (List.mem_cons_of_mem _ hq)).le
                    have:=a6 p (List.mem_cons_self ..) c9 (by omega)
                    exact ⟨a1,a2,a3,by omega,(a5.keep hr9).next (fun _ => ⟨_,hrn,by omega⟩),fun q' hq' hl' hlt' => a6 q' (List.mem_cons_of_mem _ hq') hl' hlt'⟩
                  · have hjn : j < n:=by
                     rcases Nat.lt_or_ge j n with hk | hk
                     · exact hk
                     · obtain rfl : j = n:=by omega
                       rw [hs] at hj6; cases hj6
                    by_cases hjp : j ∈ p.left
                    · obtain ⟨a1,a2,a3,a4,a5,a6⟩:=hpl j hjp
                      have hle:=hP.le
                      exact .inr ⟨n,hjn,by omega,kG_ _ _ _ _ hjp (by rw [List.length_set,lm0]; omega),hs,⟨_,hrn,by omega⟩,a5.keep hr9⟩
                    · rcases h.done j hjn hj6 with ⟨q,hq,hj2⟩ | ⟨k,b1,b2,b3,b4,⟨v,b5,b6⟩,b7⟩
                      · rcases List.mem_cons.1 hq with rfl | hq
                        · exact absurd hj2 hjp
                        · exact .inl ⟨q,hq,hj2⟩
                      · refine .inr ⟨k,b1,by omega,?_,b4,⟨v,by rw [hr9 k b2 b4]; exact b5,b6⟩,b7.keep (fun k' hk' h9' => hr9 k' (by omega) h9')⟩
                        rw [vb_ _ _ _ _ hjp,List.getElem?_set_ne (by omega),k0 mt j hjn]
                        exact b3
                · rw [if_neg c9,if_neg (fun e => c9 (hP.is_loop.1 e))]
                  exact .inr (.inl ⟨rfl,rfl⟩)
            · rw [if_neg c8,if_neg c8]
              by_cases c10 : s = 126
              · rw [if_pos c10]
                subst c10
                cases hlv : yz_ n mo with
                | none => exact .inr (.inr ⟨rfl,rfl,qD_ hlv⟩)
                | some o =>
                  obtain ⟨a,p,r0,e1,e2,e3,e4⟩:=uo_ hlv
                  have hw : o.map (·.waits) = mo.map (·.waits):=by rw [e1,e4]; simp
                  have hf : o.map (fun p => (p.at_,p.waits)) = mo.map (fun p => (p.at_,p.waits)):=by rw [e1,e4]; simp
                  have hpm : p ∈ mo:=by rw [e1]; simp
                  have hP:=h.parts p hpm
                  have hin : ∀ q ∈ o,q = ⟨p.loop,p.at_,p.waits,p.left ++ [n]⟩ ∨ q ∈ mo:=fun q hq => by
                   rw [e4] at hq
                   rw [e1]
                   simp only [List.mem_append,List.mem_cons] at hq ⊢
                   rcases hq with hq | hq | hq
                   · exact .inr (.inl hq)
                   · exact .inl hq
                   · exact .inr (.inr (.inr hq))
                  have hback : ∀ q ∈ mo,q = p ∨ q ∈ o:=fun q hq => by
                   rw [e1] at hq
                   rw [e4]
                   simp only [List.mem_append,List.mem_cons] at hq ⊢
                   rcases hq with hq | hq | hq
                   · exact .inr (.inl hq)
                   · exact .inl hq
                   · exact .inr (.inr (.inr hq))
                  have hself : (⟨p.loop,p.at_,p.waits,p.left ++ [n]⟩ : NPart) ∈ o:=by rw [e4]; simp
                  have hr9 : ∀ k : Nat,k < n → ss[k]? = some 93 → (rt.set n (-1))[k]? = rt[k]?:=fun k hk _ => k0 rt k hk
                  have hn9 : ss[n]? ≠ some 93:=by rw [hs]; decide
                  have hold : ∀ q ∈ o,q.loop = true → ∃ q0 ∈ mo,q0.loop = true ∧ q0.at_ = q.at_:=fun q hq hl => by
                   rcases hin q hq with rfl | hq
                   · exact ⟨p,hpm,e3,rfl⟩
                   · exact ⟨q,hq,hl,rfl⟩
                  have hpend : ∀ p0 ∈ mo,∀ j ∈ p0.left,p0.loop = true ∧ ss[j]? = some 126 ∧ p0.waits < j ∧ j < n + 1 ∧ xI_ ss (rt.set n (-1)) j 0 (n + 1) ∧ ∀ q ∈ o,q.loop = true → p0.at_ < q.at_ → j < q.at_:=fun p0 hp0 j hj => by
                   obtain ⟨a1,a2,a3,a4,a5,a6⟩:=h.pend p0 hp0 j hj
                   refine ⟨a1,a2,a3,by omega,(a5.keep hr9).next (fun h9 => absurd h9 hn9),fun q hq hl hlt => ?_⟩
                   obtain ⟨q0,hq0,l0,e0⟩:=hold q hq hl
                   rw [← e0] at hlt ⊢
                   exact a6 q0 hq0 l0 hlt
                  refine .inl ⟨⟨mt.set n (-1),md,o⟩,⟨rt.set n (-1),md,mo.map (·.waits)⟩,rfl,rfl,⟨rfl,hw,lm0,lr0,fun q hq => ?_,?_,hs0,fun q hq j hj => ?_,fun j hj hj6 => ?_⟩⟩
                  · rcases hin q hq with rfl | hq
                    · have:=hP.more (k:=n + 1) (by omega)
                      exact ⟨this.lt,this.ltw,this.le,this.loop,this.if_⟩
                    · exact (h.parts q hq).more (by omega)
                  · have:=h.desc
                    have hR : (mo.map (fun p => (p.at_,p.waits))).Pairwise (fun a b => b.2 < a.1):=List.pairwise_map.2 this
                    rw [← hf] at hR
                    exact List.pairwise_map.1 hR
                  · rcases hin q hq with rfl | hq
                    · simp only [List.mem_append,List.mem_cons,List.not_mem_nil,or_false] at hj
                      rcases hj with hj | rfl
                      · exact hpend p hpm j hj
                      · refine ⟨e3,hs,hP.ltw,by omega,fun k h1 _ h3 h9 => ?_,fun q hq hl hlt => ?_⟩
                        · obtain rfl : k = j:=by omega
                          exact absurd h9 hn9
                        · exfalso
                          rw [e4] at hq
                          simp only [List.mem_append,List.mem_cons] at hq
                          simp only at hlt
                          rcases hq with hq | rfl | hq
                          · rw [e2 q hq] at hl; cases hl
                          · simp only at hlt; omega
                          · have hd:=h.desc
                            rw [e1] at hd
                            have:=(List.pairwise_cons.1 (List.pairwise_append.1 hd).2.1).1 q hq
                            have hle:=(h.parts q (by rw [e1]; simp [hq])).le
                            omega
                    · exact hpend q hq j hj
                  · rcases Nat.lt_or_ge j n with hjn | hjn
                    · rcases h.done j hjn hj6 with ⟨q,hq,hj2⟩ | ⟨k,b1,b2,b3,b4,⟨v,b5,b6⟩,b7⟩
                      · rcases hback q hq with rfl | hq
                        · exact .inl ⟨_,hself,by simp [hj2]⟩
                        · exact .inl ⟨q,hq,hj2⟩
                      · exact .inr ⟨k,b1,by omega,by rw [k0 mt j hjn]; exact b3,b4,⟨v,by rw [hr9 k b2 b4]; exact b5,b6⟩,b7.keep (fun k' hk' h9' => hr9 k' (by omega) h9')⟩
                    · obtain rfl : j = n:=by omega
                      exact .inl ⟨_,hself,by simp⟩
              · rw [if_neg c10]
                refine .inl ⟨_,_,rfl,rfl,?_⟩
                have h93 : ss[n]? ≠ some 93:=by rw [hs]; intro e; injection e with e; exact c8 e
                have h126 : ss[n]? ≠ some 126:=by rw [hs]; intro e; injection e with e; exact c10 e
                exact h.plain h93 h126 lm0 lr0 hs0 (fun k hk _ => k0 rt k hk) (fun j hj _ => k0 mt j hj) (fun q hq => (h.parts q hq).more (by omega)) h.desc (fun q hq => .inr ⟨q,hq,rfl,rfl,rfl,rfl⟩) (fun q hq _ => ⟨q,hq,rfl⟩) (fun q hq hl => .inr ⟨q,hq,hl,rfl⟩)
structure Dead (ss : List Int) (j n : Nat) (r : RSt) : Prop where
  lt : j < n
  len : r.tO.length = ss.length
  open_ : ∀ w ∈ r.op,w < n ∧ (ss[w]? = some 63 ∨ ss[w]? = some 58 ∨ (ss[w]? = some 91 ∧ j < w))
  behind : xI_ ss r.tO j 0 n
theorem zcF {ss : List Int} {j n : Nat} {r r' : RSt} {s : Int} (h : Dead ss j n r) (hs : ss[n]? = some s) (hr : yQ_ ss n s ⟨r.tO.set n (-1),r.deep,r.op⟩ = some r') : Dead ss j (n + 1) r':=by
 have hln : n < ss.length:=by
  rcases Nat.lt_or_ge n ss.length with hk | hk
  · exact hk
  · rw [List.getElem?_eq_none hk] at hs; cases hs
 have hjn:=h.lt
 obtain ⟨rt,rd,ro⟩:=r
 have hlen:=h.len
 have hop:=h.open_
 have hb:=h.behind
 simp only at hlen hop hb hr
 have k0 : ∀ (k : Nat),k < n → (rt.set n (-1))[k]? = rt[k]?:=fun k hk => List.getElem?_set_ne (by omega)
 have l0 : (rt.set n (-1)).length = ss.length:=by rw [List.length_set]; exact hlen
 unfold yQ_ at hr
 simp only at hr
 by_cases c1 : s = 63 ∨ s = 91
 · rw [if_pos c1] at hr
   by_cases c2 : ro.length + 1 ≤ 16
   · rw [if_pos c2] at hr
     injection hr with hr
     subst hr
     refine ⟨by omega,l0,fun w hw => ?_,(hb.keep fun k hk _ => k0 k hk).next fun h9 => ?_⟩
     · rcases List.mem_cons.1 hw with rfl | hw
       · refine ⟨by omega,?_⟩
         rw [hs]
         rcases c1 with rfl | rfl
         · exact .inl rfl
         · exact .inr (.inr ⟨rfl,hjn⟩)
       · exact ⟨by have:=(hop w hw).1; omega,(hop w hw).2⟩
     · rw [hs] at h9; injection h9 with h9; omega
   · rw [if_neg c2] at hr; cases hr
 · rw [if_neg c1] at hr
   by_cases c3 : s = 58
   · rw [if_pos c3] at hr
     subst c3
     cases ro with
     | nil => cases hr
     | cons p o =>
       simp only at hr
       by_cases c4 : ss[p]? = some 63
       · rw [if_pos c4] at hr
         injection hr with hr
         subst hr
         refine ⟨by omega,by rw [List.length_set]; exact l0,fun w hw => ?_,(hb.keep fun k hk h9 => ?_).next fun h9 => ?_⟩
         · rcases List.mem_cons.1 hw with rfl | hw
           · exact ⟨by omega,.inr (.inl hs)⟩
           · have:=hop w (List.mem_cons_of_mem _ hw); exact ⟨by have:=this.1; omega,this.2⟩
         · rw [vh_ c4 (by decide) k h9,k0 k hk]
         · rw [hs] at h9; cases h9
       · rw [if_neg c4] at hr; cases hr
   · rw [if_neg c3] at hr
     by_cases c5 : s = 59
     · rw [if_pos c5] at hr
       subst c5
       cases ro with
       | nil => cases hr
       | cons p o =>
         simp only at hr
         by_cases c6 : ss[p]? = some 91
         · rw [if_pos c6] at hr; cases hr
         · rw [if_neg c6] at hr
           injection hr with hr
           subst hr
           have hw : ∃ x,ss[p]? = some x ∧ x ≠ 93:=by
            rcases (hop p (List.mem_cons_self ..)).2 with e | e | ⟨e,_⟩
            · exact ⟨_,e,by decide⟩
            · exact ⟨_,e,by decide⟩
            · exact absurd e c6
           obtain ⟨x,hw,x1⟩:=hw
           refine ⟨by omega,by rw [List.length_set]; exact l0,fun w hw => ?_,(hb.keep fun k hk h9 => ?_).next fun h9 => ?_⟩
           · have:=hop w (List.mem_cons_of_mem _ hw); exact ⟨by have:=this.1; omega,this.2⟩
           · rw [vh_ hw x1 k h9,k0 k hk]
           · rw [hs] at h9; cases h9
     · rw [if_neg c5] at hr
       by_cases c8 : s = 93
       · rw [if_pos c8] at hr
         cases ro with
         | nil => cases hr
         | cons p o =>
           simp only at hr
           by_cases c9 : ss[p]? = some 91
           · rw [if_pos c9] at hr
             injection hr with hr
             subst hr
             have hjp : j < p:=by
              rcases (hop p (List.mem_cons_self ..)).2 with e | e | ⟨_,e⟩
              · rw [c9] at e; cases e
              · rw [c9] at e; cases e
              · exact e
             refine ⟨by omega,by rw [List.length_set]; exact l0,fun w hw => ?_,(hb.keep fun k hk h9 => ?_).next fun h9 => ?_⟩
             · have:=hop w (List.mem_cons_of_mem _ hw); exact ⟨by have:=this.1; omega,this.2⟩
             · rw [List.getElem?_set_ne (by omega),k0 k hk]
             · exact ⟨_,List.getElem?_set_self (by rw [l0]; exact hln),by omega⟩
           · rw [if_neg c9] at hr; cases hr
       · rw [if_neg c8] at hr
         injection hr with hr
         subst hr
         refine ⟨by omega,l0,fun w hw => ⟨by have:=(hop w hw).1; omega,(hop w hw).2⟩,(hb.keep fun k hk _ => k0 k hk).next fun h9 => ?_⟩
         rw [hs] at h9; injection h9 with h9; exact absurd h9 c8
theorem gt_ {ss : List Int} {j : Nat} : ∀ (rest : List Int) (n : Nat) (r : RSt),n + rest.length = ss.length → (∀ i : Nat,rest[i]? = ss[n + i]?) → Dead ss j n r → uD_ ss n rest r = none ∨ ∃ r',uD_ ss n rest r = some r' ∧ Dead ss j ss.length r'
  | [],n,r,hl,_,h => .inr ⟨r,rfl,by rw [← hl]; exact h⟩
  | s :: rest,n,r,hl,hi,h => by
    have hs : ss[n]? = some s:=by have:=hi 0; simpa using this.symm
    unfold uD_
    cases hr : yQ_ ss n s ⟨r.tO.set n (-1),r.deep,r.op⟩ with
    | none => exact .inl rfl
    | some r' => exact gt_ rest (n + 1) r' (by rw [← hl]; simp only [List.length_cons]; omega) (fun i => by have:=hi (i + 1); simpa [Nat.add_assoc,Nat.add_comm 1 i] using this) (zcF h hs hr)
theorem zbg {ss : List Int} : ∀ (rest : List Int) (n : Nat) (m : NSt) (r : RSt),n + rest.length = ss.length → (∀ i : Nat,rest[i]? = ss[n + i]?) → Sim ss n m r →
    (∃ m' r',jf_ n rest m = some m' ∧ uD_ ss n rest r = some r' ∧ Sim ss ss.length m' r') ∨
    (jf_ n rest m = none ∧ (uD_ ss n rest r = none ∨ ∃ r' j,uD_ ss n rest r = some r' ∧ ss[j]? = some 126 ∧ Dead ss j ss.length r'))
  | [],n,m,r,hl,_,h => .inl ⟨m,r,rfl,rfl,by rw [← hl]; exact h⟩
  | s :: rest,n,m,r,hl,hi,h => by
    have hs : ss[n]? = some s:=by have:=hi 0; simpa using this.symm
    have hl' : n + 1 + rest.length = ss.length:=by rw [← hl]; simp only [List.length_cons]; omega
    have hi' : ∀ i : Nat,rest[i]? = ss[n + 1 + i]?:=fun i => by have:=hi (i + 1); simpa [Nat.add_assoc,Nat.add_comm 1 i] using this
    rcases zdh h hs with ⟨m',r',e1,e2,h'⟩ | ⟨e1,e2⟩ | ⟨e0,e1,e2⟩
    · unfold jf_ uD_
      rw [e1,e2]
      exact zbg rest (n + 1) m' r' hl' hi' h'
    · unfold jf_ uD_
      rw [e1,e2]
      exact .inr ⟨rfl,.inl rfl⟩
    · subst e0
      unfold jf_ uD_
      rw [e1]
      have er : yQ_ ss n 126 ⟨r.tO.set n (-1),r.deep,r.op⟩ = some ⟨r.tO.set n (-1),r.deep,r.op⟩:=rfl
      rw [er]
      have hd : Dead ss n (n + 1) ⟨r.tO.set n (-1),r.deep,r.op⟩:=by
       refine ⟨by omega,by rw [List.length_set]; exact h.lenR,fun w hw => ?_,fun k h1 _ h3 h9 => ?_⟩
       · simp only at hw
         rw [← h.op,List.mem_map] at hw
         obtain ⟨p,hp,rfl⟩:=hw
         have hP:=h.parts p hp
         obtain ⟨a,b | b⟩:=hP.if_ (e2 p hp)
         · exact ⟨by have:=hP.ltw; omega,.inl (by rw [b]; exact a)⟩
         · exact ⟨by have:=hP.ltw; omega,.inr (.inl b)⟩
       · obtain rfl : k = n:=by omega
         rw [hs] at h9; cases h9
      refine .inr ⟨rfl,?_⟩
      rcases gt_ rest (n + 1) _ hl' hi' hd with e | ⟨r',e,hd'⟩
      · exact .inl e
      · exact .inr ⟨r',n,e,hs,hd'⟩
theorem zbf (ss : List Int) : Sim ss 0 ⟨List.replicate ss.length 0,0,[]⟩ ⟨List.replicate ss.length 0,0,[]⟩ :=
 ⟨rfl,rfl,List.length_replicate,List.length_replicate,fun p hp => (by cases hp),List.Pairwise.nil,fun _ _ => rfl,fun p hp => (by cases hp),fun j hj => absurd hj (by omega)⟩
theorem zbO (ss : List Int) : (∃ m r,jf_ 0 ss ⟨List.replicate ss.length 0,0,[]⟩ = some m ∧ uD_ ss 0 ss ⟨List.replicate ss.length 0,0,[]⟩ = some r ∧ Sim ss ss.length m r) ∨
    (jf_ 0 ss ⟨List.replicate ss.length 0,0,[]⟩ = none ∧ (uD_ ss 0 ss ⟨List.replicate ss.length 0,0,[]⟩ = none ∨ ∃ r' j,uD_ ss 0 ss ⟨List.replicate ss.length 0,0,[]⟩ = some r' ∧ ss[j]? = some 126 ∧ Dead ss j ss.length r')) :=
      zbg ss 0 _ _ (by omega) (fun i => by rw [Nat.zero_add]) (zbf ss)
theorem Sim.leaves {ss : List Int} {m : NSt} {r : RSt} (h : Sim ss ss.length m r) (ho : m.op = []) (j : Nat) (hj : ss[j]? = some 126) :
    ∃ k : Nat,j < k ∧ k < ss.length ∧ m.tO[j]? = some ((k : Int) + 1) ∧ ss[k]? = some 93 ∧ (∃ v,r.tO[k]? = some v ∧ v < (j : Int)) ∧ xI_ ss r.tO j 0 k:=by
 have hln : j < ss.length:=by
  rcases Nat.lt_or_ge j ss.length with hk | hk
  · exact hk
  · rw [List.getElem?_eq_none hk] at hj; cases hj
 rcases h.done j hln hj with ⟨p,hp,_⟩ | hd
 · rw [ho] at hp; cases hp
 · exact hd
def z0_ (ss t : List Int) (j : Nat) : Nat → Nat → Int
  | 0,_ => -1
  | f + 1,i => if ss[i]? = some 93 ∧ t.getD i 0 < (j : Int) then (i : Int) + 1 else z0_ ss t j f (i + 1)
theorem vL_ {ss t : List Int} {j k : Nat} (hk : ss[k]? = some 93) (hv : ∃ v,t[k]? = some v ∧ v < (j : Int)) (hb : xI_ ss t j 0 k) : ∀ (f i : Nat),j ≤ i → i ≤ k → k < i + f → z0_ ss t j f i = (k : Int) + 1
  | 0,i,_,h1,h2 => absurd h1 (by omega)
  | f + 1,i,h0,h1,h2 => by
    unfold z0_
    by_cases e : i = k
    · subst e
      obtain ⟨v,e1,e2⟩:=hv
      rw [if_pos ⟨hk,by rw [List.getD_eq_getElem?_getD,e1]; exact e2⟩]
    · rw [if_neg,vL_ hk hv hb f (i + 1) (by omega) (by omega) (by omega)]
      rintro ⟨a,b⟩
      obtain ⟨v,e1,e2⟩:=hb i h0 (by omega) (by omega) a
      rw [List.getD_eq_getElem?_getD,e1] at b
      simp only [Option.getD_some] at b
      omega
theorem un_ {ss t : List Int} {j n : Nat} (hb : xI_ ss t j 0 n) : ∀ (f i : Nat),j ≤ i → i + f ≤ n → z0_ ss t j f i = -1
  | 0,i,_,_ => rfl
  | f + 1,i,h0,h1 => by
    unfold z0_
    rw [if_neg,un_ hb f (i + 1) (by omega) (by omega)]
    rintro ⟨a,b⟩
    obtain ⟨v,e1,e2⟩:=hb i h0 (by omega) (by omega) a
    rw [List.getD_eq_getElem?_getD,e1] at b
    simp only [Option.getD_some] at b
    omega
def xS_ (ss : List Int) : Nat → List Int → List Int → Option (List Int)
  | _,[],t => some t
  | i,s :: r,t => if s = 126 then (if z0_ ss t i (ss.length - i) i < 0 then none else xS_ ss (i + 1) r (t.set i (z0_ ss t i (ss.length - i) i))) else xS_ ss (i + 1) r t
def yU_ (ss : List Int) : Option (List Int × Nat) :=
 (uD_ ss 0 ss ⟨List.replicate ss.length 0,0,[]⟩).bind fun r => if r.op = [] then (xS_ ss 0 ss r.tO).map fun t => (t,r.deep) else none
def v5_ (ss : List Int) : Option (List Int × Nat) :=
 (jf_ 0 ss ⟨List.replicate ss.length 0,0,[]⟩).bind fun m => if m.op = [] then some (m.tO,m.deep) else none
theorem jo_ {ss : List Int} {m : NSt} {r : RSt} (h : Sim ss ss.length m r) (ho : m.op = []) : ∀ (rest : List Int) (n : Nat) (t : List Int),n + rest.length = ss.length → (∀ i : Nat,rest[i]? = ss[n + i]?) → t.length = ss.length →
    (∀ j : Nat,ss[j]? ≠ some 126 ∨ j < n → t[j]? = m.tO[j]?) → xS_ ss n rest t = some m.tO
  | [],n,t,hl,_,hlt,ha => by
    show some t = _
    congr 1
    apply List.ext_getElem?
    intro j
    rcases Nat.lt_or_ge j n with hj | hj
    · exact ha j (.inr hj)
    · have hl' : n = ss.length:=hl
      rw [List.getElem?_eq_none (by omega),List.getElem?_eq_none (by rw [h.lenM]; omega)]
  | s :: rest,n,t,hl,hi,hlt,ha => by
    have hs : ss[n]? = some s:=by have:=hi 0; simpa using this.symm
    have hl' : n + 1 + rest.length = ss.length:=by rw [← hl]; simp only [List.length_cons]; omega
    have hi' : ∀ i : Nat,rest[i]? = ss[n + 1 + i]?:=fun i => by have:=hi (i + 1); simpa [Nat.add_assoc,Nat.add_comm 1 i] using this
    unfold xS_
    by_cases c : s = 126
    · rw [if_pos c]
      subst c
      obtain ⟨k,k1,k2,k3,k4,⟨v,k5,k6⟩,k7⟩:=h.leaves ho n hs
      have h9 : ∀ k : Nat,ss[k]? = some 93 → t[k]? = r.tO[k]?:=fun k hk => by
       have hne : ss[k]? ≠ some 126:=by rw [hk]; decide
       rw [ha k (.inl hne),h.same k hne]
      have hv : z0_ ss t n (ss.length - n) n = (k : Int) + 1:=vL_ k4 ⟨v,by rw [h9 k k4]; exact k5,k6⟩ (k7.keep fun k' _ hk' => h9 k' hk') _ n (Nat.le_refl _) (by omega) (by omega)
      rw [hv,if_neg (by omega)]
      refine jo_ h ho rest (n + 1) _ hl' hi' (by rw [List.length_set]; exact hlt) (fun j hj => ?_)
      by_cases e : n = j
      · subst e
        rw [List.getElem?_set_self (by omega),k3]
      · rw [List.getElem?_set_ne e]
        exact ha j (hj.imp id fun h => by omega)
    · rw [if_neg c]
      refine jo_ h ho rest (n + 1) t hl' hi' hlt (fun j hj => ?_)
      rcases hj with hj | hj
      · exact ha j (.inl hj)
      · by_cases e : j = n
        · subst e
          exact ha j (.inl (by rw [hs]; intro e; injection e with e; exact c e))
        · exact ha j (.inr (by omega))
theorem qK_ {ss : List Int} {r : RSt} {d : Nat} (hd : Dead ss d ss.length r) (h6 : ss[d]? = some 126) : ∀ (rest : List Int) (n : Nat) (t : List Int),n + rest.length = ss.length → (∀ i : Nat,rest[i]? = ss[n + i]?) → n ≤ d →
    (∀ k : Nat,ss[k]? = some 93 → t[k]? = r.tO[k]?) → xS_ ss n rest t = none
  | [],n,t,hl,_,hn,_ => absurd hd.lt (by have : n = ss.length:=hl; omega)
  | s :: rest,n,t,hl,hi,hn,ha => by
    have hs : ss[n]? = some s:=by have:=hi 0; simpa using this.symm
    have hl' : n + 1 + rest.length = ss.length:=by rw [← hl]; simp only [List.length_cons]; omega
    have hi' : ∀ i : Nat,rest[i]? = ss[n + 1 + i]?:=fun i => by have:=hi (i + 1); simpa [Nat.add_assoc,Nat.add_comm 1 i] using this
    unfold xS_
    by_cases c : s = 126
    · rw [if_pos c]
      subst c
      by_cases e : n = d
      · subst e
        rw [un_ (hd.behind.keep fun k _ hk => ha k hk) _ n (Nat.le_refl _) (by omega),if_pos (by omega)]
      · split
        · rfl
        · exact qK_ hd h6 rest (n + 1) _ hl' hi' (by omega) (fun k hk => by rw [List.getElem?_set_ne (fun e => by subst e; rw [hs] at hk; cases hk)]; exact ha k hk)
    · rw [if_neg c]
      have : n ≠ d:=fun e => by subst e; rw [hs] at h6; injection h6 with h6; exact c h6
      exact qK_ hd h6 rest (n + 1) t hl' hi' (by omega) ha
theorem jV_ (ss : List Int) : v5_ ss = yU_ ss:=by
 unfold v5_ yU_
 rcases zbO ss with ⟨m,r,e1,e2,h⟩ | ⟨e1,e2 | ⟨r,d,e2,h6,hd⟩⟩
 · rw [e1,e2]
   show (if m.op = [] then some (m.tO,m.deep) else none) = if r.op = [] then (xS_ ss 0 ss r.tO).map fun t => (t,r.deep) else none
   by_cases ho : m.op = []
   · have hr : r.op = []:=by rw [← h.op,ho]; rfl
     rw [if_pos ho,if_pos hr,jo_ h ho ss 0 r.tO (by omega) (fun i => by rw [Nat.zero_add]) h.lenR (fun j hj => (h.same j (hj.resolve_right (by omega))).symm),h.deep]
     rfl
   · have hr : ¬ r.op = []:=fun e => ho (by rw [← h.op] at e; exact List.map_eq_nil_iff.1 e)
     rw [if_neg ho,if_neg hr]
 · rw [e1,e2]; rfl
 · rw [e1,e2]
   show none = if r.op = [] then (xS_ ss 0 ss r.tO).map fun t => (t,r.deep) else none
   rw [qK_ hd h6 ss 0 r.tO (by omega) (fun i => by rw [Nat.zero_add]) (by omega) (fun _ _ => rfl)]
   split <;> rfl
end Go.Proofs.YtbkfhndmeljlcaaGreatDoor
namespace Go.Proofs.YtbkfhndmeljlcaaGreatDoor
open Go.RowKit
structure Low (B : Nat) (w w' : World) : Prop where
  os : w'.os = w.os
  tape : w'.tape = w.tape
  output : w'.output = w.output
  size : w.heap.size ≤ w'.heap.size
  block : ∀ k,k < B → k < w.heap.size → w'.heap[k]? = w.heap[k]?
theorem Low.of_chg {B : Nat} {w w' : World} (h : Chg [] w w') : Low B w w':=⟨h.os,h.tape,h.output,h.size,fun k _ hk => h.block k hk (by simp)⟩
theorem Low.trans {B : Nat} {a b c : World} (h : Low B a b) (k : Low B b c) : Low B a c :=
 ⟨k.os.trans h.os,k.tape.trans h.tape,k.output.trans h.output,Nat.le_trans h.size k.size,fun i hB hi => (k.block i hB (Nat.lt_of_lt_of_le hi h.size)).trans (h.block i hB hi)⟩
theorem Low.chg {B : Nat} {a b : World} (h : Low B a b) (hB : a.heap.size ≤ B) : Chg [] a b:=⟨h.os,h.tape,h.output,h.size,fun k hk _ => h.block k (Nat.lt_of_lt_of_le hk hB) hk⟩
theorem Low.of_own {B n : Nat} {e : TypeId} {v : Value} {xs : List Value} {w w' : World} (ho : w.ownsRow B e 1 v n xs) (hg : w.grownBy w' v.ownBlock) : Low B w w':=by
 refine ⟨hg.os,hg.tape,hg.output,hg.size,fun k hk hl => hg.block k hl fun hc => ?_⟩
 rcases ho.2 with ⟨rfl,_⟩ | ⟨g,cap,cur,rfl,hb,_⟩
 · cases hc
 · injection hc with hc; simp only at hc; omega
def zfJ (B : Nat) (hard soft : List Nat) : Turns:=⟨Chg [],Low B,hard,soft⟩
theorem zeY (B : Nat) (hard soft : List Nat) : (zfJ B hard soft).Ok:=⟨Chg.refl [],fun _ _ h => Low.of_chg h,fun _ _ _ h k => h.trans k⟩
theorem zeh {B : Nat} {hard soft : List Nat} (k : Nat) {W W' : World} (h : Chg [] W W') : (zfJ B hard soft).by_ k W W':=by
 unfold Turns.by_
 split
 · exact Low.of_chg h
 · exact h
theorem zdC {B : Nat} {hard soft : List Nat} {k : Nat} (hk : hard.contains k = true) {W W' : World} (h : Low B W W') : (zfJ B hard soft).by_ k W W':=by
 unfold Turns.by_
 rw [if_pos (show (zfJ B hard soft).hard.contains k = true from hk)]
 exact h
def zcA (B : Nat) (e : TypeId) : yE_:=fun v W => ∃ g,v = .slice (some ⟨g,0,none⟩) 0 0 ∧ B ≤ g ∧ zb_ W g e []
theorem kc_ (B : Nat) (e : TypeId) : zU_ (Chg []) (zcA B e):=fun _ _ _ ⟨g,h1,h2,h3⟩ hc => ⟨g,h1,h2,h3.keep hc⟩
section
variable {P : Program} (w : World)
theorem yw_ (base : Nat) (t ty e : TypeId) (i : TypeInfo) (z : Value) (bytes : Nat) (ht : P.underlying t = some (.slice e)) (hi : P.info? e = some i) (hz : i.zero = some z) (hs : i.size = 1) (hby : i.bytes = bytes) (hz1 : z.cells.size = 1)
    (g : Nat) (hg : zb_ w g e []) (hbg : base ≤ g) (hbw : base ≤ w.heap.size) (A : Option Addr) (m c : Nat) (news : List Value) (hl : news.length = m) (hsrc : Src w A news) (hb : m * bytes ≤ 140737488355328) (h63 : m ≤ maxLen) :
    ∃ v' w',(Builtin.append_ #[t,t] ty #[.slice (some ⟨g,0,none⟩) 0 0,.slice A m c]).run P w = .ok v' w' ∧ w'.ownsRow base e 1 v' m news ∧ Chg [] w w':=by
 have ho : w.ownsRow base e 1 (.slice (some ⟨g,0,none⟩) 0 0) 0 []:=yV_ (n:=0) (c:=0) hg hbg rfl (by omega) (by unfold maxLen; omega)
 rcases Nat.eq_zero_or_pos m with h0 | h0
 · subst h0
   obtain rfl : news = []:=List.eq_nil_of_length_eq_zero hl
   refine ⟨_,w,?_,ho,Chg.refl _ _⟩
   rcases A with _ | ad
   · simp [Builtin.append_,run_underlying ht,sizeOf,typeInfo,hi,Builtin.lenOf,Builtin.firstCells,storeCells]
   · have hf:=run_firstCells_some (P:=P) w i.size 0 ad 0 c [] (by simp) (fun j u hj => by simp at hj)
     simp [Builtin.append_,run_underlying ht,sizeOf,typeInfo,hi,Builtin.lenOf,hf,storeCells]
 · obtain ⟨ad,rfl,_,hx⟩:=hsrc (by omega)
   subst hby
   have h63' : m ≤ 9223372036854775807:=by simpa [maxLen] using h63
   have h:=run_append_grow (P:=P) w t ty e i z ht hi hz ⟨g,0,none⟩ 0 0 [] (by simp) (by simp) ad m c news (by rw [hl,hs]; omega) hx (by omega) (by omega) (growslice_fits (by omega) (by simpa using hb))
   have hge:=grownCap_ge w m 0 e
   have hle:=grownCap_le_maxLen w m 0 e h63
   simp only [Nat.zero_add] at h
   refine ⟨_,_,h,?_,((Chg.refl [] w).drew).alloc _⟩
   have hw : zb_ (w.drew.alloc (.cells (news ++ (Builtin.zeroCells z.cells (grownCap w m 0 e - m)).toList).toArray e)) w.heap.size e (news ++ (Builtin.zeroCells z.cells (grownCap w m 0 e - m)).toList):=zb_.new w.drew e _
   have hown:=yV_ (B:=base) (n:=m) (c:=grownCap w m 0 e) hw hbw (by simp only [List.length_append,Array.length_toList,size_zeroCells,hz1,hl]; omega) hge hle
   rw [List.take_left' hl] at hown
   have e1 : (#[] ++ news.toArray ++ Builtin.zeroCells z.cells (grownCap w m 0 e - m)) = (news ++ (Builtin.zeroCells z.cells (grownCap w m 0 e - m)).toList).toArray:=by
    apply Array.ext'; simp
   rw [show ([] : List Value).toArray = #[] from rfl,e1]
   exact hown
end
section
variable {P : Program} {T : Turns} {w0 : World} {a0 : Act} {ops : List Oper} {Q : Exit → Act → World → Prop} {F : Said} {k : Nat} {rest : List Oper}
  {d : Option Tmp} {ty : TypeId} {pos : String} {af : Array Go.Edge} {g : Option (Nat × Bool)} {B : Nat} {hard soft : List Nat}
end
end Go.Proofs.YtbkfhndmeljlcaaGreatDoor
namespace Go.Proofs.YtbkfhndmeljlcaaGreatDoor
open Go.RowKit
def zz_ (b : Bool) (w : World) (e : Ending) (w' : World) : Prop:=e = .returned (.bool b) ∧ Chg [] w w'
theorem zD_ {a b : Bool} (h : a = b) : Ending.returned (.bool a) = .returned (.bool b):=by rw [h]
theorem qY_ {k : IntKind} {a b : Int} (h : a = b) : Ending.returned (.int k a) = .returned (.int k b):=by rw [h]
theorem zh_ {w w' : World} {B2 e2 k2 m : Nat} {v2 : Value} {ys : List Value} {g t : Nat} {cs : List Value} (h : zb_ w g t cs) (h2 : w.ownsRow B2 e2 k2 v2 m ys) (hne : t ≠ e2) (hg : w.grownBy w' v2.ownBlock) : zb_ w' g t cs:=by
 unfold zb_ at h ⊢
 rw [hg.block g ?_ ?_]
 · exact h
 · rcases Nat.lt_or_ge g w.heap.size with hlt | hge
   · exact hlt
   · rw [Array.getElem?_eq_none hge] at h; cases h
 · intro hc
   rcases h2.2 with ⟨rfl,_⟩ | ⟨g2,cap2,cur2,rfl,hb2,hh2,_⟩
   · simp [Value.ownBlock] at hc
   · simp [Value.ownBlock] at hc
     subst hc
     rw [h] at hh2
     simp at hh2
     exact hne hh2.2
theorem yG_ {P : Program} {w : World} {ops : Array Oper} {o : Oper} {a : Act} {K : Act → World → Prop} {Q : Exit → Act → World → Prop} {E : Prop} (hgd : o.guard = none) (s x : Operand) (t : TypeId)
    (ho : o.op = .call { callee:=.builtin .append,args:=#[s,x],argTypes:=#[t,t] })
    (base : Nat) (e : TypeId) (i : TypeInfo) (z : Value) (size bytes : Nat) (ht : P.underlying t = some (.slice e)) (hi : P.info? e = some i) (hz : i.zero = some z)
    (hsize : i.size = size) (hby : i.bytes = bytes) (hzs : z.cells.size = size) (hsz : 0 < size)
    (v : Value) (n : Nat) (xs : List Value) (hse : a.eval s = v) (hown : w.ownsRow base e size v n xs)
    (ad : Addr) (m c : Nat) (news : List Value) (hxe : a.eval x = .slice (some ad) m c) (hl : news.length = m * size) (hnews : ∀ j u,news[j]? = some u → w.cell? (ad.add j) = some u) (h1 : ∀ u ∈ news,u.oneCell' = true)
    (h63 : n + m ≤ maxLen) (hbytes : (n + m) * bytes ≤ 140737488355328) (hbase : base ≤ w.heap.size)
    (h : ∀ v' w',w'.ownsRow base e size v' (n + m) (xs ++ news) → w.grownBy w' v.ownBlock → K (a.put o.dst v') w') :
    if Region.wanted o (yielded ops a.tmps) = true then Oper.wp P o a w K Q else E:=by
 have hw : Region.wanted o (yielded ops a.tmps) = true:=by simp [Region.wanted,hgd]
 rw [if_pos hw]
 obtain ⟨v',w',hrun,h2,h3,_,_⟩:=run_append_own_at (P:=P) w base t o.type e i z size bytes ht hi hz hsize hby hzs hsz v n xs hown ad m c news hl hnews h1 h63 hbytes hbase
 unfold Oper.wp execOp
 simp only [ho,resolve,invoke,builtin,Sem.run_bind,Sem.run_pure,Result.andThen_ok,List.map_toArray,List.map_cons,List.map_nil,hse,hxe,hrun]
 exact h v' w' h2 h3
theorem vk_ : (Value.int .u8 0).cells.size = 1:=rfl
theorem y0_ (l : List Int) (i : Nat) (h : i < l.length) : (nms l)[i]? = some (.int .i64 l[i]):=by simp [nms,h]
theorem zf_ {w w' : World} {p : Addr} {v : Value} (h : w.cell? p = some v) (hc : Chg [] w w') : w'.cell? p = some v:=by
 have hs : Src w (some p) [v]:=fun _ => ⟨p,rfl,by
  rcases Nat.lt_or_ge p.block w.heap.size with hlt | hge
  · exact hlt
  · simp [World.cell?,Array.getElem?_eq_none hge] at h,fun j u hj => by
  cases j with
  | zero =>
    simp at hj
    subst hj
    have e : p.add 0 = p:=by simp [Addr.add]
    rw [e]; exact h
  | succ j => simp at hj⟩
 obtain ⟨ad,e,_,hx⟩:=hs.keep hc (by simp)
 injection e with e
 subst e
 have:=hx 0 v rfl
 have e : p.add 0 = p:=by simp [Addr.add]
 rwa [e] at this
end Go.Proofs.YtbkfhndmeljlcaaGreatDoor
namespace Go.Proofs.YtbkfhndmeljlcaaGreatDoor
open Go.RowKit
theorem zeB {k : IntKind} {a b : Int} (h : a = b) : Ending.returned (.int k a) = .returned (.int k b):=by rw [h]
end Go.Proofs.YtbkfhndmeljlcaaGreatDoor
namespace Go.Proofs.YtbkfhndmeljlcaaGreatDoor
open Go.RowKit
theorem xg_ : (Tryz.prog.info? 5).map (fun i => (i.zero,i.size,i.bytes)) = some (some (.int .u8 0),1,1):=by kernel_rfl
def be4 (k : Nat) : List UInt8:=[UInt8.ofNat (k / 16777216),UInt8.ofNat (k / 65536),UInt8.ofNat (k / 256),UInt8.ofNat k]
theorem jv_ (k : Nat) : (be4 k).length = 4:=rfl
theorem zcM (k : Nat) (hk : k < 4294967296) : bts (be4 k) = [.int .u8 ((k : Int) / 16777216),.int .u8 ((k : Int) / 65536 % 256),.int .u8 ((k : Int) / 256 % 256),.int .u8 ((k : Int) % 256)]:=by
 have h : ∀ x : Nat,(((UInt8.ofNat x).toNat : Nat) : Int) = ((x % 256 : Nat) : Int):=fun x => by rw [UInt8.toNat_ofNat']
 have h2 : ((k / 16777216 % 256 : Nat) : Int) = (k : Int) / 16777216:=by omega
 simp only [bts,be4,List.map_cons,List.map_nil,B8,h,h2,Int.natCast_emod,Int.natCast_ediv,Int.cast_ofNat_Int]
def yL_ (w : World) (l : List UInt8) (e : Ending) (w' : World) : Prop:=∃ v,e = .returned v ∧ w'.ownsRow w.heap.size 5 1 v l.length (bts l) ∧ Chg [] w w'
section
variable {w : World} {A : Option Addr} {n c : Nat} {l : List UInt8}
theorem zeG (k : Nat) (hk : k < 4294967296) (hl : l.length = n) (hs : Src w A (bts l)) (hn : n + 4 ≤ 140737488355328) :
    Calls Tryz.prog 72 #[.slice A n c,.int .u32 (k : Int)] w (yL_ w (l ++ be4 k)):=by
 obtain ⟨i,hi,hz,hs1,hb⟩:=info_parts xg_
 have hmk : ∀ W : World,(Instr.makeSlice 33 (.int .i64 0) (.int .i64 ((n : Int) + 4))).run Tryz.prog W = .ok (.slice (some ⟨W.heap.size,0,none⟩) 0 (n + 4)) (W.alloc (.cells (bts (zt_ (n + 4))).toArray 5)):=by
  intro W
  rw [xj_]
  have:=jG_ (P:=Tryz.prog) 33 5 i _ rfl Tryz.underlying33 hi hz hs1 (n + 4) (by rw [hb]; omega) (by omega) W
  simpa using this
 have ho0 : (w.alloc (.cells (bts (zt_ (n + 4))).toArray 5)).ownsRow w.heap.size 5 1 (.slice (some ⟨w.heap.size,0,none⟩) 0 (n + 4)) 0 []:=by
  have:=yV_ (B:=w.heap.size) (n:=0) (c:=n + 4) (zb_.new w 5 (bts (zt_ (n + 4)))) (Nat.le_refl _) (by simp [zA_,zI_]) (by omega) (by unfold maxLen; omega)
  simpa using this
 have hlb:=hQ_ (show (bts l).length = n by rw [zA_,hl])
 have hm1:=hQ_ (show 0 + n ≤ maxLen by unfold maxLen; omega)
 have hm2:=hQ_ (show n + 4 ≤ maxLen by unfold maxLen; omega)
 have hm3:=hQ_ (show (0 + n) * 1 ≤ 140737488355328 by omega)
 have hm4:=hQ_ (show (n + 4) * 1 ≤ 140737488355328 by omega)
 have hbe:=hQ_ (zcM k hk)
 go_enter Tryz.func72,Tryz.ntmps72
 go_wp2_with (first
  | (at_builtin
     refine zV_ rfl (.tmp 10) (.tmp 11) 33 rfl w.heap.size 5 i _ 1 Tryz.underlying33 hi hz hs1 hb vk_ (.slice (some ⟨w.heap.size,0,none⟩) 0 (n + 4)) 0 [] rfl ho0 A n c (bts l) rfl hlb.out (hs.keep ((Chg.refl _ _).alloc _)) (x8_ l) hm1.out hm3.out (by simp) ?_
     intro v1 w1 ho1 hg1 _
     have hc1 : Chg [] w w1:=((Chg.refl [] w).alloc _).own ho0 (Nat.le_refl _) hg1
     clear hg1
     simp only [Nat.zero_add,List.nil_append] at ho1
     obtain ⟨A1,c1,rfl,_⟩:=zr_ ho1)
  | (at_builtin
     refine zV_ rfl (.tmp 13) (.tmp 25) 33 rfl w.heap.size 5 i _ 1 Tryz.underlying33 hi hz hs1 hb vk_ (.slice A1 n c1) n (bts l) rfl (zq_ ho1 ((Chg.refl _ _).alloc _)) (some ⟨w1.heap.size,0,none⟩) 4 4 _ rfl rfl (Src.of_all (zb_.new w1 5 (_ :: _ :: _ :: _ :: [])))
       (by rw [← hbe.out]; exact x8_ _) hm2.out hm4.out (by have:=hc1.size; simp; omega) ?_
     intro v2 w2 ho2 hg2 _
     have hc2 : Chg [] w w2:=(hc1.alloc _).own (zq_ ho1 ((Chg.refl _ _).alloc _)) (Nat.le_refl _) hg2
     clear hg2))
 go_ret
 refine ⟨v2,rfl,?_,hc2⟩
 rw [← hbe.out] at ho2
 have e1 : (l ++ be4 k).length = n + 4:=by rw [List.length_append,jv_,hl]
 have e2 : bts (l ++ be4 k) = bts l ++ bts (be4 k):=by simp [bts]
 rw [e1,e2]
 exact ho2
theorem zdn (k : Nat) (hk : k < 4294967296) (hl : l.length = n) (hs : Src w A (bts l)) (hn : n + 4 ≤ 140737488355328) :
    Calls Tryz.prog 101 #[.slice A n c,.int .u32 (k : Int)] w (yL_ w (l ++ be4 k)):=by
 obtain ⟨i,hi,hz,hs1,hb⟩:=info_parts xg_
 have ho0 : (w.alloc (.cells #[] 5)).ownsRow w.heap.size 5 1 (.slice (some ⟨w.heap.size,0,none⟩) 0 0) 0 [] :=
  yV_ (B:=w.heap.size) (n:=0) (c:=0) (zb_.new w 5 []) (Nat.le_refl _) rfl (by omega) (by unfold maxLen; omega)
 have hlb:=hQ_ (show (bts l).length = n by rw [zA_,hl])
 have hm1:=hQ_ (show 0 + n ≤ maxLen by unfold maxLen; omega)
 have hm2:=hQ_ (show n + 4 ≤ maxLen by unfold maxLen; omega)
 have hm3:=hQ_ (show (0 + n) * 1 ≤ 140737488355328 by omega)
 have hm4:=hQ_ (show (n + 4) * 1 ≤ 140737488355328 by omega)
 have hbe:=hQ_ (zcM k hk)
 go_enter Tryz.func101,Tryz.ntmps101
 go_wp2_with (first
  | (at_builtin
     refine zV_ rfl (.tmp 5) (.tmp 6) 33 rfl w.heap.size 5 i _ 1 Tryz.underlying33 hi hz hs1 hb vk_ (.slice (some ⟨w.heap.size,0,none⟩) 0 0) 0 [] rfl ho0 A n c (bts l) rfl hlb.out (hs.keep ((Chg.refl _ _).alloc _)) (x8_ l) hm1.out hm3.out (by simp) ?_
     intro v1 w1 ho1 hg1 _
     have hc1 : Chg [] w w1:=((Chg.refl [] w).alloc _).own ho0 (Nat.le_refl _) hg1
     clear hg1
     simp only [Nat.zero_add,List.nil_append] at ho1
     obtain ⟨A1,c1,rfl,_⟩:=zr_ ho1)
  | (at_builtin
     refine zV_ rfl (.tmp 7) (.tmp 19) 33 rfl w.heap.size 5 i _ 1 Tryz.underlying33 hi hz hs1 hb vk_ (.slice A1 n c1) n (bts l) rfl (zq_ ho1 ((Chg.refl _ _).alloc _)) (some ⟨w1.heap.size,0,none⟩) 4 4 _ rfl rfl (Src.of_all (zb_.new w1 5 (_ :: _ :: _ :: _ :: [])))
       (by rw [← hbe.out]; exact x8_ _) hm2.out hm4.out (by have:=hc1.size; simp; omega) ?_
     intro v2 w2 ho2 hg2 _
     have hc2 : Chg [] w w2:=(hc1.alloc _).own (zq_ ho1 ((Chg.refl _ _).alloc _)) (Nat.le_refl _) hg2
     clear hg2))
 go_ret
 refine ⟨v2,rfl,?_,hc2⟩
 rw [← hbe.out] at ho2
 have e1 : (l ++ be4 k).length = n + 4:=by rw [List.length_append,jv_,hl]
 have e2 : bts (l ++ be4 k) = bts l ++ bts (be4 k):=by simp [bts]
 rw [e1,e2]
 exact ho2
end
end Go.Proofs.YtbkfhndmeljlcaaGreatDoor
namespace Go.Proofs.YtbkfhndmeljlcaaGreatDoor
open Go.RowKit
section
variable {w : World} {A : Option Addr} {n c : Nat} {l : List UInt8}
theorem Bs.take (h : Bs w A n c l) {m : Nat} (hm : m ≤ n) : Bs w A m c (l.take m) :=
 ⟨by rw [List.length_take,h.len]; omega,src_pre m h.src,Nat.le_trans hm h.cap,h.max,fun h0 => h.spot (by omega)⟩
where
  src_pre (m : Nat) {w : World} {A : Option Addr} {l : List UInt8} (hs : Src w A (bts l)) : Src w A (bts (l.take m)):=fun hp => by
   obtain ⟨ad,e,hb,hx⟩:=hs (by simp [bts] at hp ⊢; omega)
   refine ⟨ad,e,hb,fun j v hj => hx j v ?_⟩
   unfold bts at hj ⊢
   rw [List.map_take,List.getElem?_take] at hj
   split at hj
   · exact hj
   · cases hj
end
theorem ug_ (l m : List UInt8) : bts (l ++ m) = bts l ++ bts m:=by simp [bts]
theorem xf_ {w : World} {B n : Nat} {e : TypeId} {v : Value} {xs : List Value} (h : w.ownsRow B e 1 v n xs) (hn : 0 < n) :
    ∃ g r,v = .slice (some ⟨g,0,none⟩) n (n + r.length) ∧ B ≤ g ∧ zb_ w g e (xs ++ r) ∧ n + r.length ≤ maxLen:=by
 rcases h.2 with ⟨_,h0⟩ | ⟨g,cap,cur,rfl,hb,hg,hc,hm,hs,ht⟩
 · omega
 · have hl : cur.toList.length = cap:=by rw [Array.length_toList]; omega
   have h1 : n * 1 = n:=Nat.mul_one n
   rw [h1] at ht
   have e1 : cap = n + (cur.toList.drop n).length:=by rw [List.length_drop,hl]; omega
   refine ⟨g,cur.toList.drop n,by rw [← e1],hb,?_,by omega⟩
   unfold zb_
   rw [← ht,List.take_append_drop]
   exact hg
end Go.Proofs.YtbkfhndmeljlcaaGreatDoor
namespace Go.Proofs.YtbkfhndmeljlcaaGreatDoor
open Go.RowKit
structure ChV where
  page : Int
  bA : Option Addr
  bn : Nat
  bc : Nat
  B : List UInt8
def chC (a : ChV) : List Value:=[.int .i64 a.page,.slice a.bA a.bn a.bc]
structure ChOk (w : World) (a : ChV) : Prop where
  p0 : -9223372036854775808 ≤ a.page
  p1 : a.page ≤ 9223372036854775807
  bs : Bs w a.bA a.bn a.bc a.B
structure Chs (w : World) (A : Option Addr) (l : List ChV) : Prop where
  cells : 0 < l.length → ∃ g o,A = some ⟨g,o,none⟩ ∧ g < w.heap.size ∧ ∀ k a,l[k]? = some a → w.cell? ⟨g,o + k * 2,none⟩ = some (.int .i64 a.page) ∧ w.cell? ⟨g,o + k * 2 + 1,none⟩ = some (.slice a.bA a.bn a.bc)
  ok : ∀ a ∈ l,ChOk w a
def Small (a : ChV) : Prop:=0 ≤ a.page ∧ a.page < 65536 ∧ a.bn = 64
theorem ChOk.keep {w w' : World} {a : ChV} (h : ChOk w a) (hc : Chg [] w w') : ChOk w' a:={ h with bs:=h.bs.keep hc }
theorem Chs.nil (w : World) (A : Option Addr) : Chs w A []:=⟨fun h => absurd h (by simp),fun a ha => by simp at ha⟩
theorem Chs.keep {w w' : World} {A : Option Addr} {l : List ChV} (h : Chs w A l) (hc : Chg [] w w') : Chs w' A l:=by
 refine ⟨fun h0 => ?_,fun a ha => (h.ok a ha).keep hc⟩
 obtain ⟨g,o,e,hg,hx⟩:=h.cells h0
 refine ⟨g,o,e,Nat.lt_of_lt_of_le hg hc.size,fun k a ha => ?_⟩
 obtain ⟨h1,h2⟩:=hx k a ha
 have hk : ∀ j,w'.cell? ⟨g,j,none⟩ = w.cell? ⟨g,j,none⟩:=fun j => World.cell?_of_block (w:=w) (hc.block g hg (by simp))
 exact ⟨(hk _).trans h1,(hk _).trans h2⟩
end Go.Proofs.YtbkfhndmeljlcaaGreatDoor
namespace Go.Proofs.YtbkfhndmeljlcaaGreatDoor
open Go.RowKit
def vS_ : List ChV → List Value
  | [] => []
  | a :: l => chC a ++ vS_ l
theorem js_ : ∀ l,(vS_ l).length = l.length * 2
  | [] => rfl
  | a :: l => by rw [vS_,List.length_append,js_ l]; simp [chC]; omega
theorem uM_ : ∀ l m,vS_ (l ++ m) = vS_ l ++ vS_ m
  | [],_ => rfl
  | a :: l,m => by rw [List.cons_append,vS_,vS_,uM_ l m,List.append_assoc]
theorem jr_ (a : ChV) : vS_ [a] = chC a:=by simp [vS_]
theorem jt_ : ∀ (l : List ChV) (k : Nat) (a : ChV) (j : Nat),l[k]? = some a → j < 2 → (vS_ l)[k * 2 + j]? = (chC a)[j]?
  | [],k,a,j,h,hj => by simp at h
  | b :: l,0,a,j,h,hj => by
    simp at h; subst h
    rw [vS_,List.getElem?_append_left (by simp [chC]; omega)]
    congr 1; omega
  | b :: l,k + 1,a,j,h,hj => by
    simp at h
    rw [vS_,List.getElem?_append_right (by simp [chC]; omega)]
    rw [← jt_ l k a j h hj]
    congr 1; simp [chC]; omega
structure MadeCh (w : World) (B0 : Nat) (a : ChV) : Prop where
  b : ∃ g,a.bA = some ⟨g,0,none⟩ ∧ B0 ≤ g ∧ zb_ w g 5 (bts a.B)
  bl : a.B.length = 64
  bn : a.bn = 64
  bc : a.bc = 64
  p : 0 ≤ a.page ∧ a.page < 65536
theorem MadeCh.ok {w : World} {B0 : Nat} {a : ChV} (h : MadeCh w B0 a) : ChOk w a:=by
 obtain ⟨g,hg,_,hW⟩:=h.b
 refine ⟨by have:=h.p; omega,by have:=h.p; omega,?_⟩
 rw [hg,h.bn,h.bc]
 have:=Bs.of_all hW (by rw [h.bl]; omega)
 rwa [h.bl] at this
theorem MadeCh.small {w : World} {B0 : Nat} {a : ChV} (h : MadeCh w B0 a) : Small a:=⟨h.p.1,h.p.2,h.bn⟩
theorem MadeCh.chg {w w' : World} {B0 : Nat} {a : ChV} {T : List Nat} (h : MadeCh w B0 a) (hc : Chg T w w') (hT : ∀ i ∈ T,i < B0 ∨ w.heap.size ≤ i) : MadeCh w' B0 a:=by
 obtain ⟨g,hg,hB,hW⟩:=h.b
 exact { h with b:=⟨g,hg,hB,hW.chg hc fun hm => by have:=hT g hm; have:=hW.lt; omega⟩ }
theorem MadeCh.grown {w w' : World} {B0 B2 m : Nat} {v2 : Value} {ys : List Value} {a : ChV} (h : MadeCh w B0 a) (h2 : w.ownsRow B2 44 2 v2 m ys) (hg : w.grownBy w' v2.ownBlock) : MadeCh w' B0 a:=by
 obtain ⟨g,hg1,hB,hW⟩:=h.b
 exact { h with b:=⟨g,hg1,hB,zh_ hW h2 (by decide) hg⟩ }
theorem z3_ {w w' : World} {B n k : Nat} {e : TypeId} {v : Value} {xs : List Value} {T : List Nat} (h : w.ownsRow B e k v n xs) (hc : Chg T w w') (hT : ∀ i ∈ T,i < B ∨ w.heap.size ≤ i) : w'.ownsRow B e k v n xs:=by
 refine ⟨h.1,h.2.imp id ?_⟩
 rintro ⟨g,cap,cur,rfl,hb,hg,r⟩
 refine ⟨g,cap,cur,rfl,hb,?_,r⟩
 have hgl : g < w.heap.size:=by
  rcases Nat.lt_or_ge g w.heap.size with hlt | hge
  · exact hlt
  · rw [Array.getElem?_eq_none hge] at hg; cases hg
 rw [hc.block g hgl (fun hm => by have:=hT g hm; omega)]
 exact hg
theorem chs_own {w : World} {B B0 n : Nat} {e : TypeId} {v : Value} {l : List ChV} (h : w.ownsRow B e 2 v n (vS_ l)) (hok : ∀ a ∈ l,MadeCh w B0 a) :
    ∃ A c,v = .slice A n c ∧ l.length = n ∧ Chs w A l ∧ n ≤ 9223372036854775807 ∧ n ≤ c ∧ (∀ ad,A = some ad → ad.spot = none):=by
 have hl : l.length = n:=by have:=h.1; rw [js_] at this; omega
 rcases h.2 with ⟨rfl,rfl⟩ | ⟨g,cap,cur,rfl,hb,hg,hn,hc,hs,ht⟩
 · exact ⟨none,0,rfl,hl,⟨fun h => absurd h (by omega),fun a ha => (hok a ha).ok⟩,by omega,Nat.le_refl _,fun ad e => by cases e⟩
 · have hgl : g < w.heap.size:=by
    rcases Nat.lt_or_ge g w.heap.size with hlt | hge
    · exact hlt
    · rw [Array.getElem?_eq_none hge] at hg; cases hg
   refine ⟨_,cap,rfl,hl,⟨fun _ => ⟨g,0,rfl,hgl,fun k a ha => ?_⟩,fun a ha => (hok a ha).ok⟩,by unfold maxLen at hc; omega,hn,fun ad e => by injection e with e; subst e; rfl⟩
   have hx : ∀ j u,(vS_ l)[j]? = some u → w.cell? ((⟨g,0,none⟩ : Addr).add j) = some u:=h.cells rfl
   have q : ∀ j,j < 2 → ∀ u,(chC a)[j]? = some u → w.cell? ⟨g,k * 2 + j,none⟩ = some u:=fun j hj u hu => by
    have:=hx (k * 2 + j) u ((jt_ l k a j ha hj).trans hu)
    rwa [zj_,Nat.zero_add] at this
   simp only [Nat.zero_add]
   exact ⟨q 0 (by omega) _ rfl,q 1 (by omega) _ rfl⟩
theorem kd_ : (Tryz.prog.info? 44).map (fun i => (i.zero,i.size,i.bytes)) = some (some (.agg #[.int .i64 0,.slice none 0 0]),2,32):=by kernel_rfl
theorem zo_ (w : World) (xs : List Value) (t : Nat) : ∀ (j : Nat) (u : Value),xs[j]? = some u → (w.alloc (.cells xs.toArray t)).cell? ((⟨w.heap.size,0,none⟩ : Addr).add j) = some u:=fun j u hj => by
 rw [zj_,Nat.zero_add,(zb_.new w t xs).cell]; exact hj
structure RMade (w : World) (B0 : Nat) (a : ChV) : Prop where
  b : ∃ g r,a.bA = some ⟨g,0,none⟩ ∧ B0 ≤ g ∧ zb_ w g 5 (bts a.B ++ r) ∧ a.bc = 64 + r.length ∧ 64 + r.length ≤ 9223372036854775807
  bl : a.B.length = 64
  bn : a.bn = 64
  p : 0 ≤ a.page ∧ a.page < 65536
theorem RMade.ok {w : World} {B0 : Nat} {a : ChV} (h : RMade w B0 a) : ChOk w a:=by
 obtain ⟨g,r,hg,_,hW,hc,hm⟩:=h.b
 refine ⟨by have:=h.p; omega,by have:=h.p; omega,?_⟩
 rw [hg,h.bn,hc]
 exact Bs.of_whole hW h.bl (by rw [List.take_left' (by rw [zA_,h.bl])]) (by omega) hm
theorem RMade.chg {w w' : World} {B0 : Nat} {a : ChV} {T : List Nat} (h : RMade w B0 a) (hc : Chg T w w') (hT : ∀ i ∈ T,i < B0 ∨ w.heap.size ≤ i) : RMade w' B0 a:=by
 obtain ⟨g,r,hg,hB,hW,hr⟩:=h.b
 exact { h with b:=⟨g,r,hg,hB,hW.chg hc (fun hm => by have:=hT g hm; have:=hW.lt; omega),hr⟩ }
theorem RMade.grown {w w' : World} {B0 B2 m : Nat} {v2 : Value} {ys : List Value} {a : ChV} (h : RMade w B0 a) (h2 : w.ownsRow B2 44 2 v2 m ys) (hg : w.grownBy w' v2.ownBlock) : RMade w' B0 a:=by
 obtain ⟨g,r,hg1,hB,hW,hr⟩:=h.b
 exact { h with b:=⟨g,r,hg1,hB,zh_ hW h2 (by decide) hg,hr⟩ }
theorem uL_ {w : World} {B n : Nat} {e : TypeId} {v : Value} {l : List ChV} (h : w.ownsRow B e 2 v n (vS_ l)) (hok : ∀ a ∈ l,ChOk w a) :
    ∃ A c,v = .slice A n c ∧ l.length = n ∧ Chs w A l ∧ n ≤ 9223372036854775807 ∧ n ≤ c ∧ (∀ ad,A = some ad → ad.spot = none):=by
 have hl : l.length = n:=by have:=h.1; rw [js_] at this; omega
 rcases h.2 with ⟨rfl,rfl⟩ | ⟨g,cap,cur,rfl,hb,hg,hn,hc,hs,ht⟩
 · exact ⟨none,0,rfl,hl,⟨fun h => absurd h (by omega),hok⟩,by omega,Nat.le_refl _,fun ad e => by cases e⟩
 · have hgl : g < w.heap.size:=by
    rcases Nat.lt_or_ge g w.heap.size with hlt | hge
    · exact hlt
    · rw [Array.getElem?_eq_none hge] at hg; cases hg
   refine ⟨_,cap,rfl,hl,⟨fun _ => ⟨g,0,rfl,hgl,fun k a ha => ?_⟩,hok⟩,by unfold maxLen at hc; omega,hn,fun ad e => by injection e with e; subst e; rfl⟩
   have hx : ∀ j u,(vS_ l)[j]? = some u → w.cell? ((⟨g,0,none⟩ : Addr).add j) = some u:=h.cells rfl
   have q : ∀ j,j < 2 → ∀ u,(chC a)[j]? = some u → w.cell? ⟨g,k * 2 + j,none⟩ = some u:=fun j hj u hu => by
    have:=hx (k * 2 + j) u ((jt_ l k a j ha hj).trans hu)
    rwa [zj_,Nat.zero_add] at this
   simp only [Nat.zero_add]
   exact ⟨q 0 (by omega) _ rfl,q 1 (by omega) _ rfl⟩
theorem MadeCh.rmade {w : World} {B0 : Nat} {a : ChV} (h : MadeCh w B0 a) : RMade w B0 a:=by
 obtain ⟨g,hg,hB,hW⟩:=h.b
 exact ⟨⟨g,[],hg,hB,by rw [List.append_nil]; exact hW,by rw [h.bc]; rfl,by simp⟩,h.bl,h.bn,h.p⟩
end Go.Proofs.YtbkfhndmeljlcaaGreatDoor
namespace Go.Proofs.YtbkfhndmeljlcaaGreatDoor
open Go.RowKit
structure Tp (w : World) (p : Nat) (A : Option Addr) (n c : Nat) (l : List Int) (at_ : Nat) : Prop where
  rec_ : zb_ w p 66 [.slice A n c,.int .i64 (at_ : Int)]
  len : l.length = n
  src : Src w A (nms l)
  spot : 0 < n → ∀ ad,A = some ad → ad.spot = none ∧ ad.block < p
  rng : ∀ x ∈ l,-9223372036854775808 ≤ x ∧ x ≤ 9223372036854775807
  le : at_ ≤ n
  max : n ≤ 9223372036854775807
theorem zfH (l : List Int) (i : Nat) (h : i < l.length) : (nms l)[i]? = some (.int .i64 l[i]):=by simp [nms,h]
section
variable {w : World}
theorem ky_ (n lo hi : Int) (h0 : -1000000 ≤ lo) (h1 : lo ≤ hi) (h2 : hi ≤ 2000000000) (hn0 : -9223372036854775808 ≤ n) (hn1 : n ≤ 9223372036854775807) :
    Calls Tryz.prog 18 #[.int .i64 n,.int .i64 lo,.int .i64 hi] w fun e w' => e = .returned (.int .i64 (zN_ n lo hi)) ∧ w = w':=by
 have b1:=Int.tmod_lt_of_pos n (show 0 < hi - lo + 1 by omega)
 have b2:=Int.lt_tmod_of_pos n (show 0 < hi - lo + 1 by omega)
 have hne : ((hi - lo + 1) == 0) = false:=by simp; omega
 by_cases ha : lo ≤ n
 · by_cases hb : n ≤ hi
   · have HI:=hQ_ (show zN_ n lo hi = n by unfold zN_; rw [if_pos ⟨ha,hb⟩])
     go_enter Tryz.func18,Tryz.ntmps18
     go_wp2_with fail
     go_ret
     exact ⟨ya_ HI.out.symm,rfl⟩
   · by_cases hm : n.tmod (hi - lo + 1) < 0
     · have HI:=hQ_ (show zN_ n lo hi = lo + (n.tmod (hi - lo + 1) + hi - lo + 1) by unfold zN_; rw [if_neg (fun h => hb h.2),if_pos hm])
       go_enter Tryz.func18,Tryz.ntmps18
       go_wp2_with fail
       go_ret
       exact ⟨ya_ HI.out.symm,rfl⟩
     · have HI:=hQ_ (show zN_ n lo hi = lo + n.tmod (hi - lo + 1) by unfold zN_; rw [if_neg (fun h => hb h.2),if_neg hm])
       go_enter Tryz.func18,Tryz.ntmps18
       go_wp2_with fail
       go_ret
       exact ⟨ya_ HI.out.symm,rfl⟩
 · have hd : decide (lo ≤ n) = false:=by simp; omega
   by_cases hm : n.tmod (hi - lo + 1) < 0
   · have HI:=hQ_ (show zN_ n lo hi = lo + (n.tmod (hi - lo + 1) + hi - lo + 1) by unfold zN_; rw [if_neg (fun h => ha h.1),if_pos hm])
     go_enter Tryz.func18,Tryz.ntmps18
     go_wp2_with fail
     go_ret
     exact ⟨ya_ HI.out.symm,rfl⟩
   · have HI:=hQ_ (show zN_ n lo hi = lo + n.tmod (hi - lo + 1) by unfold zN_; rw [if_neg (fun h => ha h.1),if_neg hm])
     go_enter Tryz.func18,Tryz.ntmps18
     go_wp2_with fail
     go_ret
     exact ⟨ya_ HI.out.symm,rfl⟩
end
section
variable {w w' : World} {p n c at_ : Nat} {A : Option Addr} {l : List Int}
theorem Tp.keep (h : Tp w p A n c l at_) (hc : Chg [] w w') : Tp w' p A n c l at_:=⟨h.rec_.keep hc,h.len,h.src.keep hc,h.spot,h.rng,h.le,h.max⟩
theorem Tp.other (h : Tp w p A n c l at_) {g j : Nat} (hg : g ≠ p) (hA : ∀ ad,A = some ad → 0 < n → ad.block ≠ g) (u : Value) : Tp (w.setCell ⟨g,j,none⟩ u) p A n c l at_:=by
 refine ⟨h.rec_.far (by simpa using Ne.symm hg) u,h.len,fun hp => ?_,h.spot,h.rng,h.le,h.max⟩
 obtain ⟨ad,e,hb,hy⟩:=h.src hp
 have hn : 0 < n:=by have:=h.len; simp [nms] at hp; omega
 refine ⟨ad,e,by simpa [World.setCell] using hb,fun i v hi => ?_⟩
 have h1:=hy i v hi
 have e2 : (ad.add i).block = ad.block:=by unfold Addr.add; split <;> rfl
 rw [← h1]
 exact World.cell?_of_block (w:=w) (Below.heap_setCell w _ u _ (by rw [e2]; exact hA ad e hn))
theorem Tp.grown {B2 m k2 : Nat} {e2 : TypeId} {v2 : Value} {ys : List Value} (h : Tp w p A n c l at_) (h2 : w.ownsRow B2 e2 k2 v2 m ys) (hg : w.grownBy w' v2.ownBlock) (hne : 66 ≠ e2) (hB : p < B2) : Tp w' p A n c l at_:=by
 refine ⟨zh_ h.rec_ h2 hne hg,h.len,fun hp => ?_,h.spot,h.rng,h.le,h.max⟩
 obtain ⟨ad,e,hb,hy⟩:=h.src hp
 have hn : 0 < n:=by have:=h.len; simp [nms] at hp; omega
 refine ⟨ad,e,Nat.lt_of_lt_of_le hb hg.size,fun i v hi => ?_⟩
 have h1:=hy i v hi
 have e3 : (ad.add i).block = ad.block:=by unfold Addr.add; split <;> rfl
 rw [← h1]
 refine World.cell?_of_block (w:=w) (hg.block _ (by rw [e3]; exact hb) (fun hc => ?_))
 rw [e3] at hc
 have:=(h2.lt _ hc.symm).1
 have:=(h.spot hn ad e).2
 omega
theorem zM_ {T : List Nat} {a w w' : World} {row : Option Nat} (h : Chg T a w) (hg : w.grownBy w' row) (hr : ∀ g,row = some g → a.heap.size ≤ g) : Chg T a w' :=
 h.then_ (T':=row.toList) (Chg.of_grown hg fun g e _ => by simp [e]) fun i hi hlt => by
  have:=hr i (by simpa using hi)
  omega
theorem Tp.lt (h : Tp w p A n c l at_) : p < w.heap.size:=h.rec_.lt
def zdZ (w : World) (p : Nat) (A : Option Addr) (n c : Nat) (l : List Int) (m : Nat) (e : Ending) (w' : World) : Prop :=
 ∃ (r a' : Nat),r < m ∧ e = .returned (.int .i64 (r : Int)) ∧ Tp w' p A n c l a' ∧ Chg [p] w w'
theorem zH_ (h : Tp w p A n c l at_) (m : Nat) (hm : 0 < m) (hm2 : m ≤ 1000000) :
    Calls Tryz.prog 33 #[.pointer (some ⟨p,0,none⟩),.int .i64 (m : Int)] w (zdZ w p A n c l m):=by
 have c0:=h.rec_.cell 0
 have c1:=h.rec_.cell 1
 have f1:=h.rec_.frozen 1
 have hle:=h.le
 have hmax:=h.max
 have H:=hQ_ h
 clear h
 have hmd : ¬ (m : Int) < 1:=by omega
 have hmd1 : decide ((m : Int) < 1) = false:=by simp; omega
 by_cases hlt : at_ < n
 · have hd1 : decide (n ≤ at_) = false:=by simp; omega
   have hd2 : decide ((n : Int) ≤ (at_ : Int)) = false:=by simp; omega
   obtain ⟨ad,rfl,_,hx⟩:=H.out.src (by simp [nms]; have:=H.out.len; omega)
   have hx1:=hx at_ _ (zfH l at_ (by have:=H.out.len; omega))
   obtain ⟨b,o,s⟩:=ad
   obtain ⟨hs,hbp⟩:=H.out.spot (by omega) _ rfl
   simp only at hs hbp
   subst hs
   rw [zj_] at hx1
   have hal : at_ < l.length:=by have:=H.out.len; omega
   have hrz:=H.out.rng l[at_] (List.getElem_mem hal)
   generalize l[at_] = z at hx1 hrz
   obtain ⟨hz0,hz1⟩:=hrz
   clear hx
   go_enter Tryz.func33,Tryz.ntmps33
   go_wp2_with fail
   go_quiet (fail)
   go_wp2_with fail
   have hR3:=((H.out.rec_.keep ((Chg.refl [] w).drewN nq)).set_ 1 (.int .i64 ((at_ : Int) + 1)))
   have hc3 : Chg [p] w ((w.drewN nq).setCell ⟨p,1,none⟩ (.int .i64 ((at_ : Int) + 1))):=((Chg.refl [p] w).drewN nq).setCell (by simp) _
   generalize (w.drewN nq).setCell ⟨p,1,none⟩ (.int .i64 ((at_ : Int) + 1)) = w3 at hR3 hc3 ⊢
   have hs3 : Src w3 (some ⟨b,o,none⟩) (nms l):=fun hp => by
    obtain ⟨ad,e,hb,hy⟩:=H.out.src hp
    injection e with e
    subst e
    refine ⟨_,rfl,Nat.lt_of_lt_of_le hb hc3.size,fun j v hj => ?_⟩
    have:=hy j v hj
    rw [zj_] at this ⊢
    rw [← this]
    exact World.cell?_of_block (w:=w) (hc3.block b hb (by simp; omega))
   have hT3 : Tp w3 p (some ⟨b,o,none⟩) n c l (at_ + 1):=⟨by simpa using hR3,H.out.len,hs3,H.out.spot,H.out.rng,by omega,H.out.max⟩
   have k0:=hT3.rec_.cell 0
   have k1:=hT3.rec_.cell 1
   have k2 : w3.cell? ⟨b,o + at_,none⟩ = some (.int .i64 z):=by
    rw [← hx1]
    exact World.cell?_of_block (w:=w) (hc3.block b (block_lt_of_cell hx1) (by simp; omega))
   clear hx1 c0 c1 f1 hR3 hs3
   obtain ⟨q,hq,hq2⟩ : ∃ q : Nat,zN_ z 0 1073741824 = (q : Int) ∧ q ≤ 1073741824:=by
    have hin:=vy_ z 0 1073741824 (by omega)
    exact ⟨(zN_ z 0 1073741824).toNat,by have:=hin.1; omega,by have h1:=hin.1; have h2:=hin.2.1; omega⟩
   have hw : ∀ W : World,Calls Tryz.prog 18 #[.int .i64 z,.int .i64 0,.int .i64 1073741824] W fun e w' => e = .returned (.int .i64 (q : Int)) ∧ w' = W:=fun W =>
    (ky_ z 0 1073741824 (by omega) (by omega) (by omega) hz0 hz1).mono fun _ _ ⟨h1,h2⟩ => ⟨by rw [h1,hq],h2.symm⟩
   have HT:=hQ_ hT3
   have HW:=hQ_ hw
   have HC:=hQ_ hc3
   have hsub : IntKind.i64.wrap (at_ : Int) = (at_ : Int):=IntWalk.i64_in _ (by omega)
   have hatn : (at_ : Int).toNat = at_:=Int.toNat_natCast _
   have hat0 : (0 : Int) ≤ (at_ : Int):=by omega
   have htm : (q : Int).tmod (m : Int) = ((q % m : Nat) : Int):=rfl
   have hlast : q % m < m:=Nat.mod_lt _ hm
   have hatI : (at_ : Int) < (n : Int):=by omega
   have hm0 : ((m : Int) == 0) = false:=by simp; omega
   clear hT3 hw hc3 hq H
   go_quiet ((go_at_call 18; exact Calls.quiet_of_same (HW.out _)))
   go_wp2_with fail
   go_ret
   exact ⟨q % m,at_ + 1,hlast,rfl,HT.out.keep ((Chg.refl _ _).drewN _),HC.out.drewN _⟩
 · have hd1 : decide (n ≤ at_) = true:=by simp; omega
   have hd2 : decide ((n : Int) ≤ (at_ : Int)) = true:=by simp; omega
   go_enter Tryz.func33,Tryz.ntmps33
   go_wp2_with fail
   go_quiet (fail)
   go_wp2_with fail
   go_ret
   exact ⟨0,at_,hm,rfl,H.out.keep ((Chg.refl _ _).drewN _),(Chg.refl _ _).drewN _⟩
end
end Go.Proofs.YtbkfhndmeljlcaaGreatDoor
namespace Go.Proofs.YtbkfhndmeljlcaaGreatDoor
open Go.RowKit
def jy_ (l : List UInt8) : Nat:=l.foldl (fun g b => g * 256 + b.toNat) 0
theorem zbK (l : List UInt8) (b : UInt8) : jy_ (l ++ [b]) = jy_ l * 256 + b.toNat:=by simp [jy_]
theorem zcr : ∀ (l : List UInt8) (g : Nat),l.foldl (fun g b => g * 256 + b.toNat) g < (g + 1) * 256 ^ l.length
  | [],g => by simp
  | b :: l,g => by
    have h:=zcr l (g * 256 + b.toNat)
    have hb:=b.toNat_lt
    have h2 : (g * 256 + b.toNat + 1) * 256 ^ l.length ≤ ((g + 1) * 256) * 256 ^ l.length:=Nat.mul_le_mul_right _ (by omega)
    rw [List.foldl_cons,List.length_cons,Nat.pow_succ,Nat.mul_comm (256 ^ l.length) 256,← Nat.mul_assoc]
    omega
theorem zbL (l : List UInt8) : jy_ l < 256 ^ l.length:=by
 have:=zcr l 0
 simpa [jy_] using this
theorem zdB (l : List UInt8) (k : Nat) : jy_ ((l.drop k).take 4) < 4294967296:=by
 have h:=zbL ((l.drop k).take 4)
 have h2 : ((l.drop k).take 4).length ≤ 4:=by rw [List.length_take]; omega
 have : 256 ^ ((l.drop k).take 4).length ≤ 256 ^ 4:=Nat.pow_le_pow_right (by omega) h2
 omega
theorem x3_ (l : List UInt8) (k j : Nat) (h : k + j < l.length) : jy_ ((l.drop k).take (j + 1)) = jy_ ((l.drop k).take j) * 256 + (l[k + j]).toNat:=by
 rw [List.take_succ_eq_append_getElem (by rw [List.length_drop]; omega),zbK,List.getElem_drop]
theorem zdA (l : List UInt8) (k j : Nat) (hj : j < 4) : jy_ ((l.drop k).take j) < 16777216:=by
 have h:=zbL ((l.drop k).take j)
 have h2 : ((l.drop k).take j).length ≤ 3:=by rw [List.length_take]; omega
 have : 256 ^ ((l.drop k).take j).length ≤ 256 ^ 3:=Nat.pow_le_pow_right (by omega) h2
 omega
theorem zeO (g : Nat) (q : UInt8) (hg : g < 16777216) : bits .or .u32 ((g : Int) * 256 % 4294967296) ((q.toNat : Int) % 4294967296) = ((g * 256 + q.toNat : Nat) : Int):=by
 have hq:=q.toNat_lt
 have e1 : (g : Int) * 256 % 4294967296 = ((g * 256 : Nat) : Int):=by omega
 have e2 : (q.toNat : Int) % 4294967296 = ((q.toNat : Nat) : Int):=by omega
 rw [e1,e2,u32_or_nat _ _ (by omega) (by omega),nat_join 8 (g * 256) q.toNat (by omega) (by omega)]
theorem zbI (i x y : Nat) (hx : x < 4294967296) (hy : y < 2 ^ i) (hy2 : y < 4294967296) (h0 : x % 2 ^ i = 0) : bits .or .u32 (x : Int) (y : Int) = ((x + y : Nat) : Int):=by
 rw [u32_or_nat x y hx hy2,nat_join i x y h0 hy]
theorem zeN (a b c d : UInt8) : bits .or .u32 (bits .or .u32 (bits .or .u32 ((a.toNat : Int) % 4294967296 * 16777216 % 4294967296) ((b.toNat : Int) % 4294967296 * 65536 % 4294967296)) ((c.toNat : Int) % 4294967296 * 256 % 4294967296)) ((d.toNat : Int) % 4294967296) =
    ((((a.toNat * 256 + b.toNat) * 256 + c.toNat) * 256 + d.toNat : Nat) : Int):=by
         have h1:=a.toNat_lt
         have h2:=b.toNat_lt
         have h3:=c.toNat_lt
         have h4:=d.toNat_lt
         generalize a.toNat = a at *
         generalize b.toNat = b at *
         generalize c.toNat = c at *
         generalize d.toNat = d at *
         obtain ⟨A,hA⟩ : ∃ A,A = a * 16777216:=⟨_,rfl⟩
         have e1 : (a : Int) % 4294967296 * 16777216 % 4294967296 = (A : Int):=by omega
         have e2 : (b : Int) % 4294967296 * 65536 % 4294967296 = ((b * 65536 : Nat) : Int):=by omega
         have e3 : (c : Int) % 4294967296 * 256 % 4294967296 = ((c * 256 : Nat) : Int):=by omega
         have e4 : (d : Int) % 4294967296 = (d : Int):=by omega
         rw [e1,e2,e3,e4,zbI 24 A (b * 65536) (by omega) (by omega) (by omega) (by omega),zbI 16 (A + b * 65536) (c * 256) (by omega) (by omega) (by omega) (by omega),zbI 8 (A + b * 65536 + c * 256) d (by omega) (by omega) (by omega) (by omega)]
         congr 1
         omega
def xK_ (l : List UInt8) (at_ : Int) : Nat:=if 0 ≤ at_ ∧ at_ + 4 ≤ l.length then jy_ ((l.drop at_.toNat).take 4) else 0
theorem jj_ (l : List UInt8) (i : Int) : xK_ l i < 4294967296:=by
 unfold xK_
 split
 · exact zdB _ _
 · omega
section
variable {w : World} {A : Option Addr} {n c : Nat} {l : List UInt8}
theorem zfQ (hn : n ≤ 9223372036854775807) (i : Int) (h : i < 0 ∨ (n : Int) < i + 4) (hi : i ≤ 9223372036854775807) :
    Calls Tryz.prog 103 #[.slice A n c,.int .i64 i] w fun e w' => e = .returned (.int .u32 0) ∧ w = w':=by
 by_cases h0 : i < 0
 · go_enter Tryz.func103,Tryz.ntmps103
   go_wp2_with fail
   go_ret
   exact ⟨rfl,rfl⟩
 · have h1 : (n : Int) - 4 < i:=by omega
   have h2 : 0 ≤ i:=by omega
   have hd : decide (i < 0) = false:=by simpa using h0
   clear h
   go_enter Tryz.func103,Tryz.ntmps103
   go_wp2_with fail
   go_ret
   exact ⟨rfl,rfl⟩
theorem zff (hl : l.length = n) (hs : Src w A (bts l)) (hn : n ≤ 9223372036854775807) (hsp : 0 < n → ∀ ad,A = some ad → ad.spot = none) (k : Nat) (hk : k + 4 ≤ n) (hnc : n ≤ c) (hc : c ≤ 9223372036854775807) :
    Calls Tryz.prog 103 #[.slice A n c,.int .i64 (k : Int)] w fun e w' => e = .returned (.int .u32 (jy_ ((l.drop k).take 4) : Nat)) ∧ w = w':=by
 have HL:=hQ_ hl
 have HS:=hQ_ hsp
 clear hl hsp
 obtain ⟨⟨b,o,s⟩,rfl,_,hx⟩:=hs (by rw [zA_,HL.out]; omega)
 obtain rfl : s = none:=HS.out (by omega) _ rfl
 go_enter Tryz.func103,Tryz.ntmps103
 go_wp2_with fail
 go_loop [5,23] (fun h i => ∃ j : Nat,j ≤ 4 ∧ i = .int .i64 (j : Int) ∧ h = .int .u32 ((jy_ ((l.drop k).take j) : Nat) : Int)) (fun _ i => 4 - (intOf i).toNat)
 case atStart => exact ⟨0,by omega,rfl,rfl⟩
 case round =>
  obtain ⟨j,hj,rfl,rfl⟩:=hrel
  by_cases hlt : j < 4
  · have hkl : k + j < l.length:=by rw [HL.out]; omega
    have hx1:=hx (k + j) _ (vA_ l (k + j) hkl)
    rw [zj_] at hx1
    unfold B8 at hx1
    have hnx:=x3_ l k j hkl
    have hgl:=zdA l k j hlt
    clear hx
    generalize l[k + j] = q at hx1 hnx
    have hob:=zeO _ q hgl
    rw [← hnx] at hob
    clear hnx
    generalize jy_ ((l.drop k).take j) = g at hob hgl
    have hob2:=hQ_ hob
    clear hob hgl
    have hx2 : w.cell? ⟨b,o + k + j,none⟩ = some (.int .u8 (q.toNat : Int)):=by rw [← hx1,Nat.add_assoc]
    clear hx1
    go_wp2_with fail
    go_round
    case rel => exact ⟨j + 1,by omega,by go_num,by rw [hob2.out]⟩
    case measure => simp [intOf]; omega
  · obtain rfl : j = 4:=by omega
    go_wp2_with fail
    go_ret
    exact ⟨rfl,rfl⟩
theorem zeA (hn : n ≤ 9223372036854775807) (i : Int) (h : i < 0 ∨ (n : Int) < i + 4) (hi : i ≤ 9223372036854775807) :
    Calls Tryz.prog 102 #[.slice A n c,.int .i64 i] w fun e w' => e = .returned (.int .u32 0) ∧ w = w':=by
 by_cases h0 : i < 0
 · go_enter Tryz.func102,Tryz.ntmps102
   go_wp2_with fail
   go_ret
   exact ⟨rfl,rfl⟩
 · have h1 : (n : Int) - 4 < i:=by omega
   have h2 : 0 ≤ i:=by omega
   have hd : decide (i < 0) = false:=by simpa using h0
   clear h
   go_enter Tryz.func102,Tryz.ntmps102
   go_wp2_with fail
   go_ret
   exact ⟨rfl,rfl⟩
theorem zdq (hl : l.length = n) (hs : Src w A (bts l)) (hn : n ≤ 9223372036854775807) (hsp : 0 < n → ∀ ad,A = some ad → ad.spot = none) (k : Nat) (hk : k + 4 ≤ n) :
    Calls Tryz.prog 102 #[.slice A n c,.int .i64 (k : Int)] w fun e w' => e = .returned (.int .u32 (jy_ ((l.drop k).take 4) : Nat)) ∧ Chg [] w w':=by
 have HL:=hQ_ hl
 have HS:=hQ_ hsp
 clear hl hsp
 obtain ⟨⟨b,o,s⟩,rfl,_,hx⟩:=hs (by rw [zA_,HL.out]; omega)
 obtain rfl : s = none:=HS.out (by omega) _ rfl
 have x0:=hx (k + 0) _ (vA_ l (k + 0) (by rw [HL.out]; omega))
 have x1:=hx (k + 1) _ (vA_ l (k + 1) (by rw [HL.out]; omega))
 have x2:=hx (k + 2) _ (vA_ l (k + 2) (by rw [HL.out]; omega))
 have x3:=hx (k + 3) _ (vA_ l (k + 3) (by rw [HL.out]; omega))
 have e0:=x3_ l k 0 (by rw [HL.out]; omega)
 have e1:=x3_ l k 1 (by rw [HL.out]; omega)
 have e2:=x3_ l k 2 (by rw [HL.out]; omega)
 have e3:=x3_ l k 3 (by rw [HL.out]; omega)
 have e00 : jy_ ((l.drop k).take 0) = 0:=rfl
 clear hx
 rw [zj_] at x0 x1 x2 x3
 unfold B8 at x0 x1 x2 x3
 generalize l[k + 0]'(by rw [HL.out]; omega) = q0 at x0 e0
 generalize l[k + 1]'(by rw [HL.out]; omega) = q1 at x1 e1
 generalize l[k + 2]'(by rw [HL.out]; omega) = q2 at x2 e2
 generalize l[k + 3]'(by rw [HL.out]; omega) = q3 at x3 e3
 have ho:=zeN q0 q1 q2 q3
 rw [show ((q0.toNat * 256 + q1.toNat) * 256 + q2.toNat) * 256 + q3.toNat = jy_ ((l.drop k).take 4) by rw [e3,e2,e1,e0,e00]; omega] at ho
 have HO:=hQ_ ho
 clear ho e0 e1 e2 e3 e00
 rw [Nat.add_zero] at x0
 rw [← Nat.add_assoc] at x1 x2 x3
 have b1 : (0 : Int) ≤ (k : Int):=by omega
 have b2 : (k : Int) + 1 < (n : Int):=by omega
 have b3 : (k : Int) + 2 < (n : Int):=by omega
 have b4 : (k : Int) + 3 < (n : Int):=by omega
 have b5 : (k : Int) < (n : Int):=by omega
 have m1 : IntKind.i64.wrap ((k : Int) + 1) = (k : Int) + 1:=IntWalk.i64_in _ (by omega)
 have m2 : IntKind.i64.wrap ((k : Int) + 2) = (k : Int) + 2:=IntWalk.i64_in _ (by omega)
 have m3 : IntKind.i64.wrap ((k : Int) + 3) = (k : Int) + 3:=IntWalk.i64_in _ (by omega)
 have n1 : ((k : Int) + 1).toNat = k + 1:=by omega
 have n2 : ((k : Int) + 2).toNat = k + 2:=by omega
 have n3 : ((k : Int) + 3).toNat = k + 3:=by omega
 have p1 : (0 : Int) ≤ (k : Int) + 1:=by omega
 have p2 : (0 : Int) ≤ (k : Int) + 2:=by omega
 have p3 : (0 : Int) ≤ (k : Int) + 3:=by omega
 rw [Nat.add_assoc] at x1 x2 x3
 go_enter Tryz.func102,Tryz.ntmps102
 go_wp2_with fail
 go_quiet (fail)
 go_wp2_with fail
 go_ret
 exact ⟨zeB HO.out,(Chg.refl _ _).drewN _⟩
end
end Go.Proofs.YtbkfhndmeljlcaaGreatDoor
namespace Go.Proofs.YtbkfhndmeljlcaaGreatDoor
open Go.RowKit
def kr_ (w : World) (vs : List Value) (ls : List (List UInt8)) : Prop :=
 vs.length = ls.length ∧ ∀ (i : Nat) (v : Value) (X : List UInt8),vs[i]? = some v → ls[i]? = some X → ∃ A n c,v = .slice A n c ∧ Bs w A n c X
theorem kr_.keep {w w' : World} {vs : List Value} {ls : List (List UInt8)} (h : kr_ w vs ls) (hc : Chg [] w w') : kr_ w' vs ls :=
 ⟨h.1,fun i v X hv hX => by obtain ⟨A,n,c,e,hB⟩:=h.2 i v X hv hX; exact ⟨A,n,c,e,hB.keep hc⟩⟩
end Go.Proofs.YtbkfhndmeljlcaaGreatDoor
namespace Go.Proofs.YtbkfhndmeljlcaaGreatDoor
open Go.RowKit Go.ChangeShapes Go.WideShapes Go.Deep
theorem zbG {α β : Type} {P : Nat → α → β → Prop} (n : Nat) (h : ∀ i,i < n → ∃ a b,P i a b) : ∃ (l : List α) (m : List β),l.length = n ∧ m.length = n ∧ ∀ i a b,l[i]? = some a → m[i]? = some b → P i a b:=by
 induction n with
 | zero => exact ⟨[],[],rfl,rfl,fun i a b h => by simp at h⟩
 | succ n ih =>
   obtain ⟨l,m,hl,hm,hx⟩:=ih fun i hi => h i (by omega)
   obtain ⟨a,b,hab⟩:=h n (by omega)
   refine ⟨l ++ [a],m ++ [b],by simp [hl],by simp [hm],fun i x y hx1 hy1 => ?_⟩
   rcases Nat.lt_trichotomy i n with hi | hi | hi
   · rw [List.getElem?_append_left (by omega)] at hx1 hy1
     exact hx i x y hx1 hy1
   · subst hi
     rw [← hl,List.getElem?_concat_length] at hx1
     rw [← hm,List.getElem?_concat_length] at hy1
     cases hx1
     cases hy1
     exact hab
   · rw [List.getElem?_eq_none (by simp; omega)] at hx1
     cases hx1
end Go.Proofs.YtbkfhndmeljlcaaGreatDoor
namespace Go.Proofs.YtbkfhndmeljlcaaGreatDoor
open Go.RowKit Go.ChangeShapes Go.WideShapes Go.Deep
section
variable {H : Type} {enc : TypeId × Value → H} {w : World} {base : Nat} {held : Bool}
theorem zar {fuel : Nat} {cs : List Value} {x : DataW H × List MemPlace} (h : DataW.trod enc Tryz.prog w base (fun _ => true) held fuel 30 cs = some x) (v : Value) (hv : cs = [v]) :
    ∃ A n c vs ls,v = .slice A n c ∧ vs.length = n ∧ Src w A vs ∧ (0 < n → ∀ ad,A = some ad → ad.spot = none) ∧ kr_ w vs ls ∧ n ≤ c ∧ c ≤ 9223372036854775807:=by
 subst hv
 rcases open_slice Tryz.underlying30 h with ⟨h0,_⟩ | ⟨a,len,cap,m,f,D,Pl,hcs,hb,hl,hm,hmm,hx,hi⟩
 · simp only [List.cons.injEq,and_true] at h0
   exact ⟨none,0,0,[],[],h0,rfl,Src.nil _ _,fun h => absurd h (by omega),⟨rfl,fun i v X hv _ => by simp at hv⟩,by omega,by omega⟩
 · simp only [List.cons.injEq,and_true] at hcs
   rw [if_pos rfl] at hmm
   subst hmm
   have key : ∀ i,i < len → ∃ (u : Value) (X : List UInt8),w.cell? (a.add i) = some u ∧ ∃ A n c,u = .slice A n c ∧ Bs w A n c X:=by
    intro i hlt
    have hC : Tryz.prog.cellsOf 33 = 1:=by kernel_rfl
    obtain ⟨cs',hc,ht'⟩:=hi i (by omega)
    rw [hC,Nat.mul_one] at hc
    obtain ⟨_,hcl,hat⟩:=World.cells?_some hc
    match cs',hcl with
    | [u],_ =>
      have h0:=hat 0 (by omega)
      rw [List.getElem?_cons_zero,show ((a.add i).add 0) = a.add i by simp [Addr.add]] at h0
      rcases open_ints Tryz.underlying33 Tryz.underlying5 (by kernel_rfl) ht' with ⟨hcs,_⟩ | ⟨ad,l,c,zs,hcs,_,hl,hm,hz,hx,hcell,hwz⟩
      · simp only [List.cons.injEq,and_true] at hcs
        exact ⟨u,[],h0,none,0,0,hcs,Bs.nil w⟩
      · simp only [List.cons.injEq,and_true] at hcs
        obtain ⟨X,hX⟩:=Bs.of_row (show qo_ .u8 w (some ad) l c zs from .inr ⟨ad,rfl,hl,hm,by simpa using hz,hcell,hwz⟩)
        exact ⟨u,X,h0,some ad,l,c,hcs,hX⟩
   obtain ⟨vs,ls,hvl,hll,hkx⟩:=zbG len key
   have hbk : ∀ i,(a.add i).block = a.block:=fun i => by unfold Addr.add; split <;> rfl
   refine ⟨some a,len,m,vs,ls,hcs,hvl,fun hp => ?_,fun h0 ad e => ?_,⟨by omega,fun i u X hu hX => (hkx i u X hu hX).2⟩,by omega,by unfold maxLen at hm; omega⟩
   · refine ⟨a,rfl,?_,fun j u hj => ?_⟩
     · obtain ⟨h1,_⟩:=hkx 0 _ _ (List.getElem?_eq_getElem hp) (List.getElem?_eq_getElem (by omega))
       rw [← hbk 0]
       exact block_lt_of_cell h1
     · have hj2:=(List.getElem?_eq_some_iff.1 hj).1
       exact (hkx j u _ hj (List.getElem?_eq_getElem (by omega))).1
   · injection e with e
     subst e
     obtain ⟨h1,A1,n1,c1,e1,_⟩:=hkx 0 _ _ (List.getElem?_eq_getElem (by omega)) (List.getElem?_eq_getElem (by omega))
     rw [show a.add 0 = a by simp [Addr.add]] at h1
     cases hs : a.spot with
     | none => rfl
     | some s =>
       exfalso
       unfold World.cell? at h1
       rw [hs] at h1
       split at h1
       · rw [e1] at h1; simp at h1
       · cases h1
end
end Go.Proofs.YtbkfhndmeljlcaaGreatDoor
namespace Go.Proofs.YtbkfhndmeljlcaaGreatDoor
open Go.RowKit
section
variable {w : World} {A : Option Addr} {n c : Nat} {l : List UInt8}
theorem zfE (h : Bs w A n c l) (k : Nat) (hk : k < 4294967296) (hn : n + 4 ≤ 140737488355328) : Calls Tryz.prog 72 #[.slice A n c,.int .u32 (k : Int)] w (yL_ w (l ++ be4 k)):=zeG k hk h.len h.src hn
theorem zed (h : Bs w A n c l) (k : Nat) (hk : k < 4294967296) (hn : n + 4 ≤ 140737488355328) : Calls Tryz.prog 101 #[.slice A n c,.int .u32 (k : Int)] w (yL_ w (l ++ be4 k)):=zdn k hk h.len h.src hn
theorem zfR (h : Bs w A n c l) (i : Int) (hi : i ≤ 9223372036854775807) : Calls Tryz.prog 103 #[.slice A n c,.int .i64 i] w fun e w' => e = .returned (.int .u32 (xK_ l i : Nat)) ∧ w = w':=by
 unfold xK_
 split
 · rename_i hc
   obtain ⟨k,rfl⟩:=Int.eq_ofNat_of_zero_le hc.1
   rw [Int.toNat_natCast]
   exact zff h.len h.src h.le h.spot k (by have:=h.len; omega) h.cap h.max
 · rename_i hc
   exact zfQ h.le i (by have:=h.len; omega) hi
theorem zee (h : Bs w A n c l) (i : Int) (hi : i ≤ 9223372036854775807) : Calls Tryz.prog 102 #[.slice A n c,.int .i64 i] w fun e w' => e = .returned (.int .u32 (xK_ l i : Nat)) ∧ Chg [] w w':=by
 unfold xK_
 split
 · rename_i hc
   obtain ⟨k,rfl⟩:=Int.eq_ofNat_of_zero_le hc.1
   rw [Int.toNat_natCast]
   exact zdq h.len h.src h.le h.spot k (by have:=h.len; omega)
 · rename_i hc
   refine (zeA h.le i (by have:=h.len; omega) hi).mono ?_
   rintro e w' ⟨rfl,rfl⟩
   exact ⟨rfl,Chg.refl _ _⟩
end
end Go.Proofs.YtbkfhndmeljlcaaGreatDoor
namespace Go.Proofs.YtbkfhndmeljlcaaGreatDoor
open Go.RowKit
theorem qy_ (k : Nat) (hk : k < 4294967296) : jy_ (be4 k) = k:=by
 simp only [jy_,be4,List.foldl_cons,List.foldl_nil,UInt8.toNat_ofNat']
 omega
theorem gl_ (l m : List UInt8) (k : Nat) (hk : k < 4294967296) (i : Int) (hi : i = l.length) : xK_ (l ++ (be4 k ++ m)) i = k:=by
 subst hi
 unfold xK_
 rw [if_pos ⟨by omega,by simp only [List.length_append,jv_]; omega⟩,Int.toNat_natCast,List.drop_left,List.take_left' (jv_ k),qy_ k hk]
end Go.Proofs.YtbkfhndmeljlcaaGreatDoor
