/-
  A region that draws its order, operation by operation, with what is said of stores, too: it holds at the end, of the place that was stored to.
-/
import Derived.Test.YtnohfdojcdhfoaaZTopRun1
import Derived.Test.YtnohfdojcdhfoaaZTopRun2
import Derived.Test.YtnohfdojcdhfoaaZTopRun3
import Derived.Test.YtnohfdojcdhfoaaZTopRun4
import Derived.Test.YtnohfdojcdhfoaaZTopRun5
import Derived.Test.YtnohfdojcdhfoaaZTopRun6
import Derived.Test.YtnohfdojcdhfoaaZTopRun7
import Derived.Test.YtnohfdojcdhfoaaZTopRun8
import Derived.Test.YtnohfdojcdhfoaaZTopRun9
import Derived.Test.YtnohfdojcdhfoaaFrameZ
import Derived.Test.YtnohfdojcdhfoaaTopRunZ
import Derived.Test.YtnohfdojcdhfoaaTopAwakeZ
import Derived.Test.YtnohfdojcdhfoaaTopMaskZ
import Derived.Test.YtnohfdojcdhfoaaTopMemZ
import Derived.Test.YtnohfdojcdhfoaaTopRunZ
namespace Go.Proofs.Ytnohfdojcdhfoaa.F2
open Go.RowKit
/-- Where an operation without a place of its own stores to. -/
def ptrOf (o : Oper) : Option Tmp := match o.op.operands.toList with
  | .tmp t :: _ => some t
  | _ => none
/-- One operation: with a place of its own, or one that stores: what is said then is said of where it stores to. -/
def Op2 (P : Program) (T : Turns) (w0 : World) (a0 : Act) (ops : List Oper) (F : Said) (k : Nat) (o : Oper) (φ : Fact) : Prop :=
  (o.dst ≠ none ∧ OpOk P T w0 a0 ops F k o φ) ∨ (o.dst = none ∧ ∃ t, ptrOf o = some t ∧ Keeps T.R φ ∧ (T.soft.contains k = true ∨ Keeps T.H φ) ∧ guardIs ops F true o ∧
    ∀ ev W, EvOk ev → T.H w0 W → allFacts a0 F ev W o.op.operands.toList → Leaves P (T.by_ k) (fun _ W' => φ (ev (.tmp t)) W') W ((execOp ev o).run P W))
def Flow (P : Program) (T : Turns) (w0 : World) (a0 : Act) (ops : List Oper) (Q : Exit → Act → World → Prop) : Said → Nat → List Oper → Prop
  | F, _, [] => ∀ (vs : Tmp → Value) W, T.H w0 W → (∀ t φ, look F t = some φ → softAt T ops t = false → φ (vs t) W) → (∀ (j : Nat) (o : Oper) (φ : Fact) (t : Tmp), ops[j]? = some o → o.dst = none → ptrOf o = some t → F.reverse[j]? = some (none, φ) → φ (vs t) W) → Q .normal (putAll a0 ops vs) W
  | F, k, o :: rest => ∃ φ, Op2 P T w0 a0 ops F k o φ ∧ Flow P T w0 a0 ops Q ((o.dst, φ) :: F) (k + 1) rest
/-- What has no place of its own is not soft, and where it stores to is not written behind it. -/
def noneB (T : Turns) (ops : List Oper) : Bool := (T.soft.all fun k => ((ops[k]?).bind (·.dst)).isSome) && ((List.range ops.length).all fun k => match ops[k]? with
  | some o => (match o.dst, ptrOf o with
    | none, some t => (List.range ops.length).all fun j => match (ops[j]?).bind (·.dst) with
      | some d => !(Nat.beq d t) || Nat.blt j k
      | none => true
    | _, _ => true)
  | none => true)
section sound
variable {P : Program} {T : Turns} {w0 : World} {a0 : Act} {ops : List Oper} {Q : Exit → Act → World → Prop}
/-- The operations and what is said of them. -/
theorem flow_all {Φ : List Fact} {rest : List Oper} (hrest : ∀ j : Nat, rest[j]? = ops[Φ.length + j]?) (h : Flow P T w0 a0 ops Q (tab ops Φ) Φ.length rest) :
    ∃ Ψ : List Fact, Ψ.length = rest.length ∧ (∀ k o φ, rest[k]? = some o → Ψ[k]? = some φ → Op2 P T w0 a0 ops (tab ops (Φ ++ Ψ.take k)) (Φ.length + k) o φ) ∧ ∀ n, Flow P T w0 a0 ops Q (tab ops (Φ ++ Ψ)) n [] := by
  induction rest generalizing Φ with
  | nil => exact ⟨[], rfl, fun k o φ hk => by simp at hk, fun n => by simpa only [List.append_nil] using (show Flow P T w0 a0 ops Q (tab ops Φ) n [] from h)⟩
  | cons o rest ih =>
    obtain ⟨φ, hφ, h⟩ := h
    have h0 : ops[Φ.length]? = some o := by simpa using (hrest 0).symm
    rw [← tab_snoc ops Φ o φ h0] at h
    obtain ⟨Ψ, hl, hk, he⟩ := ih (Φ := Φ ++ [φ]) (fun j => by have := hrest (j + 1); simp only [List.getElem?_cons_succ] at this; rw [this]; congr 1; simp only [List.length_append, List.length_cons, List.length_nil]; omega) (by simpa using h)
    refine ⟨φ :: Ψ, by simp [hl], fun k o' φ' ho hφ' => ?_, fun n => by simpa using he n⟩
    cases k with
    | zero =>
      simp only [List.getElem?_cons_zero, Option.some.injEq] at ho hφ'
      subst ho hφ'
      simpa using hφ
    | succ k =>
      have := hk k o' φ' (by simpa using ho) (by simpa using hφ')
      simp only [List.length_append, List.length_cons, List.length_nil] at this
      rw [show Φ.length + (k + 1) = Φ.length + 1 + k by omega]
      simpa using this

theorem tab_rev : ∀ {ops : List Oper} {Φ : List Fact} {j : Nat} {o : Oper} {d : Option Tmp} {φ : Fact}, Φ.length = ops.length → ops[j]? = some o → (tab ops Φ).reverse[j]? = some (d, φ) → Φ[j]? = some φ := by
  intro ops
  induction ops with
  | nil => intro Φ j o d φ _ h; simp at h
  | cons x os ih =>
    intro Φ j o d φ hl hj h
    cases Φ with
    | nil => simp at hl
    | cons ψ Φ =>
      simp only [tab, List.reverse_append, List.reverse_cons, List.reverse_nil, List.nil_append, List.cons_append] at h
      cases j with
      | zero => simp only [List.getElem?_cons_zero, Option.some.injEq, Prod.mk.injEq] at h ⊢; exact h.2
      | succ j =>
        rw [List.getElem?_cons_succ] at h hj ⊢
        exact ih (by simpa using hl) hj h
structure Mid2 (T : Turns) (w0 : World) (a0 : Act) (ops : List Oper) (Φ : List Fact) (listed : Array Bool) (a : Act) (W : World) : Prop where
  m : Midst T w0 a0 ops Φ listed a W
  none_ : ∀ (j : Nat) o φ t, ops[j]? = some o → Φ[j]? = some φ → listed.getD j false = true → o.dst = none → ptrOf o = some t → φ (a.eval (.tmp t)) W
theorem mid2_step {Φ : List Fact} {listed : Array Bool} {a : Act} {W W' : World} (hT : T.Ok) (hnb : noneB T ops = true) (hdp : depsB ops (ancs ops) = true) (hk : ∀ (j : Nat) φ, Φ[j]? = some φ → Keeps T.R φ ∧ (T.soft.contains j = true ∨ Keeps T.H φ)) (hdead : ∀ i j, T.hard.contains i = true → T.soft.contains j = true → deadB ops (ancs ops) i j = true) (hsz : sizeB ops a0.tmps.size = true) (hdi : distB ops = true)
    (h : Mid2 T w0 a0 ops Φ listed a W) {i : Nat} {o : Oper} {φ : Fact} (hi : ops[i]? = some o) (hun : listed.getD i false = false) (hφ : Φ[i]? = some φ) (hall : ∀ e ∈ o.after, Region.binds .any e = true → listed.getD e.on false = true)
    {v : Value} (hW : T.by_ i W W') (hv : φ v W') (hvp : ∀ t, o.dst = none → ptrOf o = some t → v = a.eval (.tmp t)) : Mid2 T w0 a0 ops Φ (listed.setIfInBounds i true) (a.put o.dst v) W' := by
  have hnb1 := (Bool.and_eq_true _ _).mp hnb
  refine ⟨midst_step hT hk hdead hsz hdi h.m hi hun hφ hall hW hv, fun j o' ψ t hj hψ hl hd hp => ?_⟩
  by_cases e : j = i
  · subst e
    rw [hi] at hj
    injection hj with hj
    subst hj
    rw [hφ] at hψ
    injection hψ with hψ
    subst hψ
    rw [hd]
    show φ (a.eval (.tmp t)) W'
    rw [← hvp t hd hp]
    exact hv
  · rw [getD_set_ne false (fun h => e h.symm)] at hl
    have hu := h.none_ j o' ψ t hj hψ hl hd hp
    have hne : ∀ d', o.dst = some d' → (Operand.tmp t) ≠ .tmp d' := by
      intro d' hd' hc
      injection hc with hc
      subst hc
      have h1 := List.all_eq_true.1 hnb1.2 j (List.mem_range.2 (List.getElem?_eq_some_iff.1 hj).1)
      simp only [hj, hd, hp] at h1
      have h2 := List.all_eq_true.1 h1 i (List.mem_range.2 (List.getElem?_eq_some_iff.1 hi).1)
      simp only [hi, Option.bind_some, hd'] at h2
      have hb : Nat.beq t t = true := Nat.beq_refl t
      rw [hb] at h2
      simp only [Bool.not_true, Bool.false_or, Nat.blt_eq] at h2
      have hlook : t ∈ o'.looksAt ops.toArray := by
        refine List.mem_append_left _ (List.mem_filterMap.2 ⟨.tmp t, ?_, rfl⟩)
        unfold ptrOf at hp
        split at hp
        · rename_i t2 l2 he
          injection hp with hp
          subst hp
          rw [he]
          exact List.mem_cons_self
        · cases hp
      have h3 := depsB_spec hdp hj hlook hi hd' e
      rw [if_pos h2] at h3
      have := h.m.anc hl h3
      rw [hun] at this
      cases this
    rw [Act.eval_put hne]
    unfold Turns.by_ at hW
    split at hW
    · rcases (hk j ψ hψ).2 with hs | hs
      · have := List.all_eq_true.1 hnb1.1 j (by simpa using hs)
        rw [hj] at this
        simp [hd] at this
      · exact hs _ _ _ hu hW
    · exact (hk j ψ hψ).1 _ _ _ hu hW
theorem flow_wp {Φ : List Fact} (hT : T.Ok) (hck : flowB T ops a0.tmps.size = true) (hnb : noneB T ops = true) (hlen : Φ.length = ops.length) (hok : ∀ (k : Nat) o φ, ops[k]? = some o → Φ[k]? = some φ → Op2 P T w0 a0 ops (tab ops (Φ.take k)) k o φ)
    (hend : Flow P T w0 a0 ops Q (tab ops Φ) 0 []) : ∀ (fuel : Nat) (listed : Array Bool) (a : Act) (W : World), Mid2 T w0 a0 ops Φ listed a W → (∀ j, listed.getD j true = false → j < ops.length) → (fuel = 0 → Region.ready .any ops.toArray listed = []) →
      ((listed.toList.filter (!·)).length ≤ fuel) → wpAny P .any ops.toArray Q fuel listed a W := by
  simp only [flowB, Bool.and_eq_true] at hck
  obtain ⟨hns, hlow, hsz, hdi, hdp, hdd⟩ := hck
  have hdead : ∀ i j, T.hard.contains i = true → T.soft.contains j = true → deadB ops (ancs ops) i j = true := fun i j hi hj => List.all_eq_true.1 (List.all_eq_true.1 hdd i (by simpa using hi)) j (by simpa using hj)
  have hk : ∀ (j : Nat) φ, Φ[j]? = some φ → Keeps T.R φ ∧ (T.soft.contains j = true ∨ Keeps T.H φ) := fun j φ hφ => by
    have hjl : j < ops.length := by rw [← hlen]; exact (List.getElem?_eq_some_iff.1 hφ).1
    rcases hok j ops[j] φ (List.getElem?_eq_getElem hjl) hφ with ⟨_, h1⟩ | ⟨_, _, _, h1, h2, _⟩
    · exact ⟨h1.keeps, h1.firm⟩
    · exact ⟨h1, h2⟩
  have fin : ∀ listed a W, Mid2 T w0 a0 ops Φ listed a W → Region.ready .any ops.toArray listed = [] → Q .normal a W := by
    intro listed a W h hr
    have hall := midst_end hlow h.m hr
    have h1 := hend (fun t => a.eval (.tmp t)) W h.m.rel (fun t φ ht hsoft => by
      obtain ⟨j, o, ho, hd, hφ⟩ := seek_some ht
      refine h.m.fact j o φ ho hφ (hall j (List.getElem?_eq_some_iff.1 ho).1) t hd ?_
      cases hc : T.soft.contains j with
      | false => exact .inl rfl
      | true =>
        cases hl : lastB T ops j with
        | true => exact .inr (.inr rfl)
        | false =>
          have : softAt T ops t = true := List.any_eq_true.2 ⟨j, by simpa using hc, by simp [ho, hd, hl]⟩
          rw [this] at hsoft; cases hsoft) (fun j o φ t ho hd hp hF => by
      refine h.none_ j o φ t ho ?_ (hall j (List.getElem?_eq_some_iff.1 ho).1) hd hp
      exact tab_rev hlen ho hF)
    rw [putAll_eq ops a0 a h.m.defers h.m.size (fun t ht => h.m.out t fun j o ho _ => ht j o ho)] at h1
    exact h1
  intro fuel
  induction fuel with
  | zero => intro listed a W h _ hf _; exact ⟨hf rfl, fin listed a W h (hf rfl)⟩
  | succ fuel ih =>
    intro listed a W h hj _ hcount
    refine ⟨fin listed a W h, fun i hi => ?_⟩
    obtain ⟨hun, o, ho, hall⟩ := mem_ready.1 hi
    have hi' : ops[i]? = some o := by simpa using ho
    have hil : i < ops.length := (List.getElem?_eq_some_iff.1 hi').1
    obtain ⟨φ, hφ⟩ : ∃ φ, Φ[i]? = some φ := ⟨Φ[i]'(by omega), List.getElem?_eq_getElem (by omega)⟩
    have hop := hok i o φ hi' hφ
    have hfs : ∀ t, t ∈ o.looksAt ops.toArray → factOf a0 (tab ops (Φ.take i)) (.tmp t) (a.eval (.tmp t)) W := fun t ht => midst_facts hdp hlen h.m hi' (getD_ff hun) hall ht
    have hsize : i < listed.size := by rw [h.m.len]; exact hil
    have hfalse : listed[i] = false := by simpa [Array.getD, hsize] using hun
    have next : ∀ v W', T.by_ i W W' → φ v W' → (∀ t, o.dst = none → ptrOf o = some t → v = a.eval (.tmp t)) → wpAny P .any ops.toArray Q fuel (listed.setIfInBounds i true) (a.put o.dst v) W' := by
      intro v W' hW hv hvp
      have hm := mid2_step hT hnb hdp hk hdead hsz hdi h hi' (getD_ff hun) hφ hall hW hv hvp
      have hcnt : ((listed.setIfInBounds i true).toList.filter (!·)).length + 1 = (listed.toList.filter (!·)).length := by
        rw [Array.toList_setIfInBounds]
        have hli : listed.toList[i]? = some false := by simp [hsize, hfalse]
        generalize listed.toList = l at hli
        clear hcount hfalse hsize hi hil hun ho hall hi' hφ hop hfs hm hW hv hvp
        induction l generalizing i with
        | nil => simp at hli
        | cons x xs ih =>
          cases i with
          | zero => simp only [List.getElem?_cons_zero, Option.some.injEq] at hli; subst hli; simp
          | succ i =>
            have := ih (i := i) (by simpa using hli)
            cases x <;> simp <;> omega
      refine ih _ _ _ hm (fun j hj' => ?_) (fun h0 => ?_) (by omega)
      · rcases Nat.lt_or_ge j ops.length with hlt | hge
        · exact hlt
        · have : (listed.setIfInBounds i true).size ≤ j := by rw [Array.size_setIfInBounds, h.m.len]; exact hge
          simp [Array.getElem?_eq_none this] at hj'
      · -- nothing is left
        have hz : ((listed.setIfInBounds i true).toList.filter (!·)).length = 0 := by omega
        rw [List.length_eq_zero_iff, List.filter_eq_nil_iff] at hz
        rw [List.eq_nil_iff_forall_not_mem]
        intro j hjr
        obtain ⟨hjun, _⟩ := mem_ready.1 hjr
        have hjs : j < (listed.setIfInBounds i true).size := by
          rcases Nat.lt_or_ge j (listed.setIfInBounds i true).size with hlt | hge
          · exact hlt
          · simp [Array.getElem?_eq_none hge] at hjun
        have hb : (listed.setIfInBounds i true)[j] = false := by
          rw [Array.getD_eq_getD_getElem?, Array.getElem?_eq_getElem hjs] at hjun
          exact hjun
        have := hz _ (Array.getElem_mem_toList hjs)
        rw [hb] at this
        simp at this
    unfold wpOp
    simp only [ho]
    rcases hop with ⟨hdst, hop⟩ | ⟨hdst, tp, hp, hkp, hfm, hg, hdo⟩
    rotate_left
    · rw [guard_of hg hfs, if_pos rfl]
      refine .inl ?_
      have hev : EvOk a.eval := ⟨fun _ => rfl, fun _ => rfl, fun _ => rfl⟩
      have h1 := hdo a.eval W hev h.m.rel (midst_all hfs _ fun _ hx => hx)
      have nx : ∀ v W', T.by_ i W W' → φ (a.eval (.tmp tp)) W' → wpAny P .any ops.toArray Q fuel (listed.setIfInBounds i true) (a.put o.dst v) W' := fun v W' hW hv => by
        have := next (a.eval (.tmp tp)) W' hW hv (fun t _ ht => by rw [hp] at ht; injection ht with ht; rw [ht])
        rw [hdst] at this ⊢
        exact this
      unfold Oper.wp
      generalize (execOp a.eval o).run P W = r at h1
      cases r with
      | ok n w' =>
        cases n <;> simp only [Leaves] at h1 <;> simp only [Oper.upon]
        case value v => exact nx v w' h1.1 h1.2
        case skip => exact nx undef w' h1.1 h1.2
        case enter f args =>
          refine h1.mono fun e w'' he => ?_
          obtain ⟨v, rfl, h2, h3⟩ := he
          exact nx v w'' h2 h3
      | halt x w' => exact h1.elim
    have hN : ∀ (v : Value) t, o.dst = none → ptrOf o = some t → v = a.eval (.tmp t) := fun v t h => absurd h hdst
    rcases hop.does with ⟨hg, hdo⟩ | ⟨hg, he⟩ | ⟨φg, hg, hdo⟩ | ⟨φg, hg, he⟩ | ⟨hg, hearly, hdo⟩
    · rw [guard_of hg hfs, if_pos rfl]
      refine .inl ?_
      have hev : EvOk a.eval := ⟨fun _ => rfl, fun _ => rfl, fun _ => rfl⟩
      have h1 := hdo a.eval W hev h.m.rel (midst_all hfs _ fun _ hx => hx)
      unfold Oper.wp
      generalize (execOp a.eval o).run P W = r at h1
      cases r with
      | ok n w' =>
        cases n <;> simp only [Leaves] at h1 <;> simp only [Oper.upon]
        case value v => exact next v w' h1.1 h1.2 (hN v)
        case skip => exact next undef w' h1.1 h1.2 (hN undef)
        case enter f args =>
          refine h1.mono fun e w'' he => ?_
          obtain ⟨v, rfl, h2, h3⟩ := he
          exact next v w'' h2 h3 (hN v)
      | halt x w' => exact h1.elim
    · rw [hg.elim (fun hg => guard_of hg hfs) (fun hg => guard_un hg hfs)]
      simp only [Bool.false_eq_true, if_false]
      refine next undef W ?_ (by rw [he]; rfl) (hN undef)
      unfold Turns.by_
      split
      · exact hT.sub _ _ (hT.refl W)
      · exact hT.refl W
    · obtain ⟨hw, gv, hgv⟩ := guard_says hg hfs
      rw [hw, if_pos rfl]
      refine .inl ?_
      have hev : EvOk a.eval := ⟨fun _ => rfl, fun _ => rfl, fun _ => rfl⟩
      have h1 := hdo a.eval W gv hev h.m.rel hgv (midst_all hfs _ fun _ hx => hx)
      unfold Oper.wp
      generalize (execOp a.eval o).run P W = r at h1
      cases r with
      | ok n w' =>
        cases n <;> simp only [Leaves] at h1 <;> simp only [Oper.upon]
        case value v => exact next v w' h1.1 h1.2 (hN v)
        case skip => exact next undef w' h1.1 h1.2 (hN undef)
        case enter f args =>
          refine h1.mono fun e w'' he => ?_
          obtain ⟨v, rfl, h2, h3⟩ := he
          exact next v w'' h2 h3 (hN v)
      | halt x w' => exact h1.elim
    · rw [(guard_says hg hfs).1]
      simp only [Bool.false_eq_true, if_false]
      refine next undef W ?_ (by rw [he]; rfl) (hN undef)
      unfold Turns.by_
      split
      · exact hT.sub _ _ (hT.refl W)
      · exact hT.refl W
    · rw [guard_of hg hfs, if_pos rfl]
      refine .inl ?_
      have hev : EvOk a.eval := ⟨fun _ => rfl, fun _ => rfl, fun _ => rfl⟩
      have hst : Star T.R w0 W := h.m.early fun j hj => by
        have h2 := List.all_eq_true.1 hearly j (by simpa using hj)
        rcases (Bool.or_eq_true _ _).mp h2 with h3 | h3
        · rw [Nat.eq_of_beq_eq_true h3]; exact getD_ff hun
        · cases hc : listed.getD j false with
          | false => rfl
          | true =>
            have := h.m.anc hc h3
            rw [getD_ff hun] at this; cases this
      have h1 := hdo a.eval W hev hst (midst_all hfs _ fun _ hx => hx)
      unfold Oper.wp
      generalize (execOp a.eval o).run P W = r at h1
      cases r with
      | ok n w' =>
        cases n <;> simp only [Leaves] at h1 <;> simp only [Oper.upon]
        case value v => exact next v w' h1.1 h1.2 (hN v)
        case skip => exact next undef w' h1.1 h1.2 (hN undef)
        case enter f args =>
          refine h1.mono fun e w'' he => ?_
          obtain ⟨v, rfl, h2, h3⟩ := he
          exact next v w'' h2 h3 (hN v)
      | halt x w' => exact h1.elim


/-- **A region that draws its order, operation by operation.** -/
theorem wp_flow {id : Nat} {a : Act} {w : World} {l : List Oper} {Q : Exit → Act → World → Prop} (hm : P.follows .mixedOrders = true) (T : Turns) (hT : T.Ok) (hck : flowB T l a.tmps.size = true) (hnb : noneB T l = true)
    (h : Flow P T w.drew a l Q [] 0 l) : (Code.region id l.toArray true).wp P Q a w := by
  obtain ⟨Ψ, hlen, hok, hend⟩ := flow_all (ops := l) (Φ := []) (rest := l) (fun j => by simp) (by
    have : tab l [] = [] := by cases l <;> rfl
    rw [this]; exact h)
  simp only [List.nil_append, List.length_nil, Nat.zero_add] at hok hend
  refine wp_region_any hm ?_
  have hz : ∀ (n j : Nat), (Array.replicate n false).getD j false = false := fun n j => by
    rw [Array.getD_eq_getD_getElem?]
    rcases Nat.lt_or_ge j n with hlt | hge
    · rw [Array.getElem?_replicate, if_pos hlt]; rfl
    · rw [Array.getElem?_eq_none (by simpa using hge)]; rfl
  have hno : ∀ (n j : Nat) {C : Prop}, (Array.replicate n false).getD j false = true → C := fun n j C hc => by rw [hz] at hc; cases hc
  refine flow_wp (ops := l) hT hck hnb hlen hok (hend 0) _ _ a _ ⟨⟨by simp, hT.sub _ _ (hT.refl _), fun _ => .refl _, rfl, rfl, fun t _ => rfl, fun j o φ _ _ hl => hno _ _ hl, fun j o _ hl => hno _ _ hl⟩, fun j o φ t _ _ hl => hno _ _ hl⟩ (fun j hj => ?_) (fun h0 => ?_) (by simp)
  · rcases Nat.lt_or_ge j l.length with hlt | hge
    · exact hlt
    · rw [Array.getD_eq_getD_getElem?, Array.getElem?_eq_none (by simpa using hge)] at hj; cases hj
  · have hl0 : l = [] := List.eq_nil_of_length_eq_zero (by simpa using h0)
    subst hl0
    rfl

end sound
section steps
variable {P : Program} {T : Turns} {w0 : World} {a0 : Act} {ops : List Oper} {Q : Exit → Act → World → Prop} {F : Said} {k : Nat} {o : Oper} {rest : List Oper}

/-- One operation, whatever it is. -/
theorem flow_op (φ : Fact) (hk : Keeps T.R φ) (hf : T.soft.contains k = true ∨ Keeps T.H φ) (hg : guardIs ops F true o) (hd : ∀ ev W, EvOk ev → T.H w0 W → allFacts a0 F ev W o.op.operands.toList → Leaves P (T.by_ k) φ W ((execOp ev o).run P W))
    (h : Flow P T w0 a0 ops Q ((o.dst, φ) :: F) (k + 1) rest) (hd0 : o.dst ≠ none := by intro h; cases h) : Flow P T w0 a0 ops Q F k (o :: rest) := ⟨φ, .inl ⟨hd0, ⟨hk, hf, .inl ⟨hg, hd⟩⟩⟩, h⟩
theorem flow_skip (hg : guardIs ops F false o) (h : Flow P T w0 a0 ops Q ((o.dst, isV undef) :: F) (k + 1) rest) (hd0 : o.dst ≠ none := by intro h; cases h) : Flow P T w0 a0 ops Q F k (o :: rest) := ⟨isV undef, .inl ⟨hd0, ⟨keeps_isV _, .inr (keeps_isV _), .inr (.inl ⟨.inl hg, rfl⟩)⟩⟩, h⟩
theorem flow_skip_un (hg : guardUn ops F o) (h : Flow P T w0 a0 ops Q ((o.dst, isV undef) :: F) (k + 1) rest) (hd0 : o.dst ≠ none := by intro h; cases h) : Flow P T w0 a0 ops Q F k (o :: rest) := ⟨isV undef, .inl ⟨hd0, ⟨keeps_isV _, .inr (keeps_isV _), .inr (.inl ⟨.inr hg, rfl⟩)⟩⟩, h⟩

/-- One operation, whatever it is, that may use what is said of its guard. -/
theorem flow_opg (φ φg : Fact) (hk : Keeps T.R φ) (hf : T.soft.contains k = true ∨ Keeps T.H φ) (hg : guardSays ops F φg true o) (hd : ∀ ev W gv, EvOk ev → T.H w0 W → φg gv W → allFacts a0 F ev W o.op.operands.toList → Leaves P (T.by_ k) φ W ((execOp ev o).run P W))
    (h : Flow P T w0 a0 ops Q ((o.dst, φ) :: F) (k + 1) rest) (hd0 : o.dst ≠ none := by intro h; cases h) : Flow P T w0 a0 ops Q F k (o :: rest) := ⟨φ, .inl ⟨hd0, ⟨hk, hf, .inr (.inr (.inl ⟨φg, hg, hd⟩))⟩⟩, h⟩
theorem flow_skipg (φg : Fact) (hg : guardSays ops F φg false o) (h : Flow P T w0 a0 ops Q ((o.dst, isV undef) :: F) (k + 1) rest) (hd0 : o.dst ≠ none := by intro h; cases h) : Flow P T w0 a0 ops Q F k (o :: rest) := ⟨isV undef, .inl ⟨hd0, ⟨keeps_isV _, .inr (keeps_isV _), .inr (.inr (.inr (.inl ⟨φg, hg, rfl⟩)))⟩⟩, h⟩
/-- One operation ahead of all that is hard, or the first hard one: what was there at the region's beginning is still there. -/
theorem flow_early (φ : Fact) (hk : Keeps T.R φ) (hf : T.soft.contains k = true ∨ Keeps T.H φ) (hg : guardIs ops F true o) (he : earlyB T ops k = true) (hd : ∀ ev W, EvOk ev → Star T.R w0 W → allFacts a0 F ev W o.op.operands.toList → Leaves P (T.by_ k) φ W ((execOp ev o).run P W))
    (h : Flow P T w0 a0 ops Q ((o.dst, φ) :: F) (k + 1) rest) (hd0 : o.dst ≠ none := by intro h; cases h) : Flow P T w0 a0 ops Q F k (o :: rest) := ⟨φ, .inl ⟨hd0, ⟨hk, hf, .inr (.inr (.inr (.inr ⟨hg, he, hd⟩)))⟩⟩, h⟩

/-- What is moved or assigned keeps what is said of it. -/
theorem flow_move {d : Option Tmp} {ty : TypeId} {pos : String} {af : Array Edge} {g : Option (Nat × Bool)} {t : Tmp} {φ : Fact} (hT : T.Ok) (hs : look F t = some φ) (hk : Keeps T.R φ) (hf : T.soft.contains k = true ∨ Keeps T.H φ)
    (hg : guardIs ops F true ⟨d, .move (.tmp t), ty, pos, af, g⟩) (h : Flow P T w0 a0 ops Q ((d, φ) :: F) (k + 1) rest) (hd0 : d ≠ none := by intro h; cases h) : Flow P T w0 a0 ops Q F k (⟨d, .move (.tmp t), ty, pos, af, g⟩ :: rest) := by
  refine ⟨φ, .inl ⟨hd0, ⟨hk, hf, .inl ⟨hg, fun ev W _ _ hf => ?_⟩⟩⟩, h⟩
  have h1 : φ (ev (.tmp t)) W := by
    have : factOf a0 F (.tmp t) (ev (.tmp t)) W := hf.1
    simpa only [factOf, hs] using this
  exact ⟨hT.by_refl k W, h1⟩
theorem flow_assign {d : Option Tmp} {ty : TypeId} {pos : String} {af : Array Edge} {g : Option (Nat × Bool)} {t : Tmp} {φ : Fact} (hT : T.Ok) (hs : look F t = some φ) (hk : Keeps T.R φ) (hf : T.soft.contains k = true ∨ Keeps T.H φ)
    (hg : guardIs ops F true ⟨d, .assign (.tmp t), ty, pos, af, g⟩) (h : Flow P T w0 a0 ops Q ((d, φ) :: F) (k + 1) rest) (hd0 : d ≠ none := by intro h; cases h) : Flow P T w0 a0 ops Q F k (⟨d, .assign (.tmp t), ty, pos, af, g⟩ :: rest) := by
  refine ⟨φ, .inl ⟨hd0, ⟨hk, hf, .inl ⟨hg, fun ev W _ _ hf => ?_⟩⟩⟩, h⟩
  have h1 : φ (ev (.tmp t)) W := by
    have : factOf a0 F (.tmp t) (ev (.tmp t)) W := hf.1
    simpa only [factOf, hs] using this
  exact ⟨hT.by_refl k W, h1⟩

/-- An operation over one, two, three known operands that leaves the world alone. -/
theorem flow1 {x : Operand} {v r : Value} (hT : T.Ok) (hop : o.op.operands = #[x]) (hx : Det a0 F x v) (hg : guardIs ops F true o) (hrun : ∀ ev W, EvOk ev → ev x = v → (execOp ev o).run P W = .ok (.value r) W)
    (h : Flow P T w0 a0 ops Q ((o.dst, isV r) :: F) (k + 1) rest) (hd0 : o.dst ≠ none := by intro h; cases h) : Flow P T w0 a0 ops Q F k (o :: rest) :=
  flow_op (isV r) (keeps_isV r) (.inr (keeps_isV r)) hg (fun ev W he _ hf => by
    rw [hop] at hf
    rw [hrun ev W he (hx.at hf.1)]
    exact ⟨hT.by_refl k W, rfl⟩) h hd0
theorem flow2 {x y : Operand} {v u r : Value} (hT : T.Ok) (hop : o.op.operands = #[x, y]) (hx : Det a0 F x v) (hy : Det a0 F y u) (hg : guardIs ops F true o) (hrun : ∀ ev W, EvOk ev → ev x = v → ev y = u → (execOp ev o).run P W = .ok (.value r) W)
    (h : Flow P T w0 a0 ops Q ((o.dst, isV r) :: F) (k + 1) rest) (hd0 : o.dst ≠ none := by intro h; cases h) : Flow P T w0 a0 ops Q F k (o :: rest) :=
  flow_op (isV r) (keeps_isV r) (.inr (keeps_isV r)) hg (fun ev W he _ hf => by
    rw [hop] at hf
    rw [hrun ev W he (hx.at hf.1) (hy.at hf.2.1)]
    exact ⟨hT.by_refl k W, rfl⟩) h hd0
theorem flow3 {x y z : Operand} {v u s r : Value} (hT : T.Ok) (hop : o.op.operands = #[x, y, z]) (hx : Det a0 F x v) (hy : Det a0 F y u) (hz : Det a0 F z s) (hg : guardIs ops F true o) (hrun : ∀ ev W, EvOk ev → ev x = v → ev y = u → ev z = s → (execOp ev o).run P W = .ok (.value r) W)
    (h : Flow P T w0 a0 ops Q ((o.dst, isV r) :: F) (k + 1) rest) (hd0 : o.dst ≠ none := by intro h; cases h) : Flow P T w0 a0 ops Q F k (o :: rest) :=
  flow_op (isV r) (keeps_isV r) (.inr (keeps_isV r)) hg (fun ev W he _ hf => by
    rw [hop] at hf
    rw [hrun ev W he (hx.at hf.1) (hy.at hf.2.1) (hz.at hf.2.2.1)]
    exact ⟨hT.by_refl k W, rfl⟩) h hd0

/-- .. and that looks at the world. -/
theorem flow1h {x : Operand} {v r : Value} (hT : T.Ok) (hop : o.op.operands = #[x]) (hx : Det a0 F x v) (hg : guardIs ops F true o) (hrun : ∀ ev W, EvOk ev → T.H w0 W → ev x = v → (execOp ev o).run P W = .ok (.value r) W)
    (h : Flow P T w0 a0 ops Q ((o.dst, isV r) :: F) (k + 1) rest) (hd0 : o.dst ≠ none := by intro h; cases h) : Flow P T w0 a0 ops Q F k (o :: rest) :=
  flow_op (isV r) (keeps_isV r) (.inr (keeps_isV r)) hg (fun ev W he hW hf => by
    rw [hop] at hf
    rw [hrun ev W he hW (hx.at hf.1)]
    exact ⟨hT.by_refl k W, rfl⟩) h hd0
theorem flow2h {x y : Operand} {v u r : Value} (hT : T.Ok) (hop : o.op.operands = #[x, y]) (hx : Det a0 F x v) (hy : Det a0 F y u) (hg : guardIs ops F true o) (hrun : ∀ ev W, EvOk ev → T.H w0 W → ev x = v → ev y = u → (execOp ev o).run P W = .ok (.value r) W)
    (h : Flow P T w0 a0 ops Q ((o.dst, isV r) :: F) (k + 1) rest) (hd0 : o.dst ≠ none := by intro h; cases h) : Flow P T w0 a0 ops Q F k (o :: rest) :=
  flow_op (isV r) (keeps_isV r) (.inr (keeps_isV r)) hg (fun ev W he hW hf => by
    rw [hop] at hf
    rw [hrun ev W he hW (hx.at hf.1) (hy.at hf.2.1)]
    exact ⟨hT.by_refl k W, rfl⟩) h hd0

/-- A call of a Go function. -/
theorem flow_call {d : Option Tmp} {f : FuncId} {args : Array Operand} {ats : Array TypeId} {ty : TypeId} {pos : String} {af : Array Edge} {g : Option (Nat × Bool)} (φ : Fact) (hk : Keeps T.R φ) (hfm : T.soft.contains k = true ∨ Keeps T.H φ) (hf : callsB P f = true)
    (hg : guardIs ops F true ⟨d, .call { callee := .value (.func f), args := args, argTypes := ats }, ty, pos, af, g⟩)
    (hd : ∀ ev W, EvOk ev → T.H w0 W → allFacts a0 F ev W args.toList → Calls P f (args.toList.map ev).toArray W (fun e w'' => ∃ v, e = .returned v ∧ T.by_ k W w'' ∧ φ v w''))
    (h : Flow P T w0 a0 ops Q ((d, φ) :: F) (k + 1) rest) (hd0 : d ≠ none := by intro h; cases h) : Flow P T w0 a0 ops Q F k (⟨d, .call { callee := .value (.func f), args := args, argTypes := ats }, ty, pos, af, g⟩ :: rest) := by
  refine flow_op φ hk hfm hg (fun ev W he hW hfs => ?_) h hd0
  rw [run_call he hf]
  have e0 : args.map ev = (args.toList.map ev).toArray := by cases args; rw [List.map_toArray]
  rw [e0]
  refine hd ev W he hW ?_
  have : allFacts a0 F ev W ((.func f : Operand) :: args.toList) := by
    have e : (Op.call { callee := .value (.func f), args := args, argTypes := ats }).operands.toList = (.func f : Operand) :: args.toList := by
      simp [Op.operands, Call.operands]
    rw [← e]; exact hfs
  exact this.2
/-- A call whose arguments are known. -/
theorem flow_calld {d : Option Tmp} {f : FuncId} {args : Array Operand} {ats : Array TypeId} {ty : TypeId} {pos : String} {af : Array Edge} {g : Option (Nat × Bool)} {vals : List Value} (φ : Fact) (hk : Keeps T.R φ) (hfm : T.soft.contains k = true ∨ Keeps T.H φ) (hf : callsB P f = true)
    (hg : guardIs ops F true ⟨d, .call { callee := .value (.func f), args := args, argTypes := ats }, ty, pos, af, g⟩) (hargs : Dets a0 F args.toList vals)
    (hd : ∀ W, T.H w0 W → Calls P f vals.toArray W (fun e w'' => ∃ v, e = .returned v ∧ T.by_ k W w'' ∧ φ v w''))
    (h : Flow P T w0 a0 ops Q ((d, φ) :: F) (k + 1) rest) (hd0 : d ≠ none := by intro h; cases h) : Flow P T w0 a0 ops Q F k (⟨d, .call { callee := .value (.func f), args := args, argTypes := ats }, ty, pos, af, g⟩ :: rest) :=
  flow_call φ hk hfm hf hg (fun ev W _ hW hfs => by rw [hargs.at hfs]; exact hd W hW) h hd0
/-- .. and whose answer is, too. -/
theorem flow_callv {d : Option Tmp} {f : FuncId} {args : Array Operand} {ats : Array TypeId} {ty : TypeId} {pos : String} {af : Array Edge} {g : Option (Nat × Bool)} {vals : List Value} (r : Value) (hf : callsB P f = true)
    (hg : guardIs ops F true ⟨d, .call { callee := .value (.func f), args := args, argTypes := ats }, ty, pos, af, g⟩) (hargs : Dets a0 F args.toList vals)
    (hd : ∀ W, T.H w0 W → Calls P f vals.toArray W (fun e w'' => e = .returned r ∧ T.by_ k W w''))
    (h : Flow P T w0 a0 ops Q ((d, isV r) :: F) (k + 1) rest) (hd0 : d ≠ none := by intro h; cases h) : Flow P T w0 a0 ops Q F k (⟨d, .call { callee := .value (.func f), args := args, argTypes := ats }, ty, pos, af, g⟩ :: rest) :=
  flow_calld (isV r) (keeps_isV r) (.inr (keeps_isV r)) hf hg hargs (fun W hW => (hd W hW).mono fun _ _ ⟨h1, h2⟩ => ⟨r, h1, h2, rfl⟩) h hd0

/-- Moves of what came from ahead of the region. -/
theorem flow_move_out {d : Option Tmp} {ty : TypeId} {pos : String} {af : Array Edge} {g : Option (Nat × Bool)} {t : Tmp} {v : Value} (hT : T.Ok) (hs : look F t = none) (ht : nth a0.tmps.toList t = some v)
    (hg : guardIs ops F true ⟨d, .move (.tmp t), ty, pos, af, g⟩) (h : Flow P T w0 a0 ops Q ((d, isV v) :: F) (k + 1) rest) (hd0 : d ≠ none := by intro h; cases h) : Flow P T w0 a0 ops Q F k (⟨d, .move (.tmp t), ty, pos, af, g⟩ :: rest) :=
  flow1 (v := v) (r := v) hT rfl (.out hs ht) hg (fun ev W _ e => by simp [execOp, e, go_sem]) h hd0
theorem flow_move_const {d : Option Tmp} {ty : TypeId} {pos : String} {af : Array Edge} {g : Option (Nat × Bool)} {v : Value} (hT : T.Ok)
    (hg : guardIs ops F true ⟨d, .move (.const v), ty, pos, af, g⟩) (h : Flow P T w0 a0 ops Q ((d, isV v) :: F) (k + 1) rest) (hd0 : d ≠ none := by intro h; cases h) : Flow P T w0 a0 ops Q F k (⟨d, .move (.const v), ty, pos, af, g⟩ :: rest) :=
  flow1 (v := v) (r := v) hT rfl (.const v) hg (fun ev W _ e => by simp [execOp, e, go_sem]) h hd0
/-- 'a && b' behind a true a: b. -/
theorem flow_and {d : Option Tmp} {c t : Tmp} {z : Value} {ty : TypeId} {pos : String} {af : Array Edge} {g : Option (Nat × Bool)} {v : Value} (hT : T.Ok) (hc : look F c = some (isV (.bool true))) (ht : look F t = some (isV v))
    (hg : guardIs ops F true ⟨d, .pick (.tmp c) (.tmp t) (.const z), ty, pos, af, g⟩) (h : Flow P T w0 a0 ops Q ((d, isV v) :: F) (k + 1) rest) (hd0 : d ≠ none := by intro h; cases h) : Flow P T w0 a0 ops Q F k (⟨d, .pick (.tmp c) (.tmp t) (.const z), ty, pos, af, g⟩ :: rest) :=
  flow3 (v := .bool true) (u := v) (s := z) (r := v) hT rfl (.inn hc) (.inn ht) (.const z) hg (fun ev W _ e1 e2 e3 => by simp [execOp, e1, e2, e3, asBool, go_sem]) h hd0
/-- 'a && b' behind a false a, 'a || b' behind a true one: the constant. -/
theorem flow_and_false {d : Option Tmp} {c t : Tmp} {z : Value} {ty : TypeId} {pos : String} {af : Array Edge} {g : Option (Nat × Bool)} {v : Value} (hT : T.Ok) (hc : look F c = some (isV (.bool false))) (ht : look F t = some (isV v))
    (hg : guardIs ops F true ⟨d, .pick (.tmp c) (.tmp t) (.const z), ty, pos, af, g⟩) (h : Flow P T w0 a0 ops Q ((d, isV z) :: F) (k + 1) rest) (hd0 : d ≠ none := by intro h; cases h) : Flow P T w0 a0 ops Q F k (⟨d, .pick (.tmp c) (.tmp t) (.const z), ty, pos, af, g⟩ :: rest) :=
  flow3 (v := .bool false) (u := v) (s := z) (r := z) hT rfl (.inn hc) (.inn ht) (.const z) hg (fun ev W _ e1 e2 e3 => by simp [execOp, e1, e2, e3, asBool, go_sem]) h hd0
theorem flow_or_true {d : Option Tmp} {c t : Tmp} {z : Value} {ty : TypeId} {pos : String} {af : Array Edge} {g : Option (Nat × Bool)} {v : Value} (hT : T.Ok) (hc : look F c = some (isV (.bool true))) (ht : look F t = some (isV v))
    (hg : guardIs ops F true ⟨d, .pick (.tmp c) (.const z) (.tmp t), ty, pos, af, g⟩) (h : Flow P T w0 a0 ops Q ((d, isV z) :: F) (k + 1) rest) (hd0 : d ≠ none := by intro h; cases h) : Flow P T w0 a0 ops Q F k (⟨d, .pick (.tmp c) (.const z) (.tmp t), ty, pos, af, g⟩ :: rest) :=
  flow3 (v := .bool true) (u := z) (s := v) (r := z) hT rfl (.inn hc) (.const z) (.inn ht) hg (fun ev W _ e1 e2 e3 => by simp [execOp, e1, e2, e3, asBool, go_sem]) h hd0
theorem flow_or_false {d : Option Tmp} {c t : Tmp} {z : Value} {ty : TypeId} {pos : String} {af : Array Edge} {g : Option (Nat × Bool)} {v : Value} (hT : T.Ok) (hc : look F c = some (isV (.bool false))) (ht : look F t = some (isV v))
    (hg : guardIs ops F true ⟨d, .pick (.tmp c) (.const z) (.tmp t), ty, pos, af, g⟩) (h : Flow P T w0 a0 ops Q ((d, isV v) :: F) (k + 1) rest) (hd0 : d ≠ none := by intro h; cases h) : Flow P T w0 a0 ops Q F k (⟨d, .pick (.tmp c) (.const z) (.tmp t), ty, pos, af, g⟩ :: rest) :=
  flow3 (v := .bool false) (u := z) (s := v) (r := v) hT rfl (.inn hc) (.const z) (.inn ht) hg (fun ev W _ e1 e2 e3 => by simp [execOp, e1, e2, e3, asBool, go_sem]) h hd0
/-- '==' of what is the same. -/
theorem flow_eql {d : Option Tmp} {x y : Operand} {T1 T2 : TypeId} {ty : TypeId} {pos : String} {af : Array Edge} {g : Option (Nat × Bool)} {v : Value} (hT : T.Ok) (hx : Det a0 F x v) (hy : Det a0 F y v)
    (hrun : ∀ ev W, EvOk ev → ev x = v → ev y = v → (execOp ev ⟨d, .binOp .eql T1 x y T2, ty, pos, af, g⟩).run P W = .ok (.value (.bool true)) W)
    (hg : guardIs ops F true ⟨d, .binOp .eql T1 x y T2, ty, pos, af, g⟩) (h : Flow P T w0 a0 ops Q ((d, isV (.bool true)) :: F) (k + 1) rest) (hd0 : d ≠ none := by intro h; cases h) : Flow P T w0 a0 ops Q F k (⟨d, .binOp .eql T1 x y T2, ty, pos, af, g⟩ :: rest) :=
  flow2 (v := v) (u := v) (r := .bool true) hT rfl hx hy hg hrun h hd0
/-- 'x[:hi]', 'x[lo:]', 'x[lo:hi]' of what is known. -/
theorem flow_slice_hi {d : Option Tmp} {t : TypeId} {x y : Operand} {ty : TypeId} {pos : String} {af : Array Edge} {g : Option (Nat × Bool)} {v u r : Value} (hT : T.Ok) (hx : Det a0 F x v) (hy : Det a0 F y u)
    (hrun : ∀ ev W, EvOk ev → ev x = v → ev y = u → (execOp ev ⟨d, .slice t x none (some y) none, ty, pos, af, g⟩).run P W = .ok (.value r) W)
    (hg : guardIs ops F true ⟨d, .slice t x none (some y) none, ty, pos, af, g⟩) (h : Flow P T w0 a0 ops Q ((d, isV r) :: F) (k + 1) rest) (hd0 : d ≠ none := by intro h; cases h) : Flow P T w0 a0 ops Q F k (⟨d, .slice t x none (some y) none, ty, pos, af, g⟩ :: rest) :=
  flow2 (x := x) (y := y) hT (by simp [Op.operands]) hx hy hg hrun h hd0
theorem flow_slice_lo {d : Option Tmp} {t : TypeId} {x y : Operand} {ty : TypeId} {pos : String} {af : Array Edge} {g : Option (Nat × Bool)} {v u r : Value} (hT : T.Ok) (hx : Det a0 F x v) (hy : Det a0 F y u)
    (hrun : ∀ ev W, EvOk ev → ev x = v → ev y = u → (execOp ev ⟨d, .slice t x (some y) none none, ty, pos, af, g⟩).run P W = .ok (.value r) W)
    (hg : guardIs ops F true ⟨d, .slice t x (some y) none none, ty, pos, af, g⟩) (h : Flow P T w0 a0 ops Q ((d, isV r) :: F) (k + 1) rest) (hd0 : d ≠ none := by intro h; cases h) : Flow P T w0 a0 ops Q F k (⟨d, .slice t x (some y) none none, ty, pos, af, g⟩ :: rest) :=
  flow2 (x := x) (y := y) hT (by simp [Op.operands]) hx hy hg hrun h hd0
theorem flow_slice_both {d : Option Tmp} {t : TypeId} {x y z : Operand} {ty : TypeId} {pos : String} {af : Array Edge} {g : Option (Nat × Bool)} {v u s r : Value} (hT : T.Ok) (hx : Det a0 F x v) (hy : Det a0 F y u) (hz : Det a0 F z s)
    (hrun : ∀ ev W, EvOk ev → ev x = v → ev y = u → ev z = s → (execOp ev ⟨d, .slice t x (some y) (some z) none, ty, pos, af, g⟩).run P W = .ok (.value r) W)
    (hg : guardIs ops F true ⟨d, .slice t x (some y) (some z) none, ty, pos, af, g⟩) (h : Flow P T w0 a0 ops Q ((d, isV r) :: F) (k + 1) rest) (hd0 : d ≠ none := by intro h; cases h) : Flow P T w0 a0 ops Q F k (⟨d, .slice t x (some y) (some z) none, ty, pos, af, g⟩ :: rest) :=
  flow3 (x := x) (y := y) (z := z) hT (by simp [Op.operands]) hx hy hz hg hrun h hd0
/-- A store. -/
theorem flow_store (φ : Fact) {t : Tmp} (hd0 : o.dst = none) (hp : ptrOf o = some t) (hk : Keeps T.R φ) (hf : T.soft.contains k = true ∨ Keeps T.H φ) (hg : guardIs ops F true o) (hd : ∀ ev W, EvOk ev → T.H w0 W → allFacts a0 F ev W o.op.operands.toList → Leaves P (T.by_ k) (fun _ W' => φ (ev (.tmp t)) W') W ((execOp ev o).run P W))
    (h : Flow P T w0 a0 ops Q ((none, φ) :: F) (k + 1) rest) : Flow P T w0 a0 ops Q F k (o :: rest) := ⟨φ, .inr ⟨hd0, t, hp, hk, hf, hg, hd⟩, by rw [hd0]; exact h⟩
end steps
end Go.Proofs.Ytnohfdojcdhfoaa.F2
