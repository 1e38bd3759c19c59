/-
  EC: LawEngineCopies.
-/
import Derived.Test.YtfhgnoajfipjdaaZEC3
import Derived.Test.YtfhgnoajfipjdaaZEC24
import Derived.Test.YtfhgnoajfipjdaaZEC33
import Derived.Test.YtfhgnoajfipjdaaZEC37
import Derived.Test.YtfhgnoajfipjdaaZEC38
import Derived.Test.YtfhgnoajfipjdaaZEC39
import Derived.Deep.RegionHeld3
import Derived.Deep.QuietTactic
import Derived.BigQuiet
namespace Go.Proofs.Ytfhgnoajfipjdaa
open Go.RowKit
open Go.Proofs.Ytfhgnoajfipjdaa (Fact)
/-- A memory's blocks. -/
def T3 (m : Nat × Nat × Nat) : List Nat := [m.1, m.2.1, m.2.2]
def MemOk (w : World) (m : Nat × Nat × Nat) (L : List UInt8) (V : List Bool) (ms : Nat) : Prop := ∃ X Y, Mm w m.1 m.2.1 m.2.2 L X V Y ms
def Dj (a b : Nat × Nat × Nat) : Prop := ∀ i ∈ T3 a, i ∉ T3 b
theorem Dj.symm {a b : Nat × Nat × Nat} (h : Dj a b) : Dj b a := fun i hi hj => h i hj hi
theorem MemOk.keep {w w' : World} {m : Nat × Nat × Nat} {L : List UInt8} {V : List Bool} {ms : Nat} (h : MemOk w m L V ms) (hc : Chg [] w w') : MemOk w' m L V ms := by
  obtain ⟨X, Y, h⟩ := h
  exact ⟨X, Y, h.keep hc⟩
theorem MemOk.away {w w' : World} {m a : Nat × Nat × Nat} {L : List UInt8} {V : List Bool} {ms : Nat} (h : MemOk w m L V ms) (hc : Chg (T3 a) w w') (hd : Dj m a) : MemOk w' m L V ms := by
  obtain ⟨X, Y, h⟩ := h
  exact ⟨X, Y, h.away hc (hd _ (by simp [T3])) (hd _ (by simp [T3])) (hd _ (by simp [T3]))⟩
theorem MemOk.lt {w : World} {m : Nat × Nat × Nat} {L : List UInt8} {V : List Bool} {ms : Nat} (h : MemOk w m L V ms) : ∀ i ∈ T3 m, i < w.heap.size := fun i hi => by
  obtain ⟨X, Y, h⟩ := h
  simp only [T3, List.mem_cons, List.not_mem_nil, or_false] at hi
  rcases hi with rfl | rfl | rfl
  · exact h.rec_.lt
  · exact h.cel.lt
  · exact h.dir.lt
theorem Dj.more {a a' b : Nat × Nat × Nat} {B : Nat} (h : Dj a b) (hN : ∀ i ∈ T3 a', i ∈ T3 a ∨ B ≤ i) (hb : ∀ j ∈ T3 b, j < B) : Dj a' b := fun i hi hj => by
  rcases hN i hi with h1 | h1
  · exact h i h1 hj
  · have := hb i hj; omega
/-- Three memories, of which none has a block of another's. -/
def Mems (B pg ms : Nat) (w : World) : List (Nat × Nat × Nat) → Prop
  | [] => True
  | m :: l => MemOk w m (zeros (pg * 64)) (falses pg) ms ∧ (∀ i ∈ T3 m, B ≤ i) ∧ (∀ b ∈ l, Dj m b) ∧ Mems B pg ms w l
theorem Mems.keep {B pg ms : Nat} {w w' : World} (hc : Chg [] w w') : ∀ {l : List (Nat × Nat × Nat)}, Mems B pg ms w l → Mems B pg ms w' l
  | [], _ => trivial
  | _ :: _, ⟨h1, h2, h3, h4⟩ => ⟨h1.keep hc, h2, h3, Mems.keep hc h4⟩
theorem Mems.lt {B pg ms : Nat} {w : World} : ∀ {l : List (Nat × Nat × Nat)}, Mems B pg ms w l → ∀ b ∈ l, ∀ i ∈ T3 b, i < w.heap.size
  | [], _, b, hb => by simp at hb
  | m :: l, ⟨h1, _, _, h4⟩, b, hb => by
    rcases List.mem_cons.1 hb with rfl | hb
    · exact h1.lt
    · exact Mems.lt h4 b hb
theorem Mems.more {B pg ms : Nat} {w w' : World} {l : List (Nat × Nat × Nat)} (h : Mems B pg ms w l) {p gC gD : Nat} {X Y : List Value} (hM : Mm w' p gC gD (zeros (pg * 64)) X (falses pg) Y ms) (hB : B ≤ w.heap.size) (hp : w.heap.size ≤ p) (hC : w.heap.size ≤ gC) (hD : w.heap.size ≤ gD) (hc : Chg [] w w') : Mems B pg ms w' ((p, gC, gD) :: l) := by
  have hlo : ∀ i ∈ T3 (p, gC, gD), w.heap.size ≤ i := fun i hi => by
    simp only [T3, List.mem_cons, List.not_mem_nil, or_false] at hi
    omega
  refine ⟨⟨X, Y, hM⟩, fun i hi => Nat.le_trans hB (hlo i hi), fun b hb i hi hj => ?_, h.keep hc⟩
  have h1 := hlo i hi
  have h2 := h.lt b hb i hj
  omega
def Trio (B pg ms : Nat) (w : World) (a b c : Nat × Nat × Nat) : Prop := (MemOk w a (zeros (pg * 64)) (falses pg) ms ∧ MemOk w b (zeros (pg * 64)) (falses pg) ms ∧ MemOk w c (zeros (pg * 64)) (falses pg) ms) ∧ (Dj a b ∧ Dj a c ∧ Dj b c) ∧ (∀ i ∈ T3 a, B ≤ i) ∧ (∀ i ∈ T3 b, B ≤ i) ∧ (∀ i ∈ T3 c, B ≤ i)
theorem Mems.trio {B pg ms : Nat} {w : World} {a b c : Nat × Nat × Nat} (h : Mems B pg ms w [a, b, c]) : Trio B pg ms w a b c ∧ Trio B pg ms w a c b ∧ Trio B pg ms w b a c ∧ Trio B pg ms w b c a ∧ Trio B pg ms w c a b ∧ Trio B pg ms w c b a := by
  obtain ⟨a1, a2, a3, b1, b2, b3, c1, c2, _⟩ := h
  have ab := a3 b (by simp)
  have ac := a3 c (by simp)
  have bc := b3 c (by simp)
  exact ⟨⟨⟨a1, b1, c1⟩, ⟨ab, ac, bc⟩, a2, b2, c2⟩, ⟨⟨a1, c1, b1⟩, ⟨ac, ab, bc.symm⟩, a2, c2, b2⟩, ⟨⟨b1, a1, c1⟩, ⟨ab.symm, bc, ac⟩, b2, a2, c2⟩, ⟨⟨b1, c1, a1⟩, ⟨bc, ab.symm, ac.symm⟩, b2, c2, a2⟩, ⟨⟨c1, a1, b1⟩, ⟨ac.symm, bc.symm, ab⟩, c2, a2, b2⟩, ⟨⟨c1, b1, a1⟩, ⟨bc.symm, ac.symm, ab.symm⟩, c2, b2, a2⟩⟩
theorem trio_ex {B pg ms : Nat} {w w3 : World} {a b c : Nat × Nat × Nat} (h : Mems B pg ms w [c, b, a]) (hc : Hid (Chg [] w3 w)) : ∃ ma mb mc : Nat × Nat × Nat, Value.pointer (some ⟨a.1, 0, none⟩) = .pointer (some ⟨ma.1, 0, none⟩) ∧ Value.pointer (some ⟨b.1, 0, none⟩) = .pointer (some ⟨mb.1, 0, none⟩) ∧ Value.pointer (some ⟨c.1, 0, none⟩) = .pointer (some ⟨mc.1, 0, none⟩) ∧ Hid (Trio B pg ms w ma mb mc) ∧ Hid (Chg [] w3 w) :=
  ⟨a, b, c, rfl, rfl, rfl, Lib.hid h.trio.2.2.2.2.2, hc⟩
theorem trues_falses (n : Nat) : ∀ k, trues (falses n) k = [] := by
  intro k
  unfold trues
  rw [List.map_eq_nil_iff, List.filter_eq_nil_iff]
  intro i _
  unfold falses
  rw [List.getD_eq_getElem?_getD, List.getElem?_replicate]
  split <;> simp
/-- What a run on a memory tells. -/
def CpU (N : Nat → Prop) (p : Nat) (L : List UInt8) (V : List Bool) (ms : Nat) (qs : List (Int × Int)) (W : World) (u : Value) : Prop :=
  QSl W u qs ∧ ∃ gC gD X Y, Mm W p gC gD L X V Y ms ∧ N gC ∧ N gD
theorem cpU_keep {N : Nat → Prop} {p ms : Nat} {L : List UInt8} {V : List Bool} {qs : List (Int × Int)} : KeepP (CpU N p L V ms qs) := fun _ _ _ _ hf ⟨h1, gC, gD, X, Y, h2, h3⟩ =>
  ⟨h1.fe hf (by decide), gC, gD, X, Y, hf.mm h2 (by decide) (by decide) (by decide), h3⟩
def zeroF : Fact := fun v _ => ∃ A c, v = .slice A 0 c
def cpTS : List TypeId := 34 :: egTS
def anyF (B n : Nat) (vs : List Value) : Fact := fun v W => ∃ g, v = .slice (some ⟨g, 0, none⟩) n n ∧ Whole W g 20 vs ∧ B ≤ g
theorem keeps_anyF {K : Nat → Prop} {P : World → List Value → Prop} (B n : Nat) (vs : List Value) : Keeps (WR [34] K P) (anyF B n vs) := fun _ _ _ ⟨g, e, hW, h⟩ hc => ⟨g, e, hc.fe.whole hW (by decide), h⟩
theorem cp_away {w w' : World} {A : Option Addr} {xs : List Value} {T : List Nat} (h : Src w A xs) (hc : Chg T w w') (hA : ∀ ad, A = some ad → ad.block ∉ T) : Src w' A xs := fun hp => by
  obtain ⟨ad, e, hb, hx⟩ := h hp
  refine ⟨ad, e, Nat.lt_of_lt_of_le hb hc.size, fun j v hj => ?_⟩
  rw [← hx j v hj]
  refine World.cell?_of_block ?_
  rw [show (ad.add j).block = ad.block from by unfold Addr.add; split <;> rfl]
  exact hc.block _ hb (hA ad e)
section
variable {w0 : World} {a0 : Act} {ops : List Oper} {Q : Exit → Act → World → Prop} {F : Said} {k : Nat} {rest : List Oper}
  {d : Option Tmp} {ty : TypeId} {pos : String} {af : Array Go.Edge} {g : Option (Nat × Bool)} {B : Nat} {Tl : List Nat} {TS : List TypeId} {P : World → List Value → Prop} {hard soft : List Nat}
/-- Interface values in a row of the region's own. -/
theorem ew_anys {op : Op} (hP : KeepP P) (n : Nat) (vs : List Value) (hs : soft.contains k = true) (hB : B ≤ w0.heap.size) (hrun : ∀ ev W, EvOk ev → allFacts a0 F ev W op.operands.toList → (execOp ev ⟨d, op, ty, pos, af, g⟩).run Try.prog W = .ok (.value (.slice (some ⟨W.heap.size, 0, none⟩) n n)) (W.alloc (.cells vs.toArray 20)))
    (hg : guardIs ops F true ⟨d, op, ty, pos, af, g⟩) (hd0 : d ≠ none)
    (h : F2.Flow Try.prog (ewT B Tl TS P hard soft) w0 a0 ops Q ((d, anyF B n vs) :: F) (k + 1) rest) : F2.Flow Try.prog (ewT B Tl TS P hard soft) w0 a0 ops Q F k (⟨d, op, ty, pos, af, g⟩ :: rest) := by
  refine F2.flow_op (anyF B n vs) (keeps_anyF _ _ _) (.inl hs) hg (fun ev W he hW hf => ?_) h hd0
  rw [hrun ev W he hf]
  exact ⟨ew_by hP _ ((Chg.refl [] W).alloc _), _, rfl, Whole.new W _ _, ew_size hB hW⟩
end
section
variable {w : World} {TA : Option Addr} {tn tc : Nat} {tl : List Int} {A2 : Option Addr} {m2 c2 : Nat} {cl : List CallA}
set_option maxHeartbeats 16000000 in
set_option maxRecDepth 100000 in
theorem engineCopies_any (hs : Src w TA (nms tl)) (hlen : tl.length = tn) (hspot : 0 < tn → ∀ ad, TA = some ad → ad.spot = none) (hn : tn ≤ 9223372036854775807) (hrng : ∀ x ∈ tl, -9223372036854775808 ≤ x ∧ x ≤ 9223372036854775807)
    (hcl : Cls w A2 cl) (hm2 : cl.length = m2) (hmx : m2 ≤ 9223372036854775807) :
    Calls Try.prog 4 #[.slice TA tn tc, .slice A2 m2 c2] w (LawPost w) := by
  have HT := Lib.hid (And.intro hs (And.intro hlen (And.intro hspot (And.intro hn hrng))))
  have HCL := Lib.hid hcl
  have HM2 := Lib.hid hm2
  clear hs hlen hspot hn hrng hcl hm2
  go_enter Try.func4, Try.ntmps4
  go_wp2_with fail
  obtain ⟨t1, t2, t3, t4, t5⟩ := HT.out
  refine (unit_any t1 t2 t3 t4 t5).mono ?_
  rintro e w2 ⟨pgI, msI, v, l, rfl, hp0, hp2, hm1, hm3, hown, hgood, hl0, hc2⟩
  obtain ⟨A, c, rfl, hcap, hsrc, hsp⟩ := rown_src hown
  obtain ⟨pg, rfl⟩ : ∃ pg : Nat, pgI = (pg : Int) := ⟨pgI.toNat, by omega⟩
  obtain ⟨ms, rfl⟩ : ∃ ms : Nat, msI = (ms : Int) := ⟨msI.toNat, by omega⟩
  obtain ⟨n, hn⟩ : ∃ n, n = l.length := ⟨_, rfl⟩
  rw [← hn] at hl0 hcap ⊢
  have hF2 : Fnr w2 A n c l := ⟨hn.symm, hsrc, hcap, by have := hgood.lo; omega, fun _ => hsp, fun f hf => by have := hgood.args f hf; omega⟩
  have HPM := Lib.hid (show pg ≤ ms ∧ ms ≤ 64 by omega)
  have HGD := Lib.hid hgood
  have HN3 := Lib.hid (show 1 ≤ n ∧ n ≤ 1000 by have := hgood.lo; omega)
  have HF2 := Lib.hid hF2
  have HAB := Lib.hid (show ∀ ad, A = some ad → ad.block < w2.heap.size from fun ad e => by
    obtain ⟨ad2, e2, h, _⟩ := hF2.src (by rw [fnCs_len]; omega)
    rw [e] at e2
    injection e2 with e2
    rw [e2]; exact h)
  have HC2 := Lib.hid hc2
  have HCB := Lib.hid hc2.size
  clear t1 t2 t3 t4 t5 HT hp0 hp2 hm1 hm3 hown hsrc hgood hl0 hc2 hcap hsp hn hF2
  go_upto_region 2 with fail
  have hU := Whole.new w2 28 [.int .i64 (pg : Int), .int .i64 (ms : Int), .slice A n c]
  have hal := (Chg.refl [] w2).alloc (.cells #[.int .i64 (pg : Int), .int .i64 (ms : Int), .slice A n c] 28)
  obtain ⟨gu, hgu⟩ : ∃ g, g = w2.heap.size := ⟨_, rfl⟩
  rw [← hgu] at hU ⊢
  have HS3 := Lib.hid (show w2.heap.size ≤ (w2.alloc (.cells #[.int .i64 (pg : Int), .int .i64 (ms : Int), .slice A n c] 28)).heap.size ∧ gu < (w2.alloc (.cells #[.int .i64 (pg : Int), .int .i64 (ms : Int), .slice A n c] 28)).heap.size from ⟨hal.size, hU.lt⟩)
  generalize w2.alloc (.cells #[.int .i64 (pg : Int), .int .i64 (ms : Int), .slice A n c] 28) = w3 at hU hal HS3 ⊢
  have HU3 := Lib.hid hU
  have HF3 := Lib.hid (HF2.out.keep hal)
  have HC3 := Lib.hid (HC2.out.new hal)
  have u0 := hU.cell 0
  have u1 := hU.cell 1
  clear hU hal hgu HF2 HC2
  have HS := Lib.hid (show Mems w3.heap.size pg ms w3.drew [] from trivial)
  have HCW := Lib.hid (show Chg [] w3 w3.drew from (Chg.refl [] w3).drew)
  go_cut [6, 7, 8] (fun v6 v7 v8 wx => ∃ ma mb mc : Nat × Nat × Nat, v6 = .pointer (some ⟨ma.1, 0, none⟩) ∧ v7 = .pointer (some ⟨mb.1, 0, none⟩) ∧ v8 = .pointer (some ⟨mc.1, 0, none⟩) ∧ Hid (Trio w3.heap.size pg ms wx ma mb mc) ∧ Hid (Chg [] w3 wx))
  case first =>
    go_region_held3 (fun w' => w'.cell? ⟨gu, 0, none⟩ = some (.int .i64 (pg : Int)) ∧ w'.cell? ⟨gu, 1, none⟩ = some (.int .i64 (ms : Int))) (first | exact ⟨u0, u1⟩) (first
      | (go_at_call 14
         refine (cnew_yes pg ms HPM.out.1 HPM.out.2).mono ?_
         rintro e wn ⟨p, gC, gD, rfl, hM, hp, hgC, hgD, hcn⟩
         have HS := Lib.hid (HS.out.more hM HCW.out.size hp hgC hgD hcn)
         have HCW := Lib.hid (HCW.out.new hcn)
         have hu := HU3.out.keep HCW.out
         have u0 := hu.cell 0
         have u1 := hu.cell 1
         clear hu hM hp hgC hgD hcn))
    all_goals go_wp2_with fail
    all_goals go_meet
    all_goals exact trio_ex HS.out HCW
  case rest =>
    obtain ⟨ma, mb, mc, rfl, rfl, rfl, htr, hcw⟩ := hcut
    obtain ⟨w4, hw4⟩ : ∃ w4 : World, w4 = wc := ⟨_, rfl⟩
    rw [← hw4] at htr hcw ⊢
    clear hw4 HS HCW u0 u1
    have HU4 := Lib.hid (HU3.out.keep hcw.out)
    have HF4 := Lib.hid (HF3.out.keep hcw.out)
    have HC4 := Lib.hid (HC3.out.new hcw.out)
    have HSZ := Lib.hid hcw.out.size
    clear HU3 HF3 HC3 hcw
    go_wp2_with fail
    go_loopw [9] (fun i wr => ∃ (k : Nat) (L : List UInt8) (V : List Bool) (na nb : Nat × Nat × Nat), i = .int .i64 (k : Int) ∧ k ≤ 8 ∧ k ≤ m2 ∧ na.1 = ma.1 ∧ nb.1 = mb.1 ∧ Hid (MemOk wr na L V ms ∧ MemOk wr nb L V ms ∧ MemOk wr mc (zeros (pg * 64)) (falses pg) ms) ∧ Hid (Dj na nb ∧ Dj na mc ∧ Dj nb mc) ∧
      Hid ((∀ i ∈ T3 na, w3.heap.size ≤ i) ∧ (∀ i ∈ T3 nb, w3.heap.size ≤ i)) ∧ Hid (Whole wr gu 28 [.int .i64 (pg : Int), .int .i64 (ms : Int), .slice A n c]) ∧ Hid (Fnr wr A n c l) ∧ Hid (w3.heap.size ≤ wr.heap.size) ∧ Hid (Chg [] w wr)) (fun i _ => 8 - (intOf i).toNat)
    case atStart => exact ⟨0, _, _, ma, mb, rfl, Nat.zero_le _, Nat.zero_le _, rfl, rfl, Lib.hid htr.out.1, Lib.hid htr.out.2.1, Lib.hid ⟨htr.out.2.2.1, htr.out.2.2.2.1⟩, HU4, HF4, HSZ, HC4⟩
    case round =>
      obtain ⟨k, L, V, na, nb, rfl, hk8, hkm, hna, hnb, HMM, HDJ, HLO, HUr, HFr, HSr, HCr⟩ := hrel
      clear HU4 HF4 HC4 HSZ
      rw [← hna, ← hnb]
      have HNA := Lib.hid hna
      have HNB := Lib.hid hnb
      clear hna hnb
      by_cases hlt : k < m2 ∧ k < 8
      · obtain ⟨hlt1, hlt2⟩ := hlt
        have hkI : (k : Int) < (m2 : Int) := by omega
        have hkI2 : (k : Int) < 8 := by omega
        have hk0 : (0 : Int) ≤ (k : Int) := by omega
        obtain ⟨g, o, hA2, hgl, hcc⟩ := HCL.out.cells (by have := HM2.out; omega)
        subst hA2
        have hkl : k < cl.length := by have := HM2.out; omega
        obtain ⟨q0, q1, q2⟩ := hcc k _ (List.getElem?_eq_getElem hkl)
        have hok := HCL.out.ok _ (List.getElem_mem (h := hkl))
        generalize cl[k] = a at q0 q1 q2 hok
        have HOK := Lib.hid hok
        have k0 := cell_keep q0 HCr.out
        have k1 := cell_keep q1 HCr.out
        have k2 := cell_keep q2 HCr.out
        have u0 := HUr.out.cell 0
        have u1 := HUr.out.cell 1
        have u2 := HUr.out.cell 2
        clear hcc q0 q1 q2 hok
        have hargs : ∀ W : World, Chg [] wr W → Calls Try.prog 12 #[unitV (pg : Int) (ms : Int) A n c, .agg #[.int .i64 a.f, .slice a.cA a.cn a.cc, .int .i64 a.fuel]] W (ArgsPost W l) := fun W hW =>
          args_any (HFr.out.keep hW) HN3.out.1 HN3.out.2 (fun f hf => by have := HGD.out.args f hf; omega) HOK.out.f0 HOK.out.f1 HOK.out.len (HOK.out.src.keep (HCr.out.new hW)) HOK.out.spot HOK.out.max HOK.out.rng
        unfold unitV at hargs
        have HAR := Lib.hid hargs
        clear hargs
        go_upto_region 8 with fail
        go_cut [10, 11] (fun v10 v11 wx => ∃ (kf : Nat) (f : FnV) (xs : List Int) (ga : Nat), v10 = .int .i32 f.name ∧ v11 = .slice (some ⟨ga, 0, none⟩) xs.length xs.length ∧ Hid (l[kf]? = some f ∧ xs.length = f.args.toNat) ∧ Hid (wr.heap.size ≤ ga) ∧ Hid (Whole wx ga 2 (nms xs)) ∧ Hid (Chg [] wr wx))
        case first =>
          go_region_held3 (fun w' => w'.cell? ⟨gu, 0, none⟩ = some (.int .i64 (pg : Int)) ∧ w'.cell? ⟨gu, 1, none⟩ = some (.int .i64 (ms : Int)) ∧ w'.cell? ⟨gu, 2, none⟩ = some (.slice A n c) ∧ w'.cell? ⟨g, o + k * 3, none⟩ = some (.int .i64 a.f) ∧ w'.cell? ⟨g, o + k * 3 + 1, none⟩ = some (.slice a.cA a.cn a.cc) ∧ w'.cell? ⟨g, o + k * 3 + 2, none⟩ = some (.int .i64 a.fuel)) (first | exact ⟨u0, u1, u2, k0, k1, k2⟩) (first
            | (go_at_call 12
               refine (HAR.out _ (Chg.refl [] wr).drew).mono ?_
               rintro e wn ⟨kf, f, xs, ga, hkf, hxl, _, rfl, hga, hWa, hcn⟩
               have HKF := Lib.hid (And.intro hkf hxl)
               have HGA := Lib.hid hga
               have HWA := Lib.hid hWa
               have HCN := Lib.hid (show Chg [] wr wn from (Chg.refl [] wr).drew.new hcn)
               have u0 := cell_keep u0 HCN.out
               have u1 := cell_keep u1 HCN.out
               have u2 := cell_keep u2 HCN.out
               have k0 := cell_keep k0 HCN.out
               have k1 := cell_keep k1 HCN.out
               have k2 := cell_keep k2 HCN.out
               clear hkf hxl hga hWa hcn))
          all_goals go_wp2_with fail
          all_goals go_meet
          all_goals exact ⟨_, _, _, _, rfl, rfl, HKF, HGA, HWA, HCN⟩
        case rest =>
          obtain ⟨kf, f, xs, ga, rfl, rfl, hkf, hga, hWa, hcx⟩ := hcut
          obtain ⟨wa, hwa⟩ : ∃ wa : World, wa = wc := ⟨_, rfl⟩
          rw [← hwa] at hWa hcx ⊢
          clear hwa u0 u1 u2 k0 k1 k2 HAR
          have HKF := Lib.hid (show findI l f.name = (kf : Int) ∧ l[kf]? = some f ∧ f.args = (xs.length : Int) from ⟨(HGD.out.find hkf.out.1).1, hkf.out.1, by have := HGD.out.args f (List.mem_of_getElem? hkf.out.1); have := hkf.out.2; omega⟩)
          obtain ⟨val, tr, s1, hdo, _⟩ := eDo_less HGD.out.safe HKF.out.2.1 HKF.out.2.2 [some (k : Int), some ((k : Int) + 1)] ms 400 L V []
          have HDO := Lib.hid hdo
          clear hdo
          have HU1 := Lib.hid (HUr.out.keep hcx.out)
          have HF1 := Lib.hid (HFr.out.keep hcx.out)
          have HA1 := hWa
          have HCa := Lib.hid (HCr.out.new hcx.out)
          have LO1 := Lib.hid HLO.out.1
          have LO2 := Lib.hid HLO.out.2
          have LW1 := Lib.hid (show w3.heap.size ≤ wa.heap.size from Nat.le_trans HSr.out hcx.out.size)
          have HMA1 := Lib.hid (HMM.out.1.keep hcx.out)
          have HMB1 := Lib.hid (HMM.out.2.1.keep hcx.out)
          have HMC1 := Lib.hid (HMM.out.2.2.keep hcx.out)
          have HLT := Lib.hid (show (∀ i ∈ T3 na, i < wr.heap.size) ∧ (∀ i ∈ T3 nb, i < wr.heap.size) from ⟨HMM.out.1.lt, HMM.out.2.1.lt⟩)
          have hadd : IntKind.i64.wrap ((k : Int) + 1) = (k : Int) + 1 := by rw [IntKind.wrap_i64]; omega
          go_upto_region 9 with fail
          obtain ⟨N1, hN1⟩ : ∃ N : Nat → Prop, N = fun i => i ∈ T3 na ∨ wa.heap.size ≤ i := ⟨_, rfl⟩
          have HN1 := Lib.hid hN1
          clear hN1
          have KP : KeepP (CpU N1 na.1 s1.L s1.V ms s1.qs) := cpU_keep
          have KR := keepP_res (val := val) (trap := tr) (fuel := (s1.fuel : Int)) KP
          have TOK := ewT_ok (B := wa.heap.size) (Tl := T3 na) (TS := cpTS) (hard := [11]) (soft := [1, 7, 8, 11, 12, 13]) KR (by decide)
          refine F2.wp_flow (by kernel_rfl) (ewT wa.heap.size (T3 na) cpTS (resW val tr (s1.fuel : Int) (CpU N1 na.1 s1.L s1.V ms s1.qs)) [11] [1, 7, 8, 11, 12, 13]) TOK (by kernel_rfl) (by kernel_rfl) ?_
          refine F2.flow1h (r := .agg #[.int .i64 (pg : Int), .int .i64 (ms : Int), .slice A n c]) TOK rfl (.out rfl rfl) rfl (fun ev W he hW e1 => by have hu := hW.fe.whole (show Whole wa.drew gu 28 _ from HU1.out) (by decide); have c0 := hu.cell 0; have c1 := hu.cell 1; have c2 := hu.cell 2; clear hu; go_simp) ?_
          obtain ⟨X1, Y1, hMm1⟩ := HMA1.out
          refine ew_mem KR (show Mm wa.drew na.1 na.2.1 na.2.2 L X1 V Y1 ms from hMm1.keep (Chg.refl [] wa).drew) ⟨by simp [T3], by simp [T3], by simp [T3]⟩ rfl rfl (.out rfl rfl) rfl (by intro h; cases h) ?_
          refine F2.flow_move_out TOK rfl rfl rfl (h := ?_)
          refine F2.flow1 (r := .iface 3 (.int .i64 (k : Int))) TOK rfl (.inn rfl) rfl (fun ev W he e1 => by go_simp) ?_
          refine F2.flow_move_out TOK rfl rfl rfl (h := ?_)
          refine F2.flow2 (r := .int .i64 ((k : Int) + 1)) TOK rfl (.inn rfl) (.const _) rfl (fun ev W he e1 e2 => by go_simp) ?_
          refine F2.flow1 (r := .iface 3 (.int .i64 ((k : Int) + 1))) TOK rfl (.inn rfl) rfl (fun ev W he e1 => by go_simp) ?_
          refine ew_anys KR 2 [.iface 3 (.int .i64 (k : Int)), .iface 3 (.int .i64 ((k : Int) + 1))] rfl (Nat.le_refl _) (fun ev W he hf => by have e0 : ev (.tmp 66) = .iface 3 (.int .i64 (k : Int)) := hf.1; have e1 : ev (.tmp 69) = .iface 3 (.int .i64 ((k : Int) + 1)) := hf.2.1; clear hf; go_simp) rfl (by intro h; cases h) ?_
          refine F2.flow_call (rowEF wa.heap.size [some (k : Int), some ((k : Int) + 1)]) (keepsW_row _) (.inl rfl) (by kernel_rfl) rfl (fun ev W he hW hfs => ?_) ?_ (by intro h; cases h)
          · obtain ⟨ga2, e1, hga2, hgb2⟩ : anyF wa.heap.size 2 [.iface 3 (.int .i64 (k : Int)), .iface 3 (.int .i64 ((k : Int) + 1))] (ev (.tmp 70)) W := hfs.1
            rw [show (List.map ev (#[.tmp 70] : Array Operand).toList).toArray = #[ev (.tmp 70)] by simp]
            rw [e1]
            refine (rnew_any (rs := [some (k : Int), some ((k : Int) + 1)]) (n := 2) (m := 2) (Nums.cons (Num.int (k : Int) (by omega) (by omega)) (Nums.cons (Num.int ((k : Int) + 1) (by omega) (by omega)) Nums.nil)) (Src.of_all hga2) (fun ad e => by injection e with e; subst e; rfl) rfl (Nat.le_refl _) (by omega)).mono ?_
            rintro e w3 ⟨rp, a, rfl, hR, hrp, hc⟩
            exact ⟨_, rfl, ew_by KR _ hc, rp, a, rfl, hR, Nat.le_trans (ew_size (w0 := wa.drew) (Nat.le_refl _) hW) hrp⟩
          refine F2.flow_move_out TOK rfl rfl rfl (h := ?_)
          refine F2.flow_move_out TOK rfl rfl rfl (h := ?_)
          refine ew_run KP rfl rfl rfl (by kernel_rfl) (Nat.le_refl _) (fun ev W he hc hfs => ?_) rfl (by intro h; cases h) ?_
          · obtain ⟨f1, f2, f3, f4, f5, f6, _⟩ := hfs
            have e1 : ev (.tmp 63) = unitV (pg : Int) (ms : Int) A n c := f1
            obtain ⟨p', gC', gD', X', Y', e2, hM, ⟨hq1, hq2, hq3⟩, _⟩ : memW wa.heap.size (T3 na) (fun p' c' d' => p' = na.1 ∧ c' = na.2.1 ∧ d' = na.2.2) L V ms (ev (.tmp 64)) W := f2
            rw [hq1] at e2 hM
            rw [hq2, hq3] at hM
            obtain ⟨rp, av, e3, hR, hrp⟩ : rowEF wa.heap.size [some (k : Int), some ((k : Int) + 1)] (ev (.tmp 71)) W := f3
            have e4 : ev (.tmp 72) = .int .i32 f.name := f4
            have e5 : ev (.const (.int .i64 400)) = .int .i64 400 := he.const _
            have e6 : ev (.tmp 73) = .slice (some ⟨ga, 0, none⟩) xs.length xs.length := f6
            have hcW : Chg [] wa W := (Chg.refl [] wa).drew.new hc
            rw [show Array.map ev #[.tmp 63, .tmp 64, .tmp 71, .tmp 72, .const (.int .i64 400), .tmp 73] = #[ev (.tmp 63), ev (.tmp 64), ev (.tmp 71), ev (.tmp 72), ev (.const (.int .i64 400)), ev (.tmp 73)] by simp]
            rw [e1, e2, e3, e4, e5, e6]
            have hsz := hcW.size
            have hlo := LO1.out
            have t2 : ∀ i ∈ na.1 :: na.2.1 :: na.2.2 :: [rp], i = na.1 ∨ i = na.2.1 ∨ i = na.2.2 ∨ i = rp ∨ (Value.slice none 0 0).ownBlock = some i := fun i hi => by
              simp only [List.mem_cons, List.not_mem_nil, or_false] at hi
              rcases hi with h | h | h | h
              · exact .inl h
              · exact .inr (.inl h)
              · exact .inr (.inr (.inl h))
              · exact .inr (.inr (.inr (.inl h)))
            have t3 : ∀ i ∈ na.1 :: na.2.1 :: na.2.2 :: [rp], wa.heap.size ≤ i ∨ i ∈ T3 na := fun i hi => by
              simp only [List.mem_cons, List.not_mem_nil, or_false] at hi
              simp only [T3, List.mem_cons, List.not_mem_nil, or_false]
              rcases hi with h | h | h | h
              · exact .inr (.inl h)
              · exact .inr (.inr (.inl h))
              · exact .inr (.inr (.inr h))
              · exact .inl (by omega)
            refine (engrun_any (T := na.1 :: na.2.1 :: na.2.2 :: [rp]) (fuel := 400) (k := kf) (f := f) (args := xs) hM hR (HF1.out.keep hcW) (HGD.out.right (by omega) (by have := HPM.out.1; omega) (by have := HPM.out.2; omega)) (by simp) (by simp) (by simp) (by simp) (fun i hi => by simp [Value.ownBlock] at hi) (fun ad e => ?_) HKF.out.1 HKF.out.2.1 HKF.out.2.2 (by omega) (by simp) rfl (Src.of_all (HA1.out.keep hcW)) HDO.out).mono ?_
            · have hb := HAB.out ad e
              have hl3 := LW1.out
              have hs3 := HS3.out
              refine ⟨by omega, fun hm => ?_⟩
              simp only [List.mem_cons, List.not_mem_nil, or_false] at hm
              have h1 := hlo na.1 (by simp [T3])
              have h2 := hlo na.2.1 (by simp [T3])
              have h3 := hlo na.2.2 (by simp [T3])
              omega
            · rintro e w5 ⟨v5, rfl, hQ, ⟨gC5, gD5, X5, Y5, hM5, b1, b2⟩, _, hc5⟩
              have hfe : Fe (fun k => wa.heap.size ≤ k ∨ k ∈ T3 na) egTS W w5 := fe_run hM hR hc5 t2 t3 (fun t ht => ht) (fun ⟨i, hi⟩ => by simp [Value.ownBlock] at hi)
              have b1' : wa.heap.size ≤ gC5 ∨ gC5 ∈ T3 na := b1.elim (fun h => .inl (Nat.le_trans hsz h)) (t3 _)
              have b2' : wa.heap.size ≤ gD5 ∨ gD5 ∈ T3 na := b2.elim (fun h => .inl (Nat.le_trans hsz h)) (t3 _)
              refine ⟨v5, rfl, ⟨by simpa using hQ, gC5, gD5, X5, Y5, hM5, by rw [HN1.out]; exact b1'.symm, by rw [HN1.out]; exact b2'.symm⟩, fun u' hu' => ⟨QSl.fe hu'.1 hfe (by decide), gC5, gD5, X5, Y5, hM5, by rw [HN1.out]; exact b1'.symm, by rw [HN1.out]; exact b2'.symm⟩, hfe.sub (fun t ht => List.mem_cons_of_mem _ ht), fun g cs hW => hfe.whole hW (by decide)⟩
          refine ew_move KR KP rfl rfl rfl (by intro h; cases h) ?_
          refine ew_x0 KR KP rfl rfl rfl (by intro h; cases h) ?_
          refine ew_x1 KR rfl rfl (by intro h; cases h) ?_
          refine ew_var KR (Nat.le_refl _) rfl (by intro h; cases h) (fun ev W => by go_simp) ?_
          refine ew_put KP (by decide) rfl rfl (fun W u hu => by obtain ⟨⟨A, c, rfl, _⟩, _⟩ := hu; rfl) rfl ?_
          refine F2.flow_assign TOK rfl (keeps_isV _) (.inr (keeps_isV _)) rfl ?_
          intro vs5 W hW hF hN
          obtain ⟨gx1, cs, ex, hbx, hwx, _, u1, rfl, hu5⟩ := hN 16 _ _ 12 rfl rfl rfl rfl
          have ee : vs5 13 = .int .i64 0 := hF 13 _ rfl rfl
          have hcw : Chg (T3 na) wa W := Chg.then_ ((Chg.refl [] wa).drew.sub (fun _ h => by cases h)) (hW.fe.chg (show wa.drew.heap.size ≤ wa.heap.size from Nat.le_refl _)) (fun i hi hl => hi)
          obtain ⟨hq5, gC5, gD5, X5, Y5, hM5, n1, n2⟩ := hu5
          rw [HN1.out] at n1 n2
          have HCW1 := Lib.hid hcw
          have HMN1 := Lib.hid (show MemOk W (na.1, gC5, gD5) s1.L s1.V ms from ⟨X5, Y5, hM5⟩)
          have HTN1 := Lib.hid (show ∀ i ∈ T3 (na.1, gC5, gD5), i ∈ T3 na ∨ wa.heap.size ≤ i from fun i hi => by
            simp only [T3, List.mem_cons, List.not_mem_nil, or_false] at hi
            rcases hi with h | h | h
            · exact .inl (by rw [h]; simp [T3])
            · rw [h]; exact n1
            · rw [h]; exact n2)
          have HX1 := Lib.hid hwx
          have HBX1 := Lib.hid hbx
          have HFE1 := Lib.hid (show Fe (fun k => wa.heap.size ≤ k ∨ k ∈ T3 na) cpTS wa W from (Fe.of_chg (Chg.refl [] wa).drew).trans hW.fe)
          have HQ1 := Lib.hid hq5
          simp only [putAll, Act.put, List.setIfInBounds_toArray, List.set_cons_zero, List.set_cons_succ]
          rw [ex, ee]
          clear hF hN hW hwx hcw ex ee hbx TOK KP KR hq5 hM5 n1 n2 hMm1
          obtain ⟨wb, hwb⟩ : ∃ w' : World, w' = W := ⟨_, rfl⟩
          rw [← hwb] at HCW1 HMN1 HX1 HQ1 HFE1 ⊢
          clear hwb
          have HNN1 := Lib.hid (show (na.1, gC5, gD5).1 = na.1 from rfl)
          generalize (na.1, gC5, gD5) = nan at HMN1 HTN1 HNN1
          have HU2 := Lib.hid (HU1.out.chg HCW1.out (fun hm => by have := LO1.out gu hm; have := HS3.out; omega))
          have HF2 := Lib.hid (show Fnr wb A n c l from { HF1.out with src := cp_away HF1.out.src HCW1.out (fun ad e hm => by have h1 := HAB.out ad e; have h2 := LO1.out _ hm; have h3 := HS3.out; omega) })
          have HA2 := Lib.hid (HA1.out.chg HCW1.out (fun hm => by have h1 := hga.out; have h2 := HLT.out.1 ga hm; omega))
          have HMB2 := Lib.hid (HMB1.out.away HCW1.out HDJ.out.1.symm)
          have HMC2 := Lib.hid (HMC1.out.away HCW1.out HDJ.out.2.1.symm)
          have LW2 := Lib.hid (Nat.le_trans LW1.out HCW1.out.size)
          have HCb := Lib.hid (show Chg [] w wb from HCa.out.then_ HCW1.out (fun i hi hl => by have h1 := LO1.out i hi; have h2 := HS3.out; have h3 := HCB.out; omega))
          go_upto_region 10 with fail
          obtain ⟨N2, hN2⟩ : ∃ N : Nat → Prop, N = fun i => i ∈ T3 nb ∨ wb.heap.size ≤ i := ⟨_, rfl⟩
          have HN2 := Lib.hid hN2
          clear hN2
          have KP : KeepP (CpU N2 nb.1 s1.L s1.V ms s1.qs) := cpU_keep
          have KR := keepP_res (val := val) (trap := tr) (fuel := (s1.fuel : Int)) KP
          have TOK := ewT_ok (B := wb.heap.size) (Tl := T3 nb) (TS := cpTS) (hard := [11]) (soft := [1, 7, 8, 11, 12, 13]) KR (by decide)
          refine F2.wp_flow (by kernel_rfl) (ewT wb.heap.size (T3 nb) cpTS (resW val tr (s1.fuel : Int) (CpU N2 nb.1 s1.L s1.V ms s1.qs)) [11] [1, 7, 8, 11, 12, 13]) TOK (by kernel_rfl) (by kernel_rfl) ?_
          refine F2.flow1h (r := .agg #[.int .i64 (pg : Int), .int .i64 (ms : Int), .slice A n c]) TOK rfl (.out rfl rfl) rfl (fun ev W he hW e1 => by have hu := hW.fe.whole (show Whole wb.drew gu 28 _ from HU2.out) (by decide); have c0 := hu.cell 0; have c1 := hu.cell 1; have c2 := hu.cell 2; clear hu; go_simp) ?_
          obtain ⟨X2, Y2, hMm2⟩ := HMB2.out
          refine ew_mem KR (show Mm wb.drew nb.1 nb.2.1 nb.2.2 L X2 V Y2 ms from hMm2.keep (Chg.refl [] wb).drew) ⟨by simp [T3], by simp [T3], by simp [T3]⟩ rfl rfl (.out rfl rfl) rfl (by intro h; cases h) ?_
          refine F2.flow_move_out TOK rfl rfl rfl (h := ?_)
          refine F2.flow1 (r := .iface 3 (.int .i64 (k : Int))) TOK rfl (.inn rfl) rfl (fun ev W he e1 => by go_simp) ?_
          refine F2.flow_move_out TOK rfl rfl rfl (h := ?_)
          refine F2.flow2 (r := .int .i64 ((k : Int) + 1)) TOK rfl (.inn rfl) (.const _) rfl (fun ev W he e1 e2 => by go_simp) ?_
          refine F2.flow1 (r := .iface 3 (.int .i64 ((k : Int) + 1))) TOK rfl (.inn rfl) rfl (fun ev W he e1 => by go_simp) ?_
          refine ew_anys KR 2 [.iface 3 (.int .i64 (k : Int)), .iface 3 (.int .i64 ((k : Int) + 1))] rfl (Nat.le_refl _) (fun ev W he hf => by have e0 : ev (.tmp 81) = .iface 3 (.int .i64 (k : Int)) := hf.1; have e1 : ev (.tmp 84) = .iface 3 (.int .i64 ((k : Int) + 1)) := hf.2.1; clear hf; go_simp) rfl (by intro h; cases h) ?_
          refine F2.flow_call (rowEF wb.heap.size [some (k : Int), some ((k : Int) + 1)]) (keepsW_row _) (.inl rfl) (by kernel_rfl) rfl (fun ev W he hW hfs => ?_) ?_ (by intro h; cases h)
          · obtain ⟨ga2, e1, hga2, hgb2⟩ : anyF wb.heap.size 2 [.iface 3 (.int .i64 (k : Int)), .iface 3 (.int .i64 ((k : Int) + 1))] (ev (.tmp 85)) W := hfs.1
            rw [show (List.map ev (#[.tmp 85] : Array Operand).toList).toArray = #[ev (.tmp 85)] by simp]
            rw [e1]
            refine (rnew_any (rs := [some (k : Int), some ((k : Int) + 1)]) (n := 2) (m := 2) (Nums.cons (Num.int (k : Int) (by omega) (by omega)) (Nums.cons (Num.int ((k : Int) + 1) (by omega) (by omega)) Nums.nil)) (Src.of_all hga2) (fun ad e => by injection e with e; subst e; rfl) rfl (Nat.le_refl _) (by omega)).mono ?_
            rintro e w3 ⟨rp, a, rfl, hR, hrp, hc⟩
            exact ⟨_, rfl, ew_by KR _ hc, rp, a, rfl, hR, Nat.le_trans (ew_size (w0 := wb.drew) (Nat.le_refl _) hW) hrp⟩
          refine F2.flow_move_out TOK rfl rfl rfl (h := ?_)
          refine F2.flow_move_out TOK rfl rfl rfl (h := ?_)
          refine ew_run KP rfl rfl rfl (by kernel_rfl) (Nat.le_refl _) (fun ev W he hc hfs => ?_) rfl (by intro h; cases h) ?_
          · obtain ⟨f1, f2, f3, f4, f5, f6, _⟩ := hfs
            have e1 : ev (.tmp 78) = unitV (pg : Int) (ms : Int) A n c := f1
            obtain ⟨p', gC', gD', X', Y', e2, hM, ⟨hq1, hq2, hq3⟩, _⟩ : memW wb.heap.size (T3 nb) (fun p' c' d' => p' = nb.1 ∧ c' = nb.2.1 ∧ d' = nb.2.2) L V ms (ev (.tmp 79)) W := f2
            rw [hq1] at e2 hM
            rw [hq2, hq3] at hM
            obtain ⟨rp, av, e3, hR, hrp⟩ : rowEF wb.heap.size [some (k : Int), some ((k : Int) + 1)] (ev (.tmp 86)) W := f3
            have e4 : ev (.tmp 87) = .int .i32 f.name := f4
            have e5 : ev (.const (.int .i64 400)) = .int .i64 400 := he.const _
            have e6 : ev (.tmp 88) = .slice (some ⟨ga, 0, none⟩) xs.length xs.length := f6
            have hcW : Chg [] wb W := (Chg.refl [] wb).drew.new hc
            rw [show Array.map ev #[.tmp 78, .tmp 79, .tmp 86, .tmp 87, .const (.int .i64 400), .tmp 88] = #[ev (.tmp 78), ev (.tmp 79), ev (.tmp 86), ev (.tmp 87), ev (.const (.int .i64 400)), ev (.tmp 88)] by simp]
            rw [e1, e2, e3, e4, e5, e6]
            have hsz := hcW.size
            have hlo := LO2.out
            have t2 : ∀ i ∈ nb.1 :: nb.2.1 :: nb.2.2 :: [rp], i = nb.1 ∨ i = nb.2.1 ∨ i = nb.2.2 ∨ i = rp ∨ (Value.slice none 0 0).ownBlock = some i := fun i hi => by
              simp only [List.mem_cons, List.not_mem_nil, or_false] at hi
              rcases hi with h | h | h | h
              · exact .inl h
              · exact .inr (.inl h)
              · exact .inr (.inr (.inl h))
              · exact .inr (.inr (.inr (.inl h)))
            have t3 : ∀ i ∈ nb.1 :: nb.2.1 :: nb.2.2 :: [rp], wb.heap.size ≤ i ∨ i ∈ T3 nb := fun i hi => by
              simp only [List.mem_cons, List.not_mem_nil, or_false] at hi
              simp only [T3, List.mem_cons, List.not_mem_nil, or_false]
              rcases hi with h | h | h | h
              · exact .inr (.inl h)
              · exact .inr (.inr (.inl h))
              · exact .inr (.inr (.inr h))
              · exact .inl (by omega)
            refine (engrun_any (T := nb.1 :: nb.2.1 :: nb.2.2 :: [rp]) (fuel := 400) (k := kf) (f := f) (args := xs) hM hR (HF2.out.keep hcW) (HGD.out.right (by omega) (by have := HPM.out.1; omega) (by have := HPM.out.2; omega)) (by simp) (by simp) (by simp) (by simp) (fun i hi => by simp [Value.ownBlock] at hi) (fun ad e => ?_) HKF.out.1 HKF.out.2.1 HKF.out.2.2 (by omega) (by simp) rfl (Src.of_all (HA2.out.keep hcW)) HDO.out).mono ?_
            · have hb := HAB.out ad e
              have hl3 := LW2.out
              have hs3 := HS3.out
              refine ⟨by omega, fun hm => ?_⟩
              simp only [List.mem_cons, List.not_mem_nil, or_false] at hm
              have h1 := hlo nb.1 (by simp [T3])
              have h2 := hlo nb.2.1 (by simp [T3])
              have h3 := hlo nb.2.2 (by simp [T3])
              omega
            · rintro e w5 ⟨v5, rfl, hQ, ⟨gC5, gD5, X5, Y5, hM5, b1, b2⟩, _, hc5⟩
              have hfe : Fe (fun k => wb.heap.size ≤ k ∨ k ∈ T3 nb) egTS W w5 := fe_run hM hR hc5 t2 t3 (fun t ht => ht) (fun ⟨i, hi⟩ => by simp [Value.ownBlock] at hi)
              have b1' : wb.heap.size ≤ gC5 ∨ gC5 ∈ T3 nb := b1.elim (fun h => .inl (Nat.le_trans hsz h)) (t3 _)
              have b2' : wb.heap.size ≤ gD5 ∨ gD5 ∈ T3 nb := b2.elim (fun h => .inl (Nat.le_trans hsz h)) (t3 _)
              refine ⟨v5, rfl, ⟨by simpa using hQ, gC5, gD5, X5, Y5, hM5, by rw [HN2.out]; exact b1'.symm, by rw [HN2.out]; exact b2'.symm⟩, fun u' hu' => ⟨QSl.fe hu'.1 hfe (by decide), gC5, gD5, X5, Y5, hM5, by rw [HN2.out]; exact b1'.symm, by rw [HN2.out]; exact b2'.symm⟩, hfe.sub (fun t ht => List.mem_cons_of_mem _ ht), fun g cs hW => hfe.whole hW (by decide)⟩
          refine ew_move KR KP rfl rfl rfl (by intro h; cases h) ?_
          refine ew_x0 KR KP rfl rfl rfl (by intro h; cases h) ?_
          refine ew_x1 KR rfl rfl (by intro h; cases h) ?_
          refine ew_var KR (Nat.le_refl _) rfl (by intro h; cases h) (fun ev W => by go_simp) ?_
          refine ew_put KP (by decide) rfl rfl (fun W u hu => by obtain ⟨⟨A, c, rfl, _⟩, _⟩ := hu; rfl) rfl ?_
          refine F2.flow_assign TOK rfl (keeps_isV _) (.inr (keeps_isV _)) rfl ?_
          intro vs5 W hW hF hN
          obtain ⟨gx2, cs, ex, hbx, hwx, _, u2, rfl, hu5⟩ := hN 16 _ _ 14 rfl rfl rfl rfl
          have ee : vs5 15 = .int .i64 0 := hF 15 _ rfl rfl
          have hcw : Chg (T3 nb) wb W := Chg.then_ ((Chg.refl [] wb).drew.sub (fun _ h => by cases h)) (hW.fe.chg (show wb.drew.heap.size ≤ wb.heap.size from Nat.le_refl _)) (fun i hi hl => hi)
          obtain ⟨hq5, gC5, gD5, X5, Y5, hM5, n1, n2⟩ := hu5
          rw [HN2.out] at n1 n2
          have HCW2 := Lib.hid hcw
          have HMN2 := Lib.hid (show MemOk W (nb.1, gC5, gD5) s1.L s1.V ms from ⟨X5, Y5, hM5⟩)
          have HTN2 := Lib.hid (show ∀ i ∈ T3 (nb.1, gC5, gD5), i ∈ T3 nb ∨ wb.heap.size ≤ i from fun i hi => by
            simp only [T3, List.mem_cons, List.not_mem_nil, or_false] at hi
            rcases hi with h | h | h
            · exact .inl (by rw [h]; simp [T3])
            · rw [h]; exact n1
            · rw [h]; exact n2)
          have HX2 := Lib.hid hwx
          have HBX2 := Lib.hid hbx
          have HFE2 := Lib.hid (show Fe (fun k => wb.heap.size ≤ k ∨ k ∈ T3 nb) cpTS wb W from (Fe.of_chg (Chg.refl [] wb).drew).trans hW.fe)
          have HQ2 := Lib.hid hq5
          simp only [putAll, Act.put, List.setIfInBounds_toArray, List.set_cons_zero, List.set_cons_succ]
          rw [ex, ee]
          clear hF hN hW hwx hcw ex ee hbx TOK KP KR hq5 hM5 n1 n2 hMm2
          obtain ⟨wd, hwd⟩ : ∃ w' : World, w' = W := ⟨_, rfl⟩
          rw [← hwd] at HCW2 HMN2 HX2 HQ2 HFE2 ⊢
          clear hwd
          have HNN2 := Lib.hid (show (nb.1, gC5, gD5).1 = nb.1 from rfl)
          generalize (nb.1, gC5, gD5) = nbn at HMN2 HTN2 HNN2
          have HX12 := Lib.hid (HX1.out.chg HCW2.out (fun hm => by have h1 := HBX1.out; have h2 := HLT.out.2 gx1 hm; have h3 := hcx.out.size; omega))
          have HQ12 := Lib.hid (QSl.fe HQ1.out HFE2.out (by decide))
          have HMA2 := Lib.hid (show MemOk wd nan s1.L s1.V ms from HMN1.out.away HCW2.out (HDJ.out.1.more HTN1.out (fun j hj => by have h1 := HLT.out.2 j hj; have h2 := hcx.out.size; omega)))
          have HMC3 := Lib.hid (HMC2.out.away HCW2.out HDJ.out.2.2.symm)
          have HDJ2 := Lib.hid (show Dj nan nbn ∧ Dj nan mc ∧ Dj nbn mc from by
            have hmc : ∀ j ∈ T3 mc, j < wa.heap.size := HMC1.out.lt
            have hsz := HCW1.out.size
            have d1 : Dj nan nb := HDJ.out.1.more HTN1.out (fun j hj => by have h1 := HLT.out.2 j hj; have h2 := hcx.out.size; omega)
            refine ⟨(Dj.more d1.symm HTN2.out (HMN1.out.lt)).symm, HDJ.out.2.1.more HTN1.out hmc, HDJ.out.2.2.more HTN2.out (fun j hj => Nat.lt_of_lt_of_le (hmc j hj) hsz)⟩)
          have HLO2 := Lib.hid (show (∀ i ∈ T3 nan, w3.heap.size ≤ i) ∧ (∀ i ∈ T3 nbn, w3.heap.size ≤ i) from by
            refine ⟨fun i hi => ?_, fun i hi => ?_⟩
            · rcases HTN1.out i hi with h | h
              · exact LO1.out i h
              · have := LW1.out; omega
            · rcases HTN2.out i hi with h | h
              · exact LO2.out i h
              · have := LW2.out; omega)
          have HU5 := Lib.hid (HU2.out.chg HCW2.out (fun hm => by have := LO2.out gu hm; have := HS3.out; omega))
          have HF5 := Lib.hid (show Fnr wd A n c l from { HF2.out with src := cp_away HF2.out.src HCW2.out (fun ad e hm => by have h1 := HAB.out ad e; have h2 := LO2.out _ hm; have h3 := HS3.out; omega) })
          have HCd := Lib.hid (show Chg [] w wd from HCb.out.then_ HCW2.out (fun i hi hl => by have h1 := LO2.out i hi; have h2 := HS3.out; have h3 := HCB.out; omega))
          have hql := eDo_qn HDO.out
          simp only [List.length_nil] at hql
          have HQL := Lib.hid (show s1.qs.length ≤ 1000000 by omega)
          clear hql
          go_upto_region 11 with fail
          go_cut [112] (fun v wx => v = .bool false ∧ Hid (Chg [] wd wx))
          case first =>
            refine wp_flow (by kernel_rfl) plainT plainT_ok (by kernel_rfl) ?_
            refine flow_move_out plainT_ok rfl rfl rfl ?_
            refine flow2 (r := .bool false) plainT_ok rfl (.inn rfl) (.const _) rfl (fun ev W he e1 e2 => by go_simp) ?_
            refine flow_move plainT_ok rfl (keeps_isV _) (.inr (keeps_isV _)) rfl ?_
            refine flow_move_out plainT_ok rfl rfl rfl ?_
            refine flow2 (r := .bool false) plainT_ok rfl (.inn rfl) (.const _) rfl (fun ev W he e1 e2 => by go_simp) ?_
            refine flow_or_false plainT_ok rfl rfl rfl ?_
            refine flow_move plainT_ok rfl (keeps_isV _) (.inr (keeps_isV _)) rfl ?_
            refine flow1h (r := .agg #[.int .i64 val, .int .i64 tr, .int .i64 (s1.fuel : Int), u1]) plainT_ok rfl (.out rfl rfl) rfl (fun ev W he hW e1 => by have hx := HX12.out.keep ((Chg.refl [] wd).drew.new hW); have x0 := hx.cell 0; have x1 := hx.cell 1; have x2 := hx.cell 2; have x3 := hx.cell 3; clear hx hW; go_simp) ?_
            refine flow1h (r := .agg #[.int .i64 val, .int .i64 tr, .int .i64 (s1.fuel : Int), u2]) plainT_ok rfl (.out rfl rfl) rfl (fun ev W he hW e1 => by have hx := HX2.out.keep ((Chg.refl [] wd).drew.new hW); have x0 := hx.cell 0; have x1 := hx.cell 1; have x2 := hx.cell 2; have x3 := hx.cell 3; clear hx hW; go_simp) ?_
            refine flow_callv (.bool true) (by kernel_rfl) rfl (.cons (.inn rfl) (.cons (.inn rfl) .nil)) (fun W hW => (eresults_any (HQ12.out.keep ((Chg.refl [] wd).drew.new hW)) (HQ2.out.keep ((Chg.refl [] wd).drew.new hW)) HQL.out).mono ?_) ?_
            · rintro e w' ⟨rfl, hc⟩; exact ⟨rfl, hc⟩
            refine flow1 (r := .bool false) plainT_ok rfl (.inn rfl) rfl (fun ev W he e1 => by go_simp) ?_
            refine flow_or_false plainT_ok rfl rfl rfl ?_
            refine flow_move plainT_ok rfl (keeps_isV _) (.inr (keeps_isV _)) rfl ?_
            refine flow_move_out plainT_ok rfl rfl rfl ?_
            refine flow_calld (ownF 0 5 (bts s1.L)) (keeps_own _ _ _) (.inr (keeps_own _ _ _)) (by kernel_rfl) rfl (.cons (.inn rfl) .nil) (fun W hW => ?_) ?_
            · obtain ⟨X, Y, hM⟩ := HMA2.out
              rw [HNN1.out] at hM
              refine (mbytes_any (hM.keep ((Chg.refl [] wd).drew.new hW))).mono ?_
              rintro e w' ⟨v, rfl, ho, hc⟩
              exact ⟨v, rfl, hc, by unfold ownF; rw [bts_len]; exact own_more ho (Nat.zero_le _)⟩
            refine flow_str plainT_ok rfl Try.underlying46 Try.underlying5 Try.underlying9 rfl ?_
            refine flow_move_out plainT_ok rfl rfl rfl ?_
            refine flow_calld (ownF 0 5 (bts s1.L)) (keeps_own _ _ _) (.inr (keeps_own _ _ _)) (by kernel_rfl) rfl (.cons (.inn rfl) .nil) (fun W hW => ?_) ?_
            · obtain ⟨X, Y, hM⟩ := HMN2.out
              rw [HNN2.out] at hM
              refine (mbytes_any (hM.keep ((Chg.refl [] wd).drew.new hW))).mono ?_
              rintro e w' ⟨v, rfl, ho, hc⟩
              exact ⟨v, rfl, hc, by unfold ownF; rw [bts_len]; exact own_more ho (Nat.zero_le _)⟩
            refine flow_str plainT_ok rfl Try.underlying46 Try.underlying5 Try.underlying9 rfl ?_
            refine flow2 (r := .bool false) plainT_ok rfl (.inn rfl) (.inn rfl) rfl (fun ev W he e1 e2 => by go_simp) ?_
            refine flow_or_false plainT_ok rfl rfl rfl ?_
            intro vs W hW hF
            have e112 : vs 112 = .bool false := hF 112 _ rfl rfl
            have hcf : Chg [] wd W := (Chg.refl [] wd).drew.new hW
            simp only [putAll, Act.put, List.setIfInBounds_toArray, List.set_cons_zero, List.set_cons_succ]
            rw [e112]
            go_wp2_with fail
            go_meet
            exact ⟨rfl, Lib.hid hcf⟩
          case rest =>
            obtain ⟨rfl, hwc⟩ := hcut
            go_wp2_with fail
            go_roundw
            case rel => exact ⟨k + 1, s1.L, s1.V, nan, nbn, by go_num, by omega, by omega, HNN1.out, HNN2.out, Lib.hid ⟨HMA2.out.keep hwc.out, HMN2.out.keep hwc.out, HMC3.out.keep hwc.out⟩, HDJ2, HLO2, Lib.hid (HU5.out.keep hwc.out), Lib.hid (HF5.out.keep hwc.out), Lib.hid (Nat.le_trans LW2.out (Nat.le_trans HCW2.out.size hwc.out.size)), Lib.hid (HCd.out.new hwc.out)⟩
            case measure => simp [intOf]; omega
      · have hcase : (¬ (k : Int) < (m2 : Int)) ∨ ((k : Int) < (m2 : Int) ∧ ¬ (k : Int) < 8) := by omega
        have hmul : IntKind.i64.wrap ((pg : Int) * 64) = ((pg * 64 : Nat) : Int) := by rw [IntKind.wrap_i64]; have := HPM.out; omega
        have htru : trues (falses pg) (falses pg).length = [] := trues_falses pg _
        have HTR := Lib.hid htru
        clear htru
        rcases hcase with hkI | ⟨hkI, hkI2⟩
        all_goals
          go_upto_region 13 with fail
          refine wp_flow (by kernel_rfl) plainT plainT_ok (by kernel_rfl) ?_
          refine flow_move_out plainT_ok rfl rfl rfl ?_
          refine flow_calld (ownF 0 5 (bts (zeros (pg * 64)))) (keeps_own _ _ _) (.inr (keeps_own _ _ _)) (by kernel_rfl) rfl (.cons (.inn rfl) .nil) (fun W hW => ?_) ?_
          · obtain ⟨X, Y, hM⟩ := HMM.out.2.2
            refine (mbytes_any (hM.keep ((Chg.refl [] wr).drew.new hW))).mono ?_
            rintro e w' ⟨v, rfl, ho, hc⟩
            exact ⟨v, rfl, hc, by unfold ownF; rw [bts_len]; exact own_more ho (Nat.zero_le _)⟩
          refine flow_str plainT_ok rfl Try.underlying46 Try.underlying5 Try.underlying9 rfl ?_
          refine flow1 (r := .pointer (some ⟨gu, 0, none⟩)) plainT_ok rfl (.out rfl rfl) rfl (fun ev W he e1 => by go_simp) ?_
          refine flow1h (r := .int .i64 (pg : Int)) plainT_ok rfl (.inn rfl) rfl (fun ev W he hW e1 => by have u0 := (HUr.out.keep ((Chg.refl [] wr).drew.new hW)).cell 0; clear hW; go_simp) ?_
          refine flow2 (r := .int .i64 ((pg * 64 : Nat) : Int)) plainT_ok rfl (.inn rfl) (.const _) rfl (fun ev W he e1 e2 => by go_simp) ?_
          refine flow_op (ownF 0 5 (bts (zeros (pg * 64)))) (keeps_own _ _ _) (.inr (keeps_own _ _ _)) rfl (fun ev W he hW hf => ?_) ?_
          · have f0 : ev (.tmp 118) = .int .i64 ((pg * 64 : Nat) : Int) := hf.1
            have hpz : pg * 64 ≤ 1000000 := by have := HPM.out; omega
            generalize hz : pg * 64 = z at f0 hpz ⊢
            have hmk := make_u8 z hpz W
            have hnew : ownF 0 5 (bts (zeros z)) (.slice (some ⟨W.heap.size, 0, none⟩) z z) (W.alloc (.cells (bts (zeros z)).toArray 5)) := by
              have := own_of_whole (B := 0) (n := z) (c := z) (Whole.new W 5 (bts (zeros z))) (Nat.zero_le _) (by rw [bts_len, zeros_len]) (Nat.le_refl _) (by unfold maxLen; omega)
              unfold ownF
              rw [bts_len, zeros_len]
              rwa [List.take_of_length_le (by rw [bts_len, zeros_len]; exact Nat.le_refl _)] at this
            have hch : plainT.by_ 6 W (W.alloc (.cells (bts (zeros z)).toArray 5)) := by rw [plain_by]; exact (Chg.refl [] W).alloc _
            clear hf hW hz
            go_simp
            exact ⟨hch, hnew⟩
          refine flow_str plainT_ok rfl Try.underlying46 Try.underlying5 Try.underlying9 rfl ?_
          refine flow_eql plainT_ok (.inn rfl) (.inn rfl) (fun ev W he e1 e2 => by go_simp) rfl ?_
          refine flow_move plainT_ok rfl (keeps_isV _) (.inr (keeps_isV _)) rfl ?_
          refine flow_move_out plainT_ok rfl rfl rfl ?_
          refine flow_calld zeroF (fun _ _ _ h _ => h) (.inr (fun _ _ _ h _ => h)) (by kernel_rfl) rfl (.cons (.inn rfl) .nil) (fun W hW => ?_) ?_
          · obtain ⟨X, Y, hM⟩ := HMM.out.2.2
            refine (mdirty_any (hM.keep ((Chg.refl [] wr).drew.new hW))).mono ?_
            rintro e w' ⟨v, rfl, ho, hc⟩
            rw [HTR.out] at ho
            obtain ⟨A3, c3, rfl, _⟩ := own_slice ho
            exact ⟨_, rfl, hc, A3, c3, rfl⟩
          refine flow_op (isV (.int .i64 0)) (keeps_isV _) (.inr (keeps_isV _)) rfl (fun ev W he hW hf => ?_) ?_
          · obtain ⟨A3, c3, e3⟩ : zeroF (ev (.tmp 124)) W := hf.1
            have hch : plainT.by_ 12 W W := by rw [plain_by]; exact Chg.refl _ _
            clear hf hW
            go_simp
            exact ⟨hch, rfl⟩
          refine flow2 (r := .bool true) plainT_ok rfl (.inn rfl) (.const _) rfl (fun ev W he e1 e2 => by go_simp) ?_
          refine flow_and plainT_ok rfl rfl rfl ?_
          refine flow_move plainT_ok rfl (keeps_isV _) (.inr (keeps_isV _)) rfl ?_
          refine flow_callv (.bool true) (by kernel_rfl) rfl .nil (fun W hW => eknown_any.mono ?_) ?_
          · rintro e w' ⟨rfl, hc⟩; exact ⟨rfl, hc⟩
          refine flow_and plainT_ok rfl rfl rfl ?_
          refine flow_assign plainT_ok rfl (keeps_isV _) (.inr (keeps_isV _)) rfl ?_
          intro vs W hW hF
          have e4 : vs 4 = .bool true := hF 4 _ rfl rfl
          have HP := Lib.hid (show LawPost w (.returned (.bool true)) W from ⟨rfl, HCr.out.new ((Chg.refl [] wr).drew.new hW)⟩)
          simp only [putAll, Act.put, List.setIfInBounds_toArray, List.set_cons_zero, List.set_cons_succ]
          rw [e4]
          clear hF hW
          go_wp2_with fail
          go_ret
          exact HP.out
end
end Go.Proofs.Ytfhgnoajfipjdaa
