/-
  EA: TopEnds, EgFlow, EgKnown, TopRun, TopAwake.
-/
import Derived.Test.YtfhgnoajfipjdaaZEA4
import Derived.Test.YtfhgnoajfipjdaaZEA9
import Derived.Test.YtfhgnoajfipjdaaZEA27
import Derived.Test.YtfhgnoajfipjdaaZEA35
import Derived.Test.YtfhgnoajfipjdaaZEA36
import Derived.BigQuiet
import Derived.Deep.QuietTactic
namespace Go.Proofs.Ytfhgnoajfipjdaa
open Go.RowKit
def oneF (code : ByteArray) : List FnV := [⟨102, 2, code⟩]
def OnePost (w : World) (code : ByteArray) (e : Ending) (w' : World) : Prop := ∃ g, e = .returned (.agg #[.int .i64 1, .int .i64 8, .slice (some ⟨g, 0, none⟩) 1 1]) ∧ w.heap.size ≤ g ∧ Whole w' g 51 (fnCs (oneF code)) ∧ Chg [] w w'
/-- What a code of one function says. -/
def EndsAs (code : ByteArray) (a b val trap : Int) : Prop := RightU 1 8 (oneF code) ∧ ∃ s', eDo (oneF code) [] 8 0 100000 [a, b] (List.replicate 64 0) [false] [] = some (val, trap, s')
def EndsPost (w : World) (val trap : Int) (e : Ending) (w' : World) : Prop := e = .returned (.tuple #[.int .i64 val, .int .i64 trap, .bool true]) ∧ Chg [] w w'
section
variable {w : World}
set_option maxHeartbeats 4000000 in
set_option maxRecDepth 100000 in
theorem tone_any (code : ByteArray) : Calls Try.prog 155 #[.string code] w (OnePost w code) := by
  have h1 : Whole (w.alloc (.cells #[.int .i64 1, .int .i64 8, .slice (some ⟨w.heap.size + 1, 0, none⟩) 1 1] 28)) w.heap.size 28 [.int .i64 1, .int .i64 8, .slice (some ⟨w.heap.size + 1, 0, none⟩) 1 1] := Whole.new w _ _
  have hal : Chg [] w (w.alloc (.cells #[.int .i64 1, .int .i64 8, .slice (some ⟨w.heap.size + 1, 0, none⟩) 1 1] 28)) := (Chg.refl [] w).alloc _
  have hsz : (w.alloc (.cells #[.int .i64 1, .int .i64 8, .slice (some ⟨w.heap.size + 1, 0, none⟩) 1 1] 28)).heap.size = w.heap.size + 1 := Array.size_push _
  have h2 := Whole.new (w.alloc (.cells #[.int .i64 1, .int .i64 8, .slice (some ⟨w.heap.size + 1, 0, none⟩) 1 1] 28)) 51 [.int .i32 102, .int .i64 2, .string code]
  rw [hsz] at h2
  have hal2 := (Chg.refl [] (w.alloc (.cells #[.int .i64 1, .int .i64 8, .slice (some ⟨w.heap.size + 1, 0, none⟩) 1 1] 28))).alloc (.cells #[.int .i32 102, .int .i64 2, .string code] 51)
  have h3 := h1.keep hal2
  have HP := Lib.hid (show OnePost w code (.returned (.agg #[.int .i64 1, .int .i64 8, .slice (some ⟨w.heap.size + 1, 0, none⟩) 1 1])) ((w.alloc (.cells #[.int .i64 1, .int .i64 8, .slice (some ⟨w.heap.size + 1, 0, none⟩) 1 1] 28)).alloc (.cells #[.int .i32 102, .int .i64 2, .string code] 51)) from ⟨_, rfl, by omega, h2, hal.new hal2⟩)
  have e0 := h3.cell 0
  have e1 := h3.cell 1
  have e2 := h3.cell 2
  clear h1 h2 h3 hal hal2 hsz
  go_enter Try.func155, Try.ntmps155
  go_wp2_with fail
  generalize (w.alloc (.cells #[.int .i64 1, .int .i64 8, .slice (some ⟨w.heap.size + 1, 0, none⟩) 1 1] 28)).alloc (.cells #[.int .i32 102, .int .i64 2, .string code] 51) = wf at HP e0 e1 e2 ⊢
  simp only [List.getElem?_cons_zero, List.getElem?_cons_succ] at e0 e1 e2
  refine bodyPost_ret (v := .agg #[.int .i64 1, .int .i64 8, .slice (some ⟨w.heap.size + 1, 0, none⟩) 1 1]) (by simp [results, Try.results155, go_sem, e0, e1, e2]) rfl HP.out
set_option maxHeartbeats 8000000 in
set_option maxRecDepth 100000 in
theorem ends_any {code : ByteArray} {a b val trap : Int} (h : EndsAs code a b val trap) : Calls Try.prog 104 #[.string code, .int .i64 a, .int .i64 b] w (EndsPost w val trap) := by
  obtain ⟨hU, s', hdo⟩ := h
  have HU := Lib.hid hU
  have HDO := Lib.hid hdo
  clear hU hdo
  go_enter Try.func104, Try.ntmps104
  go_wp2_with fail
  refine (tone_any code).mono ?_
  rintro e w1 ⟨g, rfl, hg, hW, hc1⟩
  have HW := Lib.hid hW
  have HG := Lib.hid hg
  have HC1 := Lib.hid hc1
  clear hg hW hc1
  go_wp2_with fail
  refine (cnew_yes 1 8 (by omega) (by omega)).mono ?_
  rintro e w2 ⟨p, gC, gD, rfl, hM, hp, hgC, hgD, hc2⟩
  have HM := Lib.hid hM
  have HPB := Lib.hid (And.intro hp (And.intro hgC hgD))
  have HC2 := Lib.hid hc2
  clear hM hp hgC hgD hc2
  go_wp2_with fail
  refine (rnew_any (vs := []) (rs := []) Nums.nil (fun h => absurd h (by simp)) (fun ad h => by cases h) rfl (Nat.le_refl 0) 0 rfl).mono ?_
  rintro e w3 ⟨rp, av, rfl, hR, hrp, hc3⟩
  have HR := Lib.hid hR
  have HRP := Lib.hid hrp
  have HC3 := Lib.hid hc3
  clear hR hrp hc3
  go_wp2_with fail
  have hal : Chg [] w3 (w3.alloc (.cells #[.int .i64 a, .int .i64 b] 2)) := (Chg.refl [] w3).alloc _
  have hc14 := (HC2.out.new HC3.out).new hal
  have hW4 := HW.out.keep hc14
  have hM4 := HM.out.keep (HC3.out.new hal)
  have hR4 := HR.out.keep hal
  have hglt := HW.out.lt
  have hF : Fnr (w3.alloc (.cells #[.int .i64 a, .int .i64 b] 2)) (some ⟨g, 0, none⟩) 1 1 (oneF code) := ⟨rfl, Src.of_all hW4, Nat.le_refl _, by omega, fun _ ad e => by injection e with e; subst e; rfl, fun f hf => by simp only [oneF, List.mem_singleton] at hf; subst hf; exact ⟨by show (-9223372036854775808 : Int) ≤ 2; decide, by show (2 : Int) ≤ 9223372036854775807; decide⟩⟩
  have hRun := engrun_any (T := [p, gC, gD, rp]) (args := [a, b]) (k := 0) (fuel := 100000) (m2 := 2) (c2 := 2) (A2 := some ⟨w3.heap.size, 0, none⟩) (name := 102) (f := ⟨102, 2, code⟩) hM4 hR4 hF HU.out (by simp) (by simp) (by simp) (by simp) (fun i hi => by simp [Value.ownBlock] at hi)
    (fun ad e => by
      injection e with e
      subst e
      refine ⟨hW4.lt, fun hm => ?_⟩
      have h1 := HPB.out
      have h2 := HRP.out
      have h3 := HC2.out.size
      simp only [List.mem_cons, List.not_mem_nil, or_false] at hm
      omega) rfl rfl rfl (by omega) (by simp) rfl (Src.of_all (Whole.new w3 2 [.int .i64 a, .int .i64 b])) HDO.out
  have HRUN := Lib.hid hRun
  have HCW := Lib.hid (show Chg [] w w3 from (HC1.out.new HC2.out).new HC3.out)
  have HALC := Lib.hid hal
  have HTW := Lib.hid (show ∀ i ∈ [p, gC, gD, rp], w.heap.size ≤ i from fun i hi => by
    have h1 := HPB.out
    have h2 := HRP.out
    have h3 := HC2.out.size
    have h4 := HC1.out.size
    simp only [List.mem_cons, List.not_mem_nil, or_false] at hi
    omega)
  clear hal hc14 hW4 hM4 hR4 hF hRun hglt
  unfold unitV at HRUN
  refine HRUN.out.mono ?_
  rintro e w5 ⟨v5, rfl, ⟨Av, cv, rfl, _⟩, _, _, hc5⟩
  generalize (List.drop ([] : List (Int × Int)).length s'.qs).length = m5
  generalize (s'.fuel : Int) = fu5
  have HC5 := Lib.hid (show Chg [] w w5 from (HCW.out.new HALC.out).then_ hc5 (fun i hi hl => by have := HTW.out i hi; omega))
  clear hc5
  go_upto_region 2 with fail
  have hX := Whole.new w5 34 [.int .i64 val, .int .i64 trap, .int .i64 fu5, .slice Av m5 cv]
  have hal := (Chg.refl [] w5).alloc (.cells #[.int .i64 val, .int .i64 trap, .int .i64 fu5, .slice Av m5 cv] 34)
  have HC6 := Lib.hid (HC5.out.new hal)
  generalize w5.heap.size = g5 at hX ⊢
  generalize w5.alloc (.cells #[.int .i64 val, .int .i64 trap, .int .i64 fu5, .slice Av m5 cv] 34) = w6 at hX HC6 ⊢
  have x0 := hX.cell 0
  have x1 := hX.cell 1
  clear hX hal
  go_quiet (fail)
  have HP := Lib.hid (show EndsPost w val trap (.returned (.tuple #[.int .i64 val, .int .i64 trap, .bool true])) (w6.drewN nq) from ⟨rfl, HC6.out.new ((Chg.refl [] w6).drewN nq)⟩)
  go_wp2_with fail
  go_ret3
  exact HP.out
def SaysPost (w : World) (val : Int) (e : Ending) (w' : World) : Prop := e = .returned (.tuple #[.int .i64 val, .bool true]) ∧ Chg [] w w'
set_option maxHeartbeats 4000000 in
set_option maxRecDepth 100000 in
theorem says_any {code : ByteArray} {a b val : Int} (h : EndsAs code a b val 0) : Calls Try.prog 63 #[.string code, .int .i64 a, .int .i64 b] w (SaysPost w val) := by
  go_enter Try.func63, Try.ntmps63
  go_wp2_with fail
  refine (ends_any h).mono ?_
  rintro e w1 ⟨rfl, hc1⟩
  have HP := Lib.hid (show SaysPost w val (.returned (.tuple #[.int .i64 val, .bool true])) w1 from ⟨rfl, hc1⟩)
  clear hc1 h
  go_wp2_with fail
  go_ret2
  exact HP.out
end
end Go.Proofs.Ytfhgnoajfipjdaa
namespace Go.Proofs.Ytfhgnoajfipjdaa
open Go.RowKit
open Go.Proofs.Ytfhgnoajfipjdaa (Fact)
def egTS : List TypeId := [109, 5, 4, 112]
/-- Only blocks that K holds of have turned, of the types of a run, and results; a result's variable stays one, and keeps what it has come to. -/
structure HR (K : Nat → Prop) (P : List Value → Prop) (a b : World) : Prop where
  fe : Fe K (34 :: egTS) a b
  res : ∀ g cs, Whole a g 34 cs → cs.length = 4 → ∃ cs', Whole b g 34 cs' ∧ cs'.length = 4 ∧ (P cs → P cs')
/-- .. of results alone. -/
structure RR (K : Nat → Prop) (P : List Value → Prop) (a b : World) : Prop where
  fe : Fe K [34] a b
  res : ∀ g cs, Whole a g 34 cs → cs.length = 4 → ∃ cs', Whole b g 34 cs' ∧ cs'.length = 4 ∧ (P cs → P cs')
section
variable {K : Nat → Prop} {P : List Value → Prop} {a b c : World}
theorem RR.of_chg (h : Chg [] a b) : RR K P a b := ⟨Fe.of_chg h, fun _ cs hW hl => ⟨cs, hW.keep h, hl, id⟩⟩
theorem RR.refl (a : World) : RR K P a a := RR.of_chg (Chg.refl _ _)
theorem RR.trans (h : RR K P a b) (k : RR K P b c) : RR K P a c := ⟨h.fe.trans k.fe, fun g cs hW hl => by
  obtain ⟨c1, h1, h2, h3⟩ := h.res g cs hW hl
  obtain ⟨c2, k1, k2, k3⟩ := k.res g c1 h1 h2
  exact ⟨c2, k1, k2, fun hp => k3 (h3 hp)⟩⟩
theorem RR.star (h : Star (RR K P) a b) : RR K P a b := h.fold RR.refl fun _ _ _ h k => h.trans k
theorem HR.of_chg (h : Chg [] a b) : HR K P a b := ⟨Fe.of_chg h, fun _ cs hW hl => ⟨cs, hW.keep h, hl, id⟩⟩
theorem HR.refl (a : World) : HR K P a a := HR.of_chg (Chg.refl _ _)
theorem HR.trans (h : HR K P a b) (k : HR K P b c) : HR K P a c := ⟨h.fe.trans k.fe, fun g cs hW hl => by
  obtain ⟨c1, h1, h2, h3⟩ := h.res g cs hW hl
  obtain ⟨c2, k1, k2, k3⟩ := k.res g c1 h1 h2
  exact ⟨c2, k1, k2, fun hp => k3 (h3 hp)⟩⟩
end
def rowEF (B : Nat) (rs : List (Option Int)) : Fact := fun v W => ∃ rp a, v = .pointer (some ⟨rp, 0, none⟩) ∧ Rq W rp rs [] a (.slice none 0 0) ∧ B ≤ rp
def argsF (B : Nat) (n : Nat) (xs : List Int) : Fact := fun v W => ∃ g, v = .slice (some ⟨g, 0, none⟩) n n ∧ Whole W g 2 (nms xs) ∧ B ≤ g
def varF (B : Nat) : Fact := fun v W => ∃ g cs, v = .pointer (some ⟨g, 0, none⟩) ∧ B ≤ g ∧ Whole W g 34 cs ∧ cs.length = 4
/-- A unit that was written out. -/
theorem unit_laid (w : World) (l : List FnV) (pages most : Int) (n : Nat) (hl : l.length = n) (hn : n ≤ 32) (ha : ∀ f ∈ l, -9223372036854775808 ≤ f.args ∧ f.args ≤ 9223372036854775807) {W : World} (cs : Array Value) (hcs : (fnCs l).toArray = cs)
    (hW : (w.alloc (.cells cs 51)).alloc (.cells #[.int .i64 pages, .int .i64 most, .slice (some ⟨w.heap.size, 0, none⟩) n n] 28) = W) :
    Whole W (w.heap.size + 1) 28 [.int .i64 pages, .int .i64 most, .slice (some ⟨w.heap.size, 0, none⟩) n n] ∧ Fnr W (some ⟨w.heap.size, 0, none⟩) n n l ∧ Chg [] w W ∧ W.heap.size = w.heap.size + 2 := by
  subst hW hcs
  have h1 : Whole (w.alloc (.cells (fnCs l).toArray 51)) w.heap.size 51 (fnCs l) := Whole.new w _ _
  have hs1 : (w.alloc (.cells (fnCs l).toArray 51)).heap.size = w.heap.size + 1 := Array.size_push _
  have h2 := Whole.new (w.alloc (.cells (fnCs l).toArray 51)) 28 [.int .i64 pages, .int .i64 most, .slice (some ⟨w.heap.size, 0, none⟩) n n]
  have hal := (Chg.refl [] (w.alloc (.cells (fnCs l).toArray 51))).alloc (.cells #[.int .i64 pages, .int .i64 most, .slice (some ⟨w.heap.size, 0, none⟩) n n] 28)
  rw [hs1] at h2
  refine ⟨h2, ⟨hl, Src.of_all (h1.keep hal), Nat.le_refl _, by omega, fun _ ad e => by injection e with e; subst e; rfl, ha⟩, ((Chg.refl [] w).alloc _).new hal, ?_⟩
  show (Array.push _ _).size = _
  rw [Array.size_push, hs1]
end Go.Proofs.Ytfhgnoajfipjdaa
namespace Go.Proofs.Ytfhgnoajfipjdaa
open Go.RowKit
theorem right_ku {code : ByteArray} (hok : (rFn (oneU code) 0).1 = 0) (hsz : code.size ≤ 1000000) : RightU 1 2 (oneU code) := by
  refine ⟨by decide, by decide, by decide, by simp [oneU], fun k f hf => ?_, fun k hk => ?_, fun f hf => ?_⟩
  · cases k with
    | zero => simp only [oneU, List.getElem?_cons_zero, Option.some.injEq] at hf; subst hf; exact ⟨by show nameB 102 = true; decide, by simp [findI, findK, oneU], by show (0 : Int) ≤ 1; decide, by show (1 : Int) ≤ 4; decide⟩
    | succ k => simp [oneU] at hf
  · obtain rfl : k = 0 := by simp [oneU] at hk; omega
    exact hok
  · simp only [oneU, List.mem_singleton] at hf
    subst hf
    exact hsz
def KOnePost (w : World) (code : ByteArray) (e : Ending) (w' : World) : Prop := ∃ g, e = .returned (.agg #[.int .i64 1, .int .i64 2, .slice (some ⟨g, 0, none⟩) 1 1]) ∧ w.heap.size ≤ g ∧ Whole w' g 51 (fnCs (oneU code)) ∧ Chg [] w w'
def KRunPost (w : World) (val trap fuel : Int) (e : Ending) (w' : World) : Prop := ∃ A m c, e = .returned (.tuple #[.agg #[.int .i64 val, .int .i64 trap, .int .i64 fuel, .slice A m c], .int .i64 0]) ∧ Chg [] w w'
section
variable {w : World}
set_option maxHeartbeats 4000000 in
set_option maxRecDepth 100000 in
theorem kone_any (code : ByteArray) : Calls Try.prog 58 #[.string code] w (KOnePost w code) := by
  have h1 : Whole (w.alloc (.cells #[.int .i64 1, .int .i64 2, .slice (some ⟨w.heap.size + 1, 0, none⟩) 1 1] 28)) w.heap.size 28 [.int .i64 1, .int .i64 2, .slice (some ⟨w.heap.size + 1, 0, none⟩) 1 1] := Whole.new w _ _
  have hal : Chg [] w (w.alloc (.cells #[.int .i64 1, .int .i64 2, .slice (some ⟨w.heap.size + 1, 0, none⟩) 1 1] 28)) := (Chg.refl [] w).alloc _
  have hsz : (w.alloc (.cells #[.int .i64 1, .int .i64 2, .slice (some ⟨w.heap.size + 1, 0, none⟩) 1 1] 28)).heap.size = w.heap.size + 1 := Array.size_push _
  have h2 := Whole.new (w.alloc (.cells #[.int .i64 1, .int .i64 2, .slice (some ⟨w.heap.size + 1, 0, none⟩) 1 1] 28)) 51 [.int .i32 102, .int .i64 1, .string code]
  rw [hsz] at h2
  have hal2 := (Chg.refl [] (w.alloc (.cells #[.int .i64 1, .int .i64 2, .slice (some ⟨w.heap.size + 1, 0, none⟩) 1 1] 28))).alloc (.cells #[.int .i32 102, .int .i64 1, .string code] 51)
  have h3 := h1.keep hal2
  have HP := Lib.hid (show KOnePost w code (.returned (.agg #[.int .i64 1, .int .i64 2, .slice (some ⟨w.heap.size + 1, 0, none⟩) 1 1])) ((w.alloc (.cells #[.int .i64 1, .int .i64 2, .slice (some ⟨w.heap.size + 1, 0, none⟩) 1 1] 28)).alloc (.cells #[.int .i32 102, .int .i64 1, .string code] 51)) from ⟨_, rfl, by omega, h2, hal.new hal2⟩)
  have e0 := h3.cell 0
  have e1 := h3.cell 1
  have e2 := h3.cell 2
  clear h1 h2 h3 hal hal2 hsz
  go_enter Try.func58, Try.ntmps58
  go_wp2_with fail
  generalize (w.alloc (.cells #[.int .i64 1, .int .i64 2, .slice (some ⟨w.heap.size + 1, 0, none⟩) 1 1] 28)).alloc (.cells #[.int .i32 102, .int .i64 1, .string code] 51) = wf at HP e0 e1 e2 ⊢
  simp only [List.getElem?_cons_zero, List.getElem?_cons_succ] at e0 e1 e2
  refine bodyPost_ret (v := .agg #[.int .i64 1, .int .i64 2, .slice (some ⟨w.heap.size + 1, 0, none⟩) 1 1]) (by simp [results, Try.results58, go_sem, e0, e1, e2]) rfl HP.out
set_option maxHeartbeats 4000000 in
set_option maxRecDepth 100000 in
/-- A run with no memory. -/
theorem erun_nil {pages most : Int} {A : Option Addr} {n c rp m2 c2 : Nat} {A2 : Option Addr} (name fuel : Int) : Calls Try.prog 13 #[unitV pages most A n c, .pointer none, .pointer (some ⟨rp, 0, none⟩), .int .i32 name, .int .i64 fuel, .slice A2 m2 c2] w
    (fun e w' => e = .returned (.tuple #[.agg #[.int .i64 0, .int .i64 0, .int .i64 0, .slice none 0 0], .int .i64 1]) ∧ Chg [] w w') := by
  unfold unitV
  go_enter Try.func13, Try.ntmps13
  go_wp2_with fail
  have hs1 : (w.alloc (.cells #[.int .i64 pages, .int .i64 most, .slice A n c] 28)).heap.size = w.heap.size + 1 := Array.size_push _
  have hR := Whole.new (w.alloc (.cells #[.int .i64 pages, .int .i64 most, .slice A n c] 28)) 34 [.int .i64 0, .int .i64 0, .int .i64 0, .slice none 0 0]
  have hc : Chg [] w ((w.alloc (.cells #[.int .i64 pages, .int .i64 most, .slice A n c] 28)).alloc (.cells #[.int .i64 0, .int .i64 0, .int .i64 0, .slice none 0 0] 34)) := ((Chg.refl [] w).alloc _).alloc _
  rw [hs1] at hR
  generalize (w.alloc (.cells #[.int .i64 pages, .int .i64 most, .slice A n c] 28)).alloc (.cells #[.int .i64 0, .int .i64 0, .int .i64 0, .slice none 0 0] 34) = wf at hR hc ⊢
  have e0 := hR.cell 0
  have e1 := hR.cell 1
  have e2 := hR.cell 2
  have e3 := hR.cell 3
  simp only [List.getElem?_cons_zero, List.getElem?_cons_succ] at e0 e1 e2 e3
  refine bodyPost_ret (v := .tuple #[.agg #[.int .i64 0, .int .i64 0, .int .i64 0, .slice none 0 0], .int .i64 1]) (by simp [results, Try.results13, go_sem, e0, e1, e2, e3]) rfl ⟨rfl, hc⟩
set_option maxHeartbeats 8000000 in
set_option maxRecDepth 100000 in
theorem krun_any {code : ByteArray} {fuel : Nat} {val trap : Int} {s' : EgV} (hU : RightU 1 2 (oneU code)) (hfu : fuel ≤ 1048576) (hdo : eDo (oneU code) [] 2 0 fuel [5] (zeros 64) [false] [] = some (val, trap, s')) : Calls Try.prog 57 #[.string code, .int .i64 (fuel : Int)] w (KRunPost w val trap (s'.fuel : Int)) := by
  have HU := Lib.hid hU
  have HDO := Lib.hid hdo
  have HFU := Lib.hid hfu
  clear hU hdo hfu
  go_enter Try.func57, Try.ntmps57
  go_upto_region 1 with fail
  have hR0 := Whole.new w 34 [.int .i64 0, .int .i64 0, .int .i64 0, .slice none 0 0]
  have hc0 := (Chg.refl [] w).alloc (.cells #[.int .i64 0, .int .i64 0, .int .i64 0, .slice none 0 0] 34)
  obtain ⟨gr, hgr⟩ : ∃ g, g = w.heap.size := ⟨_, rfl⟩
  rw [← hgr] at hR0 ⊢
  generalize w.alloc (.cells #[.int .i64 0, .int .i64 0, .int .i64 0, .slice none 0 0] 34) = w0 at hR0 hc0 ⊢
  have HGR := Lib.hid (show w.heap.size ≤ gr by omega)
  have HR0 := Lib.hid hR0
  have HC0 := Lib.hid hc0
  clear hR0 hc0 hgr
  go_wp2_with fail
  refine (kone_any code).mono ?_
  rintro e w1 ⟨g, rfl, hg, hW, hc1⟩
  have HW := Lib.hid hW
  have HG := Lib.hid hg
  have HR1 := Lib.hid (HR0.out.keep hc1)
  have HC1 := Lib.hid (HC0.out.new hc1)
  clear hg hW hc1 HC0
  go_wp2_with fail
  refine (cnew_yes 1 2 (by omega) (by omega)).mono ?_
  rintro e w2 ⟨p, gC, gD, rfl, hM, hp, hgC, hgD, hc2⟩
  have HM := Lib.hid hM
  have HPB := Lib.hid (And.intro hp (And.intro hgC hgD))
  have HC2 := Lib.hid hc2
  clear hM hp hgC hgD hc2
  go_wp2_with fail
  refine (rnew_any (vs := []) (rs := []) Nums.nil (fun h => absurd h (by simp)) (fun ad h => by cases h) rfl (Nat.le_refl 0) 0 rfl).mono ?_
  rintro e w3 ⟨rp, av, rfl, hR, hrp, hc3⟩
  have HR := Lib.hid hR
  have HRP := Lib.hid hrp
  have HC3 := Lib.hid hc3
  clear hR hrp hc3
  go_wp2_with fail
  have hal : Chg [] w3 (w3.alloc (.cells #[.int .i64 5] 2)) := (Chg.refl [] w3).alloc _
  have hc14 := (HC2.out.new HC3.out).new hal
  have hW4 := HW.out.keep hc14
  have hM4 := HM.out.keep (HC3.out.new hal)
  have hR4 := HR.out.keep hal
  have hglt := HW.out.lt
  have hF : Fnr (w3.alloc (.cells #[.int .i64 5] 2)) (some ⟨g, 0, none⟩) 1 1 (oneU code) := ⟨rfl, Src.of_all hW4, Nat.le_refl _, by omega, fun _ ad e => by injection e with e; subst e; rfl, fun f hf => by simp only [oneU, List.mem_singleton] at hf; subst hf; exact ⟨by show (-9223372036854775808 : Int) ≤ 1; decide, by show (1 : Int) ≤ 9223372036854775807; decide⟩⟩
  have hRun := engrun_any (T := [p, gC, gD, rp]) (args := [5]) (k := 0) (fuel := fuel) (m2 := 1) (c2 := 1) (A2 := some ⟨w3.heap.size, 0, none⟩) (name := 102) (f := ⟨102, 1, code⟩) hM4 hR4 hF HU.out (by simp) (by simp) (by simp) (by simp) (fun i hi => by simp [Value.ownBlock] at hi)
    (fun ad e => by
      injection e with e
      subst e
      refine ⟨hW4.lt, fun hm => ?_⟩
      have h1 := HPB.out
      have h2 := HRP.out
      have h3 := HC2.out.size
      simp only [List.mem_cons, List.not_mem_nil, or_false] at hm
      omega) rfl rfl rfl HFU.out (by simp) rfl (Src.of_all (Whole.new w3 2 [.int .i64 5])) HDO.out
  have HRUN := Lib.hid hRun
  have HTW := Lib.hid (show gr ∉ [p, gC, gD, rp] ∧ ∀ i ∈ [p, gC, gD, rp], w.heap.size ≤ i by
    have h0 := HR1.out.lt
    have h1 := HPB.out
    have h2 := HRP.out
    have h3 := HC2.out.size
    have h4 := HC1.out.size
    refine ⟨by simp; omega, fun i hi => ?_⟩
    simp only [List.mem_cons, List.not_mem_nil, or_false] at hi
    omega)
  have HR4 := Lib.hid (HR1.out.keep hc14)
  have HC4 := Lib.hid (HC1.out.new hc14)
  clear hal hc14 hW4 hM4 hR4 hF hRun hglt
  unfold unitV at HRUN
  refine HRUN.out.mono ?_
  rintro e w5 ⟨v5, rfl, ⟨Av, cv, rfl, _⟩, _, _, hc5⟩
  generalize (List.drop ([] : List (Int × Int)).length s'.qs).length = m5
  have HC5 := Lib.hid (HC4.out.then_ hc5 (fun i hi hl => by have := HTW.out.2 i hi; omega))
  have hR5 := HR4.out.chg hc5 HTW.out.1
  have c0 := hR5.cell 0
  have c1 := hR5.cell 1
  have c2 := hR5.cell 2
  have c3 := hR5.cell 3
  have f0 := hR5.frozen 0
  have f1 := hR5.frozen 1
  have f2 := hR5.frozen 2
  have f3 := hR5.frozen 3
  have HR5 := Lib.hid hR5
  clear hc5 hR5
  go_wp2_with fail
  have hset : Whole ((((w5.setCell ⟨gr, 0, none⟩ (.int .i64 val)).setCell ⟨gr, 1, none⟩ (.int .i64 trap)).setCell ⟨gr, 2, none⟩ (.int .i64 (s'.fuel : Int))).setCell ⟨gr, 3, none⟩ (.slice Av m5 cv)) gr 34 [.int .i64 val, .int .i64 trap, .int .i64 (s'.fuel : Int), .slice Av m5 cv] := (((HR5.out.set_ 0 _).set_ 1 _).set_ 2 _).set_ 3 _
  have hno : ∀ i, (⟨gr, i, none⟩ : Addr).block < w.heap.size → (⟨gr, i, none⟩ : Addr).block ∈ ([] : List Nat) := fun i h => absurd h (by have := HGR.out; show ¬ gr < _; omega)
  have hcf : Chg [] w ((((w5.setCell ⟨gr, 0, none⟩ (.int .i64 val)).setCell ⟨gr, 1, none⟩ (.int .i64 trap)).setCell ⟨gr, 2, none⟩ (.int .i64 (s'.fuel : Int))).setCell ⟨gr, 3, none⟩ (.slice Av m5 cv)) := (((HC5.out.setCell (hno 0) _).setCell (hno 1) _).setCell (hno 2) _).setCell (hno 3) _
  generalize (((w5.setCell ⟨gr, 0, none⟩ (.int .i64 val)).setCell ⟨gr, 1, none⟩ (.int .i64 trap)).setCell ⟨gr, 2, none⟩ (.int .i64 (s'.fuel : Int))).setCell ⟨gr, 3, none⟩ (.slice Av m5 cv) = wf at hset hcf ⊢
  clear c0 c1 c2 c3 f0 f1 f2 f3
  have e0 := hset.cell 0
  have e1 := hset.cell 1
  have e2 := hset.cell 2
  have e3 := hset.cell 3
  simp only [List.getElem?_cons_zero, List.getElem?_cons_succ] at e0 e1 e2 e3
  refine bodyPost_ret (v := .tuple #[.agg #[.int .i64 val, .int .i64 trap, .int .i64 (s'.fuel : Int), .slice Av m5 cv], .int .i64 0]) (by simp [results, Try.results57, go_sem, e0, e1, e2, e3]) rfl ⟨Av, m5, cv, rfl, hcf⟩
theorem dig3_of {q : Option (Int × Int × EgV)} {v t : Int} {f : Nat} (h : dig3 q = some (v, t, f)) : ∃ s', q = some (v, t, s') ∧ s'.fuel = f := by
  cases q with
  | none => cases h
  | some q =>
    obtain ⟨x, y, s'⟩ := q
    simp only [dig3, Option.map_some, Option.some.injEq, Prod.mk.injEq] at h
    obtain ⟨rfl, rfl, rfl⟩ := h
    exact ⟨s', rfl, rfl⟩
theorem ka_ok : (rFn (oneU ⟨#[49, 32, 50, 43]⟩) 0).1 = 0 := by decide +kernel
theorem kb_ok : (rFn (oneU ⟨#[49]⟩) 0).1 = 0 := by decide +kernel
theorem kc_ok : (rFn (oneU ⟨#[97, 206, 187, 102]⟩) 0).1 = 0 := by decide +kernel
set_option maxHeartbeats 8000000 in
set_option maxRecDepth 100000 in
theorem eknown_any : Calls Try.prog 16 #[] w (LawPost w) := by
  obtain ⟨sa, ha, hfa⟩ := dig3_of known_a
  obtain ⟨sb, hb, hfb⟩ := dig3_of known_b
  obtain ⟨sc, hc⟩ : ∃ sc, eDo (oneU ⟨#[97, 206, 187, 102]⟩) [] 2 0 999 [5] (zeros 64) [false] [] = some (0, 6, sc) := by
    have h := known_c
    cases hq : eDo (oneU ⟨#[97, 206, 187, 102]⟩) [] 2 0 999 [5] (List.replicate 64 0) [false] [] with
    | none => rw [hq] at h; cases h
    | some q =>
      obtain ⟨x, y, s'⟩ := q
      rw [hq] at h
      simp only [dig3, Option.map_some, Option.some.injEq, Prod.mk.injEq] at h
      obtain ⟨rfl, rfl⟩ := h
      exact ⟨s', hq⟩
  have HA := Lib.hid (And.intro (right_ku ka_ok (by decide)) ha)
  have HB := Lib.hid (And.intro (right_ku kb_ok (by decide)) hb)
  have HCC := Lib.hid (And.intro (right_ku kc_ok (by decide)) hc)
  clear ha hb hc
  go_enter Try.func16, Try.ntmps16
  go_wp2_with fail
  refine (krun_any (fuel := 9) HA.out.1 (by decide) HA.out.2).mono ?_
  rintro e w1 ⟨A1, m1, c1, rfl, hc1⟩
  rw [hfa]
  have HC1 := Lib.hid hc1
  clear hc1
  go_upto_region 2 with fail
  have hX1 := Whole.new w1 34 [.int .i64 3, .int .i64 0, .int .i64 6, .slice A1 m1 c1]
  have hal1 := (Chg.refl [] w1).alloc (.cells #[.int .i64 3, .int .i64 0, .int .i64 6, .slice A1 m1 c1] 34)
  obtain ⟨g1, hg1⟩ : ∃ g, g = w1.heap.size := ⟨_, rfl⟩
  rw [← hg1] at hX1 ⊢
  generalize w1.alloc (.cells #[.int .i64 3, .int .i64 0, .int .i64 6, .slice A1 m1 c1] 34) = v1 at hX1 hal1 ⊢
  have HX1 := Lib.hid hX1
  have HD1 := Lib.hid (HC1.out.new hal1)
  clear hX1 hal1 hg1 HC1
  go_wp2_with fail
  refine (krun_any (fuel := 0) HB.out.1 (by decide) HB.out.2).mono ?_
  rintro e w2 ⟨A2, m2, c2, rfl, hc2⟩
  rw [hfb]
  have HX2 := Lib.hid (HX1.out.keep hc2)
  have HC2 := Lib.hid (HD1.out.new hc2)
  clear hc2 HX1 HD1
  go_upto_region 3 with fail
  have hX2 := Whole.new w2 34 [.int .i64 0, .int .i64 1, .int .i64 ((0 : Nat) : Int), .slice A2 m2 c2]
  have hal2 := (Chg.refl [] w2).alloc (.cells #[.int .i64 0, .int .i64 1, .int .i64 ((0 : Nat) : Int), .slice A2 m2 c2] 34)
  obtain ⟨g2, hg2⟩ : ∃ g, g = w2.heap.size := ⟨_, rfl⟩
  rw [← hg2] at hX2 ⊢
  generalize w2.alloc (.cells #[.int .i64 0, .int .i64 1, .int .i64 ((0 : Nat) : Int), .slice A2 m2 c2] 34) = v2 at hX2 hal2 ⊢
  have HX3 := Lib.hid (HX2.out.keep hal2)
  have HY3 := Lib.hid hX2
  have HD2 := Lib.hid (HC2.out.new hal2)
  clear hX2 hal2 hg2 HC2 HX2
  go_wp2_with fail
  refine (krun_any (fuel := 999) HCC.out.1 (by decide) HCC.out.2).mono ?_
  rintro e w3 ⟨A3, m3, c3, rfl, hc3⟩
  generalize (sc.fuel : Int) = fc
  have HX4 := Lib.hid (HX3.out.keep hc3)
  have HY4 := Lib.hid (HY3.out.keep hc3)
  have HC3 := Lib.hid (HD2.out.new hc3)
  clear hc3 HX3 HY3 HD2
  go_upto_region 4 with fail
  have hX3 := Whole.new w3 34 [.int .i64 0, .int .i64 6, .int .i64 fc, .slice A3 m3 c3]
  have hal3 := (Chg.refl [] w3).alloc (.cells #[.int .i64 0, .int .i64 6, .int .i64 fc, .slice A3 m3 c3] 34)
  obtain ⟨g3, hg3⟩ : ∃ g, g = w3.heap.size := ⟨_, rfl⟩
  rw [← hg3] at hX3 ⊢
  generalize w3.alloc (.cells #[.int .i64 0, .int .i64 6, .int .i64 fc, .slice A3 m3 c3] 34) = v3 at hX3 hal3 ⊢
  have HX5 := Lib.hid (HX4.out.keep hal3)
  have HY5 := Lib.hid (HY4.out.keep hal3)
  have HZ5 := Lib.hid hX3
  have HD3 := Lib.hid (HC3.out.new hal3)
  clear hX3 hal3 hg3 HC3 HX4 HY4
  go_wp2_with fail
  refine (kone_any ⟨#[49]⟩).mono ?_
  rintro e w4 ⟨g4, rfl, _, _, hc4⟩
  have HC4 := Lib.hid hc4
  clear hc4
  go_wp2_with fail
  refine (rnew_any (vs := []) (rs := []) Nums.nil (fun h => absurd h (by simp)) (fun ad h => by cases h) rfl (Nat.le_refl 0) 0 rfl).mono ?_
  rintro e w5 ⟨rp, av, rfl, _, _, hc5⟩
  have HC5 := Lib.hid hc5
  clear hc5
  go_wp2_with fail
  have hal4 := (Chg.refl [] w5).alloc (.cells #[.int .i64 0] 2)
  have hn := erun_nil (w := w5.alloc (.cells #[.int .i64 0] 2)) (pages := 1) (most := 2) (A := some ⟨g4, 0, none⟩) (n := 1) (c := 1) (rp := rp) (m2 := 1) (c2 := 1) (A2 := some ⟨w5.heap.size, 0, none⟩) 102 1
  unfold unitV at hn
  refine hn.mono ?_
  rintro e w6 ⟨rfl, hc6⟩
  have hc36 := ((HC4.out.new HC5.out).new hal4).new hc6
  have HX6 := Lib.hid (HX5.out.keep hc36)
  have HY6 := Lib.hid (HY5.out.keep hc36)
  have HZ6 := Lib.hid (HZ5.out.keep hc36)
  have HC6 := Lib.hid (HD3.out.new hc36)
  clear hn hc36 hc6 hal4 HX5 HY5 HZ5 HD3
  go_upto_region 5 with fail
  have hX6 := Whole.new w6 34 [.int .i64 0, .int .i64 0, .int .i64 0, .slice none 0 0]
  have hal7 := (Chg.refl [] w6).alloc (.cells #[.int .i64 0, .int .i64 0, .int .i64 0, .slice none 0 0] 34)
  obtain ⟨g6, hg6⟩ : ∃ g, g = w6.heap.size := ⟨_, rfl⟩
  rw [← hg6] at hX6 ⊢
  generalize w6.alloc (.cells #[.int .i64 0, .int .i64 0, .int .i64 0, .slice none 0 0] 34) = v6 at hX6 hal7 ⊢
  have x := HX6.out.keep hal7
  have y := HY6.out.keep hal7
  have z := HZ6.out.keep hal7
  have HP := Lib.hid (show LawPost w (.returned (.bool true)) v6 from ⟨rfl, HC6.out.new hal7⟩)
  have a0 := x.cell 0
  have a1 := x.cell 1
  have a2 := x.cell 2
  have b1 := y.cell 1
  have d1 := z.cell 1
  clear x y z hX6 hal7 hg6
  go_wp2_with fail
  go_ret
  exact HP.out
end
end Go.Proofs.Ytfhgnoajfipjdaa
namespace Go.Proofs.Ytfhgnoajfipjdaa
open Go.RowKit
/-- One call, with fuel, stack, place and the first locals. -/
def mk (f : Nat) (st : List Int) (pc : Nat) (loc : List Int) : EgV := ⟨f, st, [⟨0, pc, loc ++ List.replicate (26 - loc.length) 0⟩], List.replicate 64 0, [false], []⟩
theorem ends_of {code : ByteArray} {ts : List TkV} {go : List Int} (htok : tokR code = some ts) (hnest : (rNest (signs ts)).map (·.1) = some go) (hok : (rFn (oneF code) 0).1 = 0) (hsz : code.size ≤ 1000000) {a b val : Int} {s' : EgV} (hr : Rn (oneF code) [⟨2, ts, go⟩] [] 8 (mk 100000 [] 0 [a, b]) (0, s')) (hv : s'.st.getLast? = some val) : EndsAs code a b val 0 := by
  refine ⟨⟨by decide, by decide, by decide, by simp [oneF], fun k f hf => ?_, fun k hk => ?_, fun f hf => ?_⟩, ?_⟩
  · cases k with
    | zero => simp only [oneF, List.getElem?_cons_zero, Option.some.injEq] at hf; subst hf; exact ⟨by show nameB 102 = true; decide, by simp [findI, findK, oneF], by show (0 : Int) ≤ 2; decide, by show (2 : Int) ≤ 4; decide⟩
    | succ k => simp [oneF] at hf
  · obtain rfl : k = 0 := by simp [oneF] at hk; omega
    exact hok
  · simp only [oneF, List.mem_singleton] at hf
    subst hf
    exact hsz
  · refine ⟨⟨s'.fuel, s'.st.dropLast, s'.cs, s'.L, s'.V, s'.qs⟩, ?_⟩
    have hcd : (oneF code).map codeOf = [⟨2, ts, go⟩] := by
      show [codeOf ⟨102, 2, code⟩] = _
      unfold codeOf
      simp only
      rw [htok]
      simp only
      cases hn : rNest (signs ts) with
      | none => rw [hn] at hnest; cases hnest
      | some R => rw [hn] at hnest; simp only [Option.map_some, Option.some.injEq] at hnest; rw [← hnest]; rfl
    unfold eDo
    rw [hcd]
    rw [show eCall [(⟨2, ts, go⟩ : CodeV)] 0 ⟨100000, [a, b], [], List.replicate 64 0, [false], []⟩ = some (mk 100000 [] 0 [a, b]) from rfl]
    simp only
    rw [hr.run (2 * 100000 + 2) (by show 2 * 100000 + 1 < _; omega)]
    simp only [if_true]
    unfold EgV.pop
    rw [hv]
    rfl
end Go.Proofs.Ytfhgnoajfipjdaa
namespace Go.Proofs.Ytfhgnoajfipjdaa
open Go.RowKit
def awkC : ByteArray := ⟨#[49, 32, 50, 43]⟩
def awkT : List TkV := [⟨48, 1, 0⟩, ⟨48, 2, 0⟩, ⟨43, 0, 0⟩]
def awkG : List Int := [(-1), (-1), (-1)]
theorem awk_tok : tokR awkC = some awkT := by kernel_rfl
theorem awk_nest : (rNest (signs awkT)).map (·.1) = some awkG := by decide +kernel
theorem awk_ok : (rFn (oneF awkC) 0).1 = 0 := by decide +kernel
theorem awk_run : EndsAs awkC 0 0 3 0 := by
  refine ends_of (s' := ⟨99997, [3], [], List.replicate 64 0, [false], []⟩) awk_tok awk_nest awk_ok (by decide) ?_ (by rfl)
  refine Rn.on (s' := mk 99999 [1] 1 [0, 0]) (by kernel_rfl) ?_
  refine Rn.on (s' := mk 99998 [1, 2] 2 [0, 0]) (by kernel_rfl) ?_
  refine Rn.on (s' := mk 99997 [3] 3 [0, 0]) (by kernel_rfl) ?_
  refine Rn.on (s' := ⟨99997, [3], [], List.replicate 64 0, [false], []⟩) (by kernel_rfl) ?_
  exact Rn.stop (by kernel_rfl)
section
variable {w : World}
set_option maxHeartbeats 4000000 in
set_option maxRecDepth 100000 in
theorem awake_any : Calls Try.prog 23 #[] w (LawPost w) := by
  go_enter Try.func23, Try.ntmps23
  go_wp2_with fail
  refine (says_any awk_run).mono ?_
  rintro e w1 ⟨rfl, hc1⟩
  have HP := Lib.hid (show LawPost w (.returned (.bool true)) w1 from ⟨rfl, hc1⟩)
  clear hc1
  go_wp2_with fail
  go_ret
  exact HP.out
end
end Go.Proofs.Ytfhgnoajfipjdaa
