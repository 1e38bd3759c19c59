/-
  T: Sto16, Sto17, Sto18, StoSane.
-/
import Derived.Test.YtddjgncdjdjgeaaZT10
import Derived.Test.YtddjgncdjdjgeaaZT32
namespace Go.Proofs.Ytddjgncdjdjgeaa
open Go.RowKit
structure Eqn (s : St) : Prop where
  lenS : s.S.length = 64 * s.V.length
  lenL : s.L.length = s.S.length
theorem settle_S {s : St} (h : Eqn s) {k cut : Nat} (hk : k < s.V.length) (hc : cut ≤ 64) (j : Nat) : (s.settle k cut).S[j]? = if k * 64 + cut ≤ j ∧ j < (k + 1) * 64 then s.L[j]? else s.S[j]? := by
  have h1 := h.lenS
  have h2 := h.lenL
  have lx : ((s.L.drop (k * 64 + cut)).take (64 - cut)).length = 64 - cut := by rw [List.length_take, List.length_drop]; omega
  show (setS s.L s.S k cut)[j]? = _
  unfold setS
  rw [splice_get _ _ _ _ (by rw [lx]; omega), lx]
  by_cases hj : k * 64 + cut ≤ j ∧ j < (k + 1) * 64
  · rw [if_pos (by omega), if_pos hj, List.getElem?_take, if_pos (by omega), List.getElem?_drop]
    congr 1; omega
  · rw [if_neg (by omega), if_neg hj]
theorem settle_L {s : St} (h : Eqn s) {k cut : Nat} (hk : k < s.V.length) (hc : cut ≤ 64) (j : Nat) : (s.settle k cut).L[j]? = if k * 64 ≤ j ∧ j < k * 64 + cut then s.S[j]? else s.L[j]? := by
  have h1 := h.lenS
  have h2 := h.lenL
  have lx : ((s.S.drop (k * 64)).take cut).length = cut := by rw [List.length_take, List.length_drop]; omega
  show (setL s.L s.S k cut)[j]? = _
  unfold setL
  rw [splice_get _ _ _ _ (by rw [lx]; omega), lx]
  by_cases hj : k * 64 ≤ j ∧ j < k * 64 + cut
  · rw [if_pos hj, if_pos hj, List.getElem?_take, if_pos (by omega), List.getElem?_drop]
    congr 1; omega
  · rw [if_neg hj, if_neg hj]
theorem settle_V (s : St) (k cut : Nat) : (s.settle k cut).V.length = s.V.length := by simp [St.settle]
theorem Eqn.settle {s : St} (h : Eqn s) {k cut : Nat} (hk : k < s.V.length) (hc : cut ≤ 64) : Eqn (s.settle k cut) := by
  have h1 := h.lenS
  have h2 := h.lenL
  have lx : ((s.L.drop (k * 64 + cut)).take (64 - cut)).length = 64 - cut := by rw [List.length_take, List.length_drop]; omega
  have ly : ((s.S.drop (k * 64)).take cut).length = cut := by rw [List.length_take, List.length_drop]; omega
  have e1 : (s.settle k cut).S.length = s.S.length := splice_len _ _ _ (by rw [lx]; omega)
  have e2 : (s.settle k cut).L.length = s.L.length := splice_len _ _ _ (by rw [ly]; omega)
  exact ⟨by rw [e1, settle_V]; exact h1, by rw [e1, e2]; exact h2⟩
/-- What both images have alike stands; what does not wait stands. -/
structure Crs (s s' : St) (ws : List Nat) : Prop where
  eq : Eqn s'
  v : s'.V.length = s.V.length
  same : ∀ j : Nat, s.L[j]? = s.S[j]? → s'.S[j]? = s.S[j]? ∧ s'.L[j]? = s.S[j]?
  out : ∀ j : Nat, j / 64 ∉ ws → s'.S[j]? = s.S[j]?
theorem Crs.crash {s : St} (h : Eqn s) (ws : List Nat) (cuts : List Int) (hw : ∀ k ∈ ws, k < s.V.length) (hcut : ∀ i, cutAt cuts i ≤ 64) : ∀ i, i ≤ ws.length → Crs s (s.crash ws cuts i) ws
  | 0, _ => ⟨h, rfl, fun j hj => ⟨rfl, hj⟩, fun j _ => rfl⟩
  | i + 1, hi => by
    have ih := Crs.crash h ws cuts hw hcut i (by omega)
    have hk : ws.getD i 0 ∈ ws := by rw [List.getD_eq_getElem?_getD, List.getElem?_eq_getElem (by omega)]; exact List.getElem_mem _
    have hkv : ws.getD i 0 < (s.crash ws cuts i).V.length := by rw [ih.v]; exact hw _ hk
    refine ⟨ih.eq.settle hkv (hcut i), (settle_V _ _ _).trans ih.v, fun j hj => ?_, fun j hj => ?_⟩
    · obtain ⟨h1, h2⟩ := ih.same j hj
      show ((s.crash ws cuts i).settle (ws.getD i 0) (cutAt cuts i)).S[j]? = _ ∧ ((s.crash ws cuts i).settle (ws.getD i 0) (cutAt cuts i)).L[j]? = _
      rw [settle_S ih.eq hkv (hcut i), settle_L ih.eq hkv (hcut i)]
      constructor
      · split
        · exact h2
        · exact h1
      · split
        · exact h1
        · exact h2
    · show ((s.crash ws cuts i).settle (ws.getD i 0) (cutAt cuts i)).S[j]? = _
      rw [settle_S ih.eq hkv (hcut i), if_neg (fun hx => hj (by rw [show j / 64 = ws.getD i 0 by omega]; exact hk))]
      exact ih.out j hj
end Go.Proofs.Ytddjgncdjdjgeaa
namespace Go.Proofs.Ytddjgncdjdjgeaa
open Go.RowKit
/-- What lasts and what is seen are alike ahead of u and behind the log. -/
def Alk (s : St) (L u : Nat) : Prop := ∀ j : Nat, (j < 128 + u ∨ 128 + L * 64 ≤ j) → s.L[j]? = s.S[j]?
/-- Only the log waits. -/
def Wtl (s : St) (L : Nat) : Prop := ∀ j : Nat, s.V.getD j false = true → 2 ≤ j ∧ j < 2 + L
theorem flush_eqn {s : St} (h : Eqn s) : ∀ i, i ≤ s.V.length → Eqn (s.flush i)
  | 0, _ => h
  | i + 1, hi => (flush_eqn h i (by omega)).settle (by rw [flush_len]; omega) (by omega)
theorem flush_L {s : St} (h : Eqn s) : ∀ i, i ≤ s.V.length → ∀ j : Nat, (s.flush i).L[j]? = if j < i * 64 then s.S[j]? else s.L[j]?
  | 0, _, j => by rw [if_neg (by omega)]; rfl
  | i + 1, hi, j => by
    show ((s.flush i).settle i 64).L[j]? = _
    rw [settle_L (flush_eqn h i (by omega)) (by rw [flush_len]; omega) (by omega), flush_S, flush_L h i (by omega)]
    by_cases h1 : i * 64 ≤ j ∧ j < i * 64 + 64
    · rw [if_pos h1, if_pos (by omega)]
    · rw [if_neg h1]
      by_cases h2 : j < i * 64
      · rw [if_pos h2, if_pos (by omega)]
      · rw [if_neg h2, if_neg (by omega)]
theorem Eqn.flA {s : St} (h : Eqn s) : Eqn (flA s) := flush_eqn h _ (Nat.le_refl _)
theorem alk_flA {s : St} (h : Eqn s) (L u : Nat) : Alk (flA s) L u := fun j _ => by
  rw [flA_S]
  show (s.flush s.V.length).L[j]? = _
  rw [flush_L h _ (Nat.le_refl _)]
  have h1 := h.lenS
  have h2 := h.lenL
  split
  · rfl
  · rw [List.getElem?_eq_none (by omega), List.getElem?_eq_none (by omega)]
theorem wtl_flA (s : St) (L : Nat) : Wtl (flA s) L := fun j hj => by
  rcases Nat.lt_or_ge j s.V.length with h | h
  · rw [show (flA s).V.getD j false = false from flush_false s s.V.length j h] at hj; cases hj
  · rw [List.getD_eq_getElem?_getD, List.getElem?_eq_none (by rw [flA_len]; exact h)] at hj; cases hj
theorem Eqn.apS {s : St} (h : Eqn s) {a : Nat} {b : List UInt8} (hb : a + b.length ≤ s.S.length) : Eqn (apS s a b) := by
  have h1 := h.lenS
  have h2 := h.lenL
  have e : (Go.Proofs.Ytddjgncdjdjgeaa.apS s a b).S.length = s.S.length := splice_len _ _ _ hb
  exact ⟨by rw [e, apS_V]; exact h1, by rw [e]; exact h2⟩
theorem Alk.apS {s : St} {L u a : Nat} {b : List UInt8} (h : Alk s L u) (hb : a + b.length ≤ s.S.length) (h1 : 128 + u ≤ a) (h2 : a + b.length ≤ 128 + L * 64) : Alk (apS s a b) L u := fun j hj => by
  show s.L[j]? = (splice s.S a b)[j]?
  rw [splice_get _ _ _ _ hb, if_neg (by omega)]
  exact h j hj
theorem Wtl.apS {s : St} {L a : Nat} {b : List UInt8} (h : Wtl s L) (h1 : 128 ≤ a) (h2 : a + b.length ≤ 128 + L * 64) : Wtl (apS s a b) L := fun j hj => by
  have hj' : ((List.range s.V.length).map fun j => s.V.getD j false || tch a b.length j).getD j false = true := hj
  rcases Nat.lt_or_ge j s.V.length with hl | hl
  · rw [List.getD_eq_getElem?_getD, List.getElem?_map, List.getElem?_range hl] at hj'
    simp only [Option.map_some, Option.getD_some, Bool.or_eq_true] at hj'
    rcases hj' with h3 | h3
    · exact h j h3
    · unfold tch at h3
      simp at h3
      omega
  · rw [List.getD_eq_getElem?_getD, List.getElem?_eq_none (by simpa using hl)] at hj'; cases hj'
/-- Sectors of which every byte stands stand. -/
theorem secV_same {s s' : St} (hv : s'.V.length = s.V.length) (q : Nat) (h : ∀ j, q * 64 ≤ j → j < (q + 1) * 64 → s'.S[j]? = s.S[j]?) : secV s' q = secV s q := by
  unfold secV sectL
  rw [hv]
  split
  · apply List.ext_getElem?
    intro i
    rw [List.getElem?_take, List.getElem?_take]
    split
    · rw [List.getElem?_drop, List.getElem?_drop]
      exact h _ (by omega) (by omega)
    · rfl
  · rfl
theorem itS_pre (l : List UInt8) (ep : Nat) : ∀ k j, ∃ more, (itS l ep (k + j)).1 = (itS l ep k).1 ++ more
  | k, 0 => ⟨[], by simp⟩
  | k, j + 1 => by
    obtain ⟨m, hm⟩ := itS_pre l ep k j
    by_cases h : readOk (l.drop (itS l ep (k + j)).2) ep (itS l ep (k + j)).1.length
    · refine ⟨m ++ [recL (l.drop (itS l ep (k + j)).2)], ?_⟩
      show (stepS l ep (itS l ep (k + j))).1 = _
      rw [stepS_yes h]
      show (itS l ep (k + j)).1 ++ _ = _
      rw [hm, List.append_assoc]
    · refine ⟨m, ?_⟩
      show (stepS l ep (itS l ep (k + j))).1 = _
      rw [stepS_no h]; exact hm
theorem At.pre {l : List UInt8} {ep k : Nat} {rs : List (List UInt8)} {a : Nat} (h : At l ep k rs a) : ∃ more, (scanS l ep).1 = rs ++ more := by
  have h1 := h.low
  have h2 := h.top
  obtain ⟨m, hm⟩ := itS_pre l ep k (l.length + 1 - k)
  refine ⟨m, ?_⟩
  unfold scanS
  rw [show l.length + 1 = k + (l.length + 1 - k) by omega, hm, h.it]
end Go.Proofs.Ytddjgncdjdjgeaa
namespace Go.Proofs.Ytddjgncdjdjgeaa
open Go.RowKit
theorem Eqn.write {s : St} (h : Eqn s) {q : Nat} {x : List UInt8} (hq : q < s.V.length) (hx : x.length = 64) : Eqn (s.write q x) := by
  have h1 := h.lenS
  have h2 := h.lenL
  have e : (s.write q x).S.length = s.S.length := splice_len _ _ _ (by rw [hx]; omega)
  exact ⟨by rw [e, write_len]; exact h1, by rw [e]; exact h2⟩
theorem Eqn.wipeN {s : St} (h : Eqn s) (a : Nat) : ∀ k, a + k ≤ s.V.length → Eqn (wipeN s a k)
  | 0, _ => h
  | k + 1, hk => (Eqn.wipeN h a k (by omega)).write (by rw [wipeN_len]; omega) zeros64_len
theorem Eqn.putR {s : St} (h : Eqn s) (L P E : Nat) (h2 : 2 ≤ s.V.length) : Eqn (putR s L P E) := (h.write (by omega) (rootL_len _ _ _)).flA
theorem Eqn.fmt {s : St} (h : Eqn s) (L P : Nat) (h2 : 2 + L + P ≤ s.V.length) : Eqn (fmt s L P) := by
  unfold Go.Proofs.Ytddjgncdjdjgeaa.fmt
  exact Eqn.putR (((h.wipeN 0 2 (by omega)).flA.wipeN 2 (L + P) (by rw [flA_len, wipeN_len]; omega)).flA) L P 1 (by rw [flA_len, wipeN_len, flA_len, wipeN_len]; omega)
theorem Eqn.homeN {s : St} (h : Eqn s) {x : SV} (hr : rightR x.L x.P x.E s.V.length = true) (hp : x.pages.length = x.P) (h64 : ∀ l ∈ x.pages, l.length = 64) : ∀ k, k ≤ x.P → Eqn (homeN s x k)
  | 0, _ => h
  | k + 1, hk => by
    have h1 := rightR_true.1 hr
    have ih := Eqn.homeN h hr hp h64 k (by omega)
    show Eqn (if _ then _ else _)
    split
    · refine ih.write (by rw [homeN_len]; omega) ?_
      rw [List.getD_eq_getElem?_getD, List.getElem?_eq_getElem (by omega)]
      exact h64 _ (List.getElem_mem _)
    · exact ih
theorem eqn_new (n : Nat) : Eqn (St.new n) := ⟨gd_new n, by show (zeros (n * 64)).length = (zeros (n * 64)).length; rfl⟩
/-- .. with the records that last: the bytes of the log ahead of u. -/
structure KeptW (s : St) (x : SV) (ms : List (List ChV)) (u : Nat) : Prop where
  z : KeptZ s x ms
  eq : Eqn s
  alk : Alk s x.L u
  wtl : Wtl s x.L
  hu : u ≤ x.used
theorem KeptW.flA {s : St} {x : SV} {ms : List (List ChV)} {u : Nat} (h : KeptW s x ms u) : KeptW (flA s) x ms x.used := ⟨h.z.flA, h.eq.flA, alk_flA h.eq _ _, wtl_flA _ _, Nat.le_refl _⟩
theorem KeptW.com {s : St} {x : SV} {ms : List (List ChV)} {u : Nat} {m : List ChV} (h : KeptW s x ms u) (hm : InL x.P m) (hf : x.used + (18 + 66 * m.length) ≤ x.L * 64) : KeptW (comS s x m) (comV x m) (ms ++ [m]) u := by
  have h1 := rightR_true.1 h.z.k.rt
  have hl : (comL x m).length = 18 + 66 * m.length := by unfold comL; rw [frameL_len, back_len hm.1]; omega
  have h2 := h.eq.lenS
  have h3 := h.hu
  have hb : 128 + x.used + (comL x m).length ≤ s.S.length := by omega
  exact ⟨h.z.com hm hf, h.eq.apS hb, h.alk.apS hb (by omega) (by omega), h.wtl.apS (by omega) (by omega), by show u ≤ x.used + (18 + 66 * m.length); omega⟩
/-- A disk that was formatted, and opened. -/
theorem keptw_new {s : St} (h : Eqn s) (L P : Nat) (hr : rightR L P 1 s.V.length = true) : KeptW (ckS (fmt s L P) (openV (fmt s L P) ⟨L, P, 1⟩)) (ckV (openV (fmt s L P) ⟨L, P, 1⟩)) [] 0 := by
  have h1 := rightR_true.1 hr
  have hz := kept_new h.lenS L P hr
  obtain ⟨hk, _⟩ := kept_fmt h.lenS L P hr
  obtain ⟨o1, o2, o3, o4, o5⟩ := hk.open_
  obtain ⟨l1, l2, l3⟩ := hk.lens
  have o3' : (openV (fmt s L P) ⟨L, P, 1⟩).L = L := o3
  have o4' : (openV (fmt s L P) ⟨L, P, 1⟩).P = P := o4
  have o5' : (openV (fmt s L P) ⟨L, P, 1⟩).E = 1 := o5
  have hf := (h.fmt L P (by omega)).flA
  have hh := hf.homeN (x := openV (fmt s L P) ⟨L, P, 1⟩) (by rw [o3', o4', o5', flA_len, fmt_len]; exact hr) (by rw [o4']; exact (congrArg List.length o1).trans l1) (fun l hl => l3 l (by rw [← o1]; exact hl)) _ (Nat.le_refl _)
  have hw := hh.flA.write (q := ((openV (fmt s L P) ⟨L, P, 1⟩).E + 1) % 2) (x := rootL (openV (fmt s L P) ⟨L, P, 1⟩).L (openV (fmt s L P) ⟨L, P, 1⟩).P ((openV (fmt s L P) ⟨L, P, 1⟩).E + 1)) (by rw [flA_len, homeN_len, flA_len, fmt_len]; omega) (rootL_len _ _ _)
  exact ⟨hz, hw.flA, alk_flA hw _ _, wtl_flA _ _, Nat.zero_le _⟩
end Go.Proofs.Ytddjgncdjdjgeaa
namespace Go.Proofs.Ytddjgncdjdjgeaa
open Go.RowKit
def Sa (s : St) : Prop := Sane s s.V.length
theorem Sa.write {s : St} (h : Sa s) {q : Nat} {x : List UInt8} (hq : q < s.V.length) (hx : x.length = 64) : Sa (s.write q x) := by
  unfold Sa
  rw [write_len]
  exact Sane.write h hq hx
theorem Sa.flA {s : St} (h : Sa s) : Sa (flA s) := by
  unfold Sa Go.Proofs.Ytddjgncdjdjgeaa.flA
  rw [flush_len, flush_all rfl h.ll h.ls]
  exact ⟨falses_len _, h.ls, h.ls, fun _ _ _ _ _ => rfl⟩
theorem flA_is {s : St} (h : Sa s) : flA s = ⟨s.S, s.S, falses s.V.length⟩ := flush_all rfl h.ll h.ls
theorem Sa.wipeN {s : St} (h : Sa s) (a : Nat) : ∀ k, a + k ≤ s.V.length → Sa (wipeN s a k)
  | 0, _ => h
  | k + 1, hk => (Sa.wipeN h a k (by omega)).write (by rw [wipeN_len]; omega) zeros64_len
theorem Sa.putR {s : St} (h : Sa s) (L P E : Nat) (h2 : 2 ≤ s.V.length) : Sa (putR s L P E) := (h.write (by omega) (rootL_len _ _ _)).flA
theorem Sa.fmt {s : St} (h : Sa s) (L P : Nat) (h2 : 2 + L + P ≤ s.V.length) : Sa (fmt s L P) := by
  unfold Go.Proofs.Ytddjgncdjdjgeaa.fmt
  exact Sa.putR (((h.wipeN 0 2 (by omega)).flA.wipeN 2 (L + P) (by rw [flA_len, wipeN_len]; omega)).flA) L P 1 (by rw [flA_len, wipeN_len, flA_len, wipeN_len]; omega)
theorem Sa.homeN {s : St} (h : Sa s) {x : SV} (hr : rightR x.L x.P x.E s.V.length = true) (hp : x.pages.length = x.P) (h64 : ∀ l ∈ x.pages, l.length = 64) : ∀ k, k ≤ x.P → Sa (homeN s x k)
  | 0, _ => h
  | k + 1, hk => by
    have h1 := rightR_true.1 hr
    have ih := Sa.homeN h hr hp h64 k (by omega)
    show Sa (if _ then _ else _)
    split
    · refine ih.write (by rw [homeN_len]; omega) ?_
      rw [List.getD_eq_getElem?_getD, List.getElem?_eq_getElem (by omega)]
      exact h64 _ (List.getElem_mem _)
    · exact ih
theorem Sa.apS {s : St} (h : Sa s) {a : Nat} {b : List UInt8} (hb : a + b.length ≤ s.S.length) : Sa (apS s a b) := by
  unfold Sa
  rw [apS_V]
  refine ⟨apS_V s a b, h.ll, by show (splice s.S a b).length = _; rw [splice_len _ _ _ hb]; exact h.ls, fun j hj hv i hi => ?_⟩
  show s.L[_]? = (splice s.S a b)[_]?
  have hv' : ((List.range s.V.length).map fun j => s.V.getD j false || tch a b.length j)[j]? = some false := hv
  rw [List.getElem?_map, List.getElem?_range hj] at hv'
  simp only [Option.map_some, Option.some.injEq, Bool.or_eq_false_iff] at hv'
  have h2 : ¬ (0 < b.length ∧ j * 64 < a + b.length ∧ a < (j + 1) * 64) := by
    have := hv'.2
    unfold tch at this
    exact of_decide_eq_false this
  rw [splice_get _ _ _ _ hb, if_neg (by omega)]
  refine h.eq j hj ?_ i hi
  have := hv'.1
  rw [List.getD_eq_getElem?_getD, List.getElem?_eq_getElem hj] at this
  rw [List.getElem?_eq_getElem hj]
  exact congrArg some this
theorem Sa.ckS {s : St} (h : Sa s) {x : SV} (hr : rightR x.L x.P x.E s.V.length = true) (hp : x.pages.length = x.P) (h64 : ∀ l ∈ x.pages, l.length = 64) : Sa (ckS s x) := by
  have h1 := rightR_true.1 hr
  exact ((h.flA.homeN (by rw [flA_len]; exact hr) hp h64 x.P (Nat.le_refl _)).flA).putR _ _ _ (by rw [flA_len, homeN_len, flA_len]; omega)
theorem sa_new (n : Nat) : Sa (St.new n) := by
  unfold Sa
  rw [newV]
  exact ⟨newV n, by show (zeros (n * 64)).length = _; simp [zeros]; omega, by show (zeros (n * 64)).length = _; simp [zeros]; omega, fun _ _ _ _ _ => rfl⟩
theorem Sa.of_len {l : List UInt8} {n : Nat} (h : l.length = 64 * n) : Sa ⟨l, l, falses n⟩ := by
  unfold Sa
  show Sane _ (falses n).length
  rw [falses_len]
  exact ⟨falses_len n, h, h, fun _ _ _ _ _ => rfl⟩
/-- Behind a crash. -/
theorem Sa.crash {s : St} (h : Sa s) (cuts : List Int) : ∃ l, l.length = 64 * s.V.length ∧ s.crash (wl s.V s.V.length) cuts (wl s.V s.V.length).length = ⟨l, l, falses s.V.length⟩ := by
  obtain ⟨e2, e3⟩ := crash_same h cuts
  have e4 := (crash_quiet h cuts).1.ls
  generalize s.crash (wl s.V s.V.length) cuts (wl s.V s.V.length).length = t at e2 e3 e4
  obtain ⟨tL, tS, tV⟩ := t
  simp only at e2 e3 e4
  exact ⟨tS, e4, by rw [e2, e3]⟩
/-- .. kept, and sane. -/
structure KeptS (s : St) (x : SV) (ms : List (List ChV)) (u : Nat) : Prop where
  k : KeptW s x ms u
  sa : Sa s
theorem KeptS.flA {s : St} {x : SV} {ms : List (List ChV)} {u : Nat} (h : KeptS s x ms u) : KeptS (flA s) x ms x.used := ⟨h.k.flA, h.sa.flA⟩
theorem KeptS.com {s : St} {x : SV} {ms : List (List ChV)} {u : Nat} {m : List ChV} (h : KeptS s x ms u) (hm : InL x.P m) (hf : x.used + (18 + 66 * m.length) ≤ x.L * 64) : KeptS (comS s x m) (comV x m) (ms ++ [m]) u := by
  have h1 := rightR_true.1 h.k.z.k.rt
  have hl : (comL x m).length = 18 + 66 * m.length := by unfold comL; rw [frameL_len, back_len hm.1]; omega
  have h2 := h.k.eq.lenS
  exact ⟨h.k.com hm hf, h.sa.apS (by omega)⟩
theorem keptS_new {s : St} (h : Eqn s) (hs : Sa s) (L P : Nat) (hr : rightR L P 1 s.V.length = true) : KeptS (ckS (fmt s L P) (openV (fmt s L P) ⟨L, P, 1⟩)) (ckV (openV (fmt s L P) ⟨L, P, 1⟩)) [] 0 := by
  have h1 := rightR_true.1 hr
  obtain ⟨hk, _⟩ := kept_fmt h.lenS L P hr
  obtain ⟨o1, o2, o3, o4, o5⟩ := hk.open_
  obtain ⟨l1, l2, l3⟩ := hk.lens
  have o3' : (openV (fmt s L P) ⟨L, P, 1⟩).L = L := o3
  have o4' : (openV (fmt s L P) ⟨L, P, 1⟩).P = P := o4
  have o5' : (openV (fmt s L P) ⟨L, P, 1⟩).E = 1 := o5
  exact ⟨keptw_new h L P hr, (hs.fmt L P (by omega)).ckS (by rw [o3', o4', o5', fmt_len]; exact hr) (by rw [o4']; exact (congrArg List.length o1).trans l1) (fun l hl => l3 l (by rw [← o1]; exact hl))⟩
end Go.Proofs.Ytddjgncdjdjgeaa
