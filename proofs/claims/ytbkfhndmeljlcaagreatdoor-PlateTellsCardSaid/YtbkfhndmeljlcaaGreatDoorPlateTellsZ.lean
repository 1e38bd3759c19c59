/- PlateTells of any tape, any turns, any number of pages, any pages as they come in, any place and any byte answers true, and leaves what was there as it was. No condition but that the tables of the library that are listed lie as its text lays them, which the card ties. -/
import Derived.Test.YtbkfhndmeljlcaaGreatDoorZA23
import Derived.Test.YtbkfhndmeljlcaaGreatDoorCards
import Derived.Test.YtbkfhndmeljlcaaGreatDoorTie
import Derived.ProofKit
import Derived.OpenShut
import Derived.ShutString
namespace Go.Proofs.YtbkfhndmeljlcaaGreatDoor.plateTells
open Go.ChangeShapes Go.WideShapes Go.ChangeAt Go.RowKit
open Go.ChangeMaps (open_string shut_string)
set_option linter.unusedVariables false
theorem own : ownKnob Tryz.prog.godebug = none:=by kernel_rfl
theorem laidOut : laidOutB Tryz.prog = true:=by kernel_rfl
theorem zcL : Tryz.prog.bytesOf 3 = 8:=by kernel_rfl
theorem walk (a0 : Option Addr) (len0 cap0 : Nat) (z0 : List Int) (a1 : Option Addr) (len1 cap1 : Nat) (z1 : List TurnV) (a2 : Int) (a3 : Option Addr) (len3 cap3 : Nat) (y3 : List Value) (z3 : List (List UInt8)) (a4 : Int) (a5 : Int) (w : World) (hP : xq_ w.heap.size w) (w0 : qo_ .i64 w a0 len0 cap0 z0) (hr0 : cap0 * 8 ≤ 140737488351232) (w1 : Trn w a1 len1 z1) (hr1 : len1 ≤ 9223372036854775807) (w2 : (Lit.int .i64 a2).wf = true) (hn3 : y3.length = len3) (w3 : Src w a3 y3) (hs3 : 0 < len3 → ∀ ad,a3 = some ad → ad.spot = none) (hl3 : kr_ w y3 z3) (hc3 : len3 ≤ cap3) (hr3 : cap3 ≤ 9223372036854775807) (w4 : (Lit.int .i64 a4).wf = true) (w5 : (Lit.int .u8 a5).wf = true) :
    Calls Tryz.prog 4 #[.slice a0 len0 cap0,.slice a1 len1 cap1,.int .i64 a2,.slice a3 len3 cap3,.int .i64 a4,.int .u8 a5] w fun e w' => e = .returned (.bool true) ∧ Below w.heap.size w w':=by
 obtain ⟨xs,hx,hxs,hxr⟩:=zdp w0
 have hcap : len0 ≤ cap0:=by
  rcases w0 with ⟨_,rfl,rfl,_⟩ | ⟨_,_,h1,_⟩
  · exact Nat.le_refl _
  · exact h1
 obtain ⟨t5,ht5⟩:=zfZ w5
 exact (u6_ hxs hx (fun h0 ad e => (qX_ w0 h0 ad e).1) (by omega) hxr w1 hr1 ⟨hn3,w3,hl3,hc3,hr3,hs3⟩ a4 a2 a5 (km_ w4) (by have:=t5.toNat_lt; omega) hP).mono fun _ _ h => ⟨h.1,h.2.below0⟩
set_option maxRecDepth 100000 in
theorem lifted (os : Os) (started : os.Started) (H : Type) (enc : TypeId × Value → H) :
    ReturnsInHanded {} Tryz.checked os 4 .any (fun w args => (Rows.plateTellsSpec.pre enc Tryz.prog Tryz.f4 [] false w args ∧ laidMetH Tryz.prog zcc w) ∧ sizedMet enc Tryz.prog Tryz.f4 (OpenSpec.ofChange Rows.plateTellsSpec) false w args) (Rows.plateTellsSpec.post enc Tryz.prog Tryz.f4 false true false false):=by
 refine returnsInHanded_of_change_and (C:=Tryz.checked) (X:=fun w _ => laidMetH Tryz.prog zcc w) (fun _ _ _ hh h => h.of_heap hh) own started (by kernel_rfl) Tryz.func4
   (ChangeSpec.witness_shaped (enc:=enc) (C:=Tryz.checked) (os:=os) (X:=fun w _ => laidMetH Tryz.prog zcc w) false (World.doorLaid Tryz.prog 400 os) #[.slice none 0 0,.slice none 0 0,.int .i64 0,.slice none 0 0,.int .i64 0,.int .u8 0] 8 rfl (World.shaped_of_RefB (by kernel_rfl) (by kernel_rfl)) (by kernel_rfl) (by kernel_rfl) (by kernel_rfl) (zdO os _)) ?_
 intro W base args ds gs before hval0 hW hcnd hsz0 hL _
 have hP:=zfF hL
 have hsz : (DataW.weightsEach Tryz.prog (Tryz.f4.params.toList ++ Rows.plateTellsSpec.plain.varTypes Tryz.prog) (ds ++ gs)).all (· ≤ reachBytes) = true:=hsz0
 have hval : ∀ (j : Nat) t v,Tryz.f4.params[j]? = some t → args[j]? = some v → Value.okWide Tryz.prog W .any base t v:=hval0
 have hW':=hW
 obtain ⟨p,q,hA0,hV,rfl,hfz,hnd⟩:=hW
 have hA : DataW.TrodAll enc Tryz.prog W 0 (fun _ => true) true Tryz.f4.params.toList args.toList ds p:=hA0
 rw [Tryz.params4] at hA hval hsz
 obtain ⟨v0,vs0,d0,ds0,p0,q0,hargs,rfl,rfl,h0,r0⟩:=trodAll_cons hA
 obtain ⟨v1,vs1,d1,ds1,p1,q1,rfl,rfl,rfl,h1,r1⟩:=trodAll_cons r0
 obtain ⟨v2,vs2,d2,ds2,p2,q2,rfl,rfl,rfl,h2,r2⟩:=trodAll_cons r1
 obtain ⟨v3,vs3,d3,ds3,p3,q3,rfl,rfl,rfl,h3,r3⟩:=trodAll_cons r2
 obtain ⟨v4,vs4,d4,ds4,p4,q4,rfl,rfl,rfl,h4,r4⟩:=trodAll_cons r3
 obtain ⟨v5,vs5,d5,ds5,p5,q5,rfl,rfl,rfl,h5,r5⟩:=trodAll_cons r4
 obtain ⟨rfl,rfl,rfl⟩:=trodAll_nil r5
 obtain rfl : args = #[v0,v1,v2,v3,v4,v5]:=by cases args; simp_all
 obtain ⟨rfl,rfl⟩:=trodVars_none hV
 obtain ⟨a0,len0,cap0,rfl⟩:=okWide_slice Tryz.underlying26 (hval 0 26 v0 rfl rfl)
 have k0:=h0
 have lt0 : ∀ x ∈ p0,x.block < W.heap.size:=by obtain ⟨m,hm⟩:=k0; exact DataW.trod_lt m _ _ _ hm
 obtain ⟨z0,w0,hr0⟩ : ∃ zs,qo_ .i64 W a0 len0 cap0 zs ∧ cap0 * 8 ≤ 140737488351232:=by
  obtain ⟨fuel,hf⟩:=h0
  rcases open_ints Tryz.underlying26 Tryz.underlying3 (by kernel_rfl) hf with ⟨hcs,_⟩ | ⟨x,l,c,zs,hcs,_,hl,hm,hz,hx,hcell,hwz⟩
  · simp [Value.cells] at hcs
    obtain ⟨rfl,rfl,rfl⟩:=hcs
    exact ⟨[],.inl ⟨rfl,rfl,rfl,rfl⟩,by omega⟩
  · simp [Value.cells] at hcs
    obtain ⟨rfl,rfl,rfl⟩:=hcs
    have hd:=congrArg Prod.fst hx
    simp only at hd
    rw [hd] at hsz
    have hs:=sized_slice hsz (j:=0) (t:=26) (e:=3) rfl rfl Tryz.underlying26
    rw [zcL] at hs
    have hz' : zs.length = cap0:=by simpa using hz
    simp only [lits,List.length_map,List.length_take,List.length_drop,reachBytes,hz'] at hs
    exact ⟨zs,.inr ⟨_,rfl,hl,hm,hz',hcell,hwz⟩,by omega⟩
 obtain ⟨a1,len1,cap1,rfl⟩:=okWide_slice Tryz.underlying35 (hval 1 35 v1 rfl rfl)
 have k1:=h1
 have lt1 : ∀ x ∈ p1,x.block < W.heap.size:=by obtain ⟨m,hm⟩:=k1; exact DataW.trod_lt m _ _ _ hm
 obtain ⟨z1,w1,hr1⟩ : ∃ l,Trn W a1 len1 l ∧ len1 ≤ 9223372036854775807:=by
  obtain ⟨fuel,hf⟩:=h1
  obtain ⟨A,n,c,l,e,hq,hnc,hcm⟩:=gX_ hf (.slice a1 len1 cap1) rfl
  simp only [Value.slice.injEq] at e
  obtain ⟨rfl,rfl,rfl⟩:=e
  unfold maxLen at hcm
  exact ⟨l,hq,by omega⟩
 obtain ⟨a2,rfl,rfl,rfl,w2⟩:=open_int Tryz.underlying3 (hval 2 3 v2 rfl rfl) h2
 obtain ⟨a3,len3,cap3,rfl⟩:=okWide_slice Tryz.underlying30 (hval 3 30 v3 rfl rfl)
 have k3:=h3
 have lt3 : ∀ x ∈ p3,x.block < W.heap.size:=by obtain ⟨m,hm⟩:=k3; exact DataW.trod_lt m _ _ _ hm
 obtain ⟨y3,z3,hn3,w3,hs3,hl3,hc3,hr3⟩ : ∃ vs ls,vs.length = len3 ∧ Src W a3 vs ∧ (0 < len3 → ∀ ad,a3 = some ad → ad.spot = none) ∧ kr_ W vs ls ∧ len3 ≤ cap3 ∧ cap3 ≤ 9223372036854775807:=by
  obtain ⟨fuel,hf⟩:=h3
  obtain ⟨A,n,c,vs,ls,e,g1,g2,g3,g4,g5,g6⟩:=zar hf (.slice a3 len3 cap3) rfl
  simp only [Value.slice.injEq] at e
  obtain ⟨rfl,rfl,rfl⟩:=e
  exact ⟨vs,ls,g1,g2,g3,g4,g5,g6⟩
 obtain ⟨a4,rfl,rfl,rfl,w4⟩:=open_int Tryz.underlying3 (hval 4 3 v4 rfl rfl) h4
 obtain ⟨a5,rfl,rfl,rfl,w5⟩:=open_int Tryz.underlying5 (hval 5 5 v5 rfl rfl) h5
 clear hA0 hval0
 refine (walk a0 len0 cap0 z0 a1 len1 cap1 z1 a2 a3 len3 cap3 y3 z3 a4 a5 W hP w0 hr0 w1 hr1 w2 hn3 w3 hs3 hl3 hc3 hr3 w4 w5).mono fun e W' ⟨he,bel⟩ => ?_
 subst he
 exact ⟨_,rfl,_,_,_,[],_,[],hW',trodAll_mk1 (shut_bool Tryz.underlying4 _),(trodAll_cons_mk (Below.trod laidOut (by kernel_rfl) (of_decide_eq_true (by kernel_rfl)) k0 bel lt0) (trodAll_cons_mk (Below.trod laidOut (by kernel_rfl) (of_decide_eq_true (by kernel_rfl)) k1 bel lt1) (trodAll_cons_mk (shut_int Tryz.underlying3 w2) (trodAll_cons_mk (Below.trod laidOut (by kernel_rfl) (of_decide_eq_true (by kernel_rfl)) k3 bel lt3) (trodAll_cons_mk (shut_int Tryz.underlying3 w4) (trodAll_cons_mk (shut_int Tryz.underlying5 w5) trodAll_mk0)))))),rfl,bel.frame _,fun h => by cases h⟩
theorem over : Rows.plateTellsRow.holds Tryz.pinned (OpenSpec.ofChange Rows.plateTellsSpec) :=
 OpenClaim.holds_of_wide 4 Tryz.f4 rfl rfl rfl rfl rfl rfl rfl ⟨rfl,rfl,rfl,rfl,rfl⟩ rfl rfl rfl rfl rfl (by kernel_rfl) Tryz.func4 (by kernel_rfl)
   (of_decide_eq_true (by kernel_rfl)) (by unfold Func.isWrapper; first | (rw [if_pos (by decide +kernel)]; kernel_rfl) | (rw [if_neg (by decide +kernel)]; exact ⟨rfl,rfl⟩))
   (fun os started H enc _ => lifted os started H enc)
theorem proved : Rows.PlateTellsCardSaid :=
 Claim7.holds_tied_plain_at .later [] [.data,.data,.data] true Rows.plateTellsCard.stood.harness false
   over (fun _ h => by cases h) (by kernel_rfl) (fun _ h => by cases h) plateTells_row_tie rfl ⟨rfl,rfl⟩ (by kernel_rfl) rfl
   (fun f fn hf hfn => by
     obtain rfl : f = 4:=Option.some.inj ((show Tryz.prog.funcNamed Rows.plateTellsRow.func = some 4 by kernel_rfl).symm.trans hf) |>.symm
     obtain rfl : fn = Tryz.f4:=(Option.some.inj (Tryz.func4.symm.trans hfn)).symm
     exact ⟨by kernel_rfl,fun j t ht => by
      have hm : t ∈ Tryz.f4.params.toList:=by simpa using Array.mem_of_getElem? ht
      have hall : (Tryz.f4.params.toList.all fun u => !Tryz.prog.wantsStandIn u) = true:=by kernel_rfl
      exact (show Tryz.prog.wantsStandIn t = false by simpa using List.all_eq_true.1 hall t hm)⟩)
   (by kernel_rfl)
end Go.Proofs.YtbkfhndmeljlcaaGreatDoor.plateTells
