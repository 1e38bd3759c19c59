/- HostTypes of any number, any text, any truth answers true, and leaves what was there as it was. No condition but that the tables of the library that are listed lie as its text lays them, which the card ties. -/
import Derived.Test.YtcbcfcdmdedefaaGreatDoorZHQ25
import Derived.Test.YtcbcfcdmdedefaaGreatDoorCards
import Derived.Test.YtcbcfcdmdedefaaGreatDoorTie
import Derived.OpenShut
import Derived.ShutString
namespace Go.Proofs.YtcbcfcdmdedefaaGreatDoor.hostTypes
open Go.ChangeShapes Go.WideShapes Go.ChangeAt Go.RowKit
open Go.ChangeMaps (open_string shut_string)
set_option linter.unusedVariables false
theorem own:ownKnob Tryz.prog.godebug=none:=by kernel_rfl
theorem laidOut:laidOutB Tryz.prog=true:=by kernel_rfl
theorem walk (a0:Int)(a1:ByteArray)(a2:Bool)(w:World)(hP:vG_ w.heap.size w)(w0:(Lit.int .i64 a0).wf=true)(w1:a1.size<=9223372036854775807) :
    Calls Tryz.prog 5 #[.int .i64 a0,.string a1,.bool a2] w fun e w'=>e=.returned (.bool true)/\Below w.heap.size w w':=by
 exact(gI_ a0 a1 a2 w1 hP).mono fun _ _ h=>⟨h.1,h.2.below0⟩
set_option maxRecDepth 100000 in
theorem lifted (os:Os)(started:os.Started)(H:Type)(enc:TypeId×Value->H) :
    ReturnsInHanded {} Tryz.checked os 5 .any (fun w args=>(Rows.hostTypesSpec.pre enc Tryz.prog Tryz.f5 [] false w args/\laidMetH Tryz.prog zaY w)/\sizedMet enc Tryz.prog Tryz.f5 (OpenSpec.ofChange Rows.hostTypesSpec) false w args) (Rows.hostTypesSpec.post enc Tryz.prog Tryz.f5 false true false false):=by
 refine returnsInHanded_of_change_and (C:=Tryz.checked) (X:=fun w _=>laidMetH Tryz.prog zaY w) (fun _ _ _ hh h=>h.of_heap hh) own started (by kernel_rfl) Tryz.func5
   (ChangeSpec.witness_shaped (enc:=enc) (C:=Tryz.checked) (os:=os) (X:=fun w _=>laidMetH Tryz.prog zaY w) false (World.doorLaid Tryz.prog 400 os) #[.int .i64 0,.string ⟨#[]⟩,.bool false] 8 rfl (World.shaped_of_RefB (by kernel_rfl) (by kernel_rfl)) (by kernel_rfl) (by kernel_rfl) (by kernel_rfl) (zdY os _)) ?_;intro W base args ds gs before hval0 hW hcnd hsz0 hL _;have hP:=zmn hL;have hsz:(DataW.weightsEach Tryz.prog (Tryz.f5.params.toList++Rows.hostTypesSpec.plain.varTypes Tryz.prog) (ds++gs)).all (·<=reachBytes)=true:=hsz0;have hval:∀(j:Nat) t v,Tryz.f5.params[j]?=some t->args[j]?=some v->Value.okWide Tryz.prog W .any base t v:=hval0;have hW':=hW;obtain⟨p,q,hA0,hV,rfl,hfz,hnd⟩:=hW;have hA:DataW.TrodAll enc Tryz.prog W 0 (fun _=>true) true Tryz.f5.params.toList args.toList ds p:=hA0;rw[Tryz.params5]at hA hval hsz;obtain⟨v0,vs0,d0,ds0,p0,q0,hargs,rfl,rfl,h0,r0⟩:=trodAll_cons hA;obtain⟨v1,vs1,d1,ds1,p1,q1,rfl,rfl,rfl,h1,r1⟩:=trodAll_cons r0;obtain⟨v2,vs2,d2,ds2,p2,q2,rfl,rfl,rfl,h2,r2⟩:=trodAll_cons r1;obtain⟨rfl,rfl,rfl⟩:=trodAll_nil r2;obtain rfl:args=#[v0,v1,v2]:=by cases args;simp_all
 obtain⟨rfl,rfl⟩:=trodVars_none hV;obtain⟨a0,rfl,rfl,rfl,w0⟩:=open_int Tryz.underlying2 (hval 0 2 v0 rfl rfl) h0;obtain⟨a1,rfl,rfl,rfl,w10⟩:=open_string Tryz.underlying9 (hval 1 9 v1 rfl rfl) h1;have w1:a1.size<=9223372036854775807:=by unfold maxLen at w10;exact w10
 obtain⟨a2,rfl,rfl,rfl⟩:=open_bool Tryz.underlying4 (hval 2 4 v2 rfl rfl) h2;clear hA0 hval0;refine(walk a0 a1 a2 W hP w0 w1).mono fun e W' ⟨he,bel⟩=>?_;subst he;exact⟨_,rfl,_,_,_,[],_,[],hW',trodAll_mk1 (shut_bool Tryz.underlying4 _),(trodAll_cons_mk (shut_int Tryz.underlying2 w0) (trodAll_cons_mk (shut_string Tryz.underlying9 w10) (trodAll_cons_mk (shut_bool Tryz.underlying4 _) trodAll_mk0))),rfl,bel.frame _,fun h=>by cases h⟩
theorem closed:joinedFacts Tryz.prog 5 Tryz.f5 Rows.hostTypesSpec Rows.hostTypesRow=true:=by
 unfold joinedFacts;rw[join.j_enter,join.j_lifts,join.j_make]
 kernel_rfl
theorem over:Rows.hostTypesRow.holds Tryz.pinned (OpenSpec.ofChange Rows.hostTypesSpec) :=
 OpenClaim.holds_of_wide 5 Tryz.f5 rfl rfl rfl rfl rfl rfl rfl ⟨rfl,rfl,rfl,rfl,rfl⟩ rfl rfl rfl rfl rfl (by kernel_rfl) Tryz.func5 closed
   (of_decide_eq_true (by kernel_rfl)) (by unfold Func.isWrapper;first|(rw[if_pos (by decide +kernel)];kernel_rfl)|(rw[if_neg (by decide +kernel)];exact⟨rfl,rfl⟩))
   (fun os started H enc _=>lifted os started H enc)
theorem c_wf:Rows.hostTypesRow.wfByText (OpenSpec.ofChange Rows.hostTypesSpec)=true:=by kernel_rfl
theorem c_main:Tryz.pinned.checked.prog.mainIs=some (Rows.hostTypesCard.stood.harness.1,Rows.hostTypesCard.stood.harness.2.toList):=by kernel_rfl
theorem c_looks:true=Tryz.pinned.checked.prog.looks []:=by kernel_rfl
theorem c_named:Tryz.prog.funcNamed Rows.hostTypesRow.func=some 5:=by kernel_rfl
theorem c_stand:(Tryz.f5.params.toList.all fun u=>!Tryz.prog.wantsStandIn u)=true:=by kernel_rfl
theorem c_goes:false=Rows.hostTypesRow.goesBy Tryz.pinned.checked.prog:=by kernel_rfl
theorem proved:Rows.HostTypesCardSaid :=
 Claim7.holds_tied_plain_at .later [] [.data,.data,.data] true Rows.hostTypesCard.stood.harness true
   over (fun _ h=>by cases h) c_wf (fun _ h=>by cases h) hostTypes_row_tie rfl ⟨rfl,rfl⟩ c_main rfl
   (fun f fn hf hfn=>by
     obtain rfl:f=5:=Option.some.inj (c_named.symm.trans hf) |>.symm;obtain rfl:fn=Tryz.f5:=(Option.some.inj (Tryz.func5.symm.trans hfn)).symm;exact⟨c_looks,fun j t ht=>by
      have hm:t∈Tryz.f5.params.toList:=(by simpa using Array.mem_of_getElem? ht);exact(show Tryz.prog.wantsStandIn t=false by simpa using List.all_eq_true.1 c_stand t hm)⟩)
   c_goes
end Go.Proofs.YtcbcfcdmdedefaaGreatDoor.hostTypes
