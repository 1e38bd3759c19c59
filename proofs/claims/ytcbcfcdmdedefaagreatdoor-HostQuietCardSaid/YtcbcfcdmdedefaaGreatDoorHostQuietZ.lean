/- HostQuiet of any numbers answers true, and leaves what was there as it was. No condition but that the tables of the library that are listed lie as its text lays them, which the card ties. -/
import Derived.Test.YtcbcfcdmdedefaaGreatDoorZHQ25
import Derived.Test.YtcbcfcdmdedefaaGreatDoorCards
import Derived.Test.YtcbcfcdmdedefaaGreatDoorTie
import Derived.OpenShut
import Derived.ShutString
namespace Go.Proofs.YtcbcfcdmdedefaaGreatDoor.hostQuiet
open Go.ChangeShapes Go.WideShapes Go.ChangeAt Go.RowKit
open Go.ChangeMaps (open_string shut_string)
set_option linter.unusedVariables false
theorem own:ownKnob Tryz.prog.godebug=none:=by kernel_rfl
theorem laidOut:laidOutB Tryz.prog=true:=by kernel_rfl
theorem zcP:Tryz.prog.bytesOf 2=8:=by kernel_rfl
theorem walk (a0:Option Addr)(len0 cap0:Nat)(z0:List Int)(w:World)(hP:vG_ w.heap.size w)(w0:zcV .i64 w a0 len0 cap0 z0)(hr0:cap0*8<=140737488351232) :
    Calls Tryz.prog 6 #[.slice a0 len0 cap0] w fun e w'=>e=.returned (.bool true)/\Below w.heap.size w w':=by
 obtain⟨xs,hx,hxs,_⟩:=zkE w0;exact(gJ_ hx hxs (fun h0 ad e=>(zkD w0 h0 ad e).1) hP).mono fun _ _ h=>⟨h.1,h.2.below0⟩
set_option maxRecDepth 100000 in
theorem lifted (os:Os)(started:os.Started)(H:Type)(enc:TypeId×Value->H) :
    ReturnsInHanded {} Tryz.checked os 6 .any (fun w args=>(Rows.hostQuietSpec.pre enc Tryz.prog Tryz.f6 [] false w args/\laidMetH Tryz.prog zaY w)/\sizedMet enc Tryz.prog Tryz.f6 (OpenSpec.ofChange Rows.hostQuietSpec) false w args) (Rows.hostQuietSpec.post enc Tryz.prog Tryz.f6 false true false false):=by
 refine returnsInHanded_of_change_and (C:=Tryz.checked) (X:=fun w _=>laidMetH Tryz.prog zaY w) (fun _ _ _ hh h=>h.of_heap hh) own started (by kernel_rfl) Tryz.func6
   (ChangeSpec.witness_shaped (enc:=enc) (C:=Tryz.checked) (os:=os) (X:=fun w _=>laidMetH Tryz.prog zaY w) false (World.doorLaid Tryz.prog 400 os) #[.slice none 0 0] 8 rfl (World.shaped_of_RefB (by kernel_rfl) (by kernel_rfl)) (by kernel_rfl) (by kernel_rfl) (by kernel_rfl) (zdY os _)) ?_;intro W base args ds gs before hval0 hW hcnd hsz0 hL _;have hP:=zmn hL;have hsz:(DataW.weightsEach Tryz.prog (Tryz.f6.params.toList++Rows.hostQuietSpec.plain.varTypes Tryz.prog) (ds++gs)).all (·<=reachBytes)=true:=hsz0;have hval:∀(j:Nat) t v,Tryz.f6.params[j]?=some t->args[j]?=some v->Value.okWide Tryz.prog W .any base t v:=hval0;have hW':=hW;obtain⟨p,q,hA0,hV,rfl,hfz,hnd⟩:=hW;have hA:DataW.TrodAll enc Tryz.prog W 0 (fun _=>true) true Tryz.f6.params.toList args.toList ds p:=hA0;rw[Tryz.params6]at hA hval hsz;obtain⟨v0,vs0,d0,ds0,p0,q0,hargs,rfl,rfl,h0,r0⟩:=trodAll_cons hA;obtain⟨rfl,rfl,rfl⟩:=trodAll_nil r0;obtain rfl:args=#[v0]:=by cases args;simp_all
 obtain⟨rfl,rfl⟩:=trodVars_none hV;obtain⟨a0,len0,cap0,rfl⟩:=okWide_slice Tryz.underlying45 (hval 0 45 v0 rfl rfl);have k0:=h0;have lt0:∀x∈p0,x.block<W.heap.size:=by obtain⟨m,hm⟩:=k0;exact DataW.trod_lt m _ _ _ hm
 obtain⟨z0,w0,hr0⟩:∃zs,zcV .i64 W a0 len0 cap0 zs/\cap0*8<=140737488351232:=by
  obtain⟨fuel,hf⟩:=h0;rcases open_ints Tryz.underlying45 Tryz.underlying2 (by kernel_rfl) hf with⟨hcs,_⟩|⟨x,l,c,zs,hcs,_,hl,hm,hz,hx,hcell,hwz⟩
  · simp[Value.cells]at hcs;obtain⟨rfl,rfl,rfl⟩:=hcs;exact⟨[],.inl ⟨rfl,rfl,rfl,rfl⟩,by omega⟩
  · simp[Value.cells]at hcs;obtain⟨rfl,rfl,rfl⟩:=hcs;have hd:=congrArg Prod.fst hx;simp only at hd;rw[hd]at hsz;have hs:=sized_slice hsz (j:=0) (t:=45) (e:=2) rfl rfl Tryz.underlying45;rw[zcP]at hs;have hz':zs.length=cap0:=(by simpa using hz);simp only[lits,List.length_map,List.length_take,List.length_drop,reachBytes,hz']at hs;exact⟨zs,.inr ⟨_,rfl,hl,hm,hz',hcell,hwz⟩,by omega⟩
 clear hA0 hval0;refine(walk a0 len0 cap0 z0 W hP w0 hr0).mono fun e W' ⟨he,bel⟩=>?_;subst he;exact⟨_,rfl,_,_,_,[],_,[],hW',trodAll_mk1 (shut_bool Tryz.underlying4 _),(trodAll_cons_mk (Below.trod laidOut (by kernel_rfl) (of_decide_eq_true (by kernel_rfl)) k0 bel lt0) trodAll_mk0),rfl,bel.frame _,fun h=>by cases h⟩
theorem closed:joinedFacts Tryz.prog 6 Tryz.f6 Rows.hostQuietSpec Rows.hostQuietRow=true:=by
 unfold joinedFacts;rw[join.j_enter,join.j_lifts,join.j_make]
 kernel_rfl
theorem over:Rows.hostQuietRow.holds Tryz.pinned (OpenSpec.ofChange Rows.hostQuietSpec) :=
 OpenClaim.holds_of_wide 6 Tryz.f6 rfl rfl rfl rfl rfl rfl rfl ⟨rfl,rfl,rfl,rfl,rfl⟩ rfl rfl rfl rfl rfl (by kernel_rfl) Tryz.func6 closed
   (of_decide_eq_true (by kernel_rfl)) (by unfold Func.isWrapper;first|(rw[if_pos (by decide +kernel)];kernel_rfl)|(rw[if_neg (by decide +kernel)];exact⟨rfl,rfl⟩))
   (fun os started H enc _=>lifted os started H enc)
theorem c_wf:Rows.hostQuietRow.wfByText (OpenSpec.ofChange Rows.hostQuietSpec)=true:=by kernel_rfl
theorem c_main:Tryz.pinned.checked.prog.mainIs=some (Rows.hostQuietCard.stood.harness.1,Rows.hostQuietCard.stood.harness.2.toList):=by kernel_rfl
theorem c_looks:true=Tryz.pinned.checked.prog.looks []:=by kernel_rfl
theorem c_named:Tryz.prog.funcNamed Rows.hostQuietRow.func=some 6:=by kernel_rfl
theorem c_stand:(Tryz.f6.params.toList.all fun u=>!Tryz.prog.wantsStandIn u)=true:=by kernel_rfl
theorem c_goes:false=Rows.hostQuietRow.goesBy Tryz.pinned.checked.prog:=by kernel_rfl
theorem proved:Rows.HostQuietCardSaid :=
 Claim7.holds_tied_plain_at .later [] [.data,.data,.data] true Rows.hostQuietCard.stood.harness true
   over (fun _ h=>by cases h) c_wf (fun _ h=>by cases h) hostQuiet_row_tie rfl ⟨rfl,rfl⟩ c_main rfl
   (fun f fn hf hfn=>by
     obtain rfl:f=6:=Option.some.inj (c_named.symm.trans hf) |>.symm;obtain rfl:fn=Tryz.f6:=(Option.some.inj (Tryz.func6.symm.trans hfn)).symm;exact⟨c_looks,fun j t ht=>by
      have hm:t∈Tryz.f6.params.toList:=(by simpa using Array.mem_of_getElem? ht);exact(show Tryz.prog.wantsStandIn t=false by simpa using List.all_eq_true.1 c_stand t hm)⟩)
   c_goes
end Go.Proofs.YtcbcfcdmdedefaaGreatDoor.hostQuiet
