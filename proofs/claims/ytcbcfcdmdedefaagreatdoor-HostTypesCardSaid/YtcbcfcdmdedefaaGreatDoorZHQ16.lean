import Derived.Test.YtcbcfcdmdedefaaGreatDoorZHQ15
set_option maxRecDepth 100000
set_option maxHeartbeats 16000000
namespace Go.Proofs.YtcbcfcdmdedefaaGreatDoor
open Go.RowKit
theorem ze_ {fn:Func}{p u:Tmp}{ty:TypeId}(h:fn.results=#[.cell p ty,.tmp u])(tmps:Array Value)(w:World)(g:Nat)(t:TypeId)(cs:List Value)(fs:Array Field)
    (hp:tmps.getD p undef=.pointer (some ⟨g,0,none⟩)) (hg:zb_ w g t cs) (hu:Tryz.prog.underlying ty=some (.struct fs)) (hi:(Tryz.prog.info? ty).map (·.size)=some cs.toArray.size) :
    (results fn tmps).run Tryz.prog w=.ok (.tuple #[.agg cs.toArray,tmps.getD u undef]) w:=by
      have hp':tmps[p]?.getD undef=.pointer (some ⟨g,0,none⟩):=(by simpa using hp);rw[results_cell_tmp h];simp[hp',asAddr,run_loadVar_row w g t ty cs.toArray (0,0) (.struct fs) hg hu rfl hi]
def kQ_ (l:List UInt8):List UInt8×List UInt8:=match vI_ l with|some p=>p|none=>(l,[])
theorem zpX (l:List UInt8):zmE l=.tuple #[.string (zj_ (kQ_ l).1),.string (zj_ (kQ_ l).2),.bool (vI_ l).isSome]:=by
 unfold zmE kQ_;cases vI_ l with
 | none=>rfl
 | some p=>rfl
theorem zed (l:List UInt8):(kQ_ l).1.length<=l.length/\(kQ_ l).2.length<=l.length:=by
 unfold kQ_;cases h:vI_ l with
 | none=>simp
 | some p =>
   obtain⟨a,b⟩:=p;obtain⟨h1,h2,h3⟩:=jq_ h;simp only;refine⟨by omega,?_⟩;rw[h2,List.length_drop];omega
def zbV:List UInt8:=[117,110,105,116]
theorem zgM (l:List UInt8):gM_ l=(if (kQ_ l).1=zbV then (match zbU (kQ_ (kQ_ l).2).1,zbU (kQ_ (kQ_ l).2).2 with|some x,some y=>some (x,y)|_,_=>none) else none):=by
 have hnil:zbU []=none:=rfl;unfold gM_;by_cases h5:l.take 5=[117,110,105,116,32]
 · have hl:l=zbV++32::l.drop 5:=(by
    have:=List.take_append_drop 5 l;rw[h5]at this;rw[<-this];rfl);have hc:kQ_ l=(zbV,l.drop 5):=(by
    unfold kQ_;rw[hl,qe_ _ _ (by decide)];rfl);rw[if_pos h5,hc];simp only[if_true];unfold kQ_;cases vI_ (l.drop 5) with
   | none =>
     simp only;rw[hnil];cases zbU (l.drop 5)<;>rfl
   | some p=>rfl
 · rw [if_neg h5];by_cases hu:(kQ_ l).1=zbV
   · rw [if_pos hu];unfold kQ_ at hu⊢;cases hc:vI_ l with
     | none =>
       rw[hc]at hu;simp only at hu⊢;rw[show vI_ ([]:List UInt8)=none from rfl];simp only;rw[hnil]
     | some p =>
       obtain ⟨a,b⟩:=p;rw[hc]at hu;simp only at hu;subst hu;exfalso;obtain⟨h1,h2,h3⟩:=jq_ hc;have hl:vI_ l=some (zbV,b):=hc;have key:∀(a l b:List UInt8),vI_ l=some (a,b)->l=a++32::b:=by
        intro a
        induction a with
        | nil =>
          intro l b h;cases l with
          | nil=>simp[vI_]at h
          | cons x l =>
            rw[vI_]at h;by_cases hx:x=32
            · rw[if_pos hx]at h;simp at h;rw[hx,h];rfl
            · rw[if_neg hx]at h;cases hc:vI_ l with
              | none=>rw[hc]at h;simp at h
              | some p=>rw[hc]at h;simp at h
        | cons y a ih =>
          intro l b h;cases l with
          | nil=>simp[vI_]at h
          | cons x l =>
            rw[vI_]at h;by_cases hx:x=32
            · rw[if_pos hx]at h;simp at h
            · rw[if_neg hx]at h;cases hc:vI_ l with
              | none=>rw[hc]at h;simp at h
              | some p =>
                obtain⟨q,r⟩:=p;rw[hc]at h;simp at h;obtain⟨⟨rfl,rfl⟩,rfl⟩:=h;rw[ih l r hc];rfl
       rw[key _ _ _ hl]at h5;exact h5 rfl
   · rw[if_neg hu]
def zki (l:List UInt8):Value:=match gM_ l with
  | some (p,m)=>.tuple #[.agg #[.int .i64 (p:Int),.int .i64 (m:Int),.slice none 0 0],.bool true]
  | none=>.tuple #[.agg #[.int .i64 0,.int .i64 0,.slice none 0 0],.bool false]
def qs_ (l:List UInt8)(w:World)(e:Ending)(w':World):Prop:=e=.returned (zki l)/\Chg [] w w'
section
variable {w:World}
theorem zeD (l:List UInt8) (hl:l.length<=1000000):Calls Tryz.prog 152 #[.string (zj_ l)] w (qs_ l w):=by
 have hcl:=zed l;have hcl2:=zed (kQ_ l).2;have HC1:=hQ_ (fun (W:World)=>zcM (w:=W) l hl);have HC2:=hQ_ (fun (W:World)=>zcM (w:=W) (kQ_ l).2 (by omega));have HN1:=hQ_ (fun (W:World)=>jD_ (w:=W) (kQ_ (kQ_ l).2).1 (by omega));have HN2:=hQ_ (fun (W:World)=>jD_ (w:=W) (kQ_ (kQ_ l).2).2 (by omega));obtain⟨V,hV⟩:∃V,V=zki l:=⟨_,rfl⟩;unfold qs_;rw[<-hV];unfold zki at hV;rw[zgM]at hV;unfold kV_ at HC1 HC2;rw[zpX]at HC1 HC2;unfold g9_ zjU at HN1 HN2;have HV:=hQ_ hV;clear hV hcl hcl2;generalize (vI_ l).isSome=b1 at HC1;generalize (vI_ (kQ_ l).2).isSome=b2 at HC2;generalize hF:(kQ_ l).1=F1 at HC1 HV;generalize (kQ_ l).2=R1 at *;generalize (kQ_ R1).1=S1 at *;generalize (kQ_ R1).2=S2 at *;have hP1:∀m,zbU S1=some m->m<=9223372036854775807:=fun m h=>zmP h;clear hF hP1;generalize zbU S1=o1 at *;generalize zbU S2=o2 at *;by_cases hF:F1=zbV
 · subst hF;rw[if_pos rfl]at HV;have e4:zj_ zbV=⟨#[117,110,105,116]⟩:=rfl;rw[e4]at HC1;cases o1 with
   | none =>
     simp only at HV HN1;cases o2 with
     | none =>
       simp only at HN2;go_enter Tryz.func152,Tryz.ntmps152;go_upto_region 1 with fail;have hN:=zb_.new w 25 [.int .i64 0,.int .i64 0,.slice none 0 0];have hal:=(Chg.refl [] w).alloc (.cells #[.int .i64 0,.int .i64 0,.slice none 0 0] 25);obtain⟨g,hg⟩:∃g,g=w.heap.size:=⟨_,rfl⟩;rw[<-hg]at hN⊢;have HG:=hQ_ hN;have HW1:=hQ_ hal;have HGS:=hQ_ hg;generalize w.alloc (.cells #[.int .i64 0,.int .i64 0,.slice none 0 0] 25)=w1 at HG HW1⊢;clear hN hal hg;go_wp2_with (first
        | (go_at_call 171;(with_reducible refine(HC1.o _).mono ?_);rintro e w2 ⟨rfl,hc2⟩;have HQ2:=hQ_ (HW1.o.trans hc2);have HG2:=hQ_ (HG.o.keep hc2);clear hc2)
        | (go_at_call 171;(with_reducible refine(HC2.o _).mono ?_);rintro e w3 ⟨rfl,hc3⟩;have HQ3:=hQ_ (HQ2.o.trans hc3);have HG3:=hQ_ (HG2.o.keep hc3);clear hc3)
        | (go_at_call 172;(with_reducible refine(HN1.o _).mono ?_);rintro e w4 ⟨rfl,hc4⟩;have HQ4:=hQ_ (HQ3.o.trans hc4);have HG4:=hQ_ (HG3.o.keep hc4);clear hc4)
        | (go_at_call 172;(with_reducible refine(HN2.o _).mono ?_);rintro e w5 ⟨rfl,hc5⟩;have HQ5:=hQ_ (HQ4.o.trans hc5);have HG5:=hQ_ (HG4.o.keep hc5);have z0:=HG5.o.cell 0;have z1:=HG5.o.cell 1;have z2:=HG5.o.cell 2;have f0:=HG5.o.frozen 0;have f1:=HG5.o.frozen 1;have f2:=HG5.o.frozen 2;clear hc5));have hnl:¬g<w.heap.size:=(by have:=HGS.o;omega);have HC:=((HQ5.o.setCell (p:=⟨g,0,none⟩) (fun h=>absurd h hnl) (.int .i64 0)).setCell (p:=⟨g,1,none⟩) (fun h=>absurd h hnl) (.int .i64 0)).setCell (p:=⟨g,2,none⟩) (fun h=>absurd h hnl) (.slice none 0 0);have HS:=((HG5.o.set_ 0 (.int .i64 0)).set_ 1 (.int .i64 0)).set_ 2 (.slice none 0 0);refine bodyPost_ret_by (ze_ rfl _ _ g 25 [(.int .i64 0),(.int .i64 0),.slice none 0 0] _ rfl HS Tryz.underlying25 (by kernel_rfl)) rfl ⟨by rw[HV.o];rfl,HC⟩
     | some y =>
       simp only at HN2;go_enter Tryz.func152,Tryz.ntmps152;go_upto_region 1 with fail;have hN:=zb_.new w 25 [.int .i64 0,.int .i64 0,.slice none 0 0];have hal:=(Chg.refl [] w).alloc (.cells #[.int .i64 0,.int .i64 0,.slice none 0 0] 25);obtain⟨g,hg⟩:∃g,g=w.heap.size:=⟨_,rfl⟩;rw[<-hg]at hN⊢;have HG:=hQ_ hN;have HW1:=hQ_ hal;have HGS:=hQ_ hg;generalize w.alloc (.cells #[.int .i64 0,.int .i64 0,.slice none 0 0] 25)=w1 at HG HW1⊢;clear hN hal hg;go_wp2_with (first
        | (go_at_call 171;(with_reducible refine(HC1.o _).mono ?_);rintro e w2 ⟨rfl,hc2⟩;have HQ2:=hQ_ (HW1.o.trans hc2);have HG2:=hQ_ (HG.o.keep hc2);clear hc2)
        | (go_at_call 171;(with_reducible refine(HC2.o _).mono ?_);rintro e w3 ⟨rfl,hc3⟩;have HQ3:=hQ_ (HQ2.o.trans hc3);have HG3:=hQ_ (HG2.o.keep hc3);clear hc3)
        | (go_at_call 172;(with_reducible refine(HN1.o _).mono ?_);rintro e w4 ⟨rfl,hc4⟩;have HQ4:=hQ_ (HQ3.o.trans hc4);have HG4:=hQ_ (HG3.o.keep hc4);clear hc4)
        | (go_at_call 172;(with_reducible refine(HN2.o _).mono ?_);rintro e w5 ⟨rfl,hc5⟩;have HQ5:=hQ_ (HQ4.o.trans hc5);have HG5:=hQ_ (HG4.o.keep hc5);have z0:=HG5.o.cell 0;have z1:=HG5.o.cell 1;have z2:=HG5.o.cell 2;have f0:=HG5.o.frozen 0;have f1:=HG5.o.frozen 1;have f2:=HG5.o.frozen 2;clear hc5));have hnl:¬g<w.heap.size:=(by have:=HGS.o;omega);have HC:=((HQ5.o.setCell (p:=⟨g,0,none⟩) (fun h=>absurd h hnl) (.int .i64 0)).setCell (p:=⟨g,1,none⟩) (fun h=>absurd h hnl) (.int .i64 0)).setCell (p:=⟨g,2,none⟩) (fun h=>absurd h hnl) (.slice none 0 0);have HS:=((HG5.o.set_ 0 (.int .i64 0)).set_ 1 (.int .i64 0)).set_ 2 (.slice none 0 0);refine bodyPost_ret_by (ze_ rfl _ _ g 25 [(.int .i64 0),(.int .i64 0),.slice none 0 0] _ rfl HS Tryz.underlying25 (by kernel_rfl)) rfl ⟨by rw[HV.o];rfl,HC⟩
   | some x=>cases o2 with
     | none =>
       simp only at HV HN1 HN2;go_enter Tryz.func152,Tryz.ntmps152;go_upto_region 1 with fail;have hN:=zb_.new w 25 [.int .i64 0,.int .i64 0,.slice none 0 0];have hal:=(Chg.refl [] w).alloc (.cells #[.int .i64 0,.int .i64 0,.slice none 0 0] 25);obtain⟨g,hg⟩:∃g,g=w.heap.size:=⟨_,rfl⟩;rw[<-hg]at hN⊢;have HG:=hQ_ hN;have HW1:=hQ_ hal;have HGS:=hQ_ hg;generalize w.alloc (.cells #[.int .i64 0,.int .i64 0,.slice none 0 0] 25)=w1 at HG HW1⊢;clear hN hal hg;go_wp2_with (first
        | (go_at_call 171;(with_reducible refine(HC1.o _).mono ?_);rintro e w2 ⟨rfl,hc2⟩;have HQ2:=hQ_ (HW1.o.trans hc2);have HG2:=hQ_ (HG.o.keep hc2);clear hc2)
        | (go_at_call 171;(with_reducible refine(HC2.o _).mono ?_);rintro e w3 ⟨rfl,hc3⟩;have HQ3:=hQ_ (HQ2.o.trans hc3);have HG3:=hQ_ (HG2.o.keep hc3);clear hc3)
        | (go_at_call 172;(with_reducible refine(HN1.o _).mono ?_);rintro e w4 ⟨rfl,hc4⟩;have HQ4:=hQ_ (HQ3.o.trans hc4);have HG4:=hQ_ (HG3.o.keep hc4);clear hc4)
        | (go_at_call 172;(with_reducible refine(HN2.o _).mono ?_);rintro e w5 ⟨rfl,hc5⟩;have HQ5:=hQ_ (HQ4.o.trans hc5);have HG5:=hQ_ (HG4.o.keep hc5);have z0:=HG5.o.cell 0;have z1:=HG5.o.cell 1;have z2:=HG5.o.cell 2;have f0:=HG5.o.frozen 0;have f1:=HG5.o.frozen 1;have f2:=HG5.o.frozen 2;clear hc5));have hnl:¬g<w.heap.size:=(by have:=HGS.o;omega);have HC:=((HQ5.o.setCell (p:=⟨g,0,none⟩) (fun h=>absurd h hnl) (.int .i64 0)).setCell (p:=⟨g,1,none⟩) (fun h=>absurd h hnl) (.int .i64 0)).setCell (p:=⟨g,2,none⟩) (fun h=>absurd h hnl) (.slice none 0 0);have HS:=((HG5.o.set_ 0 (.int .i64 0)).set_ 1 (.int .i64 0)).set_ 2 (.slice none 0 0);refine bodyPost_ret_by (ze_ rfl _ _ g 25 [(.int .i64 0),(.int .i64 0),.slice none 0 0] _ rfl HS Tryz.underlying25 (by kernel_rfl)) rfl ⟨by rw[HV.o];rfl,HC⟩
     | some y =>
       simp only at HV HN1 HN2;go_enter Tryz.func152,Tryz.ntmps152;go_upto_region 1 with fail;have hN:=zb_.new w 25 [.int .i64 0,.int .i64 0,.slice none 0 0];have hal:=(Chg.refl [] w).alloc (.cells #[.int .i64 0,.int .i64 0,.slice none 0 0] 25);obtain⟨g,hg⟩:∃g,g=w.heap.size:=⟨_,rfl⟩;rw[<-hg]at hN⊢;have HG:=hQ_ hN;have HW1:=hQ_ hal;have HGS:=hQ_ hg;generalize w.alloc (.cells #[.int .i64 0,.int .i64 0,.slice none 0 0] 25)=w1 at HG HW1⊢;clear hN hal hg;go_wp2_with (first
        | (go_at_call 171;(with_reducible refine(HC1.o _).mono ?_);rintro e w2 ⟨rfl,hc2⟩;have HQ2:=hQ_ (HW1.o.trans hc2);have HG2:=hQ_ (HG.o.keep hc2);clear hc2)
        | (go_at_call 171;(with_reducible refine(HC2.o _).mono ?_);rintro e w3 ⟨rfl,hc3⟩;have HQ3:=hQ_ (HQ2.o.trans hc3);have HG3:=hQ_ (HG2.o.keep hc3);clear hc3)
        | (go_at_call 172;(with_reducible refine(HN1.o _).mono ?_);rintro e w4 ⟨rfl,hc4⟩;have HQ4:=hQ_ (HQ3.o.trans hc4);have HG4:=hQ_ (HG3.o.keep hc4);clear hc4)
        | (go_at_call 172;(with_reducible refine(HN2.o _).mono ?_);rintro e w5 ⟨rfl,hc5⟩;have HQ5:=hQ_ (HQ4.o.trans hc5);have HG5:=hQ_ (HG4.o.keep hc5);have z0:=HG5.o.cell 0;have z1:=HG5.o.cell 1;have z2:=HG5.o.cell 2;have f0:=HG5.o.frozen 0;have f1:=HG5.o.frozen 1;have f2:=HG5.o.frozen 2;clear hc5));have hnl:¬g<w.heap.size:=(by have:=HGS.o;omega);have HC:=((HQ5.o.setCell (p:=⟨g,0,none⟩) (fun h=>absurd h hnl) (.int .i64 (x:Int))).setCell (p:=⟨g,1,none⟩) (fun h=>absurd h hnl) (.int .i64 (y:Int))).setCell (p:=⟨g,2,none⟩) (fun h=>absurd h hnl) (.slice none 0 0);have HS:=((HG5.o.set_ 0 (.int .i64 (x:Int))).set_ 1 (.int .i64 (y:Int))).set_ 2 (.slice none 0 0);refine bodyPost_ret_by (ze_ rfl _ _ g 25 [(.int .i64 (x:Int)),(.int .i64 (y:Int)),.slice none 0 0] _ rfl HS Tryz.underlying25 (by kernel_rfl)) rfl ⟨by rw[HV.o];rfl,HC⟩
 · rw[if_neg hF]at HV;have hne:¬(zj_ F1).toList=[117,110,105,116]:=(by
    rw[ByteArray.toList_eq,y9_];exact hF);cases o1 with
   | none =>
     simp only at HV HN1;cases o2 with
     | none =>
       simp only at HN2;go_enter Tryz.func152,Tryz.ntmps152;go_upto_region 1 with fail;have hN:=zb_.new w 25 [.int .i64 0,.int .i64 0,.slice none 0 0];have hal:=(Chg.refl [] w).alloc (.cells #[.int .i64 0,.int .i64 0,.slice none 0 0] 25);obtain⟨g,hg⟩:∃g,g=w.heap.size:=⟨_,rfl⟩;rw[<-hg]at hN⊢;have HG:=hQ_ hN;have HW1:=hQ_ hal;have HGS:=hQ_ hg;generalize w.alloc (.cells #[.int .i64 0,.int .i64 0,.slice none 0 0] 25)=w1 at HG HW1⊢;clear hN hal hg;go_wp2_with (first
        | (go_at_call 171;(with_reducible refine(HC1.o _).mono ?_);rintro e w2 ⟨rfl,hc2⟩;have HQ2:=hQ_ (HW1.o.trans hc2);have HG2:=hQ_ (HG.o.keep hc2);clear hc2)
        | (go_at_call 171;(with_reducible refine(HC2.o _).mono ?_);rintro e w3 ⟨rfl,hc3⟩;have HQ3:=hQ_ (HQ2.o.trans hc3);have HG3:=hQ_ (HG2.o.keep hc3);clear hc3)
        | (go_at_call 172;(with_reducible refine(HN1.o _).mono ?_);rintro e w4 ⟨rfl,hc4⟩;have HQ4:=hQ_ (HQ3.o.trans hc4);have HG4:=hQ_ (HG3.o.keep hc4);clear hc4)
        | (go_at_call 172;(with_reducible refine(HN2.o _).mono ?_);rintro e w5 ⟨rfl,hc5⟩;have HQ5:=hQ_ (HQ4.o.trans hc5);have HG5:=hQ_ (HG4.o.keep hc5);have z0:=HG5.o.cell 0;have z1:=HG5.o.cell 1;have z2:=HG5.o.cell 2;have f0:=HG5.o.frozen 0;have f1:=HG5.o.frozen 1;have f2:=HG5.o.frozen 2;clear hc5));have hnl:¬g<w.heap.size:=(by have:=HGS.o;omega);have HC:=((HQ5.o.setCell (p:=⟨g,0,none⟩) (fun h=>absurd h hnl) (.int .i64 0)).setCell (p:=⟨g,1,none⟩) (fun h=>absurd h hnl) (.int .i64 0)).setCell (p:=⟨g,2,none⟩) (fun h=>absurd h hnl) (.slice none 0 0);have HS:=((HG5.o.set_ 0 (.int .i64 0)).set_ 1 (.int .i64 0)).set_ 2 (.slice none 0 0);refine bodyPost_ret_by (ze_ rfl _ _ g 25 [(.int .i64 0),(.int .i64 0),.slice none 0 0] _ rfl HS Tryz.underlying25 (by kernel_rfl)) rfl ⟨by rw[HV.o];rfl,HC⟩
     | some y =>
       simp only at HN2;go_enter Tryz.func152,Tryz.ntmps152;go_upto_region 1 with fail;have hN:=zb_.new w 25 [.int .i64 0,.int .i64 0,.slice none 0 0];have hal:=(Chg.refl [] w).alloc (.cells #[.int .i64 0,.int .i64 0,.slice none 0 0] 25);obtain⟨g,hg⟩:∃g,g=w.heap.size:=⟨_,rfl⟩;rw[<-hg]at hN⊢;have HG:=hQ_ hN;have HW1:=hQ_ hal;have HGS:=hQ_ hg;generalize w.alloc (.cells #[.int .i64 0,.int .i64 0,.slice none 0 0] 25)=w1 at HG HW1⊢;clear hN hal hg;go_wp2_with (first
        | (go_at_call 171;(with_reducible refine(HC1.o _).mono ?_);rintro e w2 ⟨rfl,hc2⟩;have HQ2:=hQ_ (HW1.o.trans hc2);have HG2:=hQ_ (HG.o.keep hc2);clear hc2)
        | (go_at_call 171;(with_reducible refine(HC2.o _).mono ?_);rintro e w3 ⟨rfl,hc3⟩;have HQ3:=hQ_ (HQ2.o.trans hc3);have HG3:=hQ_ (HG2.o.keep hc3);clear hc3)
        | (go_at_call 172;(with_reducible refine(HN1.o _).mono ?_);rintro e w4 ⟨rfl,hc4⟩;have HQ4:=hQ_ (HQ3.o.trans hc4);have HG4:=hQ_ (HG3.o.keep hc4);clear hc4)
        | (go_at_call 172;(with_reducible refine(HN2.o _).mono ?_);rintro e w5 ⟨rfl,hc5⟩;have HQ5:=hQ_ (HQ4.o.trans hc5);have HG5:=hQ_ (HG4.o.keep hc5);have z0:=HG5.o.cell 0;have z1:=HG5.o.cell 1;have z2:=HG5.o.cell 2;have f0:=HG5.o.frozen 0;have f1:=HG5.o.frozen 1;have f2:=HG5.o.frozen 2;clear hc5));have hnl:¬g<w.heap.size:=(by have:=HGS.o;omega);have HC:=((HQ5.o.setCell (p:=⟨g,0,none⟩) (fun h=>absurd h hnl) (.int .i64 0)).setCell (p:=⟨g,1,none⟩) (fun h=>absurd h hnl) (.int .i64 0)).setCell (p:=⟨g,2,none⟩) (fun h=>absurd h hnl) (.slice none 0 0);have HS:=((HG5.o.set_ 0 (.int .i64 0)).set_ 1 (.int .i64 0)).set_ 2 (.slice none 0 0);refine bodyPost_ret_by (ze_ rfl _ _ g 25 [(.int .i64 0),(.int .i64 0),.slice none 0 0] _ rfl HS Tryz.underlying25 (by kernel_rfl)) rfl ⟨by rw[HV.o];rfl,HC⟩
   | some x=>cases o2 with
     | none =>
       simp only at HV HN1 HN2;go_enter Tryz.func152,Tryz.ntmps152;go_upto_region 1 with fail;have hN:=zb_.new w 25 [.int .i64 0,.int .i64 0,.slice none 0 0];have hal:=(Chg.refl [] w).alloc (.cells #[.int .i64 0,.int .i64 0,.slice none 0 0] 25);obtain⟨g,hg⟩:∃g,g=w.heap.size:=⟨_,rfl⟩;rw[<-hg]at hN⊢;have HG:=hQ_ hN;have HW1:=hQ_ hal;have HGS:=hQ_ hg;generalize w.alloc (.cells #[.int .i64 0,.int .i64 0,.slice none 0 0] 25)=w1 at HG HW1⊢;clear hN hal hg;go_wp2_with (first
        | (go_at_call 171;(with_reducible refine(HC1.o _).mono ?_);rintro e w2 ⟨rfl,hc2⟩;have HQ2:=hQ_ (HW1.o.trans hc2);have HG2:=hQ_ (HG.o.keep hc2);clear hc2)
        | (go_at_call 171;(with_reducible refine(HC2.o _).mono ?_);rintro e w3 ⟨rfl,hc3⟩;have HQ3:=hQ_ (HQ2.o.trans hc3);have HG3:=hQ_ (HG2.o.keep hc3);clear hc3)
        | (go_at_call 172;(with_reducible refine(HN1.o _).mono ?_);rintro e w4 ⟨rfl,hc4⟩;have HQ4:=hQ_ (HQ3.o.trans hc4);have HG4:=hQ_ (HG3.o.keep hc4);clear hc4)
        | (go_at_call 172;(with_reducible refine(HN2.o _).mono ?_);rintro e w5 ⟨rfl,hc5⟩;have HQ5:=hQ_ (HQ4.o.trans hc5);have HG5:=hQ_ (HG4.o.keep hc5);have z0:=HG5.o.cell 0;have z1:=HG5.o.cell 1;have z2:=HG5.o.cell 2;have f0:=HG5.o.frozen 0;have f1:=HG5.o.frozen 1;have f2:=HG5.o.frozen 2;clear hc5));have hnl:¬g<w.heap.size:=(by have:=HGS.o;omega);have HC:=((HQ5.o.setCell (p:=⟨g,0,none⟩) (fun h=>absurd h hnl) (.int .i64 0)).setCell (p:=⟨g,1,none⟩) (fun h=>absurd h hnl) (.int .i64 0)).setCell (p:=⟨g,2,none⟩) (fun h=>absurd h hnl) (.slice none 0 0);have HS:=((HG5.o.set_ 0 (.int .i64 0)).set_ 1 (.int .i64 0)).set_ 2 (.slice none 0 0);refine bodyPost_ret_by (ze_ rfl _ _ g 25 [(.int .i64 0),(.int .i64 0),.slice none 0 0] _ rfl HS Tryz.underlying25 (by kernel_rfl)) rfl ⟨by rw[HV.o];rfl,HC⟩
     | some y =>
       simp only at HV HN1 HN2;go_enter Tryz.func152,Tryz.ntmps152;go_upto_region 1 with fail;have hN:=zb_.new w 25 [.int .i64 0,.int .i64 0,.slice none 0 0];have hal:=(Chg.refl [] w).alloc (.cells #[.int .i64 0,.int .i64 0,.slice none 0 0] 25);obtain⟨g,hg⟩:∃g,g=w.heap.size:=⟨_,rfl⟩;rw[<-hg]at hN⊢;have HG:=hQ_ hN;have HW1:=hQ_ hal;have HGS:=hQ_ hg;generalize w.alloc (.cells #[.int .i64 0,.int .i64 0,.slice none 0 0] 25)=w1 at HG HW1⊢;clear hN hal hg;go_wp2_with (first
        | (go_at_call 171;(with_reducible refine(HC1.o _).mono ?_);rintro e w2 ⟨rfl,hc2⟩;have HQ2:=hQ_ (HW1.o.trans hc2);have HG2:=hQ_ (HG.o.keep hc2);clear hc2)
        | (go_at_call 171;(with_reducible refine(HC2.o _).mono ?_);rintro e w3 ⟨rfl,hc3⟩;have HQ3:=hQ_ (HQ2.o.trans hc3);have HG3:=hQ_ (HG2.o.keep hc3);clear hc3)
        | (go_at_call 172;(with_reducible refine(HN1.o _).mono ?_);rintro e w4 ⟨rfl,hc4⟩;have HQ4:=hQ_ (HQ3.o.trans hc4);have HG4:=hQ_ (HG3.o.keep hc4);clear hc4)
        | (go_at_call 172;(with_reducible refine(HN2.o _).mono ?_);rintro e w5 ⟨rfl,hc5⟩;have HQ5:=hQ_ (HQ4.o.trans hc5);have HG5:=hQ_ (HG4.o.keep hc5);have z0:=HG5.o.cell 0;have z1:=HG5.o.cell 1;have z2:=HG5.o.cell 2;have f0:=HG5.o.frozen 0;have f1:=HG5.o.frozen 1;have f2:=HG5.o.frozen 2;clear hc5));have hnl:¬g<w.heap.size:=(by have:=HGS.o;omega);have HC:=((HQ5.o.setCell (p:=⟨g,0,none⟩) (fun h=>absurd h hnl) (.int .i64 0)).setCell (p:=⟨g,1,none⟩) (fun h=>absurd h hnl) (.int .i64 0)).setCell (p:=⟨g,2,none⟩) (fun h=>absurd h hnl) (.slice none 0 0);have HS:=((HG5.o.set_ 0 (.int .i64 0)).set_ 1 (.int .i64 0)).set_ 2 (.slice none 0 0);refine bodyPost_ret_by (ze_ rfl _ _ g 25 [(.int .i64 0),(.int .i64 0),.slice none 0 0] _ rfl HS Tryz.underlying25 (by kernel_rfl)) rfl ⟨by rw[HV.o];rfl,HC⟩
end
def yA_ (l:List UInt8):Nat×List UInt8:=if l=[] then (0,[]) else ((Utf8.decode (zj_ l) 0).1,l.drop (Utf8.decode (zj_ l) 0).2)
def qw_ (l:List UInt8)(w:World)(e:Ending)(w':World):Prop:=e=.returned (.tuple #[.int .i32 ((yA_ l).1:Int),.string (zj_ (yA_ l).2)])/\Chg [] w w'
section
variable {w:World}
theorem zeG (l:List UInt8)(hl:l.length<=1000000):Calls Tryz.prog 173 #[.string (zj_ l)] w (qw_ l w):=by
 have HPP:=hQ_ (show ∀(r:Nat)(s:ByteArray)(wr:World),r=(yA_ l).1->s=zj_ (yA_ l).2->Chg [] w wr->qw_ l w (.returned (.tuple #[.int .i32 (r:Int),.string s])) wr from fun r s wr h1 h2 h3=>⟨by rw[h1,h2],h3⟩);obtain⟨S,hS⟩:∃S,S=zj_ l:=⟨_,rfl⟩;have HS:=hQ_ hS;have hszS:S.size=l.length:=by rw[hS];exact zL_ l
 rw[<-hS];clear hS;obtain⟨n,hn⟩:∃n,n=l.length:=⟨_,rfl⟩;rw[<-hn]at hszS hl;have HNL:=hQ_ hn;clear hn;have HSZ:=hQ_ hszS;go_enter Tryz.func173,Tryz.ntmps173;go_upto_region 3 with fail;have hI:(w.iter S 0).heap[w.heap.size]?=some (.stringIter S 0):=World.iter_heap w S 0;have hc0:Chg [] w (w.iter S 0):=(Chg.refl [] w).alloc _;obtain⟨kI,hkI⟩:∃k,k=w.heap.size:=⟨_,rfl⟩;rw[<-hkI]at hI⊢;generalize w.iter S 0=w1 at hI hc0⊢;have HI:=hQ_ hI;have HC0:=hQ_ hc0;have HK:=hQ_ hkI;clear hI hc0 hkI hszS;have HCZ:=hQ_ (fun (W:World)(hW:Chg [kI] w1 W)=>show Chg [] w W from HC0.o.then_ hW (fun i hi hl=>by have:=HK.o;simp only[List.mem_cons,List.not_mem_nil,or_false]at hi;omega));go_loopw [4] (fun v wr=>∃(pos r:Nat),v=.int .i32 (r:Int)/\r<=2147483647/\pos<=n/\Hid (wr.heap[kI]?=some (.stringIter S pos))/\Hid ((pos=0/\r=0)\/(0<n/\0<pos/\r=(yA_ l).1/\(yA_ l).2=l.drop pos))/\Hid (Chg [kI] w1 wr)) (fun _ wr=>n-wr.iterPos kI);case atStart=>exact⟨0,0,rfl,by omega,by omega,HI,hQ_ (.inl ⟨rfl,rfl⟩),hQ_ (Chg.refl _ _)⟩
 case round =>
  obtain⟨pos,r,rfl,hr,hpn,HIr,HX,HCr⟩:=hrel;by_cases hlt:pos<n
  · have hltS:pos<S.size:=(by rw[HSZ.o];exact hlt);have hnx:=fun ty=>Lib.run_next_any_at (P:=Tryz.prog) wr kI S pos ty HIr.o hltS;go_upto_region 5 with fail;obtain⟨d,hd⟩:∃d,d=(Utf8.decode S pos).2:=⟨_,rfl⟩;obtain⟨x,hx⟩:∃r,r=(Utf8.decode S pos).1:=⟨_,rfl⟩;have hx2:x<=2147483647:=(by rw[hx];exact decode_le S pos);have hdd:1<=d/\pos+d<=n:=by
     have hdb:=g0_ l pos (by rw[<-HNL.o];exact hlt);rw[<-HS.o,<-HNL.o]at hdb;rcases hdb with⟨_,h2⟩|⟨_,_,h3,h4,_⟩
     · have e:d=1:=(by rw[hd,h2]);omega
     · rw[<-hd]at h3 h4;exact⟨h3,h4⟩
    have HI2:=hQ_ (Lib.iterAt_heap wr kI S pos (pos+d) HIr.o);have HC2:=hQ_ (show Chg [kI] w1 (wr.iterAt kI S (pos+d)) from HCr.o.trans ⟨rfl,rfl,rfl,by rw[Lib.iterAt_size];exact Nat.le_refl _,fun i _ hn=>Lib.iterAt_other wr kI i S (pos+d) (by simpa using hn)⟩);have HMP:=hQ_ (show wr.iterPos kI=pos from by unfold World.iterPos;rw[HIr.o]);have HP2:=hQ_ (show(wr.iterAt kI S (pos+d)).iterPos kI=pos+d from by unfold World.iterPos;rw[HI2.o]);have HDX:=hQ_ (And.intro hd hx);rw[<-hd,<-hx];generalize wr.iterAt kI S (pos+d)=w3 at HI2 HC2 HP2⊢;clear hd hx hnx;rcases HX.o with⟨rfl,rfl⟩|⟨hn0,hp0,hr1,hr2⟩
    · have hne:l≠[]:=fun h=>(by
       have e:=HNL.o;rw[h,List.length_nil]at e;omega);have HX2:=hQ_ (show(0+d=0/\x=0)\/(0<n/\0<0+d/\x=(yA_ l).1/\(yA_ l).2=l.drop (0+d)) from by
       refine .inr ⟨hlt,by omega,?_,?_⟩
       · unfold yA_;rw[if_neg hne,HDX.o.2,HS.o]
       · unfold yA_;rw[if_neg hne,HDX.o.1,HS.o,Nat.zero_add]);clear hne;go_wp2_with fail;go_roundw;(case rel=>exact⟨0+d,x,rfl,hx2,by omega,HI2,HX2,HC2⟩);case measure=>rw[HP2.o,HMP.o];omega
    · have hpI:(0:Int)<(pos:Int):=(by omega);have hpJ:(0:Int)<=(pos:Int):=(by omega);have hpS:(pos:Int)<=(S.size:Int):=(by omega);have hpT:(pos:Int)<=(n:Int):=(by omega);have hsn:=HSZ.o;have HEX:=hQ_ (show S.extract pos S.size=zj_ (yA_ l).2 from by
       rw[HS.o,uN_,zL_,hr2,List.take_of_length_le (by rw[List.length_drop];exact Nat.le_refl _)]);have HEN:=hQ_ (show S.extract pos n=zj_ (yA_ l).2 from by rw[<-hsn];exact HEX.o);have HR1:=hQ_ hr1;have HCF:=hQ_ (show Chg [] w w3.drew from(HCZ.o _ HC2.o).drew);clear hr1 hr2 hn0;go_wp2_with fail;go_region;(all_goals go_wp2_with fail);(all_goals go_ret2);all_goals first|exact HPP.o _ _ _ HR1.o HEX.o HCF.o|exact HPP.o _ _ _ HR1.o HEN.o HCF.o
  · have hnx:=fun ty=>Lib.run_next_end_at (P:=Tryz.prog) wr kI S pos ty HIr.o (by rw[HSZ.o];exact hlt);obtain rfl:pos=n:=(by omega);have HPO:=hQ_ (HPP.o r ⟨#[]⟩ wr (by
     rcases HX.o with⟨rfl,rfl⟩|⟨_,_,h,_⟩
     · have:l=[]:=List.eq_nil_of_length_eq_zero HNL.o.symm;unfold yA_;rw[if_pos this]
     · exact h) (by
     rcases HX.o with⟨rfl,rfl⟩|⟨_,_,_,h⟩
     · have:l=[]:=List.eq_nil_of_length_eq_zero HNL.o.symm;unfold yA_;rw[if_pos this];rfl
     · rw[h,HNL.o,List.drop_length];rfl) (HCZ.o _ HCr.o));go_wp2_with fail;go_ret2;exact HPO.o
end
theorem zlu (l:List UInt8):gP_ l=(match vI_ (yA_ l).2 with
  | some ([x],b)=>if 48<=x.toNat/\x.toNat<=57 then some ⟨((yA_ l).1:Int),((x.toNat-48:Nat):Int),zj_ b⟩ else none
  | _=>none):=by
  unfold gP_ yA_;by_cases h0:l=[]
  · subst h0;rfl
  · rw[if_neg h0];show(match l.drop (Utf8.decode (zj_ l) 0).2 with|x::y::code=>_|_=>none)=_;simp only;generalize l.drop (Utf8.decode (zj_ l) 0).2=R
    match R with
    | []=>rfl
    | [x] =>
      simp only[vI_];by_cases hx:x=32
      · rw[if_pos hx]
      · rw[if_neg hx];rfl
    | x :: y::t =>
      simp only[vI_];by_cases hx:x=32
      · rw[if_pos hx,if_neg];rintro⟨_,h2,_⟩;rw[hx]at h2;exact absurd h2 (by decide)
      · rw[if_neg hx];by_cases hy:y=32
        · rw[if_pos hy];simp only[Option.map_some];by_cases hd:48<=x.toNat/\x.toNat<=57
          · rw[if_pos hd,if_pos ⟨h0,hd.1,hd.2,hy⟩];rfl
          · rw[if_neg hd,if_neg (fun h=>hd ⟨h.2.1,h.2.2.1⟩)]
        · rw[if_neg hy,if_neg (fun h=>hy h.2.2.2)];cases vI_ t with
          | none=>rfl
          | some p=>rfl
def zlv (l:List UInt8):Value:=match gP_ l with
  | some f=>.tuple #[.agg (fnC f).toArray,.bool true]
  | none=>.tuple #[.agg #[.int .i32 0,.int .i64 0,.string ⟨#[]⟩],.bool false]
def zad (l:List UInt8)(w:World)(e:Ending)(w':World):Prop:=e=.returned (zlv l)/\Chg [] w w'
theorem zfE (l:List UInt8):(yA_ l).2.length<=l.length:=by
 unfold yA_;split
 · simp
 · simp
section
variable {w:World}
theorem zgq (l:List UInt8) (hl:l.length<=1000000):Calls Tryz.prog 153 #[.string (zj_ l)] w (zad l w):=by
 have hfl:=zfE l;have HF1:=hQ_ (fun (W:World)=>zeG (w:=W) l hl);have HC1:=hQ_ (fun (W:World)=>zcM (w:=W) (yA_ l).2 (by omega));obtain⟨V,hV⟩:∃V,V=zlv l:=⟨_,rfl⟩;unfold zad;rw[<-hV];unfold zlv at hV;rw[zlu]at hV;unfold qw_ at HF1;unfold kV_ zmE at HC1;have HV:=hQ_ hV;clear hV hfl;generalize (yA_ l).1=r at *;generalize (yA_ l).2=R at *;generalize vI_ R=o at *
 match o with
 | none =>
   simp only at HC1 HV;go_enter Tryz.func153,Tryz.ntmps153;go_upto_region 1 with fail;have hN:=zb_.new w 44 [.int .i32 0,.int .i64 0,.string ⟨#[]⟩];have hal:=(Chg.refl [] w).alloc (.cells #[.int .i32 0,.int .i64 0,.string ⟨#[]⟩] 44);obtain⟨g,hg⟩:∃g,g=w.heap.size:=⟨_,rfl⟩;rw[<-hg]at hN⊢;have HG:=hQ_ hN;have HW1:=hQ_ hal;have HGS:=hQ_ hg;generalize w.alloc (.cells #[.int .i32 0,.int .i64 0,.string ⟨#[]⟩] 44)=w1 at HG HW1⊢;clear hN hal hg;go_wp2_with (first
    | (go_at_call 173;(with_reducible refine(HF1.o _).mono ?_);rintro e w2 ⟨rfl,hc2⟩;have HQ2:=hQ_ (HW1.o.trans hc2);have HG2:=hQ_ (HG.o.keep hc2);clear hc2)
    | (go_at_call 171;(with_reducible refine(HC1.o _).mono ?_);rintro e w3 ⟨rfl,hc3⟩;have HQ5:=hQ_ (HQ2.o.trans hc3);have HG5:=hQ_ (HG2.o.keep hc3);have z0:=HG5.o.cell 0;have z1:=HG5.o.cell 1;have z2:=HG5.o.cell 2;have f0:=HG5.o.frozen 0;have f1:=HG5.o.frozen 1;have f2:=HG5.o.frozen 2;clear hc3));have hnl:¬g<w.heap.size:=(by have:=HGS.o;omega);have HC:=((HQ5.o.setCell (p:=⟨g,0,none⟩) (fun h=>absurd h hnl) (.int .i32 0)).setCell (p:=⟨g,1,none⟩) (fun h=>absurd h hnl) (.int .i64 0)).setCell (p:=⟨g,2,none⟩) (fun h=>absurd h hnl) (.string ⟨#[]⟩);have HS:=((HG5.o.set_ 0 (.int .i32 0)).set_ 1 (.int .i64 0)).set_ 2 (.string ⟨#[]⟩);refine bodyPost_ret_by (ze_ rfl _ _ g 44 [(.int .i32 0),(.int .i64 0),(.string ⟨#[]⟩)] _ rfl HS Tryz.underlying44 (by kernel_rfl)) rfl ⟨by rw[HV.o];rfl,HC⟩
 | some ([],b) =>
   simp only at HC1 HV;have e0:(zj_ ([]:List UInt8)).size=0:=rfl;go_enter Tryz.func153,Tryz.ntmps153;go_upto_region 1 with fail;have hN:=zb_.new w 44 [.int .i32 0,.int .i64 0,.string ⟨#[]⟩];have hal:=(Chg.refl [] w).alloc (.cells #[.int .i32 0,.int .i64 0,.string ⟨#[]⟩] 44);obtain⟨g,hg⟩:∃g,g=w.heap.size:=⟨_,rfl⟩;rw[<-hg]at hN⊢;have HG:=hQ_ hN;have HW1:=hQ_ hal;have HGS:=hQ_ hg;generalize w.alloc (.cells #[.int .i32 0,.int .i64 0,.string ⟨#[]⟩] 44)=w1 at HG HW1⊢;clear hN hal hg;go_wp2_with (first
    | (go_at_call 173;(with_reducible refine(HF1.o _).mono ?_);rintro e w2 ⟨rfl,hc2⟩;have HQ2:=hQ_ (HW1.o.trans hc2);have HG2:=hQ_ (HG.o.keep hc2);clear hc2)
    | (go_at_call 171;(with_reducible refine(HC1.o _).mono ?_);rintro e w3 ⟨rfl,hc3⟩;have HQ5:=hQ_ (HQ2.o.trans hc3);have HG5:=hQ_ (HG2.o.keep hc3);have z0:=HG5.o.cell 0;have z1:=HG5.o.cell 1;have z2:=HG5.o.cell 2;have f0:=HG5.o.frozen 0;have f1:=HG5.o.frozen 1;have f2:=HG5.o.frozen 2;clear hc3));have hnl:¬g<w.heap.size:=(by have:=HGS.o;omega);have HC:=((HQ5.o.setCell (p:=⟨g,0,none⟩) (fun h=>absurd h hnl) (.int .i32 0)).setCell (p:=⟨g,1,none⟩) (fun h=>absurd h hnl) (.int .i64 0)).setCell (p:=⟨g,2,none⟩) (fun h=>absurd h hnl) (.string ⟨#[]⟩);have HS:=((HG5.o.set_ 0 (.int .i32 0)).set_ 1 (.int .i64 0)).set_ 2 (.string ⟨#[]⟩);refine bodyPost_ret_by (ze_ rfl _ _ g 44 [(.int .i32 0),(.int .i64 0),(.string ⟨#[]⟩)] _ rfl HS Tryz.underlying44 (by kernel_rfl)) rfl ⟨by rw[HV.o];rfl,HC⟩
 | some (x::y::a,b) =>
   simp only at HC1 HV;have e0:(zj_ (x::y::a)).size=a.length+2:=(by rw[zL_];rfl);have e1:(((a.length+2:Nat):Int) != 1)=true:=(by simp;omega);have e2:(((zj_ (x::y::a)).size:Int) != 1)=true:=(by rw[e0];exact e1);generalize zj_ (x::y::a)=S at *;have HE0:=hQ_ e0;clear e0 e1;go_enter Tryz.func153,Tryz.ntmps153;go_upto_region 1 with fail;have hN:=zb_.new w 44 [.int .i32 0,.int .i64 0,.string ⟨#[]⟩];have hal:=(Chg.refl [] w).alloc (.cells #[.int .i32 0,.int .i64 0,.string ⟨#[]⟩] 44);obtain⟨g,hg⟩:∃g,g=w.heap.size:=⟨_,rfl⟩;rw[<-hg]at hN⊢;have HG:=hQ_ hN;have HW1:=hQ_ hal;have HGS:=hQ_ hg;generalize w.alloc (.cells #[.int .i32 0,.int .i64 0,.string ⟨#[]⟩] 44)=w1 at HG HW1⊢;clear hN hal hg;go_wp2_with (first
    | (go_at_call 173;(with_reducible refine(HF1.o _).mono ?_);rintro e w2 ⟨rfl,hc2⟩;have HQ2:=hQ_ (HW1.o.trans hc2);have HG2:=hQ_ (HG.o.keep hc2);clear hc2)
    | (go_at_call 171;(with_reducible refine(HC1.o _).mono ?_);rintro e w3 ⟨rfl,hc3⟩;have HQ5:=hQ_ (HQ2.o.trans hc3);have HG5:=hQ_ (HG2.o.keep hc3);have z0:=HG5.o.cell 0;have z1:=HG5.o.cell 1;have z2:=HG5.o.cell 2;have f0:=HG5.o.frozen 0;have f1:=HG5.o.frozen 1;have f2:=HG5.o.frozen 2;clear hc3));have hnl:¬g<w.heap.size:=(by have:=HGS.o;omega);have HC:=((HQ5.o.setCell (p:=⟨g,0,none⟩) (fun h=>absurd h hnl) (.int .i32 0)).setCell (p:=⟨g,1,none⟩) (fun h=>absurd h hnl) (.int .i64 0)).setCell (p:=⟨g,2,none⟩) (fun h=>absurd h hnl) (.string ⟨#[]⟩);have HS:=((HG5.o.set_ 0 (.int .i32 0)).set_ 1 (.int .i64 0)).set_ 2 (.string ⟨#[]⟩);refine bodyPost_ret_by (ze_ rfl _ _ g 44 [(.int .i32 0),(.int .i64 0),(.string ⟨#[]⟩)] _ rfl HS Tryz.underlying44 (by kernel_rfl)) rfl ⟨by rw[HV.o];rfl,HC⟩
 | some ([x],b) =>
   simp only at HC1 HV;have e0:(zj_ [x]).size=1:=(by rw[zL_];rfl);have hg0:∀h:0<(zj_ [x]).size,((zj_ [x])[0]'h).toNat=x.toNat:=(by
    intro h;have e1:=get_at (zj_ [x]) 0 h;rw[Nat.add_zero,show(zj_ [x]).get! 0=x from yO_ [x] 0]at e1;rw[<-e1]);generalize zj_ [x]=S at *;have hx:=x.toNat_lt;generalize x.toNat=c at *;by_cases h1:c<48
   · rw[if_neg (by omega)]at HV;have q1:decide ((c:Int)<48)=true:=(by simp;omega);clear h1 hx;go_enter Tryz.func153,Tryz.ntmps153;go_upto_region 1 with fail;have hN:=zb_.new w 44 [.int .i32 0,.int .i64 0,.string ⟨#[]⟩];have hal:=(Chg.refl [] w).alloc (.cells #[.int .i32 0,.int .i64 0,.string ⟨#[]⟩] 44);obtain⟨g,hg⟩:∃g,g=w.heap.size:=⟨_,rfl⟩;rw[<-hg]at hN⊢;have HG:=hQ_ hN;have HW1:=hQ_ hal;have HGS:=hQ_ hg;generalize w.alloc (.cells #[.int .i32 0,.int .i64 0,.string ⟨#[]⟩] 44)=w1 at HG HW1⊢;clear hN hal hg;go_wp2_with (first
      | (go_at_call 173;(with_reducible refine(HF1.o _).mono ?_);rintro e w2 ⟨rfl,hc2⟩;have HQ2:=hQ_ (HW1.o.trans hc2);have HG2:=hQ_ (HG.o.keep hc2);clear hc2)
      | (go_at_call 171;(with_reducible refine(HC1.o _).mono ?_);rintro e w3 ⟨rfl,hc3⟩;have HQ5:=hQ_ (HQ2.o.trans hc3);have HG5:=hQ_ (HG2.o.keep hc3);have z0:=HG5.o.cell 0;have z1:=HG5.o.cell 1;have z2:=HG5.o.cell 2;have f0:=HG5.o.frozen 0;have f1:=HG5.o.frozen 1;have f2:=HG5.o.frozen 2;clear hc3));have hnl:¬g<w.heap.size:=(by have:=HGS.o;omega);have HC:=((HQ5.o.setCell (p:=⟨g,0,none⟩) (fun h=>absurd h hnl) (.int .i32 0)).setCell (p:=⟨g,1,none⟩) (fun h=>absurd h hnl) (.int .i64 0)).setCell (p:=⟨g,2,none⟩) (fun h=>absurd h hnl) (.string ⟨#[]⟩);have HS:=((HG5.o.set_ 0 (.int .i32 0)).set_ 1 (.int .i64 0)).set_ 2 (.string ⟨#[]⟩);refine bodyPost_ret_by (ze_ rfl _ _ g 44 [(.int .i32 0),(.int .i64 0),(.string ⟨#[]⟩)] _ rfl HS Tryz.underlying44 (by kernel_rfl)) rfl ⟨by rw[HV.o];rfl,HC⟩
   · have q1:decide ((c:Int)<48)=false:=(by simp;omega);by_cases h2:57<c
     · rw[if_neg (by omega)]at HV;have q2:decide ((57:Int)<(c:Int))=true:=(by simp;omega);clear h1 h2 hx;go_enter Tryz.func153,Tryz.ntmps153;go_upto_region 1 with fail;have hN:=zb_.new w 44 [.int .i32 0,.int .i64 0,.string ⟨#[]⟩];have hal:=(Chg.refl [] w).alloc (.cells #[.int .i32 0,.int .i64 0,.string ⟨#[]⟩] 44);obtain⟨g,hg⟩:∃g,g=w.heap.size:=⟨_,rfl⟩;rw[<-hg]at hN⊢;have HG:=hQ_ hN;have HW1:=hQ_ hal;have HGS:=hQ_ hg;generalize w.alloc (.cells #[.int .i32 0,.int .i64 0,.string ⟨#[]⟩] 44)=w1 at HG HW1⊢;clear hN hal hg;go_wp2_with (first
        | (go_at_call 173;(with_reducible refine(HF1.o _).mono ?_);rintro e w2 ⟨rfl,hc2⟩;have HQ2:=hQ_ (HW1.o.trans hc2);have HG2:=hQ_ (HG.o.keep hc2);clear hc2)
        | (go_at_call 171;(with_reducible refine(HC1.o _).mono ?_);rintro e w3 ⟨rfl,hc3⟩;have HQ5:=hQ_ (HQ2.o.trans hc3);have HG5:=hQ_ (HG2.o.keep hc3);have z0:=HG5.o.cell 0;have z1:=HG5.o.cell 1;have z2:=HG5.o.cell 2;have f0:=HG5.o.frozen 0;have f1:=HG5.o.frozen 1;have f2:=HG5.o.frozen 2;clear hc3));have hnl:¬g<w.heap.size:=(by have:=HGS.o;omega);have HC:=((HQ5.o.setCell (p:=⟨g,0,none⟩) (fun h=>absurd h hnl) (.int .i32 0)).setCell (p:=⟨g,1,none⟩) (fun h=>absurd h hnl) (.int .i64 0)).setCell (p:=⟨g,2,none⟩) (fun h=>absurd h hnl) (.string ⟨#[]⟩);have HS:=((HG5.o.set_ 0 (.int .i32 0)).set_ 1 (.int .i64 0)).set_ 2 (.string ⟨#[]⟩);refine bodyPost_ret_by (ze_ rfl _ _ g 44 [(.int .i32 0),(.int .i64 0),(.string ⟨#[]⟩)] _ rfl HS Tryz.underlying44 (by kernel_rfl)) rfl ⟨by rw[HV.o];rfl,HC⟩
     · have q2:decide ((57:Int)<(c:Int))=false:=(by simp;omega);rw[if_pos (by omega)]at HV;have hw1:IntKind.u8.wrap ((c:Int)-48)=((c-48:Nat):Int):=(by rw[IntKind.wrap_u8];omega);have hq9:c-48<=9:=(by omega);generalize c-48=q at *;clear h1 h2 hx;go_enter Tryz.func153,Tryz.ntmps153;go_upto_region 1 with fail;have hN:=zb_.new w 44 [.int .i32 0,.int .i64 0,.string ⟨#[]⟩];have hal:=(Chg.refl [] w).alloc (.cells #[.int .i32 0,.int .i64 0,.string ⟨#[]⟩] 44);obtain⟨g,hg⟩:∃g,g=w.heap.size:=⟨_,rfl⟩;rw[<-hg]at hN⊢;have HG:=hQ_ hN;have HW1:=hQ_ hal;have HGS:=hQ_ hg;generalize w.alloc (.cells #[.int .i32 0,.int .i64 0,.string ⟨#[]⟩] 44)=w1 at HG HW1⊢;clear hN hal hg;go_wp2_with (first
        | (go_at_call 173;(with_reducible refine(HF1.o _).mono ?_);rintro e w2 ⟨rfl,hc2⟩;have HQ2:=hQ_ (HW1.o.trans hc2);have HG2:=hQ_ (HG.o.keep hc2);clear hc2)
        | (go_at_call 171;(with_reducible refine(HC1.o _).mono ?_);rintro e w3 ⟨rfl,hc3⟩;have HQ5:=hQ_ (HQ2.o.trans hc3);have HG5:=hQ_ (HG2.o.keep hc3);have z0:=HG5.o.cell 0;have z1:=HG5.o.cell 1;have z2:=HG5.o.cell 2;have f0:=HG5.o.frozen 0;have f1:=HG5.o.frozen 1;have f2:=HG5.o.frozen 2;clear hc3));have hnl:¬g<w.heap.size:=(by have:=HGS.o;omega);have HC:=((HQ5.o.setCell (p:=⟨g,0,none⟩) (fun h=>absurd h hnl) (.int .i32 (r:Int))).setCell (p:=⟨g,1,none⟩) (fun h=>absurd h hnl) (.int .i64 (q:Int))).setCell (p:=⟨g,2,none⟩) (fun h=>absurd h hnl) (.string (zj_ b));have HS:=((HG5.o.set_ 0 (.int .i32 (r:Int))).set_ 1 (.int .i64 (q:Int))).set_ 2 (.string (zj_ b));refine bodyPost_ret_by (ze_ rfl _ _ g 44 [(.int .i32 (r:Int)),(.int .i64 (q:Int)),(.string (zj_ b))] _ rfl HS Tryz.underlying44 (by kernel_rfl)) rfl ⟨by rw[HV.o];rfl,HC⟩
end
end Go.Proofs.YtcbcfcdmdedefaaGreatDoor
